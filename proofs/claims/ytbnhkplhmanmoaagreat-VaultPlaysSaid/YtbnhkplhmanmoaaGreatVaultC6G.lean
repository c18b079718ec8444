/- . -/
import Derived.Test.YtbnhkplhmanmoaaGreatVaultC5G
import Derived.Test.YtbnhkplhmanmoaaGreatTableC21G
import Derived.Lib.AppendZeros
namespace Go.Proofs.YtbnhkplhmanmoaaGreat
open Go.RowKit
set_option maxHeartbeats 6400000
theorem jl6 {w:World} {B b off:Nat} {rs:List Rc} (h:jax w B (some ⟨b,off,none⟩) rs):∀ j u,(jaE jgc rs)[j]? = some u->w.cell? ((⟨b,off,none⟩:Addr).add j)=some u:=fun j u hu=>by
 have hj:j < rs.length * 6:=by
  have:=(List.getElem?_eq_some_iff.1 hu).1
  rwa [jaY jfd] at this
 obtain ⟨k,i,hk,hi,rfl,e⟩:=jcw jfd rs hj;rw [e] at hu;obtain ⟨b',off',e',_,c0,c1,c2,c3,c4,c5⟩:=h k hk;injection e' with e'
 injection e' with e1 e2
 subst e1 e2;have hadd:∀ i,(⟨b,off,none⟩:Addr).add (k * 6 + i)=⟨b,off + 6 * k + i,none⟩:=fun i=>by rw [Addr.add_mid,show off + (k * 6 + i)=off + 6 * k + i by omega]
 rw [hadd]
 match i,hi,hu with
 | 0,_,hu=>simp [jgc] at hu;subst hu;exact c0
 | 1,_,hu=>simp [jgc] at hu;subst hu;exact c1
 | 2,_,hu=>simp [jgc] at hu;subst hu;exact c2
 | 3,_,hu=>simp [jgc] at hu;subst hu;exact c3
 | 4,_,hu=>simp [jgc] at hu;subst hu;exact c4
 | 5,_,hu=>simp [jgc] at hu;subst hu;exact c5
theorem jk8 (n:Nat) (w:World) (h0:0 < n) (hn:n<=1048576) :
  Calls Tryz.prog 60 #[.slice none 0 0,.int .i64 n] w fun e w'=>∃ g c,e=.returned (.slice (some ⟨g,0,none⟩) 0 c)/\w'.ownsRow w.heap.size 56 6 (.slice (some ⟨g,0,none⟩) 0 c) 0 []/\Below w.heap.size w w':=by
 obtain ⟨i0,hi,hz0,hz1,hz2⟩:=info_parts Tryz.infoRecD;have hzc:(Value.agg #[.int .i64 0,.int .i64 0,.int .i64 0,.int .i64 0,.int .i64 0,.string ⟨#[]⟩]).cells.size=6:=rfl;obtain ⟨Z,hZ⟩:∃ Z,Z=Value.agg #[.int .i64 0,.int .i64 0,.int .i64 0,.int .i64 0,.int .i64 0,.string ⟨#[]⟩]:=⟨_,rfl⟩;rw [<- hZ] at hz0 hzc
 have hrz:∀ ty,(Builtin.append_ #[36,3] ty #[.slice none 0 0,.int .i64 (n:Int)]).run Tryz.prog w =
   .ok (.slice (some ⟨w.heap.size,0,none⟩) n (grownCap w n 0 56)) (w.drew.alloc (.cells (Builtin.zeroCells Z.cells n ++ Builtin.zeroCells Z.cells (grownCap w n 0 56 - n)) 56)):=fun ty =>
  Lib.run_append_nil_zeros w 36 3 ty 56 i0 Z .i64 .i64 Tryz.underlying36 Tryz.underlying3 hi hz0 n h0 (by rw [hz1];decide) (by omega) (by rw [hz2];omega)
 have h1:=grownCap_ge w n 0 56;have h2:=grownCap_le_maxLen w n 0 56 (by unfold maxLen;omega)
 have HS:Hid ((Builtin.zeroCells Z.cells n ++ Builtin.zeroCells Z.cells (grownCap w n 0 56 - n)).size=grownCap w n 0 56 * 6):=by
  unfold Hid;rw [Array.size_append,size_zeroCells,size_zeroCells,hzc];omega
 obtain ⟨G,hG⟩:∃ G,G=grownCap w n 0 56:=⟨_,rfl⟩;rw [<- hG] at hrz h1 h2 HS;obtain ⟨C,hC⟩:∃ C,C=Builtin.zeroCells Z.cells n ++ Builtin.zeroCells Z.cells (G - n):=⟨_,rfl⟩;rw [<- hC] at hrz HS
 have HO:Hid ((w.drew.alloc (.cells C 56)).ownsRow w.heap.size 56 6 (.slice (some ⟨w.heap.size,0,none⟩) 0 G) 0 []) :=
  ⟨rfl,Or.inr ⟨w.heap.size,G,C,rfl,Nat.le_refl _,heap_alloc_new w.drew _,Nat.zero_le _,h2,by rw [HS.out],by simp⟩⟩
 have HB:Hid (Below w.heap.size w (w.drew.alloc (.cells C 56))):=((Below.refl _ _).drew).alloc (Nat.le_refl _) _;have hG2:(G:Int)<=9223372036854775807:=by unfold maxLen at h2;omega
 have hn0:(0:Int) < (n:Int):=by omega
 have hn1:¬ ((n:Int) < 0):=by omega
 clear hG hC HS h2 hz0 hz1 hz2 hi hZ hzc;go_enter Tryz.func60,Tryz.ntmps60
 go_wp2_with (at_builtin;refine Lib.wpList_append_run _ rfl _ _ _ _ rfl _ _ rfl rfl _ _ (hrz _) ?_)
 go_ret;exact ⟨_,_,rfl,HO.out,HB.out⟩
theorem jkP (w:World):Calls Tryz.prog 60 #[.slice none 0 0,.int .i64 0] w fun e w'=>e=.returned (.slice none 0 0)/\w'=w:=by
 go_enter Tryz.func60,Tryz.ntmps60;go_wp2;go_ret;exact ⟨rfl,rfl⟩
def jou (ts:List (List Rc)) (k:Nat):List Rc:=(ts.take k).flatten
theorem jlf (ts:List (List Rc)) (k:Nat) (h:k < ts.length):jou ts (k + 1)=jou ts k ++ ts[k]:=by
 unfold jou;rw [List.take_succ_eq_append_getElem h,List.flatten_append];simp
theorem jnm (ts:List (List Rc)):jou ts ts.length=ts.flatten:=by unfold jou;rw [List.take_length]
theorem joR (ts:List (List Rc)) (k:Nat):(jou ts k).length<=ts.flatten.length:=by
 unfold jou
 conv=>rhs;rw [<- List.take_append_drop k ts,List.flatten_append,List.length_append]
 exact Nat.le_add_right _ _
theorem jlz (L:List (List Int)):∀ k,(jba L k).flatten.length + (jcb L k).length<=k
 | 0=>by simp [jba,jcb]
 | k + 1=>by
  have:=jlz L k;rw [jb4,jcS];split
  ·simp only [List.flatten_append,List.length_append,List.flatten_cons,List.flatten_nil,List.length_cons,List.length_nil];omega
  ·simp only [List.length_append,List.length_cons,List.length_nil];omega
theorem jkX (last:List (List Nat)):(jbI last).whole.flatten.length<=192:=by
 have h:∀ a,(jau (jaj last a)).flatten.length<=192:=fun a=>by
  have h1:=jlz (jaj last a) (jes (jaj last a) (jcO (jaj last a)));have h2:=jjA (jaj last a) (jcO (jaj last a));rw [jcU] at h2;unfold jau jda;omega
 rw [jfq];split
 ·exact h 1
 ·split
  ·exact h 0
  ·exact Nat.zero_le _
theorem jiG (A:Option Addr) (c:Nat) (ts:List (List Rc)) (w:World) (hp:jaL w w.heap.size A ts) (hne:∀ r∈ts,r≠[]) (hm:ts.flatten.length<=192) (hps:ts.length<=192) :
  Calls Tryz.prog 35 #[.slice A ts.length c] w fun e w'=>∃ A' c',e=.returned (.slice A' ts.flatten.length c')/\ts.flatten.length<=c'/\jax w' w'.heap.size A' ts.flatten/\Below w.heap.size w w':=by
 obtain ⟨i0,hi,hz0,hz1,hz2⟩:=info_parts Tryz.infoRecD;have HP:=Lib.hid hp;obtain ⟨X,hX⟩:∃ X:Nat->List Rc,X=jou ts:=⟨_,rfl⟩;have HXN:Hid (∀ k,(h:k < ts.length)->X (k + 1)=X k ++ ts[k]):=by rw [hX];exact jlf ts
 have HXA:Hid (X ts.length=ts.flatten):=by unfold Hid;rw [hX];exact jnm ts
 have HLE:Hid (∀ k,(X k).length<=192):=fun k=>by rw [hX];exact Nat.le_trans (joR ts k) hm
 have HX0:Hid (X 0=[]):=by unfold Hid;rw [hX];rfl
 have HPOS:Hid (∀ k,(h:k < ts.length)->0 < ts[k].length):=fun k h=>List.length_pos_iff.2 (hne _ (List.getElem_mem h))
 have HG:Hid (∀ n:Nat,n<=192->Calls Tryz.prog 60 #[.slice none 0 0,.int .i64 n] w fun e w'=>∃ v,e=.returned v/\(∃ A c,v=.slice A 0 c)/\w'.ownsRow w.heap.size 56 6 v 0 []/\Below w.heap.size w w'):=fun n hn=>by
  rcases Nat.eq_zero_or_pos n with h | h
  ·subst h;exact (jkP w).mono fun e w' ⟨q1,q2⟩=>⟨_,q1,⟨none,0,rfl⟩,⟨rfl,.inl ⟨rfl,rfl⟩⟩,by subst q2;exact Below.refl _ _⟩
  ·exact (jk8 n w h (by omega)).mono fun e w' ⟨g,c,q1,q2,q3⟩=>⟨_,q1,⟨_,_,rfl⟩,q2,q3⟩
 have x0:(X 0).length=0:=by rw [HX0.out];rfl
 have HX0L:=Lib.hid x0;rw [<- HXA.out];obtain ⟨N,hN⟩:∃ N,N=ts.length:=⟨_,rfl⟩;have HN:=Lib.hid hN;have n1:(N:Int)<=192:=by omega
 rw [<- hN] at HXA ⊢;clear hp hX hne hm hps x0 hN;go_enter Tryz.func35,Tryz.ntmps35;go_wp2
 go_loop [3,11] (fun s i=>∃ k:Nat,k<=N/\i=.int .i64 k/\s=.int .i64 (X k).length) (fun _ i=>N - (intOf i).toNat)
 case atStart=>exact ⟨0,Nat.zero_le _,rfl,by rw [HX0L.out];rfl⟩
 case round =>
  obtain ⟨k,hk,rfl,rfl⟩:=hrel;by_cases hlt:k < N
  ·have hlt':k < ts.length:=by have:=HN.out;omega
   obtain ⟨b0,off,PA,pc,rfl,hblk,hcell,_,_⟩:=HP.out k hlt';have hle:=HLE.out (k + 1);have hcat:=HXN.out k hlt';have hsum:((X (k + 1)).length:Int)=((X k).length:Int) + (ts[k].length:Int):=by rw [hcat,List.length_append];omega
   have HSU:=Lib.hid hsum;obtain ⟨pn,hpn⟩:∃ x,x=ts[k].length:=⟨_,rfl⟩;rw [<- hpn] at hcell HSU;obtain ⟨ck,hck⟩:∃ x,x=(X k).length:=⟨_,rfl⟩;have hck1:ck<=192:=by rw [hck];exact HLE.out k
   have hpn1:pn<=192:=by have:=HSU.out;omega
   rw [<- hck] at HSU ⊢;have hkc:(k:Int) < (N:Int):=by omega
   have k0:(0:Int)<=(k:Int):=by omega
   have hnn:¬ (((ck:Int) + (pn:Int)) < 0):=by omega
   clear hcat hsum hpn hck hle HXN HX0L HPOS HG;go_wp2;go_round
   case rel=>exact ⟨k + 1,by omega,by go_num,by rw [HSU.out]⟩
   case measure=>simp [intOf];omega
  ·have hkn:k=N:=by omega
   subst hkn;have HG1:=Lib.hid (HG.out (X k).length (HLE.out k));obtain ⟨tl,htl⟩:∃ x,x=(X k).length:=⟨_,rfl⟩;rw [<- htl] at HG1 ⊢;have HTL:=Lib.hid htl;clear HG htl
   go_wp2_with (go_at_call 60;with_reducible (refine Calls.mono HG1.out ?_);rintro e w1 ⟨v1,rfl,⟨A1,c1,rfl⟩,hown1,hb1⟩)
   have R0:Hid (w1.ownsRow w.heap.size 56 6 (.slice A1 0 c1) (X 0).length (jaE jgc (X 0))/\Below w.heap.size w w1):=by rw [HX0L.out,HX0.out];exact ⟨hown1,hb1⟩
   clear hown1 hb1 HG1
   go_loopw [6,27] (fun v i wr=>∃ j:Nat,j<=k/\i=.int .i64 j/\(∃ A c,v=.slice A (X j).length c)/\Hid (wr.ownsRow w.heap.size 56 6 v (X j).length (jaE jgc (X j))/\Below w.heap.size w wr)) (fun _ i _=>k - (intOf i).toNat)
   case atStart=>exact ⟨0,Nat.zero_le _,rfl,⟨A1,c1,by rw [HX0L.out]⟩,R0⟩
   case round =>
    clear R0;obtain ⟨j,hj,rfl,⟨A2,c2,rfl⟩,hR⟩:=hrel;by_cases hlt:j < k
    ·have hlt':j < ts.length:=by have:=HN.out;omega
     have hbel:=hR.out.2;obtain ⟨b0,off,PA,pc,rfl,hblk,hcell,hple,hrec⟩:=(HP.out.below hbel) j hlt';have hpos:=HPOS.out j hlt';obtain ⟨b1,o1,rfl,-⟩:=hrec 0 hpos;have hnew:=jl6 hrec;have hcat:=HXN.out j hlt';have hle:=HLE.out (j + 1);have hfl:=jaY jfd ts[j];have hf1:=jcm jc3 ts[j];have HCT:Hid (X (j + 1)=X j ++ ts[j]/\(X (j + 1)).length=(X j).length + ts[j].length/\jaE jgc (X (j + 1))=jaE jgc (X j) ++ jaE jgc ts[j]):=⟨hcat,by rw [hcat,List.length_append],by rw [hcat,jdT]⟩;rw [hcat,List.length_append] at hle;obtain ⟨F,hF⟩:∃ F,F=jaE jgc ts[j]:=⟨_,rfl⟩;obtain ⟨pn,hpn⟩:∃ x,x=ts[j].length:=⟨_,rfl⟩;rw [<- hF] at hfl hf1 hnew HCT;rw [<- hpn] at hfl hcell hle HCT hple;obtain ⟨Xj,hXj⟩:∃ x,x=X j:=⟨_,rfl⟩;obtain ⟨xn,hxn⟩:∃ x,x=Xj.length:=⟨_,rfl⟩;rw [<- hXj] at hR HCT hle ⊢;rw [<- hxn] at hR HCT hle ⊢;have HNW:=Lib.hid hnew;have HF1:=Lib.hid hf1;have how:=hR.out.1;have hsz:=hbel.size;have hkc:(j:Int) < (k:Int):=by omega
     have k0:(0:Int)<=(j:Int):=by omega
     clear hcat hrec hpos hF hpn hXj hxn hnew hf1
     go_wp2_with (at_builtin;refine wpList_append_own_at _ rfl _ _ 36 rfl w.heap.size 56 i0 (.agg #[.int .i64 0,.int .i64 0,.int .i64 0,.int .i64 0,.int .i64 0,.string ⟨#[]⟩]) 6 56 Tryz.underlying36 hi hz0 hz1 hz2 rfl (by decide) _ _ _ rfl how ⟨b1,o1,none⟩ pn pc F rfl hfl HNW.out HF1.out ?d1 ?d2 hsz ?_)
     case d1=>unfold maxLen;omega
     case d2=>omega
     intro v3 w3 hown3 hg3 _ _;obtain ⟨A3,c3,rfl⟩:=jfu hown3
     have R:Hid (w3.ownsRow w.heap.size 56 6 (.slice A3 (xn + pn) c3) (X (j + 1)).length (jaE jgc (X (j + 1)))/\Below w.heap.size w w3):=by
      refine ⟨?_,hbel.grown hg3 hsz fun q hq=>(how.lt q hq).1⟩;rw [HCT.out.2.1,HCT.out.2.2];exact hown3
     have HA3:Hid (∃ A c,(Value.slice A3 (xn + pn) c3)=.slice A (X (j + 1)).length c):=⟨A3,c3,by rw [HCT.out.2.1]⟩;clear hown3 hg3 how hbel hcell HNW HF1 hR HCT hfl;go_wp2;go_roundw
     case rel=>first | exact ⟨j + 1,by omega,by go_num,HA3.out,R⟩ | ((repeat apply Exists.intro);exact ⟨⟨j + 1,by omega,by go_num,HA3.out,R⟩,rfl⟩)
     case measure=>first | (simp [intOf];done) | (simp [intOf];omega)
    ·have hjn:j=k:=by omega
     subst hjn;have hkc:¬ (j:Int) < (j:Int):=by omega
     go_wp2;go_ret;refine ⟨A2,c2,rfl,?_,jfs hR.out.1,hR.out.2⟩;rcases hR.out.1.2 with ⟨hv,h0⟩ | ⟨g,cap,cur,hv,_,_,hle,_⟩
     ·omega
     ·injection hv with _ _ h3;omega
end Go.Proofs.YtbnhkplhmanmoaaGreat
