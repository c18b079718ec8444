/- . -/
import Derived.Test.YtbnhkplhmanmoaaGreatTableC20G
namespace Go.Proofs.YtbnhkplhmanmoaaGreat
open Go.RowKit
set_option maxHeartbeats 6400000
set_option maxRecDepth 20000
def jgc (r:Rc):List Value:=[.int .i64 r.k,.int .i64 r.a,.int .i64 r.b,.int .i64 r.c,.int .i64 r.d,.string r.key]
theorem jfd:∀ x,(jgc x).length=6:=fun _=>rfl
theorem jc3 (x:Rc):∀ u∈jgc x,u.oneCell'=true:=fun u hu=>by
 simp only [jgc,List.mem_cons,List.not_mem_nil,or_false] at hu;rcases hu with rfl | rfl | rfl | rfl | rfl | rfl <;> rfl
theorem Tryz.infoRecD:(Tryz.prog.info? 56).map (fun i=>(i.zero,i.size,i.bytes))=some (some (.agg #[.int .i64 0,.int .i64 0,.int .i64 0,.int .i64 0,.int .i64 0,.string ⟨#[]⟩]),6,56):=by kernel_rfl
theorem jfs {w:World} {lo c:Nat} {A:Option Addr} {rs:List Rc} (h:w.ownsRow lo 56 6 (.slice A rs.length c) rs.length (jaE jgc rs)):jax w w.heap.size A rs:=fun k hk=>by
 obtain ⟨g,hA,_,hl,_,hc,_⟩:=jb2 jfd h rfl hk;refine ⟨g,0,hA,hl,?_⟩;rw [Nat.zero_add,Nat.mul_comm 6 k];exact ⟨hc 0 _ rfl,hc 1 _ rfl,hc 2 _ rfl,hc 3 _ rfl,hc 4 _ rfl,hc 5 _ rfl⟩
structure ImR (W0:World) (rs:List Rc) (v:Value) (wr:World):Prop where
 below:Below W0.heap.size W0 wr
 own:wr.ownsRow W0.heap.size 56 6 v rs.length (jaE jgc rs)
section
variable {W0 wr X w5:World} {rs:List Rc} {v v5:Value}
theorem ImR.later (h:ImR W0 rs v wr) (hb:Below wr.heap.size wr X):ImR W0 rs v X:=⟨jaa h.below hb,jcn h.own hb⟩
theorem ImR.push (h:ImR W0 rs v X) (r:Rc) (ho:w5.ownsRow W0.heap.size 56 6 v5 (rs.length + 1) (jaE jgc rs ++ jgc r)) (hg:(X.alloc (.cells (rcV r) 56)).grownBy w5 v.ownBlock):ImR W0 (rs ++ [r]) v5 w5:=by
 have hba:Below X.heap.size X (X.alloc (.cells (rcV r) 56)):=(Below.refl _ _).alloc (Nat.le_refl _) _;refine ⟨(jaa h.below hba).grown hg (jaa h.below hba).size fun q hq=>(h.own.lt q hq).1,?_⟩;rw [jdw,List.length_append];exact ho
theorem ImR.far (r:Rc) (hg:(X.alloc (.cells (rcV r) 56)).grownBy w5 v.ownBlock) {b:Nat} (hb:b < X.heap.size) (hne:v.ownBlock≠some b):w5.heap[b]? = X.heap[b]?:=by
 rw [hg.block b (by simp;omega) (fun q=>hne q.symm)];exact Below.heap_alloc _ _ _ hb
end
theorem jbM {α β:Type} {f:α->List β} {m:Nat} (h:∀ x,(f x).length<=m):∀ l:List α,(l.flatMap f).length<=m * l.length
 | []=>by simp
 | x :: l=>by
  have:=jbM h l;have:=h x;rw [List.flatMap_cons,List.length_append,List.length_cons,Nat.mul_add];omega
theorem jeN {α β:Type} {f:α->List β} {l:List α} {k:Nat} (h:k < l.length):(l.take (k + 1)).flatMap f=(l.take k).flatMap f ++ f l[k]:=by
 rw [List.take_succ_eq_append_getElem h,List.flatMap_append];simp
theorem jjp (v:Vol):(jeV v).length<=2:=by unfold jeV;split <;> simp
theorem jk7 (os:List Int) (i:Nat):(jhr os i).length<=1:=by unfold jhr;split <;> simp
theorem jlc (x:Ten):(jjU x).length<=1:=by unfold jjU;split <;> simp
theorem jnO (V:jat) (t:Tab) (w:World) (h:jao w w.heap.size V t) (ho:t.ok) (hs:¬ t.sound) :
  Calls Tryz.prog 77 #[.agg (jan V t)] w fun e w'=>∃ A c,e=.returned (.tuple #[.slice A 0 c,.int .i64 2])/\Below w.heap.size w w':=by
 have hb0:Below w.heap.size w (w.alloc (.cells (jan V t) 35)):=(Below.refl _ _).alloc (Nat.le_refl _) _;have HCH:=Lib.hid (jc0 V t _ ((h.below hb0).more hb0.size) ho false (by simp [hs]));unfold jan at HCH hb0 ⊢;clear h ho hs;go_enter Tryz.func77,Tryz.ntmps77
 go_wp2_with (go_at_call 36;with_reducible (refine Calls.mono HCH.out ?_);rintro e w2 ⟨rfl,hb2⟩)
 go_ret2;exact ⟨none,0,rfl,jaa hb0 hb2⟩
theorem jmm (V:jat) (t:Tab) (w:World) (h:jao w w.heap.size V t) (hs:t.sound) :
  Calls Tryz.prog 77 #[.agg (jan V t)] w fun e w'=>∃ A c,e=.returned (.tuple #[.slice A (jcf t).length c,.int .i64 0])/\(jcf t).length<=c/\jax w' w'.heap.size A (jcf t)/\(∀ a,A=some a->w.heap.size<=a.block)/\Below w.heap.size w w':=by
 obtain ⟨n1,n2,n3⟩:=jam hs;obtain ⟨i0,hi,hz0,hz1,hz2⟩:=info_parts Tryz.infoRecD;have hb0:Below w.heap.size w (w.alloc (.cells (jan V t) 35)):=(Below.refl _ _).alloc (Nat.le_refl _) _;have hg0:=heap_alloc_new w (.cells (jan V t) 35);obtain ⟨W0,hW0⟩:∃ W,W=w.alloc (.cells (jan V t) 35):=⟨_,rfl⟩;rw [<- hW0] at hb0 hg0;have HCH:=Lib.hid (jc0 V t W0 ((h.below hb0).more hb0.size) (jdg hs) true (by simp [hs]));have HF:Hid (∀ X,Below W0.heap.size W0 X->X.cell? ⟨w.heap.size,0,none⟩=some (.slice V.A1 t.ts.length V.c1)/\X.cell? ⟨w.heap.size,1,none⟩=some (.slice V.A2 t.vs.length V.c2)/\X.cell? ⟨w.heap.size,2,none⟩=some (.slice V.A3 t.os.length V.c3)):=fun X hb=>jai ((hb.block _ (Array.getElem?_eq_some_iff.1 hg0).1).trans hg0)
 have HT1:Hid (∀ X,Below W0.heap.size W0 X->jbb X w.heap.size V.A1 t.ts):=fun X hb=>(h.below (jaa hb0 hb)).ts
 have HT2:Hid (∀ X,Below W0.heap.size W0 X->jbc X w.heap.size V.A2 t.vs):=fun X hb=>(h.below (jaa hb0 hb)).vs
 have HT3:Hid (∀ X,Below W0.heap.size W0 X->jaO X w.heap.size .i64 V.A3 t.os):=fun X hb=>(h.below (jaa hb0 hb)).os
 obtain ⟨f0,f1,f2⟩:=HF.out W0 (Below.refl _ _);have HB0:=Lib.hid hb0;have HBASE:Hid (∀ v∈t.vs,0<=v.base):=fun v hv=>(hs.vol v hv).2.2.2.1
 have HOWN:Hid (∀ o∈t.os,0<=o):=fun o ho=>by
  rcases hs.own o ho with h0 | h0
  ·omega
  ·obtain ⟨y,hy,e⟩:=jaH.1 h0;have:=(hs.ten y hy).1.id;omega
 have b1:∀ k,((t.ts.take k).map jeE).length<=7:=fun k=>by rw [List.length_map,List.length_take];omega
 have b1':(t.ts.map jeE).length<=7:=by rw [List.length_map];omega
 have b2:∀ k,((t.vs.take k).flatMap jeV).length<=16:=fun k=>Nat.le_trans (jbM jjp _) (by rw [List.length_take];omega)
 have b2':(t.vs.flatMap jeV).length<=16:=Nat.le_trans (jbM jjp _) (by omega);have b3:∀ k,k<=t.os.length->((List.range k).flatMap (jhr t.os)).length<=64:=fun k hk=>Nat.le_trans (jbM (jk7 t.os) _) (by rw [List.length_range];omega)
 have b4:∀ k,((t.ts.take k).flatMap jjU).length<=7:=fun k=>Nat.le_trans (jbM jlc _) (by rw [List.length_take];omega)
 obtain ⟨R1,hR1⟩:∃ R:Nat->List Rc,R=fun k=>(t.ts.take k).map jeE:=⟨_,rfl⟩
 obtain ⟨R2,hR2⟩:∃ R:Nat->List Rc,R=fun k=>t.ts.map jeE ++ (t.vs.take k).flatMap jeV:=⟨_,rfl⟩
 obtain ⟨R3,hR3⟩:∃ R:Nat->List Rc,R=fun k=>t.ts.map jeE ++ (t.vs.flatMap jeV ++ (List.range k).flatMap (jhr t.os)):=⟨_,rfl⟩
 obtain ⟨R4,hR4⟩:∃ R:Nat->List Rc,R=fun k=>t.ts.map jeE ++ (t.vs.flatMap jeV ++ ((List.range t.os.length).flatMap (jhr t.os) ++ (t.ts.take k).flatMap jjU)):=⟨_,rfl⟩
 have HL1:Hid (∀ k,(R1 k).length<=200):=fun k=>by rw [hR1];have:=b1 k;show ((t.ts.take k).map jeE).length<=200;omega
 have HL2:Hid (∀ k,(R2 k).length<=200):=fun k=>by rw [hR2];have:=b2 k;show (t.ts.map jeE ++ (t.vs.take k).flatMap jeV).length<=200;rw [List.length_append];omega
 have HL3:Hid (∀ k,k<=t.os.length->(R3 k).length<=200):=fun k hk=>by rw [hR3];have:=b3 k hk;show (t.ts.map jeE ++ (t.vs.flatMap jeV ++ (List.range k).flatMap (jhr t.os))).length<=200;rw [List.length_append,List.length_append];omega
 have HL4:Hid (∀ k,(R4 k).length<=200):=fun k=>by rw [hR4];have:=b3 t.os.length (Nat.le_refl _);have:=b4 k;show (t.ts.map jeE ++ (t.vs.flatMap jeV ++ ((List.range t.os.length).flatMap (jhr t.os) ++ (t.ts.take k).flatMap jjU))).length<=200;rw [List.length_append,List.length_append,List.length_append];omega
 have HZ1:Hid (R1 0=[]):=by unfold Hid;rw [hR1];rfl
 have HS1:Hid (∀ k,(h:k < t.ts.length)->R1 (k + 1)=R1 k ++ [jeE t.ts[k]]):=fun k h=>by
  rw [hR1];show (t.ts.take (k + 1)).map jeE=(t.ts.take k).map jeE ++ [jeE t.ts[k]];rw [List.take_succ_eq_append_getElem h,List.map_append];rfl
 have HZ2:Hid (R2 0=R1 t.ts.length):=by unfold Hid;rw [hR1,hR2];simp
 have HS2:Hid (∀ k,(h:k < t.vs.length)->R2 (k + 1)=R2 k ++ jeV t.vs[k]):=fun k h=>by
  rw [hR2];show t.ts.map jeE ++ (t.vs.take (k + 1)).flatMap jeV=(t.ts.map jeE ++ (t.vs.take k).flatMap jeV) ++ jeV t.vs[k];rw [jeN h,List.append_assoc]
 have HZ3:Hid (R3 0=R2 t.vs.length):=by unfold Hid;rw [hR2,hR3];simp
 have HS3:Hid (∀ k,R3 (k + 1)=R3 k ++ jhr t.os k):=fun k=>by
  rw [hR3];show t.ts.map jeE ++ (t.vs.flatMap jeV ++ (List.range (k + 1)).flatMap (jhr t.os))=(t.ts.map jeE ++ (t.vs.flatMap jeV ++ (List.range k).flatMap (jhr t.os))) ++ jhr t.os k;rw [List.range_succ,List.flatMap_append];simp
 have HZ4:Hid (R4 0=R3 t.os.length):=by unfold Hid;rw [hR3,hR4];simp
 have HS4:Hid (∀ k,(h:k < t.ts.length)->R4 (k + 1)=R4 k ++ jjU t.ts[k]):=fun k h=>by
  rw [hR4];show t.ts.map jeE ++ (t.vs.flatMap jeV ++ ((List.range t.os.length).flatMap (jhr t.os) ++ (t.ts.take (k + 1)).flatMap jjU))=(t.ts.map jeE ++ (t.vs.flatMap jeV ++ ((List.range t.os.length).flatMap (jhr t.os) ++ (t.ts.take k).flatMap jjU))) ++ jjU t.ts[k];rw [jeN h];simp
 have HE4:Hid (R4 t.ts.length=jcf t):=by unfold Hid;rw [hR4];unfold jcf;simp
 obtain ⟨IM,hIM⟩:∃ I,I=jcf t:=⟨_,rfl⟩;rw [<- hIM] at HE4 ⊢;unfold jan at HCH hW0 ⊢;obtain ⟨N1,hN1⟩:∃ N,N=t.ts.length:=⟨_,rfl⟩;obtain ⟨N2,hN2⟩:∃ N,N=t.vs.length:=⟨_,rfl⟩;obtain ⟨N3,hN3⟩:∃ N,N=t.os.length:=⟨_,rfl⟩;have HN1:=Lib.hid hN1;have HN2:=Lib.hid hN2;have HN3:=Lib.hid hN3;simp only [<- hN1,<- hN2,<- hN3] at HCH HF hW0 f0 f1 f2 HZ2 HZ3 HZ4 HE4 HL3 n1 n2 n3 ⊢;obtain ⟨A1,c1,A2,c2,A3,c3⟩:=V;simp only at HCH HF hW0 f0 f1 f2 HT1 HT2 HT3 ⊢;clear h hs b1 b1' b2 b2' b3 b4 hR1 hR2 hR3 hR4 hIM hN1 hN2 hN3 hb0 hg0;go_enter Tryz.func77,Tryz.ntmps77
 go_wp2_with fail
 rw [<- hW0];clear hW0
 go_wp2_with (go_at_call 36;with_reducible (refine Calls.mono HCH.out ?_);rintro e w2 ⟨rfl,hb2⟩;obtain ⟨f0,f1,f2⟩:=HF.out _ hb2)
 have S0:Hid (ImR W0 (R1 0) (.slice none 0 0) w2):=by rw [HZ1.out];exact ⟨hb2,World.ownsRow_nil _ _ _ _⟩
 clear f0 f1 f2 hb2 HCH
 go_loopw [5,22] (fun lv iv wr=>∃ (k:Nat) (A:Option Addr) (c:Nat),k<=N1/\iv=.int .i64 k/\lv=.slice A (R1 k).length c/\Hid (ImR W0 (R1 k) (.slice A (R1 k).length c) wr)) (fun _ iv _=>N1 - (intOf iv).toNat)
 case atStart=>exact ⟨0,none,0,Nat.zero_le _,rfl,by rw [HZ1.out];rfl,by rw [HZ1.out];rw [HZ1.out] at S0;exact S0.out⟩
 case round =>
  clear S0;obtain ⟨k,A,c,hk,rfl,rfl,S⟩:=hrel;have k0:(0:Int)<=(k:Int):=by omega
  have hl200:Hid ((R1 k).length<=200):=HL1.out k;by_cases hlt:k < N1
  ·have k1:(k:Int) < (N1:Int):=by omega
   have hkx:k < t.ts.length:=by have:=HN1.out;omega
   obtain ⟨b,off,rfl,_,q0,q1,q2,q3,q4,q5⟩:=HT1.out wr S.out.below k hkx;have hnx:=HS1.out k hkx;obtain ⟨x,hx⟩:∃ x,x=t.ts[k]:=⟨_,rfl⟩;rw [<- hx] at q0 q1 q2 q3 q4 q5 hnx;clear hx;obtain ⟨p0,p1,p2,p3,p4,p5⟩:=x;simp only at q0 q1 q2 q3 q4 q5 hnx;have hb1:Below wr.heap.size wr (wr.alloc (.cells #[.int .i64 p0,.int .i64 p1,.int .i64 p2,.int .i64 p3,.string p4,.bool p5] 52)):=(Below.refl _ _).alloc (Nat.le_refl _) _;have HX:Hid (∀ X:World,X.heap[wr.heap.size]? = some (.cells #[.int .i64 p0,.int .i64 p1,.int .i64 p2,.int .i64 p3,.string p4,.bool p5] 52 (0,0))->X.cell? ⟨wr.heap.size,0,none⟩=some (.int .i64 p0)/\X.cell? ⟨wr.heap.size,1,none⟩=some (.int .i64 p1)/\X.cell? ⟨wr.heap.size,2,none⟩=some (.int .i64 p2)/\X.cell? ⟨wr.heap.size,3,none⟩=some (.int .i64 p3)/\X.cell? ⟨wr.heap.size,4,none⟩=some (.string p4)/\X.cell? ⟨wr.heap.size,5,none⟩=some (.bool p5)):=fun X q=>jbz q
   have H1:=Lib.hid (fun W=>jgm ⟨p0,p1,p2,p3,p4,p5⟩ W);simp only [jcQ,rcV] at H1
   go_wp2_with (first
    | (go_at_call 107;with_reducible (refine Calls.mono (H1.out _) ?_);rintro e w3 ⟨rfl,hb3⟩
       have S3:=Lib.hid (S.out.later (jaa hb1 hb3)))
    | (at_builtin;refine wpList_append_own_at _ rfl _ _ 36 rfl W0.heap.size 56 i0 (.agg #[.int .i64 0,.int .i64 0,.int .i64 0,.int .i64 0,.int .i64 0,.string ⟨#[]⟩]) 6 56 Tryz.underlying36 hi hz0 hz1 hz2 rfl (by decide) _ _ _ rfl (S3.out.own.alloc _) ⟨w3.heap.size,0,none⟩ 1 1 [.int .i64 1,.int .i64 p0,.int .i64 p1,.int .i64 p2,.int .i64 p3,.string p4] rfl rfl (World.news_of_block (heap_alloc_new _ _)) ?d1 ?d2 ?d3 ?d4 ?_))
   case d1=>exact jc3 ⟨1,p0,p1,p2,p3,p4⟩
   case d2=>unfold maxLen;have:=hl200.out;omega
   case d3=>have:=hl200.out;omega
   case d4=>have:=S3.out.below.size;simp;omega
   intro v4 w4 hown4 hg4 _ _;have S4:Hid (ImR W0 (R1 (k + 1)) v4 w4):=by rw [hnx];exact S3.out.push _ hown4 hg4
   obtain ⟨A4,c4,rfl⟩:=jfu S4.out.own;clear hown4 hg4 S3 hb1 hb3 HX H1 q0 q1 q2 q3 q4 q5 hnx S hl200;go_wp2;go_roundw
   case rel=>first | exact ⟨k + 1,A4,c4,by omega,by go_num,rfl,S4⟩ | ((repeat apply Exists.intro);exact ⟨⟨k + 1,A4,c4,by omega,by go_num,rfl,S4⟩,rfl⟩)
   case measure=>simp [intOf];omega
  ·have hkN:N1=k:=by omega
   subst hkN;have k1:¬ (N1:Int) < (N1:Int):=by omega
   obtain ⟨f0,f1,f2⟩:=HF.out wr S.out.below;have S9:Hid (ImR W0 (R2 0) (.slice A (R2 0).length c) wr):=by unfold Hid;rw [HZ2.out];exact S.out
   have HV:Hid (Value.slice A (R1 N1).length c=.slice A (R2 0).length c):=by unfold Hid;rw [HZ2.out]
   clear S hl200;go_wp2;clear f0 f1 f2 k1 k0 hlt hk
   go_loopw [5,35] (fun lv iv wr=>∃ (k:Nat) (A:Option Addr) (c:Nat),k<=N2/\iv=.int .i64 k/\lv=.slice A (R2 k).length c/\Hid (ImR W0 (R2 k) (.slice A (R2 k).length c) wr)) (fun _ iv _=>N2 - (intOf iv).toNat)
   case atStart=>exact ⟨0,_,_,Nat.zero_le _,rfl,HV.out,S9.out⟩
   case round =>
    clear S9 HV;obtain ⟨k,A,c,hk,rfl,rfl,S⟩:=hrel;have k0:(0:Int)<=(k:Int):=by omega
    have hl200:Hid ((R2 k).length<=200):=HL2.out k;by_cases hlt:k < N2
    ·have k1:(k:Int) < (N2:Int):=by omega
     have hkx:k < t.vs.length:=by have:=HN2.out;omega
     obtain ⟨b,off,rfl,_,q0,q1,q2,q3⟩:=HT2.out wr S.out.below k hkx;have hnx:=HS2.out k hkx;have hbase:=HBASE.out _ (List.getElem_mem hkx);obtain ⟨x,hx⟩:∃ x,x=t.vs[k]:=⟨_,rfl⟩;rw [<- hx] at q0 q1 q2 q3 hnx hbase;clear hx;obtain ⟨p0,p1,p2,p3⟩:=x;simp only at q0 q1 q2 q3 hnx hbase;have hb1:Below wr.heap.size wr (wr.alloc (.cells #[.int .i64 p0,.int .i64 p1,.int .i64 p2,.int .i64 p3] 82)):=(Below.refl _ _).alloc (Nat.le_refl _) _;have HX:Hid (∀ X:World,X.heap[wr.heap.size]? = some (.cells #[.int .i64 p0,.int .i64 p1,.int .i64 p2,.int .i64 p3] 82 (0,0))->X.cell? ⟨wr.heap.size,0,none⟩=some (.int .i64 p0)/\X.cell? ⟨wr.heap.size,1,none⟩=some (.int .i64 p1)/\X.cell? ⟨wr.heap.size,2,none⟩=some (.int .i64 p2)/\X.cell? ⟨wr.heap.size,3,none⟩=some (.int .i64 p3)):=fun X q=>jjy q
     have H1:=Lib.hid (fun W=>jgl ⟨p0,p1,p2,p3⟩ W);have H2:=Lib.hid (fun W=>jfo ⟨p0,p1,p2,p3⟩ W);simp only [jcJ,rcV] at H1 H2;by_cases hp:p3=0
     ·have hq:jeV ⟨p0,p1,p2,p3⟩=[⟨5,p0,p1,p2,0,⟨#[]⟩⟩]:=by
       unfold jeV;rw [if_neg (by show ¬ 0 < p3;omega)]
      rw [hq] at hnx;obtain ⟨M,hM⟩:∃ M,M=R2 (k + 1):=⟨_,rfl⟩;have HM:Hid (M=R2 k ++ [⟨5,p0,p1,p2,0,⟨#[]⟩⟩]):=by unfold Hid;rw [hM,hnx]
      have HMK:=Lib.hid hM;have d1:(p3 != 0)=false:=by rw [hp];rfl
      have d2:(p3 == 0)=true:=beq_iff_eq.2 hp;clear hq hnx hp hbase hM
      go_wp2_with (first
       | (go_at_call 108;with_reducible (refine Calls.mono (H1.out _) ?_);rintro e w3 ⟨rfl,hb3⟩
          have S3:=Lib.hid (S.out.later (jaa hb1 hb3)))
       | (at_builtin;refine wpList_append_own_at _ rfl _ _ 36 rfl W0.heap.size 56 i0 (.agg #[.int .i64 0,.int .i64 0,.int .i64 0,.int .i64 0,.int .i64 0,.string ⟨#[]⟩]) 6 56 Tryz.underlying36 hi hz0 hz1 hz2 rfl (by decide) _ _ _ rfl (S3.out.own.alloc _) ⟨w3.heap.size,0,none⟩ 1 1 [.int .i64 5,.int .i64 p0,.int .i64 p1,.int .i64 p2,.int .i64 0,.string ⟨#[]⟩] rfl rfl (World.news_of_block (heap_alloc_new _ _)) ?d1 ?d2 ?d3 ?d4 ?_))
      case d1=>exact jc3 ⟨5,p0,p1,p2,0,⟨#[]⟩⟩
      case d2=>unfold maxLen;have:=hl200.out;omega
      case d3=>have:=hl200.out;omega
      case d4=>have:=S3.out.below.size;simp;omega
      intro v4 w4 hown4 hg4 _ _;have S4:Hid (ImR W0 M v4 w4):=by unfold Hid;rw [HM.out];exact S3.out.push ⟨5,p0,p1,p2,0,⟨#[]⟩⟩ hown4 hg4
      have hbk:=ImR.far ⟨5,p0,p1,p2,0,⟨#[]⟩⟩ hg4 (show wr.heap.size < w3.heap.size by have:=hb3.size;simp at this;omega) (fun q=>by have:=(S.out.own.lt _ q).2;omega);have hw4:=hbk.trans ((hb3.block wr.heap.size (by simp)).trans (heap_alloc_new wr _));obtain ⟨x0,x1,x2,x3⟩:=HX.out _ hw4;obtain ⟨A4,c4,rfl⟩:=jfu S4.out.own;have hmk:=HMK.out;subst hmk;have S5:=S4;clear hown4 hg4 S3 S4 hb1 hb3 HX H1 H2 q0 q1 q2 q3 S hl200 hbk hw4 HM HMK;go_wp2;go_roundw
      case rel=>first | exact ⟨k + 1,A4,c4,by omega,by go_num,rfl,S5⟩ | ((repeat apply Exists.intro);exact ⟨⟨k + 1,A4,c4,by omega,by go_num,rfl,S5⟩,rfl⟩)
      case measure=>simp [intOf];omega
     ·have hq:jeV ⟨p0,p1,p2,p3⟩=[⟨5,p0,p1,p2,0,⟨#[]⟩⟩,⟨8,p0,p3,0,0,⟨#[]⟩⟩]:=by
       unfold jeV;rw [if_pos (by show 0 < p3;omega)]
      rw [hq] at hnx;obtain ⟨M,hM⟩:∃ M,M=R2 k ++ [(⟨5,p0,p1,p2,0,⟨#[]⟩⟩:Rc)]:=⟨_,rfl⟩;have HM:=Lib.hid hM;have HNX:Hid (R2 (k + 1)=M ++ [⟨8,p0,p3,0,0,⟨#[]⟩⟩]):=by unfold Hid;rw [hnx,hM];simp
      have hlM:Hid (M.length<=201):=by unfold Hid;rw [hM,List.length_append];have:=hl200.out;simp;omega
      have d1:(p3 != 0)=true:=bne_iff_ne.2 hp;have d2:(p3 == 0)=false:=beq_eq_false_iff_ne.2 hp;clear hq hnx hp hbase hM
      go_wp2_with (first
       | (go_at_call 108;with_reducible (refine Calls.mono (H1.out _) ?_);rintro e w3 ⟨rfl,hb3⟩
          have S3:=Lib.hid (S.out.later (jaa hb1 hb3)))
       | (at_builtin;refine wpList_append_own_at _ rfl _ _ 36 rfl W0.heap.size 56 i0 (.agg #[.int .i64 0,.int .i64 0,.int .i64 0,.int .i64 0,.int .i64 0,.string ⟨#[]⟩]) 6 56 Tryz.underlying36 hi hz0 hz1 hz2 rfl (by decide) _ _ _ rfl (S3.out.own.alloc _) ⟨w3.heap.size,0,none⟩ 1 1 [.int .i64 5,.int .i64 p0,.int .i64 p1,.int .i64 p2,.int .i64 0,.string ⟨#[]⟩] rfl rfl (World.news_of_block (heap_alloc_new _ _)) ?d1 ?d2 ?d3 ?d4 ?_))
      case d1=>exact jc3 ⟨5,p0,p1,p2,0,⟨#[]⟩⟩
      case d2=>unfold maxLen;have:=hl200.out;omega
      case d3=>have:=hl200.out;omega
      case d4=>have:=S3.out.below.size;simp;omega
      intro v4 w4 hown4 hg4 _ _;have S4:Hid (ImR W0 M v4 w4):=by unfold Hid;rw [HM.out];exact S3.out.push ⟨5,p0,p1,p2,0,⟨#[]⟩⟩ hown4 hg4
      have hbk:=ImR.far ⟨5,p0,p1,p2,0,⟨#[]⟩⟩ hg4 (show wr.heap.size < w3.heap.size by have:=hb3.size;simp at this;omega) (fun q=>by have:=(S.out.own.lt _ q).2;omega);have hw4:=hbk.trans ((hb3.block wr.heap.size (by simp)).trans (heap_alloc_new wr _));obtain ⟨x0,x1,x2,x3⟩:=HX.out _ hw4;obtain ⟨A4,c4,rfl⟩:=jfu S4.out.own
      go_wp2_with (first
       | (go_at_call 109;with_reducible (refine Calls.mono (H2.out _) ?_);rintro e w5 ⟨rfl,hb5⟩
          have S5:=Lib.hid (S4.out.later hb5))
       | (at_builtin;refine wpList_append_own_at _ rfl _ _ 36 rfl W0.heap.size 56 i0 (.agg #[.int .i64 0,.int .i64 0,.int .i64 0,.int .i64 0,.int .i64 0,.string ⟨#[]⟩]) 6 56 Tryz.underlying36 hi hz0 hz1 hz2 rfl (by decide) _ _ _ rfl (S5.out.own.alloc _) ⟨w5.heap.size,0,none⟩ 1 1 [.int .i64 8,.int .i64 p0,.int .i64 p3,.int .i64 0,.int .i64 0,.string ⟨#[]⟩] rfl rfl (World.news_of_block (heap_alloc_new _ _)) ?e1 ?e2 ?e3 ?e4 ?_))
      case e1=>exact jc3 ⟨8,p0,p3,0,0,⟨#[]⟩⟩
      case e2=>unfold maxLen;have:=hlM.out;omega
      case e3=>have:=hlM.out;omega
      case e4=>have:=S5.out.below.size;simp;omega
      intro v6 w6 hown6 hg6 _ _;have S6:Hid (ImR W0 (R2 (k + 1)) v6 w6):=by unfold Hid;rw [HNX.out];exact S5.out.push _ hown6 hg6
      obtain ⟨A6,c6,rfl⟩:=jfu S6.out.own;clear hown4 hg4 S3 S4 S5 hown6 hg6 hb1 hb3 hb5 HX H1 H2 q0 q1 q2 q3 S hl200 hbk hw4 hlM x0 x1 x2 x3;go_wp2;go_roundw
      case rel=>first | exact ⟨k + 1,A6,c6,by omega,by go_num,rfl,S6⟩ | ((repeat apply Exists.intro);exact ⟨⟨k + 1,A6,c6,by omega,by go_num,rfl,S6⟩,rfl⟩)
      case measure=>simp [intOf];omega
    ·have hkN:N2=k:=by omega
     subst hkN;have k1:¬ (N2:Int) < (N2:Int):=by omega
     obtain ⟨f0,f1,f2⟩:=HF.out wr S.out.below;have S9:Hid (ImR W0 (R3 0) (.slice A (R3 0).length c) wr):=by unfold Hid;rw [HZ3.out];exact S.out
     have HV:Hid (Value.slice A (R2 N2).length c=.slice A (R3 0).length c):=by unfold Hid;rw [HZ3.out]
     clear S hl200;go_wp2;clear f0 f1 f2 k1 k0 hlt hk
     go_loopw [5,56] (fun lv iv wr=>∃ (k:Nat) (A:Option Addr) (c:Nat),k<=N3/\iv=.int .i64 k/\lv=.slice A (R3 k).length c/\Hid (ImR W0 (R3 k) (.slice A (R3 k).length c) wr)) (fun _ iv _=>N3 - (intOf iv).toNat)
     case atStart=>exact ⟨0,_,_,Nat.zero_le _,rfl,HV.out,S9.out⟩
     case round =>
      clear S9 HV;obtain ⟨k,A,c,hk,rfl,rfl,S⟩:=hrel;have k0:(0:Int)<=(k:Int):=by omega
      have hl200:Hid ((R3 k).length<=200):=HL3.out k hk;by_cases hlt:k < N3
      ·have k1:(k:Int) < (N3:Int):=by omega
       have hkx:k < t.os.length:=by have:=HN3.out;omega
       obtain ⟨b,off,rfl,_,q0⟩:=HT3.out wr S.out.below k hkx;have hnx:=HS3.out k;have hpos:=HOWN.out _ (jb6 hkx);unfold jhr at hnx;obtain ⟨o,ho⟩:∃ o,o=t.os.getD k 0:=⟨_,rfl⟩;rw [<- ho] at q0 hnx hpos;clear ho;by_cases hp:o=0
       ·rw [if_neg (by omega),List.append_nil] at hnx;have d1:(o != 0)=false:=by rw [hp];rfl
        have d2:(o == 0)=true:=beq_iff_eq.2 hp;have S5:Hid (ImR W0 (R3 (k + 1)) (.slice A (R3 (k + 1)).length c) wr):=by unfold Hid;rw [hnx];exact S.out
        rw [<- hnx];clear hnx hp hpos S hl200;go_wp2;go_roundw
        case rel=>first | exact ⟨k + 1,A,c,by omega,by go_num,rfl,S5⟩ | ((repeat apply Exists.intro);exact ⟨⟨k + 1,A,c,by omega,by go_num,rfl,S5⟩,rfl⟩)
        case measure=>simp [intOf];omega
       ·rw [if_pos (by omega)] at hnx;have HNX:=Lib.hid hnx;have d1:(o != 0)=true:=bne_iff_ne.2 hp;have d2:(o == 0)=false:=beq_eq_false_iff_ne.2 hp;clear hnx hp hpos
        go_wp2_with (at_builtin;refine wpList_append_own_at _ rfl _ _ 36 rfl W0.heap.size 56 i0 (.agg #[.int .i64 0,.int .i64 0,.int .i64 0,.int .i64 0,.int .i64 0,.string ⟨#[]⟩]) 6 56 Tryz.underlying36 hi hz0 hz1 hz2 rfl (by decide) _ _ _ rfl (S.out.own.alloc _) ⟨wr.heap.size,0,none⟩ 1 1 [.int .i64 9,.int .i64 k,.int .i64 o,.int .i64 0,.int .i64 0,.string ⟨#[]⟩] rfl rfl (World.news_of_block (heap_alloc_new _ _)) ?d1 ?d2 ?d3 ?d4 ?_)
        case d1=>exact jc3 ⟨9,k,o,0,0,⟨#[]⟩⟩
        case d2=>unfold maxLen;have:=hl200.out;omega
        case d3=>have:=hl200.out;omega
        case d4=>have:=S.out.below.size;simp;omega
        intro v6 w6 hown6 hg6 _ _;have S6:Hid (ImR W0 (R3 (k + 1)) v6 w6):=by unfold Hid;rw [HNX.out];exact S.out.push (jbr k o) hown6 hg6
        obtain ⟨A6,c6,rfl⟩:=jfu S6.out.own;clear hown6 hg6 q0 S hl200;go_wp2;go_roundw
        case rel=>first | exact ⟨k + 1,A6,c6,by omega,by go_num,rfl,S6⟩ | ((repeat apply Exists.intro);exact ⟨⟨k + 1,A6,c6,by omega,by go_num,rfl,S6⟩,rfl⟩)
        case measure=>simp [intOf];omega
      ·have hkN:N3=k:=by omega
       subst hkN;have k1:¬ (N3:Int) < (N3:Int):=by omega
       obtain ⟨f0,f1,f2⟩:=HF.out wr S.out.below;have S9:Hid (ImR W0 (R4 0) (.slice A (R4 0).length c) wr):=by unfold Hid;rw [HZ4.out];exact S.out
       have HV:Hid (Value.slice A (R3 N3).length c=.slice A (R4 0).length c):=by unfold Hid;rw [HZ4.out]
       clear S hl200;go_wp2;clear f0 f1 f2 k1 k0 hlt hk
       go_loopw [5,73] (fun lv iv wr=>∃ (k:Nat) (A:Option Addr) (c:Nat),k<=N1/\iv=.int .i64 k/\lv=.slice A (R4 k).length c/\Hid (ImR W0 (R4 k) (.slice A (R4 k).length c) wr)) (fun _ iv _=>N1 - (intOf iv).toNat)
       case atStart=>exact ⟨0,_,_,Nat.zero_le _,rfl,HV.out,S9.out⟩
       case round =>
        clear S9 HV;obtain ⟨k,A,c,hk,rfl,rfl,S⟩:=hrel;have k0:(0:Int)<=(k:Int):=by omega
        have hl200:Hid ((R4 k).length<=200):=HL4.out k;by_cases hlt:k < N1
        ·have k1:(k:Int) < (N1:Int):=by omega
         have hkx:k < t.ts.length:=by have:=HN1.out;omega
         obtain ⟨b,off,rfl,_,q0,q1,q2,q3,q4,q5⟩:=HT1.out wr S.out.below k hkx;have hnx:=HS4.out k hkx;obtain ⟨x,hx⟩:∃ x,x=t.ts[k]:=⟨_,rfl⟩;rw [<- hx] at q0 q1 q2 q3 q4 q5 hnx;clear hx;obtain ⟨p0,p1,p2,p3,p4,p5⟩:=x;simp only at q0 q1 q2 q3 q4 q5 hnx;have hb1:Below wr.heap.size wr (wr.alloc (.cells #[.int .i64 p0,.int .i64 p1,.int .i64 p2,.int .i64 p3,.string p4,.bool p5] 52)):=(Below.refl _ _).alloc (Nat.le_refl _) _;have HX:Hid (∀ X:World,X.heap[wr.heap.size]? = some (.cells #[.int .i64 p0,.int .i64 p1,.int .i64 p2,.int .i64 p3,.string p4,.bool p5] 52 (0,0))->X.cell? ⟨wr.heap.size,0,none⟩=some (.int .i64 p0)/\X.cell? ⟨wr.heap.size,1,none⟩=some (.int .i64 p1)/\X.cell? ⟨wr.heap.size,2,none⟩=some (.int .i64 p2)/\X.cell? ⟨wr.heap.size,3,none⟩=some (.int .i64 p3)/\X.cell? ⟨wr.heap.size,4,none⟩=some (.string p4)/\X.cell? ⟨wr.heap.size,5,none⟩=some (.bool p5)):=fun X q=>jbz q
         unfold jjU at hnx;cases p5
         ·rw [if_neg (show ¬ false=true from Bool.false_ne_true),List.append_nil] at hnx;have S5:Hid (ImR W0 (R4 (k + 1)) (.slice A (R4 (k + 1)).length c) (wr.alloc (.cells #[.int .i64 p0,.int .i64 p1,.int .i64 p2,.int .i64 p3,.string p4,.bool false] 52))):=by unfold Hid;rw [hnx];exact S.out.later hb1
          rw [<- hnx];clear hnx S hl200 HX hb1;go_wp2;go_roundw
          case rel=>first | exact ⟨k + 1,A,c,by omega,by go_num,rfl,S5⟩ | ((repeat apply Exists.intro);exact ⟨⟨k + 1,A,c,by omega,by go_num,rfl,S5⟩,rfl⟩)
          case measure=>simp [intOf];omega
         ·rw [if_pos rfl] at hnx;have HNX:=Lib.hid hnx;have S3:=Lib.hid (S.out.later hb1);clear hnx HX hb1
          have HNW:Hid (∀ j u,([.int .i64 3,.int .i64 p0,.int .i64 0,.int .i64 0,.int .i64 0,.string ⟨#[]⟩]:List Value)[j]? = some u->((wr.alloc (.cells #[.int .i64 p0,.int .i64 p1,.int .i64 p2,.int .i64 p3,.string p4,.bool true] 52)).alloc (.cells #[.int .i64 3,.int .i64 p0,.int .i64 0,.int .i64 0,.int .i64 0,.string ⟨#[]⟩] 56)).cell? ((⟨wr.heap.size + 1,0,none⟩:Addr).add j)=some u):=by
           have hn:=heap_alloc_new (wr.alloc (.cells #[.int .i64 p0,.int .i64 p1,.int .i64 p2,.int .i64 p3,.string p4,.bool true] 52)) (.cells #[.int .i64 3,.int .i64 p0,.int .i64 0,.int .i64 0,.int .i64 0,.string ⟨#[]⟩] 56);rw [show (wr.alloc (.cells #[.int .i64 p0,.int .i64 p1,.int .i64 p2,.int .i64 p3,.string p4,.bool true] 52)).heap.size=wr.heap.size + 1 by simp] at hn;exact World.news_of_block hn
          go_wp2_with (at_builtin;refine wpList_append_own_at _ rfl _ _ 36 rfl W0.heap.size 56 i0 (.agg #[.int .i64 0,.int .i64 0,.int .i64 0,.int .i64 0,.int .i64 0,.string ⟨#[]⟩]) 6 56 Tryz.underlying36 hi hz0 hz1 hz2 rfl (by decide) _ _ _ rfl (S3.out.own.alloc _) ⟨wr.heap.size + 1,0,none⟩ 1 1 [.int .i64 3,.int .i64 p0,.int .i64 0,.int .i64 0,.int .i64 0,.string ⟨#[]⟩] rfl rfl HNW.out ?d1 ?d2 ?d3 ?d4 ?_)
          case d1=>first | exact ⟨rfl,rfl,rfl,rfl⟩ | exact jc3 ⟨3,p0,0,0,0,⟨#[]⟩⟩
          case d2=>unfold maxLen;have:=hl200.out;omega
          case d3=>have:=hl200.out;omega
          case d4=>have:=S.out.below.size;simp;omega
          intro v6 w6 hown6 hg6 _ _;have S6:Hid (ImR W0 (R4 (k + 1)) v6 w6):=by unfold Hid;rw [HNX.out];exact S3.out.push ⟨3,p0,0,0,0,⟨#[]⟩⟩ hown6 hg6
          obtain ⟨A6,c6,rfl⟩:=jfu S6.out.own;clear hown6 hg6 q0 q1 q2 q3 q4 q5 S S3 hl200;go_wp2;go_roundw
          case rel=>first | exact ⟨k + 1,A6,c6,by omega,by go_num,rfl,S6⟩ | ((repeat apply Exists.intro);exact ⟨⟨k + 1,A6,c6,by omega,by go_num,rfl,S6⟩,rfl⟩)
          case measure=>simp [intOf];omega
        ·have hkN:N1=k:=by omega
         subst hkN;have k1:¬ (N1:Int) < (N1:Int):=by omega
         obtain ⟨f0,f1,f2⟩:=HF.out wr S.out.below;have S9:Hid (ImR W0 IM (.slice A IM.length c) wr):=by unfold Hid;rw [<- HE4.out];exact S.out
         have HV:Hid ((R4 N1).length=IM.length):=by unfold Hid;rw [HE4.out]
         clear S hl200;go_wp2;go_ret2;refine ⟨A,c,by rw [HV.out];rfl,jfD S9.out.own,jfs S9.out.own,fun a ha=>?_,jaa HB0.out S9.out.below⟩;have:=(ja1 S9.out.own a.block (by rw [ha];rfl)).1;exact Nat.le_trans HB0.out.size this
end Go.Proofs.YtbnhkplhmanmoaaGreat
