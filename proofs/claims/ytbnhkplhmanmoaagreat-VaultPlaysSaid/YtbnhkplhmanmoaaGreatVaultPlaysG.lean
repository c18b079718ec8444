/- . -/
import Derived.Test.YtbnhkplhmanmoaaGreatVaultSameG
import Derived.Test.YtbnhkplhmanmoaaGreatTableApRG
import Derived.Deep.CutBlock
import Derived.BigQuiet
namespace Go.Proofs.YtbnhkplhmanmoaaGreat
open Go.RowKit
set_option maxHeartbeats 25600000
set_option maxRecDepth 20000
section
variable {Rep:World->Nat->(Nat->Prop)->Dk->Prop} {w W X:World} {p n q:Nat} {dead:Bool} {tv tv' t t':Tab} {K:Int} {ms:List jpO}
theorem jn4 (L:jbX Rep) (h:PlX Rep w W p n q dead tv tv' K ms) {g:Nat} {V:jat} {t:Tab} (hm:(g,V,t)∈ms) (A:Option Addr) (c:Nat) (l:List Rc) (hrec:jax w w.heap.size A l) (hl:l.length<=140737488355328) :
  Calls Tryz.prog 11 #[.agg #[.slice V.A1 t.ts.length V.c1,.slice V.A2 t.vs.length V.c2,.slice V.A3 t.os.length V.c3],.slice A l.length c] W fun e w'=>∃ V3:jat,
   e=.returned (.tuple #[.agg #[.slice V3.A1 (jaV t l).2.ts.length V3.c1,.slice V3.A2 (jaV t l).2.vs.length V3.c2,.slice V3.A3 (jaV t l).2.os.length V3.c3],.int .i64 (jaV t l).1]) /\
   PlX Rep w (w'.alloc (.cells #[.slice V3.A1 (jaV t l).2.ts.length V3.c1,.slice V3.A2 (jaV t l).2.vs.length V3.c2,.slice V3.A3 (jaV t l).2.os.length V3.c3] 35)) p n q dead tv tv' K ms/\(∀ m∈ms,w'.heap.size≠m.1) /\
   ((jaV t l).1=0->PlX Rep w (w'.alloc (.cells #[.slice V3.A1 (jaV t l).2.ts.length V3.c1,.slice V3.A2 (jaV t l).2.vs.length V3.c2,.slice V3.A3 (jaV t l).2.os.length V3.c3] 35)) p n q dead tv tv' K ((w'.heap.size,V3,(jaV t l).2) :: ms)):=by
 obtain ⟨hT,hs⟩:=h.tab hm;refine (jh2 V.A1 V.c1 V.A2 V.c2 V.A3 V.c3 t A c l W hT ((hrec.below h.below).more h.below.size) hs hl).mono fun e w' ⟨V3,q1,q2,q3,q4⟩=>⟨V3,q1,?_⟩
 have hba:Below w'.heap.size w' (w'.alloc (.cells #[.slice V3.A1 (jaV t l).2.ts.length V3.c1,.slice V3.A2 (jaV t l).2.vs.length V3.c2,.slice V3.A3 (jaV t l).2.os.length V3.c3] 35)):=(Below.refl _ _).alloc (Nat.le_refl _) _;refine ⟨h.later L (jaa q4 hba),fun m hm=>?_,fun h0=>h.fresh L (jaa q4 hba) fun m hm=>?_⟩
 ·obtain ⟨F,s,d,Vv,v,_,_,_,h4⟩:=h.all;have:=(h4 m hm).lt;have:=q4.size;omega
 rcases List.mem_cons.1 hm with rfl | hm
 ·exact .inr ⟨q4.size,heap_alloc_new _ _,(q2.below hba).more hba.size,q3,(jea hs h0).1⟩
 ·exact .inl hm
theorem jnd (L:jbX Rep) (h:PlX Rep w W p n q dead tv tv' K []) (hb:Below W.heap.size W X) {b1 b2 r1 r2:Nat} {Z:Array Value} (n1:1<=n) (n2:n<=64) (hZ:Z.toList=(List.replicate n (0:Int)).map (Value.int .i64))
  (c1:X.heap[b1]? = some (.cells #[.slice none 0 0,.slice none 0 0,.slice (some ⟨r1,0,none⟩) n n] 35 (0,0))) (c2:X.heap[b2]? = some (.cells #[.slice none 0 0,.slice none 0 0,.slice (some ⟨r2,0,none⟩) n n] 35 (0,0)))
  (e1:X.heap[r1]? = some (.cells Z 3 (0,0))) (e2:X.heap[r2]? = some (.cells Z 3 (0,0))) (l1:W.heap.size<=b1) (l2:W.heap.size<=b2) (l3:W.heap.size<=r1) (l4:W.heap.size<=r2) :
  Hid (∃ V1 V2,PlX Rep w X p n q dead tv tv' K [(b1,V1,jbf n),(b2,V2,jbf n)]):=by
 have key:∀ r,W.heap.size<=r->X.heap[r]? = some (.cells Z 3 (0,0))->jao X X.heap.size ⟨none,0,none,0,some ⟨r,0,none⟩,n⟩ (jbf n)/\jay W.heap.size ⟨none,0,none,0,some ⟨r,0,none⟩,n⟩:=fun r hr e=>by
  refine ⟨⟨fun k hk=>absurd hk (Nat.not_lt_zero k),fun k hk=>absurd hk (Nat.not_lt_zero k),fun i hi=>?_,Nat.le_refl _,Nat.le_refl _,by simp [jbf]⟩,fun a ha=>?_⟩
  ·refine ⟨r,0,rfl,(Array.getElem?_eq_some_iff.1 e).1,?_⟩;rw [cell_of_row _ _ _ _ _ _ e,Nat.zero_add,<- Array.getElem?_toList,hZ];have hi':i < n:=by simpa [jbf] using hi
   simp [jbf,List.getD_eq_getElem?_getD,hi']
  ·rcases ha with ha | ha | ha
   ·cases ha
   ·cases ha
   ·injection ha with ha;subst ha;exact hr
 obtain ⟨k1,k2⟩:=key r1 l3 e1;obtain ⟨k3,k4⟩:=key r2 l4 e2;have hs:=jej n1 n2;have hl:(jbf n).os.length=n:=by simp [jbf]
 refine ⟨⟨none,0,none,0,some ⟨r1,0,none⟩,n⟩,⟨none,0,none,0,some ⟨r2,0,none⟩,n⟩,h.fresh L hb fun m hm=>?_⟩;rcases List.mem_cons.1 hm with rfl | hm
 ·exact .inr ⟨l1,by rw [hl];exact c1,k1,k2,hs⟩
 ·rcases List.mem_cons.1 hm with rfl | hm
  ·exact .inr ⟨l2,by rw [hl];exact c2,k3,k4,hs⟩
  ·exact absurd hm List.not_mem_nil
theorem jqY (W:World) (o0 o1 o2 o3:Obj):Below W.heap.size W ((((W.alloc o0).alloc o1).alloc o2).alloc o3)/\((((W.alloc o0).alloc o1).alloc o2).alloc o3).heap[W.heap.size]? = some o0/\((((W.alloc o0).alloc o1).alloc o2).alloc o3).heap[W.heap.size + 1]? = some o1 /\
  ((((W.alloc o0).alloc o1).alloc o2).alloc o3).heap[W.heap.size + 1 + 1]? = some o2/\((((W.alloc o0).alloc o1).alloc o2).alloc o3).heap[W.heap.size + 1 + 1 + 1]? = some o3:=by
 have hb:Below W.heap.size W (W.alloc o0):=(Below.refl _ _).alloc (Nat.le_refl _) _;have hb1:=hb.alloc hb.size o1;have hb2:=hb1.alloc hb1.size o2
 exact ⟨hb2.alloc hb2.size o3,(Below.heap_alloc _ _ _ (by simp <;> omega)).trans ((Below.heap_alloc _ _ _ (by simp <;> omega)).trans ((Below.heap_alloc _ _ _ (by simp)).trans (jbU _ _ _ rfl))),
  (Below.heap_alloc _ _ _ (by simp <;> omega)).trans ((Below.heap_alloc _ _ _ (by simp)).trans (jbU _ _ _ (by simp))),(Below.heap_alloc _ _ _ (by simp)).trans (jbU _ _ _ (by simp)),jbU _ _ _ (by simp)⟩
end
section
variable {Rep:World->Nat->(Nat->Prop)->Dk->Prop} (L:jbX Rep)
include L
theorem vaultPlays_go (a0:Int) (A1:Option Addr) (c1:Nat) (acs:List Act17) (w:World) (h0:0<=a0/\a0<=255) (hacts:Acts17 w A1 acs) :
  Calls Tryz.prog 3 #[.int .u8 a0,.slice A1 acs.length c1] w fun e w'=>e=.returned (.bool true)/\Below w.heap.size w w':=by
 obtain ⟨m,hm⟩:∃ m:Nat,a0 % 64=(m:Int):=⟨(a0 % 64).toNat,by omega⟩;have hzm:Int.tmod a0 64=(m:Int):=by rw [Int.tmod_eq_emod_of_nonneg h0.1];exact hm
 have m0:(0:Int)<=(m:Int):=by omega
 have m1:(m:Int) < 64:=by omega
 obtain ⟨n,hn⟩:∃ n:Nat,n=m + 1:=⟨_,rfl⟩;have hmn:(m:Int) + 1=(n:Int):=by omega
 have n1:1<=n:=by omega
 have n2:n<=64:=by omega
 have H1:=Lib.hid (jkd L (Below.refl w.heap.size w) (N:=384) (by decide) (by decide))
 have H2:Hid (∀ p W,jqe Rep w W p (jeU 384)->Calls Tryz.prog 8 #[.pointer (some ⟨p,0,none⟩),.int .i64 (n:Int)] W fun e w'=>∃ q,e=.returned (.tuple #[.pointer (some ⟨q,0,none⟩),.int .i64 0])/\PlX Rep w w' p n q false (jbf n) (jbf n) 0 []):=fun p W h =>
  (jjR L (n:=n) h rfl rfl (by simp [jeU]) n1 n2 (jfv (Nat.le_refl _))).mono fun e w' ⟨q,q1,q2⟩=>⟨q,q1,jpY (v:=⟨jbf n,1,0,192⟩) q2 (jin (Nat.le_refl _) (by decide) n1 n2)⟩
 have HA:=Lib.hid (jkG L);have HLV:Hid (∀ p q t t' K ms W X,PlX Rep w W p n q false t t' K ms->Below W.heap.size W X->PlX Rep w X p n q false t t' K ms):=fun p q t t' K ms W X h hb=>h.later L hb
 have hmk:∀ W:World,(Instr.makeSlice 31 (.int .i64 (n:Int)) (.int .i64 (n:Int))).run Tryz.prog W=.ok (.slice (some ⟨W.heap.size,0,none⟩) n n) (W.alloc (.cells (madeCells #[Value.int .i64 0] n) 3)):=fun W=>run_make_row' (P:=Tryz.prog) 31 3 (.int .i64 0) 8 Tryz.underlying31 Tryz.infoI64v rfl .i64 .i64 n (by omega) (by omega) W
 have hZl:(madeCells #[Value.int .i64 0] n).toList=(List.replicate n (0:Int)).map (Value.int .i64):=by rw [toList_madeCells_one,List.map_replicate]
 obtain ⟨Z,hZ⟩:∃ Z,Z=madeCells #[Value.int .i64 0] n:=⟨_,rfl⟩;rw [<- hZ] at hmk hZl;have HZL:=Lib.hid hZl;obtain ⟨N,hN⟩:∃ N,N=acs.length:=⟨_,rfl⟩;have HN:=Lib.hid hN;have HN1:=Lib.hid n1;have HN2:=Lib.hid n2;have HACT:=Lib.hid hacts;have HL:=Lib.hid L;rw [<- hN];clear L hZ hZl hm hn hN h0 hacts n1 n2;go_enter Tryz.func3,Tryz.ntmps3
 go_wp2_with (first
  | (go_at_call 7;with_reducible (refine Calls.mono H1.out ?_);rintro e w1 ⟨p,rfl,ho1⟩)
  | (go_at_call 8;with_reducible (refine Calls.mono (H2.out _ _ ho1) ?_);rintro e w2 ⟨q,rfl,ho2⟩;have HO2:=Lib.hid ho2;clear ho1 ho2)
  | (go_at_call 9;with_reducible (refine Calls.mono (HA.out _) ?_);rintro e w3 ⟨rfl,hb3⟩;have HO3:=Lib.hid (HLV.out _ _ _ _ _ _ _ _ HO2.out hb3);clear hb3))
 clear H1 H2 HA HLV HO2
 go_cut [10,11] from 47 to 52 (fun v10 v11 wx=>∃ b1 b2:Nat,v10=.pointer (some ⟨b1,0,none⟩)/\v11=.pointer (some ⟨b2,0,none⟩)/\b1≠b2/\Hid (∃ V1 V2,PlX Rep w wx p n q false (jbf n) (jbf n) 0 [(b1,V1,jbf n),(b2,V2,jbf n)]))
 case first =>
  clear hzm m0 m1 hmn;go_region
  all_goals
   go_wp2;go_meet;obtain ⟨f,f0,f1,f2,f3⟩:=jqY w3 _ _ _ _;exact ⟨_,_,rfl,rfl,by omega,jnd HL.out HO3.out f.drew HN1.out HN2.out HZL.out (by first | exact f0 | exact f1 | exact f2 | exact f3) (by first | exact f0 | exact f1 | exact f2 | exact f3) (by first | exact f0 | exact f1 | exact f2 | exact f3) (by first | exact f0 | exact f1 | exact f2 | exact f3) (by omega) (by omega) (by omega) (by omega)⟩
 case rest =>
  clear HO3 hmk HZL hzm m0 m1 hmn;obtain ⟨b1,b2,rfl,rfl,hne,hst⟩:=hcut;go_wp2
  go_loopw [8,9,12,13] (fun v f dd i wx=>∃ (q:Nat) (dead:Bool) (j:Nat),j<=N/\j<=60/\v=.pointer (some ⟨q,0,none⟩)/\f=.int .i64 0/\dd=.bool dead/\i=.int .i64 j/\Hid (∃ V1 t V2 t',PlX Rep w wx p n q dead t t' (j:Int) [(b1,V1,t),(b2,V2,t')])) (fun _ _ _ i _=>60 - (intOf i).toNat)
  case atStart =>
   obtain ⟨V1,V2,h⟩:=hst.out;exact ⟨q,false,0,Nat.zero_le _,Nat.zero_le _,rfl,rfl,rfl,rfl,V1,jbf n,V2,jbf n,h⟩
  case round =>
   clear hst;obtain ⟨q,dead,j,hjN,hj6,rfl,rfl,rfl,rfl,hR⟩:=hrel;have j0:(0:Int)<=(j:Int):=by omega
   by_cases hj:j < N
   ·have k1:(j:Int) < (N:Int):=by omega
    by_cases hj2:j < 60
    ·have k2:(j:Int) < 60:=by omega
     obtain ⟨V1,t,V2,t',hP⟩:=hR.out;have HP:=Lib.hid hP;obtain ⟨b,o,rfl,hlt,x0,x1,x2,x3,hok⟩:=HACT.out j (by have:=HN.out;omega);obtain ⟨a,ha⟩:∃ a,a=acs[j]'(by have:=HN.out;omega):=⟨_,rfl⟩;rw [<- ha] at x0 x1 x2 x3 hok;have y0:=(hP.below.cell (p:=⟨b,o + j * 4,none⟩) hlt).trans x0;have y1:=(hP.below.cell (p:=⟨b,o + j * 4 + 1,none⟩) hlt).trans x1;have y2:=(hP.below.cell (p:=⟨b,o + j * 4 + 2,none⟩) hlt).trans x2;have y3:=(hP.below.cell (p:=⟨b,o + j * 4 + 3,none⟩) hlt).trans x3;have HOK:=Lib.hid hok;clear x0 x1 x2 x3 hok ha hP hR hlt;obtain ⟨aw,an,aA,al,ac,aB,af,ak⟩:=a
     dsimp only at y0 y1 y2 y3
     go_upto_block 2 with fail
     have hba:Below wr.heap.size wr (wr.alloc (.cells #[.int .i64 aw,.int .i64 an,.slice aA al.length ac,.slice aB af.length ak] 39)):=(Below.refl _ _).alloc (Nat.le_refl _) _;have hna:=heap_alloc_new wr (.cells #[.int .i64 aw,.int .i64 an,.slice aA al.length ac,.slice aB af.length ak] 39);have z0:=cell_of_row _ _ 0 _ _ _ hna;have z1:=cell_of_row _ _ 1 _ _ _ hna;have z2:=cell_of_row _ _ 2 _ _ _ hna;have z3:=cell_of_row _ _ 3 _ _ _ hna;have HQ:=Lib.hid (HP.out.later HL.out hba);obtain ⟨ba,hbe⟩:∃ x,x=wr.heap.size:=⟨_,rfl⟩;obtain ⟨W1,hW1⟩:∃ X,X=wr.alloc (.cells #[.int .i64 aw,.int .i64 an,.slice aA al.length ac,.slice aB af.length ak] 39):=⟨_,rfl⟩;rw [<- hW1] at HQ z0 z1 z2 z3 ⊢;rw [<- hbe] at z0 z1 z2 z3 ⊢;clear hba hna hbe hW1 HP y0 y1 y2 y3;replace z0:W1.cell? ⟨ba,0,none⟩=some (.int .i64 aw):=z0;replace z1:W1.cell? ⟨ba,1,none⟩=some (.int .i64 an):=z1;replace z2:W1.cell? ⟨ba,2,none⟩=some (.slice aA al.length ac):=z2;replace z3:W1.cell? ⟨ba,3,none⟩=some (.slice aB af.length ak):=z3
     go_cut [8,9,12] from 69 to 145 (fun v f dd wx=>∃ (q:Nat) (dead:Bool),v=.pointer (some ⟨q,0,none⟩)/\f=.int .i64 0/\dd=.bool dead/\Hid (∃ V1 t V2 t',PlX Rep w wx p n q dead t t' ((j:Int) + 1) [(b1,V1,t),(b2,V2,t')]))
     case first =>
      by_cases q0:aw=0
      ·subst q0;obtain ⟨ll,hll⟩:∃ ll,ll=al.take 80:=⟨_,rfl⟩;have hlen:ll.length=min 80 al.length:=by rw [hll,List.length_take]
       have hac:al.length<=ac:=HOK.out.le;have hal:al.length<=140737488351232:=HOK.out.len
       have hrec:jax w w.heap.size aA ll:=fun k hk=>by
        have h:=HOK.out.recs k (show k < al.length by omega);subst hll;simpa [List.getElem_take] using h
       have hoks:∀ r∈ll,r.ok:=fun r hr=>HOK.out.oks r (List.mem_of_mem_take (hll ▸ hr))
       have HCM:=Lib.hid (jmY HL.out HQ.out (by omega) aA ac ll hrec (by omega) hoks (by omega));have HAP:Hid (∀ W dead tv tv' K,PlX Rep w W p n q dead tv tv' K [(b1,V1,t),(b2,V2,t')]->_):=fun W dead tv tv' K h=>jn4 HL.out h (g:=b1) (V:=V1) (t:=t) (List.mem_cons_self ..) aA ac ll hrec (by omega)
       obtain ⟨R1,hR1⟩:∃ x,x=(jaV t ll).1:=⟨_,rfl⟩;obtain ⟨T,hT⟩:∃ x,x=(jaV t ll).2:=⟨_,rfl⟩;unfold jqq at HCM;simp only [<- hR1,<- hT] at HCM HAP;clear HQ hrec hoks hll hR1 hT;rcases (by omega:(80 < al.length/\ll.length=80)∨(¬ 80 < al.length/\ll.length=al.length)) with ⟨h80,hnl⟩ | ⟨h80,hnl⟩
       all_goals
        simp only [hnl] at HCM HAP;clear hnl hlen
       ·have k80:(80:Int) < (al.length:Int):=by omega
        have k81:(80:Int)<=(ac:Int):=by omega
        have k82:80<=ac:=by omega
        have HZ8:Hid (¬ ((80:Int)=0)):=by unfold Hid;decide
        go_upto_region 19 with (first
         | (go_at_call 10;with_reducible (refine Calls.mono HCM.out ?_);rintro e w2 ⟨E,dead',tv,tv',rfl,hx,hrel⟩;have HX:=Lib.hid hx;have HREL:=Lib.hid hrel;obtain ⟨c0,c1,c2⟩:=jai (hx.cells (g:=b1) (V:=V1) (t:=t) (List.mem_cons_self ..));clear hx hrel)
         | (go_at_call 11;with_reducible (refine Calls.mono (HAP.out _ _ _ _ _ HX.out) ?_);rintro e w3 ⟨V3,rfl,hy,hn3,hz⟩;have HY:=Lib.hid hy;have HZ:=Lib.hid hz;have HY3:Hid (w3.heap.size≠b1/\w3.heap.size≠b2):=Lib.hid (And.intro (hn3 (b1,V1,t) (by simp)) (hn3 (b2,V2,t') (by simp)));clear hy hz hn3 c0 c1 c2))
        have HB1:Hid (w3.heap.size≠b1/\w3.heap.size≠b2):=HY3.out;rcases HREL.out with ⟨rfl,rfl,rfl,rfl,rfl⟩ | ⟨rfl,rfl,hE0,hE8,rfl,rfl,rfl⟩ | ⟨rfl,rfl,hR0,rfl,rfl,rfl⟩ | ⟨rfl,rfl,hR0,hlz,rfl,rfl,rfl⟩
        ·clear HREL HZ;go_wp2;go_meet;exact ⟨q,true,rfl,rfl,rfl,V1,t,V2,t',HY.out⟩
        ·clear HREL HZ;have k0:(E == 0)=false:=by simp [hE0]
         have k8:(E == 8)=false:=by simp [hE8]
         go_wp2;go_meet;exact ⟨q,false,rfl,rfl,rfl,V1,t,V2,t',HY.out⟩
        ·subst hR0;have h:=HZ.out rfl;obtain ⟨c0,c1,c2⟩:=jai (h.cells (g:=w3.heap.size) (V:=V3) (t:=T) (List.mem_cons_self ..));have hf1:=h.cells (g:=b1) (V:=V1) (t:=t) (by simp);have hf2:=h.cells (g:=b2) (V:=V2) (t:=t') (by simp);obtain ⟨d0,d1,d2⟩:=jai hf1;obtain ⟨e0,e1,e2⟩:=jai hf2;have r0:=frozen_of_row _ _ 0 _ _ hf1;have r1:=frozen_of_row _ _ 1 _ _ hf1;have r2:=frozen_of_row _ _ 2 _ _ hf1;have s0:=frozen_of_row _ _ 0 _ _ hf2;have s1:=frozen_of_row _ _ 1 _ _ hf2;have s2:=frozen_of_row _ _ 2 _ _ hf2;have HQ4:=Lib.hid h;clear HREL HZ h hf1 hf2;have b01:w3.heap.size≠b1:=HB1.out.1;have b02:w3.heap.size≠b2:=HB1.out.2;obtain ⟨bn,hbn⟩:∃ x,x=w3.heap.size:=⟨_,rfl⟩;obtain ⟨W4,hW4⟩:∃ X,X=w3.alloc (.cells #[.slice V3.A1 T.ts.length V3.c1,.slice V3.A2 T.vs.length V3.c2,.slice V3.A3 T.os.length V3.c3] 35):=⟨_,rfl⟩;rw [<- hbn,<- hW4] at HQ4;rw [<- hbn,<- hW4] at c0 c1 c2;rw [<- hW4] at r0 r1 r2 s0 s1 s2 d0 d1 d2 e0 e1 e2;rw [<- hbn] at b01 b02
         go_upto_region 30 with fail
         rw [<- hW4];rw [<- hbn];clear hbn hW4 HB1 HY;have b10:=b01.symm;have b20:=b02.symm;have b21:=hne.symm;go_region
         all_goals
          go_wp2;go_meet
          exact ⟨q,false,rfl,rfl,rfl,V3,T,V3,T,by
           have p1:=(HQ4.out.put HL.out (g:=bn) (k:=b1) (V:=V3) (t:=T) (V':=V1) (t':=t) (by simp) (by simp) (ms':=[(bn,V3,T),(b1,V3,T),(b2,V2,t')]) (by simp [*])).put HL.out (g:=bn) (k:=b2) (V:=V3) (t:=T) (V':=V2) (t':=t') (by simp) (by simp) (ms':=[(b1,V3,T),(b2,V3,T)]) (by simp [*])
           first | with_reducible exact p1.drew HL.out | with_reducible exact p1⟩
        ·subst hR0;have h:=HZ.out rfl;obtain ⟨c0,c1,c2⟩:=jai (h.cells (g:=w3.heap.size) (V:=V3) (t:=T) (List.mem_cons_self ..));have hf2:=h.cells (g:=b2) (V:=V2) (t:=t') (by simp);obtain ⟨e0,e1,e2⟩:=jai hf2;have s0:=frozen_of_row _ _ 0 _ _ hf2;have s1:=frozen_of_row _ _ 1 _ _ hf2;have s2:=frozen_of_row _ _ 2 _ _ hf2;have HQ4:=Lib.hid h;have hl0:=HZ8.out;have HP4:=Lib.hid (h.put HL.out (g:=w3.heap.size) (k:=b2) (V:=V3) (t:=T) (V':=V2) (t':=t') (by simp) (by simp) (ms':=[(b1,V1,t),(b2,V3,T)]) (by simp [hne]));clear HREL HZ h hf2 HB1 HY HZ8;go_wp2;go_meet;exact ⟨q,true,rfl,rfl,rfl,V1,t,V3,T,by first | with_reducible exact HP4.out | with_reducible exact HP4.out.drew HL.out⟩
       ·have k80:¬ (80:Int) < (al.length:Int):=by omega
        have HZ8:Hid (al.length≠0->¬ ((al.length:Int)=0)):=fun h=>by omega
        go_upto_region 19 with (first
         | (go_at_call 10;with_reducible (refine Calls.mono HCM.out ?_);rintro e w2 ⟨E,dead',tv,tv',rfl,hx,hrel⟩;have HX:=Lib.hid hx;have HREL:=Lib.hid hrel;obtain ⟨c0,c1,c2⟩:=jai (hx.cells (g:=b1) (V:=V1) (t:=t) (List.mem_cons_self ..));clear hx hrel)
         | (go_at_call 11;with_reducible (refine Calls.mono (HAP.out _ _ _ _ _ HX.out) ?_);rintro e w3 ⟨V3,rfl,hy,hn3,hz⟩;have HY:=Lib.hid hy;have HZ:=Lib.hid hz;have HY3:Hid (w3.heap.size≠b1/\w3.heap.size≠b2):=Lib.hid (And.intro (hn3 (b1,V1,t) (by simp)) (hn3 (b2,V2,t') (by simp)));clear hy hz hn3 c0 c1 c2))
        have HB1:Hid (w3.heap.size≠b1/\w3.heap.size≠b2):=HY3.out;rcases HREL.out with ⟨rfl,rfl,rfl,rfl,rfl⟩ | ⟨rfl,rfl,hE0,hE8,rfl,rfl,rfl⟩ | ⟨rfl,rfl,hR0,rfl,rfl,rfl⟩ | ⟨rfl,rfl,hR0,hlz,rfl,rfl,rfl⟩
        ·clear HREL HZ;go_wp2;go_meet;exact ⟨q,true,rfl,rfl,rfl,V1,t,V2,t',HY.out⟩
        ·clear HREL HZ;have k0:(E == 0)=false:=by simp [hE0]
         have k8:(E == 8)=false:=by simp [hE8]
         go_wp2;go_meet;exact ⟨q,false,rfl,rfl,rfl,V1,t,V2,t',HY.out⟩
        ·subst hR0;have h:=HZ.out rfl;obtain ⟨c0,c1,c2⟩:=jai (h.cells (g:=w3.heap.size) (V:=V3) (t:=T) (List.mem_cons_self ..));have hf1:=h.cells (g:=b1) (V:=V1) (t:=t) (by simp);have hf2:=h.cells (g:=b2) (V:=V2) (t:=t') (by simp);obtain ⟨d0,d1,d2⟩:=jai hf1;obtain ⟨e0,e1,e2⟩:=jai hf2;have r0:=frozen_of_row _ _ 0 _ _ hf1;have r1:=frozen_of_row _ _ 1 _ _ hf1;have r2:=frozen_of_row _ _ 2 _ _ hf1;have s0:=frozen_of_row _ _ 0 _ _ hf2;have s1:=frozen_of_row _ _ 1 _ _ hf2;have s2:=frozen_of_row _ _ 2 _ _ hf2;have HQ4:=Lib.hid h;clear HREL HZ h hf1 hf2;have b01:w3.heap.size≠b1:=HB1.out.1;have b02:w3.heap.size≠b2:=HB1.out.2;obtain ⟨bn,hbn⟩:∃ x,x=w3.heap.size:=⟨_,rfl⟩;obtain ⟨W4,hW4⟩:∃ X,X=w3.alloc (.cells #[.slice V3.A1 T.ts.length V3.c1,.slice V3.A2 T.vs.length V3.c2,.slice V3.A3 T.os.length V3.c3] 35):=⟨_,rfl⟩;rw [<- hbn,<- hW4] at HQ4;rw [<- hbn,<- hW4] at c0 c1 c2;rw [<- hW4] at r0 r1 r2 s0 s1 s2 d0 d1 d2 e0 e1 e2;rw [<- hbn] at b01 b02
         go_upto_region 30 with fail
         rw [<- hW4];rw [<- hbn];clear hbn hW4 HB1 HY;have b10:=b01.symm;have b20:=b02.symm;have b21:=hne.symm;go_region
         all_goals
          go_wp2;go_meet
          exact ⟨q,false,rfl,rfl,rfl,V3,T,V3,T,by
           have p1:=(HQ4.out.put HL.out (g:=bn) (k:=b1) (V:=V3) (t:=T) (V':=V1) (t':=t) (by simp) (by simp) (ms':=[(bn,V3,T),(b1,V3,T),(b2,V2,t')]) (by simp [*])).put HL.out (g:=bn) (k:=b2) (V:=V3) (t:=T) (V':=V2) (t':=t') (by simp) (by simp) (ms':=[(b1,V3,T),(b2,V3,T)]) (by simp [*])
           first | with_reducible exact p1.drew HL.out | with_reducible exact p1⟩
        ·subst hR0;have h:=HZ.out rfl;obtain ⟨c0,c1,c2⟩:=jai (h.cells (g:=w3.heap.size) (V:=V3) (t:=T) (List.mem_cons_self ..));have hf2:=h.cells (g:=b2) (V:=V2) (t:=t') (by simp);obtain ⟨e0,e1,e2⟩:=jai hf2;have s0:=frozen_of_row _ _ 0 _ _ hf2;have s1:=frozen_of_row _ _ 1 _ _ hf2;have s2:=frozen_of_row _ _ 2 _ _ hf2;have HQ4:=Lib.hid h;have hl0:=HZ8.out hlz;have HP4:=Lib.hid (h.put HL.out (g:=w3.heap.size) (k:=b2) (V:=V3) (t:=T) (V':=V2) (t':=t') (by simp) (by simp) (ms':=[(b1,V1,t),(b2,V3,T)]) (by simp [hne]));clear HREL HZ h hf2 HB1 HY HZ8;go_wp2;go_meet;exact ⟨q,true,rfl,rfl,rfl,V1,t,V3,T,by first | with_reducible exact HP4.out | with_reducible exact HP4.out.drew HL.out⟩
      ·by_cases q1:aw=1
       ·subst q1;have HLI:=Lib.hid (jns HL.out HQ.out HOK.out.n64)
        go_wp2_with (go_at_call 12;with_reducible (refine Calls.mono HLI.out ?_);rintro e w2 ⟨rfl,h2⟩;have HX:=Lib.hid (h2.up (show (j:Int)<=(j:Int) + 1 by omega));clear h2)
        go_meet;exact ⟨q,dead,rfl,rfl,rfl,V1,t,V2,t',HX.out⟩
       ·by_cases q2:aw=2
        ·subst q2;have HCR:=Lib.hid (joe HL.out HQ.out HOK.out.bools HOK.out.ble (Nat.le_trans HOK.out.blen (by omega)));have HOP:Hid (∀ W t2,PlD Rep w W p n t2 (j:Int) [(b1,V1,t),(b2,V2,t')]->Calls Tryz.prog 8 #[.pointer (some ⟨p,0,none⟩),.int .i64 (n:Int)] W fun e w'=>∃ q,e=.returned (.tuple #[.pointer (some ⟨q,0,none⟩),.int .i64 0])/\PlX Rep w w' p n q false t2 t2 (j:Int) [(b1,V1,t),(b2,V2,t')]):=fun W t2 h=>joT HL.out h
         clear HQ
         go_upto_region 38 with (first
          | (go_at_call 13;with_reducible (refine Calls.mono HCR.out ?_);rintro e w2 ⟨rfl,t2,ht2,h2⟩;have HD:=Lib.hid h2;have HT2:=Lib.hid ht2;clear h2 ht2)
          | (go_at_call 8;with_reducible (refine Calls.mono (HOP.out _ _ HD.out) ?_);rintro e w3 ⟨q3,rfl,h3⟩;have HX:=Lib.hid h3;clear h3))
         have hs2:=(HX.out.alive).2;have hM2:=HX.out.tab (g:=b2) (V:=V2) (t:=t') (by simp);have hM1:=HX.out.tab (g:=b1) (V:=V1) (t:=t) (by simp);have HTB:Hid (∀ X,Below w3.heap.size w3 X->Calls Tryz.prog 15 #[.pointer (some ⟨q3,0,none⟩)] X fun e w'=>∃ V':jat,e=.returned (.agg #[.slice V'.A1 t2.ts.length V'.c1,.slice V'.A2 t2.vs.length V'.c2,.slice V'.A3 t2.os.length V'.c3])/\jao w' w'.heap.size V' t2/\Below X.heap.size X w'):=fun X hb=>jj1 HL.out (HX.out.later HL.out hb)
         have HM2:Hid (∀ X,Below w3.heap.size w3 X->_):=fun X hb=>jai ((HX.out.later HL.out hb).cells (g:=b2) (V:=V2) (t:=t') (by simp))
         have HM1:Hid (∀ X,Below w3.heap.size w3 X->_):=fun X hb=>jai ((HX.out.later HL.out hb).cells (g:=b1) (V:=V1) (t:=t) (by simp))
         have HS2:Hid (∀ (V':jat) X,jao X X.heap.size V' t2->Below w3.heap.size w3 X->_):=fun V' X h1 hb=>jje V' V2 t2 t' X h1 ((hM2.1.below hb).more hb.size) hs2 hM2.2
         have HS1:Hid (∀ (V':jat) X,jao X X.heap.size V' t2->Below w3.heap.size w3 X->_):=fun V' X h1 hb=>jje V' V1 t2 t X h1 ((hM1.1.below hb).more hb.size) hs2 hM1.2
         clear hs2 hM2 hM1 HOP HCR HD
         go_cut [138] from 135 to 138 (fun vb wx=>∃ bb:Bool,vb=.bool bb/\Hid (bb=true↔t2=t')/\Hid (Below w3.heap.size w3 wx))
         case first =>
          have hbx:=Below.refl w3.heap.size w3;obtain ⟨m0,m1,m2⟩:=HM2.out _ hbx
          go_region_held3 (fun X=>X.cell? ⟨b2,0,none⟩=some (.slice V2.A1 t'.ts.length V2.c1)/\X.cell? ⟨b2,1,none⟩=some (.slice V2.A2 t'.vs.length V2.c2)/\X.cell? ⟨b2,2,none⟩=some (.slice V2.A3 t'.os.length V2.c3)/\Below w3.heap.size w3 X)
           (first | exact ⟨m0,m1,m2,hbx⟩ | exact ⟨m0,m1,m2,hbx.drew⟩)
           (first
            | (go_at_call 15;with_reducible (refine Calls.mono (HTB.out _ ?hb) ?_);(case hb=>first | exact hbx | exact hbx.drew);rintro e w7 ⟨V7,rfl,ht7,hb7⟩;have hbx:Below w3.heap.size w3 w7:=(by first | exact jaa hbx hb7 | exact jaa hbx.drew hb7);obtain ⟨m0,m1,m2⟩:=HM2.out _ hbx)
            | (go_at_call 14;with_reducible (refine Calls.mono (HS2.out _ _ ?i1 ?i2) ?_);(case i1=>exact ht7);(case i2=>first | exact hbx | exact hbx.drew);rintro e w8 ⟨bb,rfl,hbb,hb8⟩;have hbx:Below w3.heap.size w3 w8:=(by first | exact jaa hbx hb8 | exact jaa hbx.drew hb8);obtain ⟨m0,m1,m2⟩:=HM2.out _ hbx)
            | fail)
          all_goals
           go_wp2;go_meet;exact ⟨bb,rfl,hbb,by first | exact hbx | exact hbx.drew⟩
         case rest =>
          obtain ⟨bb,rfl,hbb,hbw⟩:=hcut;cases bb with
          | true =>
           have e:t2=t':=hbb.out.1 rfl;subst e;have h:=HX.out.later HL.out hbw.out;have hf1:=h.cells (g:=b1) (V:=V1) (t:=t) (by simp);have hf2:=h.cells (g:=b2) (V:=V2) (t:=t2) (by simp);obtain ⟨d0,d1,d2⟩:=jai hf1;obtain ⟨e0,e1,e2⟩:=jai hf2;have r0:=frozen_of_row _ _ 0 _ _ hf1;have r1:=frozen_of_row _ _ 1 _ _ hf1;have r2:=frozen_of_row _ _ 2 _ _ hf1;have HP4:=Lib.hid (h.put HL.out (g:=b2) (k:=b1) (V:=V2) (t:=t2) (V':=V1) (t':=t) (by simp) (by simp) (ms':=[(b1,V2,t2),(b2,V2,t2)]) (by simp [hne.symm]));clear h hf1 hf2 HTB HM1 HM2 HS1 HS2 HX hbb hbw HT2
           go_upto_region 42 with fail
           obtain ⟨X4,hX4⟩:∃ X,X=(((wc.setCell ⟨b1,0,none⟩ (.slice V2.A1 t2.ts.length V2.c1)).setCell ⟨b1,1,none⟩ (.slice V2.A2 t2.vs.length V2.c2)).setCell ⟨b1,2,none⟩ (.slice V2.A3 t2.os.length V2.c3)):=⟨_,rfl⟩;rw [<- hX4] at HP4 ⊢;clear d0 d1 d2 e0 e1 e2 r0 r1 r2 hX4;have hf1:=HP4.out.cells (g:=b1) (V:=V2) (t:=t2) (by simp);have hf2:=HP4.out.cells (g:=b2) (V:=V2) (t:=t2) (by simp);obtain ⟨d0,d1,d2⟩:=jai hf1;obtain ⟨e0,e1,e2⟩:=jai hf2;have r0:=frozen_of_row _ _ 0 _ _ hf2;have r1:=frozen_of_row _ _ 1 _ _ hf2;have r2:=frozen_of_row _ _ 2 _ _ hf2;have HP5:=Lib.hid (HP4.out.put HL.out (g:=b1) (k:=b2) (V:=V2) (t:=t2) (V':=V2) (t':=t2) (by simp) (by simp) (ms':=[(b1,V2,t2),(b2,V2,t2)]) (by simp [hne]));clear hf1 hf2 HP4;go_wp2;go_meet;exact ⟨q3,false,rfl,rfl,rfl,V2,t2,V2,t2,by first | (with_reducible refine HP5.out.up ?_;omega) | (with_reducible refine (HP5.out.drew HL.out).up ?_;omega)⟩
          | false =>
           have e:t=t2:=(HT2.out.resolve_right fun e=>by have:=hbb.out.2 e;cases this).symm;subst e;clear HM2 HS2 HT2 hbb
           go_upto_region 40 with fail
           go_cut [144] from 140 to 144 (fun vb wx=>vb=.bool false/\Hid (Below w3.heap.size w3 wx))
           case first =>
            have hbx:=hbw.out;obtain ⟨m0,m1,m2⟩:=HM1.out _ hbx
            go_region_held3 (fun X=>X.cell? ⟨b1,0,none⟩=some (.slice V1.A1 t.ts.length V1.c1)/\X.cell? ⟨b1,1,none⟩=some (.slice V1.A2 t.vs.length V1.c2)/\X.cell? ⟨b1,2,none⟩=some (.slice V1.A3 t.os.length V1.c3)/\Below w3.heap.size w3 X)
             (first | exact ⟨m0,m1,m2,hbx⟩ | exact ⟨m0,m1,m2,hbx.drew⟩)
             (first
              | (go_at_call 15;with_reducible (refine Calls.mono (HTB.out _ ?hb) ?_);(case hb=>first | exact hbx | exact hbx.drew);rintro e w7 ⟨V7,rfl,ht7,hb7⟩;have hbx:Below w3.heap.size w3 w7:=(by first | exact jaa hbx hb7 | exact jaa hbx.drew hb7);obtain ⟨m0,m1,m2⟩:=HM1.out _ hbx)
              | (go_at_call 14;with_reducible (refine Calls.mono (HS1.out _ _ ?i1 ?i2) ?_);(case i1=>exact ht7);(case i2=>first | exact hbx | exact hbx.drew);rintro e w8 ⟨bb,rfl,hbb,hb8⟩;obtain rfl:bb=true:=(by first | exact hbb.2 rfl | exact hbb.2 trivial);have hbx:Below w3.heap.size w3 w8:=(by first | exact jaa hbx hb8 | exact jaa hbx.drew hb8);obtain ⟨m0,m1,m2⟩:=HM1.out _ hbx)
              | fail)
            all_goals
             go_wp2;go_meet;exact ⟨rfl,by first | exact hbx | exact hbx.drew⟩
           case rest =>
            obtain ⟨rfl,hb2⟩:=hcut;have h:=HX.out.later HL.out hb2.out;have hf1:=h.cells (g:=b1) (V:=V1) (t:=t) (by simp);have hf2:=h.cells (g:=b2) (V:=V2) (t:=t') (by simp);obtain ⟨d0,d1,d2⟩:=jai hf1;obtain ⟨e0,e1,e2⟩:=jai hf2;have r0:=frozen_of_row _ _ 0 _ _ hf2;have r1:=frozen_of_row _ _ 1 _ _ hf2;have r2:=frozen_of_row _ _ 2 _ _ hf2;have HP5:=Lib.hid (h.put HL.out (g:=b1) (k:=b2) (V:=V1) (t:=t) (V':=V2) (t':=t') (by simp) (by simp) (ms':=[(b1,V1,t),(b2,V1,t)]) (by simp [hne]));clear h hf1 hf2 HTB HM1 HS1 HX hbw hb2;go_wp2;go_meet;exact ⟨q3,false,rfl,rfl,rfl,V1,t,V1,t,by first | (with_reducible refine HP5.out.up ?_;omega) | (with_reducible refine (HP5.out.drew HL.out).up ?_;omega)⟩
        ·go_wp2;go_meet;exact ⟨q,dead,rfl,rfl,rfl,V1,t,V2,t',HQ.out.up (by omega)⟩
     case rest =>
      clear HQ z0 z1 z2 z3 HOK;obtain ⟨q,dead,rfl,rfl,rfl,hR2⟩:=hcut;obtain ⟨V1,t,V2,t',hP⟩:=hR2.out;clear hR2;cases dead with
      | true =>
       have HP2:=Lib.hid hP;clear hP;have hbx:=Below.refl wc.heap.size wc
       go_upto_region 44 with fail
       go_quiet (fail)
       go_wp2;go_roundw
       case rel=>exact ⟨q,true,j + 1,by omega,by omega,rfl,rfl,rfl,by go_num,V1,t,V2,t',by refine (HP2.out.later HL.out (jiS _ _)).up ?_;omega⟩
       case measure=>simp [intOf];omega
      | false =>
       have HTB:Hid (∀ X,Below wc.heap.size wc X->Calls Tryz.prog 15 #[.pointer (some ⟨q,0,none⟩)] X fun e w'=>∃ V':jat,e=.returned (.agg #[.slice V'.A1 t.ts.length V'.c1,.slice V'.A2 t.vs.length V'.c2,.slice V'.A3 t.os.length V'.c3])/\jao w' w'.heap.size V' t/\Below X.heap.size X w'):=fun X hb=>jj1 HL.out (hP.later HL.out hb)
       have HM:Hid (∀ X,Below wc.heap.size wc X->_):=fun X hb=>jai ((hP.later HL.out hb).cells (g:=b1) (V:=V1) (t:=t) (List.mem_cons_self ..))
       have HSM:Hid (∀ (V':jat) X,jao X X.heap.size V' t->Below wc.heap.size wc X->Calls Tryz.prog 14 #[.agg #[.slice V'.A1 t.ts.length V'.c1,.slice V'.A2 t.vs.length V'.c2,.slice V'.A3 t.os.length V'.c3],.agg #[.slice V1.A1 t.ts.length V1.c1,.slice V1.A2 t.vs.length V1.c2,.slice V1.A3 t.os.length V1.c3]] X fun e w'=>e=.returned (.bool true)/\Below X.heap.size X w'):=fun V' X h1 hb=>by
        have h2:=(hP.later HL.out hb).tab (g:=b1) (V:=V1) (t:=t) (List.mem_cons_self ..);exact (jje V' V1 t t X h1 h2.1 h2.2 h2.2).mono fun e w' ⟨b,r1,r2,r3⟩=>⟨by rw [r1,r2.2 rfl],r3⟩
       have HP2:=Lib.hid hP;have hbx:=Below.refl wc.heap.size wc;obtain ⟨m0,m1,m2⟩:=HM.out _ hbx;clear hP
       go_upto_region 44 with fail
       go_region_held3 (fun X=>X.cell? ⟨b1,0,none⟩=some (.slice V1.A1 t.ts.length V1.c1)/\X.cell? ⟨b1,1,none⟩=some (.slice V1.A2 t.vs.length V1.c2)/\X.cell? ⟨b1,2,none⟩=some (.slice V1.A3 t.os.length V1.c3)/\Below wc.heap.size wc X)
        (first | exact ⟨m0,m1,m2,hbx⟩ | exact ⟨m0,m1,m2,hbx.drew⟩)
        (first
         | (go_at_call 15;with_reducible (refine Calls.mono (HTB.out _ ?hb) ?_);(case hb=>first | exact hbx | exact hbx.drew);rintro e w7 ⟨V7,rfl,ht7,hb7⟩;have hbx:Below wc.heap.size wc w7:=(by first | exact jaa hbx hb7 | exact jaa hbx.drew hb7);obtain ⟨m0,m1,m2⟩:=HM.out _ hbx)
         | (go_at_call 14;with_reducible (refine Calls.mono (HSM.out _ _ ?i1 ?i2) ?_);(case i1=>exact ht7);(case i2=>first | exact hbx | exact hbx.drew);rintro e w8 ⟨rfl,hb8⟩;have hbx:Below wc.heap.size wc w8:=(by first | exact jaa hbx hb8 | exact jaa hbx.drew hb8);obtain ⟨m0,m1,m2⟩:=HM.out _ hbx)
         | fail)
       all_goals
        go_wp2;go_roundw
        case rel=>exact ⟨q,false,j + 1,by omega,by omega,rfl,rfl,rfl,by go_num,V1,t,V2,t',by first | (with_reducible refine (HP2.out.later HL.out hbx).up ?_;omega) | (with_reducible refine ((HP2.out.later HL.out hbx).drew HL.out).up ?_;omega)⟩
        case measure=>simp [intOf];omega
    ·have k2:¬ (j:Int) < 60:=by omega
     obtain ⟨V1,t,V2,t',hP⟩:=hR.out;have HB:=Lib.hid hP.below;clear hP;go_wp2;go_ret;exact ⟨rfl,HB.out⟩
   ·have k1:¬ (j:Int) < (N:Int):=by omega
    obtain ⟨V1,t,V2,t',hP⟩:=hR.out;have HB:=Lib.hid hP.below;clear hP;go_wp2;go_ret;exact ⟨rfl,HB.out⟩
end
end Go.Proofs.YtbnhkplhmanmoaaGreat
