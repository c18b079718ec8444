/- . -/
import Derived.Test.YtbnhkplhmanmoaaGreatTkG
import Derived.Test.YtbnhkplhmanmoaaGreatTableCpG
import Derived.Deep.RegionHeld3
namespace Go.Proofs.YtbnhkplhmanmoaaGreat
open Go.RowKit
set_option maxHeartbeats 6400000
set_option maxRecDepth 20000
theorem jap {P:Program} {fn:Func} {p:Tmp} {ty:TypeId} (h:fn.results=#[.cell p ty]) (tmps:Array Value) (w:World) (g:Nat) (t:TypeId) (cs:Array Value) (fr:Nat × Nat) (d:TypeDesc)
  (hp:tmps.getD p undef=.pointer (some ⟨g,0,none⟩)) (hg:w.heap[g]? = some (.cells cs t fr))
  (hu:P.underlying ty=some d) (hd:(match d with | .struct _ | .array _ _=>true | _=>false)=true) (hi:(P.info? ty).map (·.size)=some cs.size) :
  (results fn tmps).run P w=.ok (.agg cs) w:=by
 have hp':tmps[p]?.getD undef=.pointer (some ⟨g,0,none⟩):=by simpa using hp
 simp [results,h,hp',asAddr,run_loadVar_row w g t ty cs fr d hg hu hd hi]
theorem jjs {w:World} {t:Tab} (A1:Option Addr) (c1:Nat) (A2:Option Addr) (c2:Nat) (A3:Option Addr) (c3:Nat) (h:jao w w.heap.size ⟨A1,c1,A2,c2,A3,c3⟩ t) (hs:t.sound) :
  Calls Tryz.prog 28 #[.agg #[.slice A1 t.ts.length c1,.slice A2 t.vs.length c2,.slice A3 t.os.length c3]] w fun e w'=>∃ V',e=.returned (.agg (jan V' t))/\jaw w.heap.size w' V' t/\Below w.heap.size w w':=by
 obtain ⟨n1,n2,n3⟩:=jam hs;obtain ⟨W0,hW0⟩:∃ W,W=((w.alloc (.cells #[.slice A1 t.ts.length c1,.slice A2 t.vs.length c2,.slice A3 t.os.length c3] 35)).alloc (.cells #[.slice none 0 0,.slice none 0 0,.slice none 0 0] 35)):=⟨_,rfl⟩;have hb0:Below w.heap.size w (w.alloc (.cells #[.slice A1 t.ts.length c1,.slice A2 t.vs.length c2,.slice A3 t.os.length c3] 35)):=(Below.refl _ _).alloc (Nat.le_refl _) _;have hb1:=hb0.alloc hb0.size (.cells #[.slice none 0 0,.slice none 0 0,.slice none 0 0] 35);have hs0:(w.alloc (.cells #[.slice A1 t.ts.length c1,.slice A2 t.vs.length c2,.slice A3 t.os.length c3] 35)).heap.size=w.heap.size + 1:=by simp
 have hg1:=heap_alloc_new (w.alloc (.cells #[.slice A1 t.ts.length c1,.slice A2 t.vs.length c2,.slice A3 t.os.length c3] 35)) (.cells #[.slice none 0 0,.slice none 0 0,.slice none 0 0] 35);have hg0:(((w.alloc (.cells #[.slice A1 t.ts.length c1,.slice A2 t.vs.length c2,.slice A3 t.os.length c3] 35)).alloc (.cells #[.slice none 0 0,.slice none 0 0,.slice none 0 0] 35))).heap[w.heap.size]? = _:=(Below.heap_alloc _ _ _ (by rw [hs0];omega)).trans (heap_alloc_new w (.cells #[.slice A1 t.ts.length c1,.slice A2 t.vs.length c2,.slice A3 t.os.length c3] 35));rw [hs0] at hg1;have hsz:W0.heap.size=w.heap.size + 1 + 1:=by rw [hW0];simp
 rw [<- hW0] at hb1 hg1 hg0;obtain ⟨N1,HL1⟩:∃ N,Hid (t.ts.length=N):=⟨_,rfl⟩;obtain ⟨N2,HL2⟩:∃ N,Hid (t.vs.length=N):=⟨_,rfl⟩;obtain ⟨N3,HL3⟩:∃ N,Hid (t.os.length=N):=⟨_,rfl⟩;have HT:Hid (∀ X,Below W0.heap.size W0 X->jao X X.heap.size ⟨A1,c1,A2,c2,A3,c3⟩ t):=fun X hb=>(h.below (jaa hb1 hb)).more (jaa hb1 hb).size
 have HTAB:=HT;rw [HL1.out,HL2.out,HL3.out] at hW0 hg0 ⊢;rw [HL1.out] at n1;rw [HL2.out] at n2;rw [HL3.out] at n3;have HW0:=Lib.hid hW0;obtain ⟨X0,HX0⟩:∃ X,Hid (X=W0.drew):=⟨_,rfl⟩;have HBX:Hid (Below W0.heap.size W0 X0):=by rw [HX0.out];exact (Below.refl _ _).drew
 have HS:Hid (∀ X,Below X0.heap.size X0 X->X.cell? ⟨w.heap.size,0,none⟩=some (.slice A1 N1 c1)/\X.cell? ⟨w.heap.size,1,none⟩=some (.slice A2 N2 c2)/\X.cell? ⟨w.heap.size,2,none⟩=some (.slice A3 N3 c3)):=fun X hb=>jai (((jaa HBX.out hb).block _ (by omega)).trans hg0)
 have HR0:Hid (∀ X,Below X0.heap.size X0 X->X.heap[w.heap.size + 1]? = some (.cells #[.slice none 0 0,.slice none 0 0,.slice none 0 0] 35 (0,0))):=fun X hb=>((jaa HBX.out hb).block _ (by omega)).trans hg1
 have HRES:Hid (∀ X,Below X0.heap.size X0 X->(X.cell? ⟨w.heap.size + 1,0,none⟩=some (.slice none 0 0)/\X.cell? ⟨w.heap.size + 1,1,none⟩=some (.slice none 0 0)/\X.cell? ⟨w.heap.size + 1,2,none⟩=some (.slice none 0 0))/\X.frozen? ⟨w.heap.size + 1,0,none⟩=false/\X.frozen? ⟨w.heap.size + 1,1,none⟩=false/\X.frozen? ⟨w.heap.size + 1,2,none⟩=false):=fun X hb=>⟨jjf (HR0.out X hb),frozen_of_row _ _ 0 _ _ (HR0.out X hb),frozen_of_row _ _ 1 _ _ (HR0.out X hb),frozen_of_row _ _ 2 _ _ (HR0.out X hb)⟩
 have hszx:w.heap.size + 1 + 1<=X0.heap.size:=by have:=HBX.out.size;omega
 have HEND:Hid (∀ X (B1:Option Addr) (d1:Nat) (B2:Option Addr) (d2:Nat) (B3:Option Addr) (d3:Nat),Cp X0 X ⟨B1,d1,B2,d2,B3,d3⟩ ⟨t.ts,t.vs,t.os⟩->∃ Z,Z=((X.setCell ⟨w.heap.size + 1,0,none⟩ (.slice B1 N1 d1)).setCell ⟨w.heap.size + 1,1,none⟩ (.slice B2 N2 d2)).setCell ⟨w.heap.size + 1,2,none⟩ (.slice B3 N3 d3) /\
   (Z.cell? ⟨w.heap.size,0,none⟩=some (.slice A1 N1 c1)/\Z.cell? ⟨w.heap.size,1,none⟩=some (.slice A2 N2 c2)/\Z.cell? ⟨w.heap.size,2,none⟩=some (.slice A3 N3 c3))/\Z.heap[w.heap.size + 1]? = some (.cells #[.slice B1 N1 d1,.slice B2 N2 d2,.slice B3 N3 d3] 35 (0,0)) /\
   ∀ e:Ending,e=.returned (.agg #[.slice B1 N1 d1,.slice B2 N2 d2,.slice B3 N3 d3])->∃ V',e=.returned (.agg (jan V' t))/\jaw w.heap.size Z V' t/\Below w.heap.size w Z):=fun X B1 d1 B2 d2 B3 d3 C=>by
  refine ⟨_,rfl,?_⟩;obtain ⟨Z,hZ⟩:∃ Z,Z=((X.setCell ⟨w.heap.size + 1,0,none⟩ (.slice B1 N1 d1)).setCell ⟨w.heap.size + 1,1,none⟩ (.slice B2 N2 d2)).setCell ⟨w.heap.size + 1,2,none⟩ (.slice B3 N3 d3):=⟨_,rfl⟩;rw [<- hZ];obtain ⟨q1,q2⟩:=jd4 (.slice B1 N1 d1) (.slice B2 N2 d2) (.slice B3 N3 d3) (HR0.out X C.below);rw [<- hZ] at q1 q2;have hbX:=jaa hb1 (jaa HBX.out C.below);refine ⟨jai (((q2.block _ (by have:=C.le;omega) (fun q=>by injection q with q;omega)).trans ((jaa HBX.out C.below).block _ (by omega))).trans hg0),q1,fun e he=>⟨⟨B1,d1,B2,d2,B3,d3⟩,?_,?_,?_⟩⟩
  ·rw [he];unfold jan;rw [HL1.out,HL2.out,HL3.out]
  ·have r:=C.rows;have r2:jaw w.heap.size X ⟨B1,d1,B2,d2,B3,d3⟩ t:=⟨jdE r.ts (by omega),jdE r.vs (by omega),jdE r.os (by omega),r.a12,r.a13,r.a23⟩;refine r2.grown q2 (fun b hb e=>?_) (fun b hb e=>?_) (fun b hb e=>?_)
   ·injection e with e;have:=(jaU r.ts b hb).1;omega
   ·injection e with e;have:=(jaU r.vs b hb).1;omega
   ·injection e with e;have:=(jaU r.os b hb).1;omega
  ·exact jae hbX q2 hbX.size (by omega)
 obtain ⟨iT,hi1,hz10,hz11,hz12⟩:=info_parts Tryz.infoTenD;obtain ⟨iV,hi2,hz20,hz21,hz22⟩:=info_parts Tryz.infoVolD;obtain ⟨iO,hi3,hz30,hz31,hz32⟩:=info_parts Tryz.infoIntD;have HFL1:Hid ((jaE jbP t.ts).length=N1 * 6):=by show _=_;rw [jaY jaF,HL1.out]
 have HFL2:Hid ((jaE jb1 t.vs).length=N2 * 4):=by show _=_;rw [jaY jaG,HL2.out]
 have HFL3:Hid ((jaE jiy t.os).length=N3 * 1):=by show _=_;rw [jaY jbS,HL3.out]
 have HON1:=Lib.hid (jcm jbT t.ts);have HON2:=Lib.hid (jcm jbQ t.vs);have HON3:=Lib.hid (jcm jjX t.os);have HSRC1:Hid (∀ X,Below X0.heap.size X0 X->Src X A1 N1 (jaE jbP t.ts)):=fun X hb=>by rw [<- HL1.out];exact jnb (HT.out X (jaa HBX.out hb)).ts
 have HSRC2:Hid (∀ X,Below X0.heap.size X0 X->Src X A2 N2 (jaE jb1 t.vs)):=fun X hb=>by rw [<- HL2.out];exact jm9 (HT.out X (jaa HBX.out hb)).vs
 have HSRC3:Hid (∀ X,Below X0.heap.size X0 X->Src X A3 N3 (jaE jiy t.os)):=fun X hb=>by rw [<- HL3.out];exact jnY (HT.out X (jaa HBX.out hb)).os
 clear h hs hW0 hb0 hb1 hg0 hg1 hs0 hsz hszx HT HTAB;go_enter Tryz.func28,Tryz.ntmps28
 go_wp2_with (first
  | (rw [<- HW0.out];clear HW0))
 refine wp_region_held_drew (S:=(fun W=>W.cell? ⟨w.heap.size,0,none⟩=some (.slice A1 N1 c1)/\W.cell? ⟨w.heap.size,1,none⟩=some (.slice A2 N2 c2)/\W.cell? ⟨w.heap.size,2,none⟩=some (.slice A3 N3 c3))) (by kernel_rfl) (by rw [<- HX0.out];exact HS.out X0 (Below.refl _ _)) (fun hHeld=>?_);rw [<- HX0.out] at hHeld ⊢;have C0:=Cp.start X0;refine tkS 1 4 (v:=?_) ?_ ?_
 rotate_left 1
 ·intro w hSw;obtain ⟨S0,S1,S2⟩:=hSw;first | (go_simp;done) | (go_simp;with_reducible rfl)
 (try simp only [Act.put,tk1,tk2,tk3])
 refine tkS 2 5 (v:=?_) ?_ ?_
 rotate_left 1
 ·intro w hSw;obtain ⟨S0,S1,S2⟩:=hSw;first | (go_simp;done) | (go_simp;with_reducible rfl)
 (try simp only [Act.put,tk1,tk2,tk3])
 refine tkS 5 8 (v:=?_) ?_ ?_
 rotate_left 1
 ·intro w hSw;obtain ⟨S0,S1,S2⟩:=hSw;first | (go_simp;done) | (go_simp;with_reducible rfl)
 (try simp only [Act.put,tk1,tk2,tk3])
 refine tkS 6 9 (v:=?_) ?_ ?_
 rotate_left 1
 ·intro w hSw;obtain ⟨S0,S1,S2⟩:=hSw;first | (go_simp;done) | (go_simp;with_reducible rfl)
 (try simp only [Act.put,tk1,tk2,tk3])
 refine tkS 9 12 (v:=?_) ?_ ?_
 rotate_left 1
 ·intro w hSw;obtain ⟨S0,S1,S2⟩:=hSw;first | (go_simp;done) | (go_simp;with_reducible rfl)
 (try simp only [Act.put,tk1,tk2,tk3])
 refine tkS 10 13 (v:=?_) ?_ ?_
 rotate_left 1
 ·intro w hSw;obtain ⟨S0,S1,S2⟩:=hSw;first | (go_simp;done) | (go_simp;with_reducible rfl)
 (try simp only [Act.put,tk1,tk2,tk3])
 refine wpAnyH_ready (rs:=[0,4,8]) (by kernel_rfl) (by simp) ?_;refine AllReadyH.cons (o:=_) rfl (fun K hK=>?_) (AllReadyH.cons (o:=_) rfl (fun K hK=>?_) (AllReadyH.cons (o:=_) rfl (fun K hK=>?_) (AllReadyH.nil)))
 ·go_simp
  have C1:=C0.bT;obtain ⟨X1,hX⟩:∃ Y,Y=X0.alloc (.cells #[] 52):=⟨_,rfl⟩;obtain ⟨b1,hb⟩:∃ b,b=X0.heap.size:=⟨_,rfl⟩;rw [<- hX,<- hb] at C1 ⊢;clear hX hb C0;refine hK.out _ _ (HS.out _ C1.below) (fun hHeld1=>?_);clear hK K;refine wpAnyH_ready (rs:=[3,4,8]) (by kernel_rfl) (by simp) ?_;refine AllReadyH.cons (o:=_) rfl (fun K hK=>?_) (AllReadyH.cons (o:=_) rfl (fun K hK=>?_) (AllReadyH.cons (o:=_) rfl (fun K hK=>?_) (AllReadyH.nil)))
  ·refine jac _ rfl _ _ 32 rfl X0.heap.size 52 iT (.agg #[.int .i64 0,.int .i64 0,.int .i64 0,.int .i64 0,.string ⟨#[]⟩,.bool false]) 6 56 Tryz.underlying32 hi1 hz10 hz11 hz12 rfl (by decide) b1 rfl C1.rows.ts A1 N1 c1 _ rfl HFL1.out (HSRC1.out _ C1.below) HON1.out (by unfold maxLen;omega) (by omega) C1.le ?_;intro A1x c1x X2 hrow hg hA;have C2:=C1.aT hrow HL1.out hg hA;clear hrow hg hA C1;refine hK.out _ _ (HS.out _ C2.below) (fun hHeld2=>?_);change wpAnyH _ _ _ _ _ _ _ (Act.put _ (some 6) _) _
   (try simp only [Act.put,tk1,tk2,tk3])
   clear hK K;refine wpAnyH_ready (rs:=[4,8]) (by kernel_rfl) (by simp) ?_;refine AllReadyH.cons (o:=_) rfl (fun K hK=>?_) (AllReadyH.cons (o:=_) rfl (fun K hK=>?_) (AllReadyH.nil))
   ·go_simp
    have C3:=C2.bV;obtain ⟨X3,hX⟩:∃ Y,Y=X2.alloc (.cells #[] 82):=⟨_,rfl⟩;obtain ⟨b2,hb⟩:∃ b,b=X2.heap.size:=⟨_,rfl⟩;rw [<- hX,<- hb] at C3 ⊢;clear hX hb C2;refine hK.out _ _ (HS.out _ C3.below) (fun hHeld3=>?_);clear hK K;refine wpAnyH_ready (rs:=[7,8]) (by kernel_rfl) (by simp) ?_;refine AllReadyH.cons (o:=_) rfl (fun K hK=>?_) (AllReadyH.cons (o:=_) rfl (fun K hK=>?_) (AllReadyH.nil))
    ·refine jac _ rfl _ _ 33 rfl X0.heap.size 82 iV (.agg #[.int .i64 0,.int .i64 0,.int .i64 0,.int .i64 0]) 4 32 Tryz.underlying33 hi2 hz20 hz21 hz22 rfl (by decide) b2 rfl C3.rows.vs A2 N2 c2 _ rfl HFL2.out (HSRC2.out _ C3.below) HON2.out (by unfold maxLen;omega) (by omega) C3.le ?_;intro A2x c2x X4 hrow hg hA;have C4:=C3.aV hrow HL2.out hg hA;clear hrow hg hA C3;refine hK.out _ _ (HS.out _ C4.below) (fun hHeld4=>?_);change wpAnyH _ _ _ _ _ _ _ (Act.put _ (some 10) _) _
     (try simp only [Act.put,tk1,tk2,tk3])
     clear hK K;refine wpAnyH_ready (rs:=[8]) (by kernel_rfl) (by simp) ?_;refine AllReadyH.cons (o:=_) rfl (fun K hK=>?_) (AllReadyH.nil)
     ·go_simp
      have C5:=C4.bO;obtain ⟨X5,hX⟩:∃ Y,Y=X4.alloc (.cells #[] 3):=⟨_,rfl⟩;obtain ⟨b3,hb⟩:∃ b,b=X4.heap.size:=⟨_,rfl⟩;rw [<- hX,<- hb] at C5 ⊢;clear hX hb C4;refine hK.out _ _ (HS.out _ C5.below) (fun hHeld5=>?_);clear hK K;refine wpAnyH_ready (rs:=[11]) (by kernel_rfl) (by simp) ?_;refine AllReadyH.cons (o:=_) rfl (fun K hK=>?_) (AllReadyH.nil)
      ·refine jac _ rfl _ _ 31 rfl X0.heap.size 3 iO (.int .i64 0) 1 8 Tryz.underlying31 hi3 hz30 hz31 hz32 rfl (by decide) b3 rfl C5.rows.os A3 N3 c3 _ rfl HFL3.out (HSRC3.out _ C5.below) HON3.out (by unfold maxLen;omega) (by omega) C5.le ?_;intro A3x c3x X6 hrow hg hA;have C6:=C5.aO hrow HL3.out hg hA;clear hrow hg hA C5;refine hK.out _ _ (HS.out _ C6.below) (fun hHeld6=>?_);change wpAnyH _ _ _ _ _ _ _ (Act.put _ (some 14) _) _
       (try simp only [Act.put,tk1,tk2,tk3])
       clear hK K;refine tk 12 15 ?_
       (try simp only [Act.put,tk1,tk2,tk3])
       obtain ⟨⟨s0,s1,s2⟩,sf0,sf1,sf2⟩:=HRES.out X6 C6.below;obtain ⟨Z,hZ,k0,k1,k2⟩:=HEND.out _ _ _ _ _ _ _ C6;refine wpAnyH_ready (rs:=[13]) (by kernel_rfl) (by simp) ?_;refine AllReadyH.cons (o:=_) rfl (fun K hK=>?_) AllReadyH.nil
       go_simp
       rw [<- hZ];refine hK.out _ _ k0 (fun hHeldE=>?_);clear hK K s0 s1 s2 sf0 sf1 sf2 hZ k0;refine wpAnyH_done (by kernel_rfl) ?_ _;go_wp2;refine bodyPost_ret (jap rfl _ _ (w.heap.size + 1) _ _ _ _ rfl k1 Tryz.underlying35 rfl (by kernel_rfl)) rfl ?_;exact k2 _ rfl
    ·go_simp
     have C7:=C3.bO;obtain ⟨X7,hX⟩:∃ Y,Y=X3.alloc (.cells #[] 3):=⟨_,rfl⟩;obtain ⟨b3,hb⟩:∃ b,b=X3.heap.size:=⟨_,rfl⟩;rw [<- hX,<- hb] at C7 ⊢;clear hX hb C3;refine hK.out _ _ (HS.out _ C7.below) (fun hHeld7=>?_);clear hK K;refine wpAnyH_ready (rs:=[7]) (by kernel_rfl) (by simp) ?_;refine AllReadyH.cons (o:=_) rfl (fun K hK=>?_) (AllReadyH.nil)
     ·refine jac _ rfl _ _ 33 rfl X0.heap.size 82 iV (.agg #[.int .i64 0,.int .i64 0,.int .i64 0,.int .i64 0]) 4 32 Tryz.underlying33 hi2 hz20 hz21 hz22 rfl (by decide) b2 rfl C7.rows.vs A2 N2 c2 _ rfl HFL2.out (HSRC2.out _ C7.below) HON2.out (by unfold maxLen;omega) (by omega) C7.le ?_;intro A2x c2x X8 hrow hg hA;have C8:=C7.aV hrow HL2.out hg hA;clear hrow hg hA C7;refine hK.out _ _ (HS.out _ C8.below) (fun hHeld8=>?_);change wpAnyH _ _ _ _ _ _ _ (Act.put _ (some 10) _) _
      (try simp only [Act.put,tk1,tk2,tk3])
      clear hK K;refine wpAnyH_ready (rs:=[11]) (by kernel_rfl) (by simp) ?_;refine AllReadyH.cons (o:=_) rfl (fun K hK=>?_) (AllReadyH.nil)
      ·refine jac _ rfl _ _ 31 rfl X0.heap.size 3 iO (.int .i64 0) 1 8 Tryz.underlying31 hi3 hz30 hz31 hz32 rfl (by decide) b3 rfl C8.rows.os A3 N3 c3 _ rfl HFL3.out (HSRC3.out _ C8.below) HON3.out (by unfold maxLen;omega) (by omega) C8.le ?_;intro A3x c3x X9 hrow hg hA;have C9:=C8.aO hrow HL3.out hg hA;clear hrow hg hA C8;refine hK.out _ _ (HS.out _ C9.below) (fun hHeld9=>?_);change wpAnyH _ _ _ _ _ _ _ (Act.put _ (some 14) _) _
       (try simp only [Act.put,tk1,tk2,tk3])
       clear hK K;refine tk 12 15 ?_
       (try simp only [Act.put,tk1,tk2,tk3])
       obtain ⟨⟨s0,s1,s2⟩,sf0,sf1,sf2⟩:=HRES.out X9 C9.below;obtain ⟨Z,hZ,k0,k1,k2⟩:=HEND.out _ _ _ _ _ _ _ C9;refine wpAnyH_ready (rs:=[13]) (by kernel_rfl) (by simp) ?_;refine AllReadyH.cons (o:=_) rfl (fun K hK=>?_) AllReadyH.nil
       go_simp
       rw [<- hZ];refine hK.out _ _ k0 (fun hHeldE=>?_);clear hK K s0 s1 s2 sf0 sf1 sf2 hZ k0;refine wpAnyH_done (by kernel_rfl) ?_ _;go_wp2;refine bodyPost_ret (jap rfl _ _ (w.heap.size + 1) _ _ _ _ rfl k1 Tryz.underlying35 rfl (by kernel_rfl)) rfl ?_;exact k2 _ rfl
   ·go_simp
    have C10:=C2.bO;obtain ⟨X10,hX⟩:∃ Y,Y=X2.alloc (.cells #[] 3):=⟨_,rfl⟩;obtain ⟨b3,hb⟩:∃ b,b=X2.heap.size:=⟨_,rfl⟩;rw [<- hX,<- hb] at C10 ⊢;clear hX hb C2;refine hK.out _ _ (HS.out _ C10.below) (fun hHeld10=>?_);clear hK K;refine wpAnyH_ready (rs:=[4]) (by kernel_rfl) (by simp) ?_;refine AllReadyH.cons (o:=_) rfl (fun K hK=>?_) (AllReadyH.nil)
    ·go_simp
     have C11:=C10.bV;obtain ⟨X11,hX⟩:∃ Y,Y=X10.alloc (.cells #[] 82):=⟨_,rfl⟩;obtain ⟨b2,hb⟩:∃ b,b=X10.heap.size:=⟨_,rfl⟩;rw [<- hX,<- hb] at C11 ⊢;clear hX hb C10;refine hK.out _ _ (HS.out _ C11.below) (fun hHeld11=>?_);clear hK K;refine wpAnyH_ready (rs:=[7]) (by kernel_rfl) (by simp) ?_;refine AllReadyH.cons (o:=_) rfl (fun K hK=>?_) (AllReadyH.nil)
     ·refine jac _ rfl _ _ 33 rfl X0.heap.size 82 iV (.agg #[.int .i64 0,.int .i64 0,.int .i64 0,.int .i64 0]) 4 32 Tryz.underlying33 hi2 hz20 hz21 hz22 rfl (by decide) b2 rfl C11.rows.vs A2 N2 c2 _ rfl HFL2.out (HSRC2.out _ C11.below) HON2.out (by unfold maxLen;omega) (by omega) C11.le ?_;intro A2x c2x X12 hrow hg hA;have C12:=C11.aV hrow HL2.out hg hA;clear hrow hg hA C11;refine hK.out _ _ (HS.out _ C12.below) (fun hHeld12=>?_);change wpAnyH _ _ _ _ _ _ _ (Act.put _ (some 10) _) _
      (try simp only [Act.put,tk1,tk2,tk3])
      clear hK K;refine wpAnyH_ready (rs:=[11]) (by kernel_rfl) (by simp) ?_;refine AllReadyH.cons (o:=_) rfl (fun K hK=>?_) (AllReadyH.nil)
      ·refine jac _ rfl _ _ 31 rfl X0.heap.size 3 iO (.int .i64 0) 1 8 Tryz.underlying31 hi3 hz30 hz31 hz32 rfl (by decide) b3 rfl C12.rows.os A3 N3 c3 _ rfl HFL3.out (HSRC3.out _ C12.below) HON3.out (by unfold maxLen;omega) (by omega) C12.le ?_;intro A3x c3x X13 hrow hg hA;have C13:=C12.aO hrow HL3.out hg hA;clear hrow hg hA C12;refine hK.out _ _ (HS.out _ C13.below) (fun hHeld13=>?_);change wpAnyH _ _ _ _ _ _ _ (Act.put _ (some 14) _) _
       (try simp only [Act.put,tk1,tk2,tk3])
       clear hK K;refine tk 12 15 ?_
       (try simp only [Act.put,tk1,tk2,tk3])
       obtain ⟨⟨s0,s1,s2⟩,sf0,sf1,sf2⟩:=HRES.out X13 C13.below;obtain ⟨Z,hZ,k0,k1,k2⟩:=HEND.out _ _ _ _ _ _ _ C13;refine wpAnyH_ready (rs:=[13]) (by kernel_rfl) (by simp) ?_;refine AllReadyH.cons (o:=_) rfl (fun K hK=>?_) AllReadyH.nil
       go_simp
       rw [<- hZ];refine hK.out _ _ k0 (fun hHeldE=>?_);clear hK K s0 s1 s2 sf0 sf1 sf2 hZ k0;refine wpAnyH_done (by kernel_rfl) ?_ _;go_wp2;refine bodyPost_ret (jap rfl _ _ (w.heap.size + 1) _ _ _ _ rfl k1 Tryz.underlying35 rfl (by kernel_rfl)) rfl ?_;exact k2 _ rfl
  ·go_simp
   have C14:=C1.bV;obtain ⟨X14,hX⟩:∃ Y,Y=X1.alloc (.cells #[] 82):=⟨_,rfl⟩;obtain ⟨b2,hb⟩:∃ b,b=X1.heap.size:=⟨_,rfl⟩;rw [<- hX,<- hb] at C14 ⊢;clear hX hb C1;refine hK.out _ _ (HS.out _ C14.below) (fun hHeld14=>?_);clear hK K;refine wpAnyH_ready (rs:=[3,8]) (by kernel_rfl) (by simp) ?_;refine AllReadyH.cons (o:=_) rfl (fun K hK=>?_) (AllReadyH.cons (o:=_) rfl (fun K hK=>?_) (AllReadyH.nil))
   ·refine jac _ rfl _ _ 32 rfl X0.heap.size 52 iT (.agg #[.int .i64 0,.int .i64 0,.int .i64 0,.int .i64 0,.string ⟨#[]⟩,.bool false]) 6 56 Tryz.underlying32 hi1 hz10 hz11 hz12 rfl (by decide) b1 rfl C14.rows.ts A1 N1 c1 _ rfl HFL1.out (HSRC1.out _ C14.below) HON1.out (by unfold maxLen;omega) (by omega) C14.le ?_;intro A1x c1x X15 hrow hg hA;have C15:=C14.aT hrow HL1.out hg hA;clear hrow hg hA C14;refine hK.out _ _ (HS.out _ C15.below) (fun hHeld15=>?_);change wpAnyH _ _ _ _ _ _ _ (Act.put _ (some 6) _) _
    (try simp only [Act.put,tk1,tk2,tk3])
    clear hK K;refine wpAnyH_ready (rs:=[7,8]) (by kernel_rfl) (by simp) ?_;refine AllReadyH.cons (o:=_) rfl (fun K hK=>?_) (AllReadyH.cons (o:=_) rfl (fun K hK=>?_) (AllReadyH.nil))
    ·refine jac _ rfl _ _ 33 rfl X0.heap.size 82 iV (.agg #[.int .i64 0,.int .i64 0,.int .i64 0,.int .i64 0]) 4 32 Tryz.underlying33 hi2 hz20 hz21 hz22 rfl (by decide) b2 rfl C15.rows.vs A2 N2 c2 _ rfl HFL2.out (HSRC2.out _ C15.below) HON2.out (by unfold maxLen;omega) (by omega) C15.le ?_;intro A2x c2x X16 hrow hg hA;have C16:=C15.aV hrow HL2.out hg hA;clear hrow hg hA C15;refine hK.out _ _ (HS.out _ C16.below) (fun hHeld16=>?_);change wpAnyH _ _ _ _ _ _ _ (Act.put _ (some 10) _) _
     (try simp only [Act.put,tk1,tk2,tk3])
     clear hK K;refine wpAnyH_ready (rs:=[8]) (by kernel_rfl) (by simp) ?_;refine AllReadyH.cons (o:=_) rfl (fun K hK=>?_) (AllReadyH.nil)
     ·go_simp
      have C17:=C16.bO;obtain ⟨X17,hX⟩:∃ Y,Y=X16.alloc (.cells #[] 3):=⟨_,rfl⟩;obtain ⟨b3,hb⟩:∃ b,b=X16.heap.size:=⟨_,rfl⟩;rw [<- hX,<- hb] at C17 ⊢;clear hX hb C16;refine hK.out _ _ (HS.out _ C17.below) (fun hHeld17=>?_);clear hK K;refine wpAnyH_ready (rs:=[11]) (by kernel_rfl) (by simp) ?_;refine AllReadyH.cons (o:=_) rfl (fun K hK=>?_) (AllReadyH.nil)
      ·refine jac _ rfl _ _ 31 rfl X0.heap.size 3 iO (.int .i64 0) 1 8 Tryz.underlying31 hi3 hz30 hz31 hz32 rfl (by decide) b3 rfl C17.rows.os A3 N3 c3 _ rfl HFL3.out (HSRC3.out _ C17.below) HON3.out (by unfold maxLen;omega) (by omega) C17.le ?_;intro A3x c3x X18 hrow hg hA;have C18:=C17.aO hrow HL3.out hg hA;clear hrow hg hA C17;refine hK.out _ _ (HS.out _ C18.below) (fun hHeld18=>?_);change wpAnyH _ _ _ _ _ _ _ (Act.put _ (some 14) _) _
       (try simp only [Act.put,tk1,tk2,tk3])
       clear hK K;refine tk 12 15 ?_
       (try simp only [Act.put,tk1,tk2,tk3])
       obtain ⟨⟨s0,s1,s2⟩,sf0,sf1,sf2⟩:=HRES.out X18 C18.below;obtain ⟨Z,hZ,k0,k1,k2⟩:=HEND.out _ _ _ _ _ _ _ C18;refine wpAnyH_ready (rs:=[13]) (by kernel_rfl) (by simp) ?_;refine AllReadyH.cons (o:=_) rfl (fun K hK=>?_) AllReadyH.nil
       go_simp
       rw [<- hZ];refine hK.out _ _ k0 (fun hHeldE=>?_);clear hK K s0 s1 s2 sf0 sf1 sf2 hZ k0;refine wpAnyH_done (by kernel_rfl) ?_ _;go_wp2;refine bodyPost_ret (jap rfl _ _ (w.heap.size + 1) _ _ _ _ rfl k1 Tryz.underlying35 rfl (by kernel_rfl)) rfl ?_;exact k2 _ rfl
    ·go_simp
     have C19:=C15.bO;obtain ⟨X19,hX⟩:∃ Y,Y=X15.alloc (.cells #[] 3):=⟨_,rfl⟩;obtain ⟨b3,hb⟩:∃ b,b=X15.heap.size:=⟨_,rfl⟩;rw [<- hX,<- hb] at C19 ⊢;clear hX hb C15;refine hK.out _ _ (HS.out _ C19.below) (fun hHeld19=>?_);clear hK K;refine wpAnyH_ready (rs:=[7]) (by kernel_rfl) (by simp) ?_;refine AllReadyH.cons (o:=_) rfl (fun K hK=>?_) (AllReadyH.nil)
     ·refine jac _ rfl _ _ 33 rfl X0.heap.size 82 iV (.agg #[.int .i64 0,.int .i64 0,.int .i64 0,.int .i64 0]) 4 32 Tryz.underlying33 hi2 hz20 hz21 hz22 rfl (by decide) b2 rfl C19.rows.vs A2 N2 c2 _ rfl HFL2.out (HSRC2.out _ C19.below) HON2.out (by unfold maxLen;omega) (by omega) C19.le ?_;intro A2x c2x X20 hrow hg hA;have C20:=C19.aV hrow HL2.out hg hA;clear hrow hg hA C19;refine hK.out _ _ (HS.out _ C20.below) (fun hHeld20=>?_);change wpAnyH _ _ _ _ _ _ _ (Act.put _ (some 10) _) _
      (try simp only [Act.put,tk1,tk2,tk3])
      clear hK K;refine wpAnyH_ready (rs:=[11]) (by kernel_rfl) (by simp) ?_;refine AllReadyH.cons (o:=_) rfl (fun K hK=>?_) (AllReadyH.nil)
      ·refine jac _ rfl _ _ 31 rfl X0.heap.size 3 iO (.int .i64 0) 1 8 Tryz.underlying31 hi3 hz30 hz31 hz32 rfl (by decide) b3 rfl C20.rows.os A3 N3 c3 _ rfl HFL3.out (HSRC3.out _ C20.below) HON3.out (by unfold maxLen;omega) (by omega) C20.le ?_;intro A3x c3x X21 hrow hg hA;have C21:=C20.aO hrow HL3.out hg hA;clear hrow hg hA C20;refine hK.out _ _ (HS.out _ C21.below) (fun hHeld21=>?_);change wpAnyH _ _ _ _ _ _ _ (Act.put _ (some 14) _) _
       (try simp only [Act.put,tk1,tk2,tk3])
       clear hK K;refine tk 12 15 ?_
       (try simp only [Act.put,tk1,tk2,tk3])
       obtain ⟨⟨s0,s1,s2⟩,sf0,sf1,sf2⟩:=HRES.out X21 C21.below;obtain ⟨Z,hZ,k0,k1,k2⟩:=HEND.out _ _ _ _ _ _ _ C21;refine wpAnyH_ready (rs:=[13]) (by kernel_rfl) (by simp) ?_;refine AllReadyH.cons (o:=_) rfl (fun K hK=>?_) AllReadyH.nil
       go_simp
       rw [<- hZ];refine hK.out _ _ k0 (fun hHeldE=>?_);clear hK K s0 s1 s2 sf0 sf1 sf2 hZ k0;refine wpAnyH_done (by kernel_rfl) ?_ _;go_wp2;refine bodyPost_ret (jap rfl _ _ (w.heap.size + 1) _ _ _ _ rfl k1 Tryz.underlying35 rfl (by kernel_rfl)) rfl ?_;exact k2 _ rfl
   ·go_simp
    have C22:=C14.bO;obtain ⟨X22,hX⟩:∃ Y,Y=X14.alloc (.cells #[] 3):=⟨_,rfl⟩;obtain ⟨b3,hb⟩:∃ b,b=X14.heap.size:=⟨_,rfl⟩;rw [<- hX,<- hb] at C22 ⊢;clear hX hb C14;refine hK.out _ _ (HS.out _ C22.below) (fun hHeld22=>?_);clear hK K;refine wpAnyH_ready (rs:=[3]) (by kernel_rfl) (by simp) ?_;refine AllReadyH.cons (o:=_) rfl (fun K hK=>?_) (AllReadyH.nil)
    ·refine jac _ rfl _ _ 32 rfl X0.heap.size 52 iT (.agg #[.int .i64 0,.int .i64 0,.int .i64 0,.int .i64 0,.string ⟨#[]⟩,.bool false]) 6 56 Tryz.underlying32 hi1 hz10 hz11 hz12 rfl (by decide) b1 rfl C22.rows.ts A1 N1 c1 _ rfl HFL1.out (HSRC1.out _ C22.below) HON1.out (by unfold maxLen;omega) (by omega) C22.le ?_;intro A1x c1x X23 hrow hg hA;have C23:=C22.aT hrow HL1.out hg hA;clear hrow hg hA C22;refine hK.out _ _ (HS.out _ C23.below) (fun hHeld23=>?_);change wpAnyH _ _ _ _ _ _ _ (Act.put _ (some 6) _) _
     (try simp only [Act.put,tk1,tk2,tk3])
     clear hK K;refine wpAnyH_ready (rs:=[7]) (by kernel_rfl) (by simp) ?_;refine AllReadyH.cons (o:=_) rfl (fun K hK=>?_) (AllReadyH.nil)
     ·refine jac _ rfl _ _ 33 rfl X0.heap.size 82 iV (.agg #[.int .i64 0,.int .i64 0,.int .i64 0,.int .i64 0]) 4 32 Tryz.underlying33 hi2 hz20 hz21 hz22 rfl (by decide) b2 rfl C23.rows.vs A2 N2 c2 _ rfl HFL2.out (HSRC2.out _ C23.below) HON2.out (by unfold maxLen;omega) (by omega) C23.le ?_;intro A2x c2x X24 hrow hg hA;have C24:=C23.aV hrow HL2.out hg hA;clear hrow hg hA C23;refine hK.out _ _ (HS.out _ C24.below) (fun hHeld24=>?_);change wpAnyH _ _ _ _ _ _ _ (Act.put _ (some 10) _) _
      (try simp only [Act.put,tk1,tk2,tk3])
      clear hK K;refine wpAnyH_ready (rs:=[11]) (by kernel_rfl) (by simp) ?_;refine AllReadyH.cons (o:=_) rfl (fun K hK=>?_) (AllReadyH.nil)
      ·refine jac _ rfl _ _ 31 rfl X0.heap.size 3 iO (.int .i64 0) 1 8 Tryz.underlying31 hi3 hz30 hz31 hz32 rfl (by decide) b3 rfl C24.rows.os A3 N3 c3 _ rfl HFL3.out (HSRC3.out _ C24.below) HON3.out (by unfold maxLen;omega) (by omega) C24.le ?_;intro A3x c3x X25 hrow hg hA;have C25:=C24.aO hrow HL3.out hg hA;clear hrow hg hA C24;refine hK.out _ _ (HS.out _ C25.below) (fun hHeld25=>?_);change wpAnyH _ _ _ _ _ _ _ (Act.put _ (some 14) _) _
       (try simp only [Act.put,tk1,tk2,tk3])
       clear hK K;refine tk 12 15 ?_
       (try simp only [Act.put,tk1,tk2,tk3])
       obtain ⟨⟨s0,s1,s2⟩,sf0,sf1,sf2⟩:=HRES.out X25 C25.below;obtain ⟨Z,hZ,k0,k1,k2⟩:=HEND.out _ _ _ _ _ _ _ C25;refine wpAnyH_ready (rs:=[13]) (by kernel_rfl) (by simp) ?_;refine AllReadyH.cons (o:=_) rfl (fun K hK=>?_) AllReadyH.nil
       go_simp
       rw [<- hZ];refine hK.out _ _ k0 (fun hHeldE=>?_);clear hK K s0 s1 s2 sf0 sf1 sf2 hZ k0;refine wpAnyH_done (by kernel_rfl) ?_ _;go_wp2;refine bodyPost_ret (jap rfl _ _ (w.heap.size + 1) _ _ _ _ rfl k1 Tryz.underlying35 rfl (by kernel_rfl)) rfl ?_;exact k2 _ rfl
  ·go_simp
   have C26:=C1.bO;obtain ⟨X26,hX⟩:∃ Y,Y=X1.alloc (.cells #[] 3):=⟨_,rfl⟩;obtain ⟨b3,hb⟩:∃ b,b=X1.heap.size:=⟨_,rfl⟩;rw [<- hX,<- hb] at C26 ⊢;clear hX hb C1;refine hK.out _ _ (HS.out _ C26.below) (fun hHeld26=>?_);clear hK K;refine wpAnyH_ready (rs:=[3,4]) (by kernel_rfl) (by simp) ?_;refine AllReadyH.cons (o:=_) rfl (fun K hK=>?_) (AllReadyH.cons (o:=_) rfl (fun K hK=>?_) (AllReadyH.nil))
   ·refine jac _ rfl _ _ 32 rfl X0.heap.size 52 iT (.agg #[.int .i64 0,.int .i64 0,.int .i64 0,.int .i64 0,.string ⟨#[]⟩,.bool false]) 6 56 Tryz.underlying32 hi1 hz10 hz11 hz12 rfl (by decide) b1 rfl C26.rows.ts A1 N1 c1 _ rfl HFL1.out (HSRC1.out _ C26.below) HON1.out (by unfold maxLen;omega) (by omega) C26.le ?_;intro A1x c1x X27 hrow hg hA;have C27:=C26.aT hrow HL1.out hg hA;clear hrow hg hA C26;refine hK.out _ _ (HS.out _ C27.below) (fun hHeld27=>?_);change wpAnyH _ _ _ _ _ _ _ (Act.put _ (some 6) _) _
    (try simp only [Act.put,tk1,tk2,tk3])
    clear hK K;refine wpAnyH_ready (rs:=[4]) (by kernel_rfl) (by simp) ?_;refine AllReadyH.cons (o:=_) rfl (fun K hK=>?_) (AllReadyH.nil)
    ·go_simp
     have C28:=C27.bV;obtain ⟨X28,hX⟩:∃ Y,Y=X27.alloc (.cells #[] 82):=⟨_,rfl⟩;obtain ⟨b2,hb⟩:∃ b,b=X27.heap.size:=⟨_,rfl⟩;rw [<- hX,<- hb] at C28 ⊢;clear hX hb C27;refine hK.out _ _ (HS.out _ C28.below) (fun hHeld28=>?_);clear hK K;refine wpAnyH_ready (rs:=[7]) (by kernel_rfl) (by simp) ?_;refine AllReadyH.cons (o:=_) rfl (fun K hK=>?_) (AllReadyH.nil)
     ·refine jac _ rfl _ _ 33 rfl X0.heap.size 82 iV (.agg #[.int .i64 0,.int .i64 0,.int .i64 0,.int .i64 0]) 4 32 Tryz.underlying33 hi2 hz20 hz21 hz22 rfl (by decide) b2 rfl C28.rows.vs A2 N2 c2 _ rfl HFL2.out (HSRC2.out _ C28.below) HON2.out (by unfold maxLen;omega) (by omega) C28.le ?_;intro A2x c2x X29 hrow hg hA;have C29:=C28.aV hrow HL2.out hg hA;clear hrow hg hA C28;refine hK.out _ _ (HS.out _ C29.below) (fun hHeld29=>?_);change wpAnyH _ _ _ _ _ _ _ (Act.put _ (some 10) _) _
      (try simp only [Act.put,tk1,tk2,tk3])
      clear hK K;refine wpAnyH_ready (rs:=[11]) (by kernel_rfl) (by simp) ?_;refine AllReadyH.cons (o:=_) rfl (fun K hK=>?_) (AllReadyH.nil)
      ·refine jac _ rfl _ _ 31 rfl X0.heap.size 3 iO (.int .i64 0) 1 8 Tryz.underlying31 hi3 hz30 hz31 hz32 rfl (by decide) b3 rfl C29.rows.os A3 N3 c3 _ rfl HFL3.out (HSRC3.out _ C29.below) HON3.out (by unfold maxLen;omega) (by omega) C29.le ?_;intro A3x c3x X30 hrow hg hA;have C30:=C29.aO hrow HL3.out hg hA;clear hrow hg hA C29;refine hK.out _ _ (HS.out _ C30.below) (fun hHeld30=>?_);change wpAnyH _ _ _ _ _ _ _ (Act.put _ (some 14) _) _
       (try simp only [Act.put,tk1,tk2,tk3])
       clear hK K;refine tk 12 15 ?_
       (try simp only [Act.put,tk1,tk2,tk3])
       obtain ⟨⟨s0,s1,s2⟩,sf0,sf1,sf2⟩:=HRES.out X30 C30.below;obtain ⟨Z,hZ,k0,k1,k2⟩:=HEND.out _ _ _ _ _ _ _ C30;refine wpAnyH_ready (rs:=[13]) (by kernel_rfl) (by simp) ?_;refine AllReadyH.cons (o:=_) rfl (fun K hK=>?_) AllReadyH.nil
       go_simp
       rw [<- hZ];refine hK.out _ _ k0 (fun hHeldE=>?_);clear hK K s0 s1 s2 sf0 sf1 sf2 hZ k0;refine wpAnyH_done (by kernel_rfl) ?_ _;go_wp2;refine bodyPost_ret (jap rfl _ _ (w.heap.size + 1) _ _ _ _ rfl k1 Tryz.underlying35 rfl (by kernel_rfl)) rfl ?_;exact k2 _ rfl
   ·go_simp
    have C31:=C26.bV;obtain ⟨X31,hX⟩:∃ Y,Y=X26.alloc (.cells #[] 82):=⟨_,rfl⟩;obtain ⟨b2,hb⟩:∃ b,b=X26.heap.size:=⟨_,rfl⟩;rw [<- hX,<- hb] at C31 ⊢;clear hX hb C26;refine hK.out _ _ (HS.out _ C31.below) (fun hHeld31=>?_);clear hK K;refine wpAnyH_ready (rs:=[3]) (by kernel_rfl) (by simp) ?_;refine AllReadyH.cons (o:=_) rfl (fun K hK=>?_) (AllReadyH.nil)
    ·refine jac _ rfl _ _ 32 rfl X0.heap.size 52 iT (.agg #[.int .i64 0,.int .i64 0,.int .i64 0,.int .i64 0,.string ⟨#[]⟩,.bool false]) 6 56 Tryz.underlying32 hi1 hz10 hz11 hz12 rfl (by decide) b1 rfl C31.rows.ts A1 N1 c1 _ rfl HFL1.out (HSRC1.out _ C31.below) HON1.out (by unfold maxLen;omega) (by omega) C31.le ?_;intro A1x c1x X32 hrow hg hA;have C32:=C31.aT hrow HL1.out hg hA;clear hrow hg hA C31;refine hK.out _ _ (HS.out _ C32.below) (fun hHeld32=>?_);change wpAnyH _ _ _ _ _ _ _ (Act.put _ (some 6) _) _
     (try simp only [Act.put,tk1,tk2,tk3])
     clear hK K;refine wpAnyH_ready (rs:=[7]) (by kernel_rfl) (by simp) ?_;refine AllReadyH.cons (o:=_) rfl (fun K hK=>?_) (AllReadyH.nil)
     ·refine jac _ rfl _ _ 33 rfl X0.heap.size 82 iV (.agg #[.int .i64 0,.int .i64 0,.int .i64 0,.int .i64 0]) 4 32 Tryz.underlying33 hi2 hz20 hz21 hz22 rfl (by decide) b2 rfl C32.rows.vs A2 N2 c2 _ rfl HFL2.out (HSRC2.out _ C32.below) HON2.out (by unfold maxLen;omega) (by omega) C32.le ?_;intro A2x c2x X33 hrow hg hA;have C33:=C32.aV hrow HL2.out hg hA;clear hrow hg hA C32;refine hK.out _ _ (HS.out _ C33.below) (fun hHeld33=>?_);change wpAnyH _ _ _ _ _ _ _ (Act.put _ (some 10) _) _
      (try simp only [Act.put,tk1,tk2,tk3])
      clear hK K;refine wpAnyH_ready (rs:=[11]) (by kernel_rfl) (by simp) ?_;refine AllReadyH.cons (o:=_) rfl (fun K hK=>?_) (AllReadyH.nil)
      ·refine jac _ rfl _ _ 31 rfl X0.heap.size 3 iO (.int .i64 0) 1 8 Tryz.underlying31 hi3 hz30 hz31 hz32 rfl (by decide) b3 rfl C33.rows.os A3 N3 c3 _ rfl HFL3.out (HSRC3.out _ C33.below) HON3.out (by unfold maxLen;omega) (by omega) C33.le ?_;intro A3x c3x X34 hrow hg hA;have C34:=C33.aO hrow HL3.out hg hA;clear hrow hg hA C33;refine hK.out _ _ (HS.out _ C34.below) (fun hHeld34=>?_);change wpAnyH _ _ _ _ _ _ _ (Act.put _ (some 14) _) _
       (try simp only [Act.put,tk1,tk2,tk3])
       clear hK K;refine tk 12 15 ?_
       (try simp only [Act.put,tk1,tk2,tk3])
       obtain ⟨⟨s0,s1,s2⟩,sf0,sf1,sf2⟩:=HRES.out X34 C34.below;obtain ⟨Z,hZ,k0,k1,k2⟩:=HEND.out _ _ _ _ _ _ _ C34;refine wpAnyH_ready (rs:=[13]) (by kernel_rfl) (by simp) ?_;refine AllReadyH.cons (o:=_) rfl (fun K hK=>?_) AllReadyH.nil
       go_simp
       rw [<- hZ];refine hK.out _ _ k0 (fun hHeldE=>?_);clear hK K s0 s1 s2 sf0 sf1 sf2 hZ k0;refine wpAnyH_done (by kernel_rfl) ?_ _;go_wp2;refine bodyPost_ret (jap rfl _ _ (w.heap.size + 1) _ _ _ _ rfl k1 Tryz.underlying35 rfl (by kernel_rfl)) rfl ?_;exact k2 _ rfl
 ·go_simp
  have C35:=C0.bV;obtain ⟨X35,hX⟩:∃ Y,Y=X0.alloc (.cells #[] 82):=⟨_,rfl⟩;obtain ⟨b2,hb⟩:∃ b,b=X0.heap.size:=⟨_,rfl⟩;rw [<- hX,<- hb] at C35 ⊢;clear hX hb C0;refine hK.out _ _ (HS.out _ C35.below) (fun hHeld35=>?_);clear hK K;refine wpAnyH_ready (rs:=[0,8]) (by kernel_rfl) (by simp) ?_;refine AllReadyH.cons (o:=_) rfl (fun K hK=>?_) (AllReadyH.cons (o:=_) rfl (fun K hK=>?_) (AllReadyH.nil))
  ·go_simp
   have C36:=C35.bT;obtain ⟨X36,hX⟩:∃ Y,Y=X35.alloc (.cells #[] 52):=⟨_,rfl⟩;obtain ⟨b1,hb⟩:∃ b,b=X35.heap.size:=⟨_,rfl⟩;rw [<- hX,<- hb] at C36 ⊢;clear hX hb C35;refine hK.out _ _ (HS.out _ C36.below) (fun hHeld36=>?_);clear hK K;refine wpAnyH_ready (rs:=[3,8]) (by kernel_rfl) (by simp) ?_;refine AllReadyH.cons (o:=_) rfl (fun K hK=>?_) (AllReadyH.cons (o:=_) rfl (fun K hK=>?_) (AllReadyH.nil))
   ·refine jac _ rfl _ _ 32 rfl X0.heap.size 52 iT (.agg #[.int .i64 0,.int .i64 0,.int .i64 0,.int .i64 0,.string ⟨#[]⟩,.bool false]) 6 56 Tryz.underlying32 hi1 hz10 hz11 hz12 rfl (by decide) b1 rfl C36.rows.ts A1 N1 c1 _ rfl HFL1.out (HSRC1.out _ C36.below) HON1.out (by unfold maxLen;omega) (by omega) C36.le ?_;intro A1x c1x X37 hrow hg hA;have C37:=C36.aT hrow HL1.out hg hA;clear hrow hg hA C36;refine hK.out _ _ (HS.out _ C37.below) (fun hHeld37=>?_);change wpAnyH _ _ _ _ _ _ _ (Act.put _ (some 6) _) _
    (try simp only [Act.put,tk1,tk2,tk3])
    clear hK K;refine wpAnyH_ready (rs:=[7,8]) (by kernel_rfl) (by simp) ?_;refine AllReadyH.cons (o:=_) rfl (fun K hK=>?_) (AllReadyH.cons (o:=_) rfl (fun K hK=>?_) (AllReadyH.nil))
    ·refine jac _ rfl _ _ 33 rfl X0.heap.size 82 iV (.agg #[.int .i64 0,.int .i64 0,.int .i64 0,.int .i64 0]) 4 32 Tryz.underlying33 hi2 hz20 hz21 hz22 rfl (by decide) b2 rfl C37.rows.vs A2 N2 c2 _ rfl HFL2.out (HSRC2.out _ C37.below) HON2.out (by unfold maxLen;omega) (by omega) C37.le ?_;intro A2x c2x X38 hrow hg hA;have C38:=C37.aV hrow HL2.out hg hA;clear hrow hg hA C37;refine hK.out _ _ (HS.out _ C38.below) (fun hHeld38=>?_);change wpAnyH _ _ _ _ _ _ _ (Act.put _ (some 10) _) _
     (try simp only [Act.put,tk1,tk2,tk3])
     clear hK K;refine wpAnyH_ready (rs:=[8]) (by kernel_rfl) (by simp) ?_;refine AllReadyH.cons (o:=_) rfl (fun K hK=>?_) (AllReadyH.nil)
     ·go_simp
      have C39:=C38.bO;obtain ⟨X39,hX⟩:∃ Y,Y=X38.alloc (.cells #[] 3):=⟨_,rfl⟩;obtain ⟨b3,hb⟩:∃ b,b=X38.heap.size:=⟨_,rfl⟩;rw [<- hX,<- hb] at C39 ⊢;clear hX hb C38;refine hK.out _ _ (HS.out _ C39.below) (fun hHeld39=>?_);clear hK K;refine wpAnyH_ready (rs:=[11]) (by kernel_rfl) (by simp) ?_;refine AllReadyH.cons (o:=_) rfl (fun K hK=>?_) (AllReadyH.nil)
      ·refine jac _ rfl _ _ 31 rfl X0.heap.size 3 iO (.int .i64 0) 1 8 Tryz.underlying31 hi3 hz30 hz31 hz32 rfl (by decide) b3 rfl C39.rows.os A3 N3 c3 _ rfl HFL3.out (HSRC3.out _ C39.below) HON3.out (by unfold maxLen;omega) (by omega) C39.le ?_;intro A3x c3x X40 hrow hg hA;have C40:=C39.aO hrow HL3.out hg hA;clear hrow hg hA C39;refine hK.out _ _ (HS.out _ C40.below) (fun hHeld40=>?_);change wpAnyH _ _ _ _ _ _ _ (Act.put _ (some 14) _) _
       (try simp only [Act.put,tk1,tk2,tk3])
       clear hK K;refine tk 12 15 ?_
       (try simp only [Act.put,tk1,tk2,tk3])
       obtain ⟨⟨s0,s1,s2⟩,sf0,sf1,sf2⟩:=HRES.out X40 C40.below;obtain ⟨Z,hZ,k0,k1,k2⟩:=HEND.out _ _ _ _ _ _ _ C40;refine wpAnyH_ready (rs:=[13]) (by kernel_rfl) (by simp) ?_;refine AllReadyH.cons (o:=_) rfl (fun K hK=>?_) AllReadyH.nil
       go_simp
       rw [<- hZ];refine hK.out _ _ k0 (fun hHeldE=>?_);clear hK K s0 s1 s2 sf0 sf1 sf2 hZ k0;refine wpAnyH_done (by kernel_rfl) ?_ _;go_wp2;refine bodyPost_ret (jap rfl _ _ (w.heap.size + 1) _ _ _ _ rfl k1 Tryz.underlying35 rfl (by kernel_rfl)) rfl ?_;exact k2 _ rfl
    ·go_simp
     have C41:=C37.bO;obtain ⟨X41,hX⟩:∃ Y,Y=X37.alloc (.cells #[] 3):=⟨_,rfl⟩;obtain ⟨b3,hb⟩:∃ b,b=X37.heap.size:=⟨_,rfl⟩;rw [<- hX,<- hb] at C41 ⊢;clear hX hb C37;refine hK.out _ _ (HS.out _ C41.below) (fun hHeld41=>?_);clear hK K;refine wpAnyH_ready (rs:=[7]) (by kernel_rfl) (by simp) ?_;refine AllReadyH.cons (o:=_) rfl (fun K hK=>?_) (AllReadyH.nil)
     ·refine jac _ rfl _ _ 33 rfl X0.heap.size 82 iV (.agg #[.int .i64 0,.int .i64 0,.int .i64 0,.int .i64 0]) 4 32 Tryz.underlying33 hi2 hz20 hz21 hz22 rfl (by decide) b2 rfl C41.rows.vs A2 N2 c2 _ rfl HFL2.out (HSRC2.out _ C41.below) HON2.out (by unfold maxLen;omega) (by omega) C41.le ?_;intro A2x c2x X42 hrow hg hA;have C42:=C41.aV hrow HL2.out hg hA;clear hrow hg hA C41;refine hK.out _ _ (HS.out _ C42.below) (fun hHeld42=>?_);change wpAnyH _ _ _ _ _ _ _ (Act.put _ (some 10) _) _
      (try simp only [Act.put,tk1,tk2,tk3])
      clear hK K;refine wpAnyH_ready (rs:=[11]) (by kernel_rfl) (by simp) ?_;refine AllReadyH.cons (o:=_) rfl (fun K hK=>?_) (AllReadyH.nil)
      ·refine jac _ rfl _ _ 31 rfl X0.heap.size 3 iO (.int .i64 0) 1 8 Tryz.underlying31 hi3 hz30 hz31 hz32 rfl (by decide) b3 rfl C42.rows.os A3 N3 c3 _ rfl HFL3.out (HSRC3.out _ C42.below) HON3.out (by unfold maxLen;omega) (by omega) C42.le ?_;intro A3x c3x X43 hrow hg hA;have C43:=C42.aO hrow HL3.out hg hA;clear hrow hg hA C42;refine hK.out _ _ (HS.out _ C43.below) (fun hHeld43=>?_);change wpAnyH _ _ _ _ _ _ _ (Act.put _ (some 14) _) _
       (try simp only [Act.put,tk1,tk2,tk3])
       clear hK K;refine tk 12 15 ?_
       (try simp only [Act.put,tk1,tk2,tk3])
       obtain ⟨⟨s0,s1,s2⟩,sf0,sf1,sf2⟩:=HRES.out X43 C43.below;obtain ⟨Z,hZ,k0,k1,k2⟩:=HEND.out _ _ _ _ _ _ _ C43;refine wpAnyH_ready (rs:=[13]) (by kernel_rfl) (by simp) ?_;refine AllReadyH.cons (o:=_) rfl (fun K hK=>?_) AllReadyH.nil
       go_simp
       rw [<- hZ];refine hK.out _ _ k0 (fun hHeldE=>?_);clear hK K s0 s1 s2 sf0 sf1 sf2 hZ k0;refine wpAnyH_done (by kernel_rfl) ?_ _;go_wp2;refine bodyPost_ret (jap rfl _ _ (w.heap.size + 1) _ _ _ _ rfl k1 Tryz.underlying35 rfl (by kernel_rfl)) rfl ?_;exact k2 _ rfl
   ·go_simp
    have C44:=C36.bO;obtain ⟨X44,hX⟩:∃ Y,Y=X36.alloc (.cells #[] 3):=⟨_,rfl⟩;obtain ⟨b3,hb⟩:∃ b,b=X36.heap.size:=⟨_,rfl⟩;rw [<- hX,<- hb] at C44 ⊢;clear hX hb C36;refine hK.out _ _ (HS.out _ C44.below) (fun hHeld44=>?_);clear hK K;refine wpAnyH_ready (rs:=[3]) (by kernel_rfl) (by simp) ?_;refine AllReadyH.cons (o:=_) rfl (fun K hK=>?_) (AllReadyH.nil)
    ·refine jac _ rfl _ _ 32 rfl X0.heap.size 52 iT (.agg #[.int .i64 0,.int .i64 0,.int .i64 0,.int .i64 0,.string ⟨#[]⟩,.bool false]) 6 56 Tryz.underlying32 hi1 hz10 hz11 hz12 rfl (by decide) b1 rfl C44.rows.ts A1 N1 c1 _ rfl HFL1.out (HSRC1.out _ C44.below) HON1.out (by unfold maxLen;omega) (by omega) C44.le ?_;intro A1x c1x X45 hrow hg hA;have C45:=C44.aT hrow HL1.out hg hA;clear hrow hg hA C44;refine hK.out _ _ (HS.out _ C45.below) (fun hHeld45=>?_);change wpAnyH _ _ _ _ _ _ _ (Act.put _ (some 6) _) _
     (try simp only [Act.put,tk1,tk2,tk3])
     clear hK K;refine wpAnyH_ready (rs:=[7]) (by kernel_rfl) (by simp) ?_;refine AllReadyH.cons (o:=_) rfl (fun K hK=>?_) (AllReadyH.nil)
     ·refine jac _ rfl _ _ 33 rfl X0.heap.size 82 iV (.agg #[.int .i64 0,.int .i64 0,.int .i64 0,.int .i64 0]) 4 32 Tryz.underlying33 hi2 hz20 hz21 hz22 rfl (by decide) b2 rfl C45.rows.vs A2 N2 c2 _ rfl HFL2.out (HSRC2.out _ C45.below) HON2.out (by unfold maxLen;omega) (by omega) C45.le ?_;intro A2x c2x X46 hrow hg hA;have C46:=C45.aV hrow HL2.out hg hA;clear hrow hg hA C45;refine hK.out _ _ (HS.out _ C46.below) (fun hHeld46=>?_);change wpAnyH _ _ _ _ _ _ _ (Act.put _ (some 10) _) _
      (try simp only [Act.put,tk1,tk2,tk3])
      clear hK K;refine wpAnyH_ready (rs:=[11]) (by kernel_rfl) (by simp) ?_;refine AllReadyH.cons (o:=_) rfl (fun K hK=>?_) (AllReadyH.nil)
      ·refine jac _ rfl _ _ 31 rfl X0.heap.size 3 iO (.int .i64 0) 1 8 Tryz.underlying31 hi3 hz30 hz31 hz32 rfl (by decide) b3 rfl C46.rows.os A3 N3 c3 _ rfl HFL3.out (HSRC3.out _ C46.below) HON3.out (by unfold maxLen;omega) (by omega) C46.le ?_;intro A3x c3x X47 hrow hg hA;have C47:=C46.aO hrow HL3.out hg hA;clear hrow hg hA C46;refine hK.out _ _ (HS.out _ C47.below) (fun hHeld47=>?_);change wpAnyH _ _ _ _ _ _ _ (Act.put _ (some 14) _) _
       (try simp only [Act.put,tk1,tk2,tk3])
       clear hK K;refine tk 12 15 ?_
       (try simp only [Act.put,tk1,tk2,tk3])
       obtain ⟨⟨s0,s1,s2⟩,sf0,sf1,sf2⟩:=HRES.out X47 C47.below;obtain ⟨Z,hZ,k0,k1,k2⟩:=HEND.out _ _ _ _ _ _ _ C47;refine wpAnyH_ready (rs:=[13]) (by kernel_rfl) (by simp) ?_;refine AllReadyH.cons (o:=_) rfl (fun K hK=>?_) AllReadyH.nil
       go_simp
       rw [<- hZ];refine hK.out _ _ k0 (fun hHeldE=>?_);clear hK K s0 s1 s2 sf0 sf1 sf2 hZ k0;refine wpAnyH_done (by kernel_rfl) ?_ _;go_wp2;refine bodyPost_ret (jap rfl _ _ (w.heap.size + 1) _ _ _ _ rfl k1 Tryz.underlying35 rfl (by kernel_rfl)) rfl ?_;exact k2 _ rfl
  ·go_simp
   have C48:=C35.bO;obtain ⟨X48,hX⟩:∃ Y,Y=X35.alloc (.cells #[] 3):=⟨_,rfl⟩;obtain ⟨b3,hb⟩:∃ b,b=X35.heap.size:=⟨_,rfl⟩;rw [<- hX,<- hb] at C48 ⊢;clear hX hb C35;refine hK.out _ _ (HS.out _ C48.below) (fun hHeld48=>?_);clear hK K;refine wpAnyH_ready (rs:=[0]) (by kernel_rfl) (by simp) ?_;refine AllReadyH.cons (o:=_) rfl (fun K hK=>?_) (AllReadyH.nil)
   ·go_simp
    have C49:=C48.bT;obtain ⟨X49,hX⟩:∃ Y,Y=X48.alloc (.cells #[] 52):=⟨_,rfl⟩;obtain ⟨b1,hb⟩:∃ b,b=X48.heap.size:=⟨_,rfl⟩;rw [<- hX,<- hb] at C49 ⊢;clear hX hb C48;refine hK.out _ _ (HS.out _ C49.below) (fun hHeld49=>?_);clear hK K;refine wpAnyH_ready (rs:=[3]) (by kernel_rfl) (by simp) ?_;refine AllReadyH.cons (o:=_) rfl (fun K hK=>?_) (AllReadyH.nil)
    ·refine jac _ rfl _ _ 32 rfl X0.heap.size 52 iT (.agg #[.int .i64 0,.int .i64 0,.int .i64 0,.int .i64 0,.string ⟨#[]⟩,.bool false]) 6 56 Tryz.underlying32 hi1 hz10 hz11 hz12 rfl (by decide) b1 rfl C49.rows.ts A1 N1 c1 _ rfl HFL1.out (HSRC1.out _ C49.below) HON1.out (by unfold maxLen;omega) (by omega) C49.le ?_;intro A1x c1x X50 hrow hg hA;have C50:=C49.aT hrow HL1.out hg hA;clear hrow hg hA C49;refine hK.out _ _ (HS.out _ C50.below) (fun hHeld50=>?_);change wpAnyH _ _ _ _ _ _ _ (Act.put _ (some 6) _) _
     (try simp only [Act.put,tk1,tk2,tk3])
     clear hK K;refine wpAnyH_ready (rs:=[7]) (by kernel_rfl) (by simp) ?_;refine AllReadyH.cons (o:=_) rfl (fun K hK=>?_) (AllReadyH.nil)
     ·refine jac _ rfl _ _ 33 rfl X0.heap.size 82 iV (.agg #[.int .i64 0,.int .i64 0,.int .i64 0,.int .i64 0]) 4 32 Tryz.underlying33 hi2 hz20 hz21 hz22 rfl (by decide) b2 rfl C50.rows.vs A2 N2 c2 _ rfl HFL2.out (HSRC2.out _ C50.below) HON2.out (by unfold maxLen;omega) (by omega) C50.le ?_;intro A2x c2x X51 hrow hg hA;have C51:=C50.aV hrow HL2.out hg hA;clear hrow hg hA C50;refine hK.out _ _ (HS.out _ C51.below) (fun hHeld51=>?_);change wpAnyH _ _ _ _ _ _ _ (Act.put _ (some 10) _) _
      (try simp only [Act.put,tk1,tk2,tk3])
      clear hK K;refine wpAnyH_ready (rs:=[11]) (by kernel_rfl) (by simp) ?_;refine AllReadyH.cons (o:=_) rfl (fun K hK=>?_) (AllReadyH.nil)
      ·refine jac _ rfl _ _ 31 rfl X0.heap.size 3 iO (.int .i64 0) 1 8 Tryz.underlying31 hi3 hz30 hz31 hz32 rfl (by decide) b3 rfl C51.rows.os A3 N3 c3 _ rfl HFL3.out (HSRC3.out _ C51.below) HON3.out (by unfold maxLen;omega) (by omega) C51.le ?_;intro A3x c3x X52 hrow hg hA;have C52:=C51.aO hrow HL3.out hg hA;clear hrow hg hA C51;refine hK.out _ _ (HS.out _ C52.below) (fun hHeld52=>?_);change wpAnyH _ _ _ _ _ _ _ (Act.put _ (some 14) _) _
       (try simp only [Act.put,tk1,tk2,tk3])
       clear hK K;refine tk 12 15 ?_
       (try simp only [Act.put,tk1,tk2,tk3])
       obtain ⟨⟨s0,s1,s2⟩,sf0,sf1,sf2⟩:=HRES.out X52 C52.below;obtain ⟨Z,hZ,k0,k1,k2⟩:=HEND.out _ _ _ _ _ _ _ C52;refine wpAnyH_ready (rs:=[13]) (by kernel_rfl) (by simp) ?_;refine AllReadyH.cons (o:=_) rfl (fun K hK=>?_) AllReadyH.nil
       go_simp
       rw [<- hZ];refine hK.out _ _ k0 (fun hHeldE=>?_);clear hK K s0 s1 s2 sf0 sf1 sf2 hZ k0;refine wpAnyH_done (by kernel_rfl) ?_ _;go_wp2;refine bodyPost_ret (jap rfl _ _ (w.heap.size + 1) _ _ _ _ rfl k1 Tryz.underlying35 rfl (by kernel_rfl)) rfl ?_;exact k2 _ rfl
 ·go_simp
  have C53:=C0.bO;obtain ⟨X53,hX⟩:∃ Y,Y=X0.alloc (.cells #[] 3):=⟨_,rfl⟩;obtain ⟨b3,hb⟩:∃ b,b=X0.heap.size:=⟨_,rfl⟩;rw [<- hX,<- hb] at C53 ⊢;clear hX hb C0;refine hK.out _ _ (HS.out _ C53.below) (fun hHeld53=>?_);clear hK K;refine wpAnyH_ready (rs:=[0,4]) (by kernel_rfl) (by simp) ?_;refine AllReadyH.cons (o:=_) rfl (fun K hK=>?_) (AllReadyH.cons (o:=_) rfl (fun K hK=>?_) (AllReadyH.nil))
  ·go_simp
   have C54:=C53.bT;obtain ⟨X54,hX⟩:∃ Y,Y=X53.alloc (.cells #[] 52):=⟨_,rfl⟩;obtain ⟨b1,hb⟩:∃ b,b=X53.heap.size:=⟨_,rfl⟩;rw [<- hX,<- hb] at C54 ⊢;clear hX hb C53;refine hK.out _ _ (HS.out _ C54.below) (fun hHeld54=>?_);clear hK K;refine wpAnyH_ready (rs:=[3,4]) (by kernel_rfl) (by simp) ?_;refine AllReadyH.cons (o:=_) rfl (fun K hK=>?_) (AllReadyH.cons (o:=_) rfl (fun K hK=>?_) (AllReadyH.nil))
   ·refine jac _ rfl _ _ 32 rfl X0.heap.size 52 iT (.agg #[.int .i64 0,.int .i64 0,.int .i64 0,.int .i64 0,.string ⟨#[]⟩,.bool false]) 6 56 Tryz.underlying32 hi1 hz10 hz11 hz12 rfl (by decide) b1 rfl C54.rows.ts A1 N1 c1 _ rfl HFL1.out (HSRC1.out _ C54.below) HON1.out (by unfold maxLen;omega) (by omega) C54.le ?_;intro A1x c1x X55 hrow hg hA;have C55:=C54.aT hrow HL1.out hg hA;clear hrow hg hA C54;refine hK.out _ _ (HS.out _ C55.below) (fun hHeld55=>?_);change wpAnyH _ _ _ _ _ _ _ (Act.put _ (some 6) _) _
    (try simp only [Act.put,tk1,tk2,tk3])
    clear hK K;refine wpAnyH_ready (rs:=[4]) (by kernel_rfl) (by simp) ?_;refine AllReadyH.cons (o:=_) rfl (fun K hK=>?_) (AllReadyH.nil)
    ·go_simp
     have C56:=C55.bV;obtain ⟨X56,hX⟩:∃ Y,Y=X55.alloc (.cells #[] 82):=⟨_,rfl⟩;obtain ⟨b2,hb⟩:∃ b,b=X55.heap.size:=⟨_,rfl⟩;rw [<- hX,<- hb] at C56 ⊢;clear hX hb C55;refine hK.out _ _ (HS.out _ C56.below) (fun hHeld56=>?_);clear hK K;refine wpAnyH_ready (rs:=[7]) (by kernel_rfl) (by simp) ?_;refine AllReadyH.cons (o:=_) rfl (fun K hK=>?_) (AllReadyH.nil)
     ·refine jac _ rfl _ _ 33 rfl X0.heap.size 82 iV (.agg #[.int .i64 0,.int .i64 0,.int .i64 0,.int .i64 0]) 4 32 Tryz.underlying33 hi2 hz20 hz21 hz22 rfl (by decide) b2 rfl C56.rows.vs A2 N2 c2 _ rfl HFL2.out (HSRC2.out _ C56.below) HON2.out (by unfold maxLen;omega) (by omega) C56.le ?_;intro A2x c2x X57 hrow hg hA;have C57:=C56.aV hrow HL2.out hg hA;clear hrow hg hA C56;refine hK.out _ _ (HS.out _ C57.below) (fun hHeld57=>?_);change wpAnyH _ _ _ _ _ _ _ (Act.put _ (some 10) _) _
      (try simp only [Act.put,tk1,tk2,tk3])
      clear hK K;refine wpAnyH_ready (rs:=[11]) (by kernel_rfl) (by simp) ?_;refine AllReadyH.cons (o:=_) rfl (fun K hK=>?_) (AllReadyH.nil)
      ·refine jac _ rfl _ _ 31 rfl X0.heap.size 3 iO (.int .i64 0) 1 8 Tryz.underlying31 hi3 hz30 hz31 hz32 rfl (by decide) b3 rfl C57.rows.os A3 N3 c3 _ rfl HFL3.out (HSRC3.out _ C57.below) HON3.out (by unfold maxLen;omega) (by omega) C57.le ?_;intro A3x c3x X58 hrow hg hA;have C58:=C57.aO hrow HL3.out hg hA;clear hrow hg hA C57;refine hK.out _ _ (HS.out _ C58.below) (fun hHeld58=>?_);change wpAnyH _ _ _ _ _ _ _ (Act.put _ (some 14) _) _
       (try simp only [Act.put,tk1,tk2,tk3])
       clear hK K;refine tk 12 15 ?_
       (try simp only [Act.put,tk1,tk2,tk3])
       obtain ⟨⟨s0,s1,s2⟩,sf0,sf1,sf2⟩:=HRES.out X58 C58.below;obtain ⟨Z,hZ,k0,k1,k2⟩:=HEND.out _ _ _ _ _ _ _ C58;refine wpAnyH_ready (rs:=[13]) (by kernel_rfl) (by simp) ?_;refine AllReadyH.cons (o:=_) rfl (fun K hK=>?_) AllReadyH.nil
       go_simp
       rw [<- hZ];refine hK.out _ _ k0 (fun hHeldE=>?_);clear hK K s0 s1 s2 sf0 sf1 sf2 hZ k0;refine wpAnyH_done (by kernel_rfl) ?_ _;go_wp2;refine bodyPost_ret (jap rfl _ _ (w.heap.size + 1) _ _ _ _ rfl k1 Tryz.underlying35 rfl (by kernel_rfl)) rfl ?_;exact k2 _ rfl
   ·go_simp
    have C59:=C54.bV;obtain ⟨X59,hX⟩:∃ Y,Y=X54.alloc (.cells #[] 82):=⟨_,rfl⟩;obtain ⟨b2,hb⟩:∃ b,b=X54.heap.size:=⟨_,rfl⟩;rw [<- hX,<- hb] at C59 ⊢;clear hX hb C54;refine hK.out _ _ (HS.out _ C59.below) (fun hHeld59=>?_);clear hK K;refine wpAnyH_ready (rs:=[3]) (by kernel_rfl) (by simp) ?_;refine AllReadyH.cons (o:=_) rfl (fun K hK=>?_) (AllReadyH.nil)
    ·refine jac _ rfl _ _ 32 rfl X0.heap.size 52 iT (.agg #[.int .i64 0,.int .i64 0,.int .i64 0,.int .i64 0,.string ⟨#[]⟩,.bool false]) 6 56 Tryz.underlying32 hi1 hz10 hz11 hz12 rfl (by decide) b1 rfl C59.rows.ts A1 N1 c1 _ rfl HFL1.out (HSRC1.out _ C59.below) HON1.out (by unfold maxLen;omega) (by omega) C59.le ?_;intro A1x c1x X60 hrow hg hA;have C60:=C59.aT hrow HL1.out hg hA;clear hrow hg hA C59;refine hK.out _ _ (HS.out _ C60.below) (fun hHeld60=>?_);change wpAnyH _ _ _ _ _ _ _ (Act.put _ (some 6) _) _
     (try simp only [Act.put,tk1,tk2,tk3])
     clear hK K;refine wpAnyH_ready (rs:=[7]) (by kernel_rfl) (by simp) ?_;refine AllReadyH.cons (o:=_) rfl (fun K hK=>?_) (AllReadyH.nil)
     ·refine jac _ rfl _ _ 33 rfl X0.heap.size 82 iV (.agg #[.int .i64 0,.int .i64 0,.int .i64 0,.int .i64 0]) 4 32 Tryz.underlying33 hi2 hz20 hz21 hz22 rfl (by decide) b2 rfl C60.rows.vs A2 N2 c2 _ rfl HFL2.out (HSRC2.out _ C60.below) HON2.out (by unfold maxLen;omega) (by omega) C60.le ?_;intro A2x c2x X61 hrow hg hA;have C61:=C60.aV hrow HL2.out hg hA;clear hrow hg hA C60;refine hK.out _ _ (HS.out _ C61.below) (fun hHeld61=>?_);change wpAnyH _ _ _ _ _ _ _ (Act.put _ (some 10) _) _
      (try simp only [Act.put,tk1,tk2,tk3])
      clear hK K;refine wpAnyH_ready (rs:=[11]) (by kernel_rfl) (by simp) ?_;refine AllReadyH.cons (o:=_) rfl (fun K hK=>?_) (AllReadyH.nil)
      ·refine jac _ rfl _ _ 31 rfl X0.heap.size 3 iO (.int .i64 0) 1 8 Tryz.underlying31 hi3 hz30 hz31 hz32 rfl (by decide) b3 rfl C61.rows.os A3 N3 c3 _ rfl HFL3.out (HSRC3.out _ C61.below) HON3.out (by unfold maxLen;omega) (by omega) C61.le ?_;intro A3x c3x X62 hrow hg hA;have C62:=C61.aO hrow HL3.out hg hA;clear hrow hg hA C61;refine hK.out _ _ (HS.out _ C62.below) (fun hHeld62=>?_);change wpAnyH _ _ _ _ _ _ _ (Act.put _ (some 14) _) _
       (try simp only [Act.put,tk1,tk2,tk3])
       clear hK K;refine tk 12 15 ?_
       (try simp only [Act.put,tk1,tk2,tk3])
       obtain ⟨⟨s0,s1,s2⟩,sf0,sf1,sf2⟩:=HRES.out X62 C62.below;obtain ⟨Z,hZ,k0,k1,k2⟩:=HEND.out _ _ _ _ _ _ _ C62;refine wpAnyH_ready (rs:=[13]) (by kernel_rfl) (by simp) ?_;refine AllReadyH.cons (o:=_) rfl (fun K hK=>?_) AllReadyH.nil
       go_simp
       rw [<- hZ];refine hK.out _ _ k0 (fun hHeldE=>?_);clear hK K s0 s1 s2 sf0 sf1 sf2 hZ k0;refine wpAnyH_done (by kernel_rfl) ?_ _;go_wp2;refine bodyPost_ret (jap rfl _ _ (w.heap.size + 1) _ _ _ _ rfl k1 Tryz.underlying35 rfl (by kernel_rfl)) rfl ?_;exact k2 _ rfl
  ·go_simp
   have C63:=C53.bV;obtain ⟨X63,hX⟩:∃ Y,Y=X53.alloc (.cells #[] 82):=⟨_,rfl⟩;obtain ⟨b2,hb⟩:∃ b,b=X53.heap.size:=⟨_,rfl⟩;rw [<- hX,<- hb] at C63 ⊢;clear hX hb C53;refine hK.out _ _ (HS.out _ C63.below) (fun hHeld63=>?_);clear hK K;refine wpAnyH_ready (rs:=[0]) (by kernel_rfl) (by simp) ?_;refine AllReadyH.cons (o:=_) rfl (fun K hK=>?_) (AllReadyH.nil)
   ·go_simp
    have C64:=C63.bT;obtain ⟨X64,hX⟩:∃ Y,Y=X63.alloc (.cells #[] 52):=⟨_,rfl⟩;obtain ⟨b1,hb⟩:∃ b,b=X63.heap.size:=⟨_,rfl⟩;rw [<- hX,<- hb] at C64 ⊢;clear hX hb C63;refine hK.out _ _ (HS.out _ C64.below) (fun hHeld64=>?_);clear hK K;refine wpAnyH_ready (rs:=[3]) (by kernel_rfl) (by simp) ?_;refine AllReadyH.cons (o:=_) rfl (fun K hK=>?_) (AllReadyH.nil)
    ·refine jac _ rfl _ _ 32 rfl X0.heap.size 52 iT (.agg #[.int .i64 0,.int .i64 0,.int .i64 0,.int .i64 0,.string ⟨#[]⟩,.bool false]) 6 56 Tryz.underlying32 hi1 hz10 hz11 hz12 rfl (by decide) b1 rfl C64.rows.ts A1 N1 c1 _ rfl HFL1.out (HSRC1.out _ C64.below) HON1.out (by unfold maxLen;omega) (by omega) C64.le ?_;intro A1x c1x X65 hrow hg hA;have C65:=C64.aT hrow HL1.out hg hA;clear hrow hg hA C64;refine hK.out _ _ (HS.out _ C65.below) (fun hHeld65=>?_);change wpAnyH _ _ _ _ _ _ _ (Act.put _ (some 6) _) _
     (try simp only [Act.put,tk1,tk2,tk3])
     clear hK K;refine wpAnyH_ready (rs:=[7]) (by kernel_rfl) (by simp) ?_;refine AllReadyH.cons (o:=_) rfl (fun K hK=>?_) (AllReadyH.nil)
     ·refine jac _ rfl _ _ 33 rfl X0.heap.size 82 iV (.agg #[.int .i64 0,.int .i64 0,.int .i64 0,.int .i64 0]) 4 32 Tryz.underlying33 hi2 hz20 hz21 hz22 rfl (by decide) b2 rfl C65.rows.vs A2 N2 c2 _ rfl HFL2.out (HSRC2.out _ C65.below) HON2.out (by unfold maxLen;omega) (by omega) C65.le ?_;intro A2x c2x X66 hrow hg hA;have C66:=C65.aV hrow HL2.out hg hA;clear hrow hg hA C65;refine hK.out _ _ (HS.out _ C66.below) (fun hHeld66=>?_);change wpAnyH _ _ _ _ _ _ _ (Act.put _ (some 10) _) _
      (try simp only [Act.put,tk1,tk2,tk3])
      clear hK K;refine wpAnyH_ready (rs:=[11]) (by kernel_rfl) (by simp) ?_;refine AllReadyH.cons (o:=_) rfl (fun K hK=>?_) (AllReadyH.nil)
      ·refine jac _ rfl _ _ 31 rfl X0.heap.size 3 iO (.int .i64 0) 1 8 Tryz.underlying31 hi3 hz30 hz31 hz32 rfl (by decide) b3 rfl C66.rows.os A3 N3 c3 _ rfl HFL3.out (HSRC3.out _ C66.below) HON3.out (by unfold maxLen;omega) (by omega) C66.le ?_;intro A3x c3x X67 hrow hg hA;have C67:=C66.aO hrow HL3.out hg hA;clear hrow hg hA C66;refine hK.out _ _ (HS.out _ C67.below) (fun hHeld67=>?_);change wpAnyH _ _ _ _ _ _ _ (Act.put _ (some 14) _) _
       (try simp only [Act.put,tk1,tk2,tk3])
       clear hK K;refine tk 12 15 ?_
       (try simp only [Act.put,tk1,tk2,tk3])
       obtain ⟨⟨s0,s1,s2⟩,sf0,sf1,sf2⟩:=HRES.out X67 C67.below;obtain ⟨Z,hZ,k0,k1,k2⟩:=HEND.out _ _ _ _ _ _ _ C67;refine wpAnyH_ready (rs:=[13]) (by kernel_rfl) (by simp) ?_;refine AllReadyH.cons (o:=_) rfl (fun K hK=>?_) AllReadyH.nil
       go_simp
       rw [<- hZ];refine hK.out _ _ k0 (fun hHeldE=>?_);clear hK K s0 s1 s2 sf0 sf1 sf2 hZ k0;refine wpAnyH_done (by kernel_rfl) ?_ _;go_wp2;refine bodyPost_ret (jap rfl _ _ (w.heap.size + 1) _ _ _ _ rfl k1 Tryz.underlying35 rfl (by kernel_rfl)) rfl ?_;exact k2 _ rfl
end Go.Proofs.YtbnhkplhmanmoaaGreat
