/- . -/
import Derived.Test.YtbnhkplhmanmoaaGreatTkG
import Derived.Test.YtbnhkplhmanmoaaGreatTableC17G
namespace Go.Proofs.YtbnhkplhmanmoaaGreat
open Go.RowKit
set_option maxHeartbeats 6400000
set_option maxRecDepth 20000
theorem jnx (x:Ten) (id:Int) (q:Nat) (w:World) (hq:w.cell? ⟨q,0,none⟩=some (.int .i64 id)) :
  Calls Tryz.prog 98 (#[.agg (jcQ x)] ++ #[.pointer (some ⟨q,0,none⟩)]) w fun e w'=>e=.returned (.bool (decide (x.id=id)))/\Below w.heap.size w w':=by
 show Calls Tryz.prog 98 #[.agg (jcQ x),.pointer (some ⟨q,0,none⟩)] w _;obtain ⟨p0,p1,p2,p3,p4,p5⟩:=x;simp only [jcQ];have hb:Below w.heap.size w (w.alloc (.cells #[.int .i64 p0,.int .i64 p1,.int .i64 p2,.int .i64 p3,.string p4,.bool p5] 52)):=(Below.refl _ _).alloc (Nat.le_refl _) _;have hq2:(w.alloc (.cells #[.int .i64 p0,.int .i64 p1,.int .i64 p2,.int .i64 p3,.string p4,.bool p5] 52)).cell? ⟨q,0,none⟩=some (.int .i64 id):=(hb.cell (p:=⟨q,0,none⟩) (World.block_lt_of_cell? w _ hq)).trans hq;have e:(p0 == id)=decide (p0=id):=by rw [Bool.eq_iff_iff];simp
 go_enter Tryz.func98,Tryz.ntmps98;go_wp2;go_ret;exact ⟨rfl,hb⟩
theorem jnz (x:Vol) (id:Int) (q:Nat) (w:World) (hq:w.cell? ⟨q,0,none⟩=some (.int .i64 id)) :
  Calls Tryz.prog 103 (#[.agg (jcJ x)] ++ #[.pointer (some ⟨q,0,none⟩)]) w fun e w'=>e=.returned (.bool (decide (x.id=id)))/\Below w.heap.size w w':=by
 show Calls Tryz.prog 103 #[.agg (jcJ x),.pointer (some ⟨q,0,none⟩)] w _;obtain ⟨p0,p1,p2,p3⟩:=x;simp only [jcJ];have hb:Below w.heap.size w (w.alloc (.cells #[.int .i64 p0,.int .i64 p1,.int .i64 p2,.int .i64 p3] 82)):=(Below.refl _ _).alloc (Nat.le_refl _) _;have hq2:(w.alloc (.cells #[.int .i64 p0,.int .i64 p1,.int .i64 p2,.int .i64 p3] 82)).cell? ⟨q,0,none⟩=some (.int .i64 id):=(hb.cell (p:=⟨q,0,none⟩) (World.block_lt_of_cell? w _ hq)).trans hq;have e:(p0 == id)=decide (p0=id):=by rw [Bool.eq_iff_iff];simp
 go_enter Tryz.func103,Tryz.ntmps103;go_wp2;go_ret;exact ⟨rfl,hb⟩
theorem jfY {lo p:Nat} {w:World} {V:jat} {t:Tab} (h:jaZ lo w p V t) (hs:t.sound) (r:Rc) :
  Calls Tryz.prog 73 #[.pointer (some ⟨p,0,none⟩),.int .i64 r.a] w fun e w'=>∃ V',e=.returned (.int .i64 (jgf t r).1)/\jaZ lo w' p V' (jgf t r).2/\Below lo w w':=by
 have HB:Hid (∀ X,Below w.heap.size w X->jaZ lo X p V t/\Below lo w X):=fun X hb=>⟨h.below hb,hb.mono h.lo_le⟩
 have hb0:Below w.heap.size w (w.alloc (.cells #[.int .i64 r.a] 3)):=(Below.refl _ _).alloc (Nat.le_refl _) _;have hg0:=heap_alloc_new w (.cells #[.int .i64 r.a] 3);obtain ⟨W0,hW0⟩:∃ W,W=w.alloc (.cells #[.int .i64 r.a] 3):=⟨_,rfl⟩;rw [<- hW0] at hb0 hg0;have hq0:W0.cell? ⟨w.heap.size,0,none⟩=some (.int .i64 r.a):=by rw [cell_of_row _ _ _ _ _ _ hg0];rfl
 have HQ0:Hid (∀ X,Below W0.heap.size W0 X->X.cell? ⟨w.heap.size,0,none⟩=some (.int .i64 r.a)):=fun X hb=>(hb.cell (p:=⟨w.heap.size,0,none⟩) (World.block_lt_of_cell? _ _ hq0)).trans hq0
 have HB0:=Lib.hid hb0;obtain ⟨k,hk,he,hl,ha⟩ | ⟨hl,ha⟩:=jcy t.vs r.a
 ·obtain ⟨g,hA,hg,hgl,hX,hC⟩:=h.foundV hs hk he hl;have HC:=Lib.hid (hC W0 hb0)
  have H1:Hid (jgf t r=(0,{ t with vs:=t.vs.eraseIdx k })):=by
   show jgf t r=_;unfold jgf;rw [ha];show (_,_)=_;rw [jcc Vol.id hk hs.vup he]
  rw [H1.out]
  have HD:Hid (∀ X,Below W0.heap.size W0 X->Calls Tryz.prog 102 #[.slice (some ⟨g,0,none⟩) t.vs.length V.c2,.func (.func 103) #[] #[.pointer (some ⟨w.heap.size,0,none⟩)]] X fun e w'=>e=.returned (.slice (some ⟨g,0,none⟩) (t.vs.length - 1:Nat) V.c2)/\RwV lo g (t.vs.length - 1) V.c2 X (t.vs.eraseIdx k) w'):=fun X hb=>by
   have hd:=h.below (jaa hb0 hb);have hrow:=hd.rows.vs;rw [hA] at hrow;refine jkw lo g t.vs.length V.c2 k r.a 103 #[.pointer (some ⟨w.heap.size,0,none⟩)] t.vs X ⟨hrow,jcP _ _,rfl⟩ (by have:=(jam hs).2.1;omega) hs.vup hk he (fun args w=>by kernel_rfl) fun x Y hY=>?_
   have hqX:=HQ0.out X hb;exact jnz x r.a w.heap.size Y (hY.cell hqX (by intro q;injection q with q;have q':w.heap.size=g:=q;omega))
  have HBX:Hid (∀ X,Below w.heap.size w X->X.cell? ⟨p,0,none⟩=some (.slice V.A1 t.ts.length V.c1)/\X.cell? ⟨p,1,none⟩=some (.slice (some ⟨g,0,none⟩) t.vs.length V.c2)/\X.cell? ⟨p,2,none⟩=some (.slice V.A3 t.os.length V.c3)):=fun X hb=>by
   have q:=(h.below hb).cells
   rwa [hA] at q
  have HEND:Hid (∀ X W,Below w.heap.size w X->RwV lo g (t.vs.length - 1) V.c2 X (t.vs.eraseIdx k) W->W.heap[p]? = some (.cells (jan V t) 93 (0,0))/\jaZ lo (W.setCell ⟨p,1,none⟩ (.slice (some ⟨g,0,none⟩) (t.vs.length - 1) V.c2)) p { V with A2:=some ⟨g,0,none⟩,c2:=V.c2 } { t with vs:=t.vs.eraseIdx k }/\Below lo w (W.setCell ⟨p,1,none⟩ (.slice (some ⟨g,0,none⟩) (t.vs.length - 1) V.c2))):=fun X W hb hR=>by
   have hd:=h.below hb;have hob:ob V.A2=some g:=by rw [hA];rfl
   have hq:W.heap[p]? = some (.cells (jan V t) 93 (0,0)):=(hR.grown.block p hd.lt (fun q=>hd.p2 g hob (by injection q))).trans hd.box;have hs6:=jfP (.slice (some ⟨g,0,none⟩) (t.vs.length - 1) V.c2) hq;have hlen:(t.vs.eraseIdx k).length=t.vs.length - 1:=List.length_eraseIdx_of_lt hk;refine ⟨hq,hd.turnV (by rw [hlen];exact hR.own) (by rw [hob];exact hR.grown) (.inl (by rw [hob];rfl)) (by rw [hlen];exact hs6.1) hs6.2,?_⟩;have q2:=(hb.mono h.lo_le).grown hR.grown hd.lo_le fun b hb=>by injection hb with hb;subst hb;exact (ja1 hd.rows.vs _ hob).1
   exact jae q2 hs6.2 (Nat.le_trans hd.lo_le hR.grown.size) h.hp
  obtain ⟨T,hT⟩:∃ T,T = { t with vs:=t.vs.eraseIdx k }:=⟨_,rfl⟩;rw [<- hT] at HEND ⊢;clear hX hC hA hl ha he H1 h hs hT HB hg0 hb0;go_enter Tryz.func73,Tryz.ntmps73
  go_wp2_with fail
  rw [<- hW0];clear hW0
  go_wp2_with (first
   | (go_at_call 99;with_reducible (refine Calls.mono HC.out ?_);rintro e w1 ⟨rfl,hb1⟩;obtain ⟨y0,y1,y2⟩:=HBX.out _ (jaa HB0.out hb1))
   | (go_at_call 102;with_reducible (refine Calls.mono (HD.out _ hb1) ?_);rintro e w2 ⟨rfl,hR2⟩
      obtain ⟨hq2,hd2,hz2⟩:=HEND.out _ _ (jaa HB0.out hb1) hR2;obtain ⟨_,z1,_⟩:=jai hq2;have zf:=frozen_of_row _ _ 1 _ _ hq2))
  go_ret;exact ⟨_,rfl,hd2,hz2⟩
 ·have H1:Hid (jgf t r=(4,t)):=by show jgf t r=_;unfold jgf;rw [ha]
  have HC:=Lib.hid (h.noV hs hl W0 hb0);rw [H1.out];clear hl ha H1 h hs hg0 hb0;go_enter Tryz.func73,Tryz.ntmps73
  go_wp2_with fail
  rw [<- hW0];clear hW0
  go_wp2_with (go_at_call 99;with_reducible (refine Calls.mono HC.out ?_);rintro e w1 ⟨rfl,hb1⟩)
  go_ret;exact ⟨V,rfl,HB.out _ (jaa HB0.out hb1)⟩
theorem jfX {lo p:Nat} {w:World} {V:jat} {t:Tab} (h:jaZ lo w p V t) (hs:t.sound) (r:Rc) :
  Calls Tryz.prog 70 #[.pointer (some ⟨p,0,none⟩),.int .i64 r.a] w fun e w'=>∃ V',e=.returned (.int .i64 (je4 t r).1)/\jaZ lo w' p V' (je4 t r).2/\Below lo w w':=by
 have HB:Hid (∀ X,Below w.heap.size w X->jaZ lo X p V t/\Below lo w X):=fun X hb=>⟨h.below hb,hb.mono h.lo_le⟩
 have hb0:Below w.heap.size w (w.alloc (.cells #[.int .i64 r.a] 3)):=(Below.refl _ _).alloc (Nat.le_refl _) _;have hg0:=heap_alloc_new w (.cells #[.int .i64 r.a] 3);obtain ⟨W0,hW0⟩:∃ W,W=w.alloc (.cells #[.int .i64 r.a] 3):=⟨_,rfl⟩;rw [<- hW0] at hb0 hg0;have hq0:W0.cell? ⟨w.heap.size,0,none⟩=some (.int .i64 r.a):=by rw [cell_of_row _ _ _ _ _ _ hg0];rfl
 have HQ0:Hid (∀ X,Below W0.heap.size W0 X->X.cell? ⟨w.heap.size,0,none⟩=some (.int .i64 r.a)):=fun X hb=>(hb.cell (p:=⟨w.heap.size,0,none⟩) (World.block_lt_of_cell? _ _ hq0)).trans hq0
 have HB0:=Lib.hid hb0;obtain ⟨k,hk,he,hl,ha⟩ | ⟨hl,ha⟩:=jaX t.ts r.a
 ·obtain ⟨g,hA,hg,hgl,hX,hC⟩:=h.foundT hs hk he hl;have HC:=Lib.hid (hC W0 hb0);have HX:=Lib.hid hX
  have HBX:Hid (∀ X,Below w.heap.size w X->X.cell? ⟨p,0,none⟩=some (.slice (some ⟨g,0,none⟩) t.ts.length V.c1)/\X.cell? ⟨p,1,none⟩=some (.slice V.A2 t.vs.length V.c2)/\X.cell? ⟨p,2,none⟩=some (.slice V.A3 t.os.length V.c3)):=fun X hb=>by
   have q:=(h.below hb).cells
   rwa [hA] at q
  have hone:je4 t r=if t.ts[k].dying=false∨0 < ja0 t.os r.a∨jkC t.vs r.a then (10,t) else (0,{ t with ts:=t.ts.eraseIdx k }):=by
   unfold je4;rw [ha];show (if t.ts[k].dying=false∨0 < ja0 t.os r.a∨jkC t.vs r.a then _ else _)=_;rw [jcc Ten.id hk hs.up he]
  have HONE:=Lib.hid hone;by_cases hd:t.ts[k].dying=true
  ·have HO:∀ X,Below w.heap.size w X->Calls Tryz.prog 95 #[.agg #[.slice (some ⟨g,0,none⟩) t.ts.length V.c1,.slice V.A2 t.vs.length V.c2,.slice V.A3 t.os.length V.c3],.int .i64 r.a] X fun e w'=>e=.returned (.int .i64 (ja0 t.os r.a:Nat))/\Below X.heap.size X w':=fun X hb=>by
    have q:=jdu V t r.a X (h.below hb).tab (by have:=(jam hs).2.2;omega);unfold jan at q
    rwa [hA] at q
   have HV:=Lib.hid (fun X (hb:Below w.heap.size w X)=>jnA p V.A2 V.c2 t.vs r.a X (h.below hb).cells.2.1 (by have:=(jam hs).2.1;omega) (h.below hb).tab.vs)
   have HD:Hid (∀ X,Below W0.heap.size W0 X->Calls Tryz.prog 97 #[.slice (some ⟨g,0,none⟩) t.ts.length V.c1,.func (.func 98) #[] #[.pointer (some ⟨w.heap.size,0,none⟩)]] X fun e w'=>e=.returned (.slice (some ⟨g,0,none⟩) (t.ts.length - 1:Nat) V.c1)/\RwT lo g (t.ts.length - 1) V.c1 X (t.ts.eraseIdx k) w'):=fun X hb=>by
    have hd:=h.below (jaa hb0 hb);have hrow:=hd.rows.ts;rw [hA] at hrow;refine jko lo g t.ts.length V.c1 k r.a 98 #[.pointer (some ⟨w.heap.size,0,none⟩)] t.ts X ⟨hrow,jcP _ _,rfl⟩ (by have:=(jam hs).1;omega) hs.up hk he (fun args w=>by kernel_rfl) fun x Y hY=>?_
    have hqX:=HQ0.out X hb;exact jnx x r.a w.heap.size Y (hY.cell hqX (by intro q;injection q with q;have q':w.heap.size=g:=q;omega))
   have HEND:Hid (∀ X W,Below w.heap.size w X->RwT lo g (t.ts.length - 1) V.c1 X (t.ts.eraseIdx k) W->W.heap[p]? = some (.cells (jan V t) 93 (0,0))/\jaZ lo (W.setCell ⟨p,0,none⟩ (.slice (some ⟨g,0,none⟩) (t.ts.length - 1) V.c1)) p { V with A1:=some ⟨g,0,none⟩,c1:=V.c1 } { t with ts:=t.ts.eraseIdx k }/\Below lo w (W.setCell ⟨p,0,none⟩ (.slice (some ⟨g,0,none⟩) (t.ts.length - 1) V.c1))):=fun X W hb hR=>by
    have hd:=h.below hb;have hob:ob V.A1=some g:=by rw [hA];rfl
    have hq:W.heap[p]? = some (.cells (jan V t) 93 (0,0)):=(hR.grown.block p hd.lt (fun q=>hd.p1 g hob (by injection q))).trans hd.box;have hs6:=jfF (.slice (some ⟨g,0,none⟩) (t.ts.length - 1) V.c1) hq;have hlen:(t.ts.eraseIdx k).length=t.ts.length - 1:=List.length_eraseIdx_of_lt hk;refine ⟨hq,hd.turnT (by rw [hlen];exact hR.own) (by rw [hob];exact hR.grown) (.inl (by rw [hob];rfl)) (by rw [hlen];exact hs6.1) hs6.2,?_⟩;have q2:=(hb.mono h.lo_le).grown hR.grown hd.lo_le fun b hb=>by injection hb with hb;subst hb;exact (ja1 hd.rows.ts _ hob).1
    exact jae q2 hs6.2 (Nat.le_trans hd.lo_le hR.grown.size) h.hp
   obtain ⟨T,hT⟩:∃ T,T = { t with ts:=t.ts.eraseIdx k }:=⟨_,rfl⟩;rw [<- hT] at HEND HONE;obtain ⟨m,hm⟩:∃ m,m=ja0 t.os r.a:=⟨_,rfl⟩;rw [<- hm] at HONE HO;have HOH:=Lib.hid HO;simp only [hd] at HX;by_cases c1:0 < m
   ·have H1:Hid (je4 t r=(10,t)):=by show _=_;rw [HONE.out,if_pos (.inr (.inl c1))]
    rw [H1.out];have d1:(m:Int) > 0:=by omega
    have d2:decide ((m:Int) > 0)=true:=decide_eq_true d1;have d3:decide (0 < m)=true:=decide_eq_true c1;clear H1 HONE hone hX hC hA hl ha he hd h hs hT hg0 hb0 HO hm HD HEND HV;go_enter Tryz.func70,Tryz.ntmps70
    go_wp2_with fail
    rw [<- hW0];clear hW0
    go_wp2_with (go_at_call 91;with_reducible (refine Calls.mono HC.out ?_);rintro e w1 ⟨rfl,hb1⟩)
    have hbx:=hb1.drew;obtain ⟨⟨x0,x1,x5⟩,f1,f5⟩:=HX.out _ (jaa HB0.out hb1);obtain ⟨y0,y1,y2⟩:=HBX.out _ (jaa HB0.out hb1);refine wp_region_held_drew (S:=(fun W=>(W.cell? ⟨g,k * 6 + 5,none⟩=some (.bool true)/\W.cell? ⟨w.heap.size,0,none⟩=some (.int .i64 r.a))/\W.cell? ⟨p,0,none⟩=some (.slice (some ⟨g,0,none⟩) t.ts.length V.c1)/\W.cell? ⟨p,1,none⟩=some (.slice V.A2 t.vs.length V.c2)/\W.cell? ⟨p,2,none⟩=some (.slice V.A3 t.os.length V.c3))) (by kernel_rfl) (⟨⟨(HX.out _ (jaa HB0.out hbx)).1.2.2,HQ0.out _ hbx⟩,HBX.out _ (jaa HB0.out hbx)⟩) (fun hHeld=>?_);refine tk 0 11 ?_
    (try simp only [Act.put,tk1,tk2,tk3])
    refine tk 1 12 ?_
    (try simp only [Act.put,tk1,tk2,tk3])
    refine tk 2 13 ?_
    (try simp only [Act.put,tk1,tk2,tk3])
    refine tkS 3 14 (v:=?_) ?_ ?_
    rotate_left 1
    ·intro w hSw;obtain ⟨⟨s1,s2⟩,s3,s4,s5⟩:=hSw;first | (go_simp;done) | (go_simp;with_reducible rfl)
    (try simp only [Act.put,tk1,tk2,tk3])
    refine tk 4 15 ?_
    (try simp only [Act.put,tk1,tk2,tk3])
    refine tk 5 16 ?_
    (try simp only [Act.put,tk1,tk2,tk3])
    refine tk 6 17 ?_
    (try simp only [Act.put,tk1,tk2,tk3])
    refine tk 7 18 ?_
    (try simp only [Act.put,tk1,tk2,tk3])
    refine tk 8 19 ?_
    (try simp only [Act.put,tk1,tk2,tk3])
    refine tkS 9 20 (v:=?_) ?_ ?_
    rotate_left 1
    ·intro w hSw;obtain ⟨⟨s1,s2⟩,s3,s4,s5⟩:=hSw;first | (go_simp;done) | (go_simp;with_reducible rfl)
    (try simp only [Act.put,tk1,tk2,tk3])
    refine tkS 10 21 (v:=?_) ?_ ?_
    rotate_left 1
    ·intro w hSw;obtain ⟨⟨s1,s2⟩,s3,s4,s5⟩:=hSw;first | (go_simp;done) | (go_simp;with_reducible rfl)
    (try simp only [Act.put,tk1,tk2,tk3])
    refine wpAnyH_ready (rs:=[11]) (by kernel_rfl) (by simp) ?_;refine AllReadyH.cons (o:=_) rfl (fun K hK=>?_) AllReadyH.nil
    go_simp
    (go_at_call 95;with_reducible (refine Calls.mono (HOH.out _ (jaa HB0.out hbx)) ?_);rintro e w3 ⟨rfl,hb3⟩;have hbx:=jaa hbx hb3)
    refine hK.out _ _ (⟨⟨(HX.out _ (jaa HB0.out hbx)).1.2.2,HQ0.out _ hbx⟩,HBX.out _ (jaa HB0.out hbx)⟩) (fun hHeld11=>?_)
    (try simp only [Act.put,tk1,tk2,tk3])
    clear hK K;refine tk 12 23 ?_
    (try simp only [Act.put,tk1,tk2,tk3])
    refine tk 13 24 ?_
    (try simp only [Act.put,tk1,tk2,tk3])
    refine tk 14 25 ?_
    (try simp only [Act.put,tk1,tk2,tk3])
    refine tk 15 26 ?_
    (try simp only [Act.put,tk1,tk2,tk3])
    refine tk 16 27 ?_
    (try simp only [Act.put,tk1,tk2,tk3])
    refine tk 17 28 ?_
    (try simp only [Act.put,tk1,tk2,tk3])
    refine tk 18 29 ?_
    (try simp only [Act.put,tk1,tk2,tk3])
    refine wpAnyH_done (by kernel_rfl) ?_ _;go_wp2;go_ret;exact ⟨V,rfl,HB.out _ (jaa HB0.out hbx)⟩
   ·obtain rfl:m=0:=by omega
    obtain ⟨b,hb⟩:∃ b,b=decide (jkC t.vs r.a):=⟨_,rfl⟩;have hbb:jkC t.vs r.a↔b=true:=by rw [hb,decide_eq_true_iff]
    simp only [<- hb] at HV;cases b
    ·have H1:Hid (je4 t r=(0,T)):=by show _=_;rw [HONE.out,if_neg (fun q=>q.elim (fun q=>by rw [hd] at q;cases q) (fun q=>q.elim c1 (fun q=>by have:=hbb.1 q;cases this)))]
     rw [H1.out];clear H1 HONE hone c1 hX hC hA hl ha he hd h hs hT hg0 hb0 HO hm hb hbb;go_enter Tryz.func70,Tryz.ntmps70
     go_wp2_with fail
     rw [<- hW0];clear hW0
     go_wp2_with (go_at_call 91;with_reducible (refine Calls.mono HC.out ?_);rintro e w1 ⟨rfl,hb1⟩)
     have hbx:=hb1.drew;obtain ⟨⟨x0,x1,x5⟩,f1,f5⟩:=HX.out _ (jaa HB0.out hb1);obtain ⟨y0,y1,y2⟩:=HBX.out _ (jaa HB0.out hb1)
     go_region_held3 (fun W=>(W.cell? ⟨g,k * 6 + 5,none⟩=some (.bool true)/\W.cell? ⟨w.heap.size,0,none⟩=some (.int .i64 r.a))/\W.cell? ⟨p,0,none⟩=some (.slice (some ⟨g,0,none⟩) t.ts.length V.c1)/\W.cell? ⟨p,1,none⟩=some (.slice V.A2 t.vs.length V.c2)/\W.cell? ⟨p,2,none⟩=some (.slice V.A3 t.os.length V.c3))
      (exact ⟨⟨(HX.out _ (jaa HB0.out hbx)).1.2.2,HQ0.out _ hbx⟩,HBX.out _ (jaa HB0.out hbx)⟩)
      (first
       | (go_at_call 95;with_reducible (refine Calls.mono (HOH.out _ (jaa HB0.out hbx)) ?_);rintro e w3 ⟨rfl,hb3⟩;have hbx:=jaa hbx hb3)
       | (go_at_call 96;with_reducible (refine Calls.mono (HV.out _ (jaa HB0.out hbx)) ?_);rintro e w4 ⟨rfl,hb4⟩;have hbx:=jaa hbx hb4)
       | fail)
     obtain ⟨y0,y1,y2⟩:=HBX.out _ (jaa HB0.out hbx)
     go_wp2_with (go_at_call 97;with_reducible (refine Calls.mono (HD.out _ hbx) ?_);rintro e w5 ⟨rfl,hR2⟩;obtain ⟨hq2,hd2,hz2⟩:=HEND.out _ _ (jaa HB0.out hbx) hR2;obtain ⟨z1,_,_⟩:=jai hq2;have zf:=frozen_of_row _ _ 0 _ _ hq2)
     go_ret;exact ⟨_,rfl,hd2,hz2⟩
    ·have H1:Hid (je4 t r=(10,t)):=by show _=_;rw [HONE.out,if_pos (.inr (.inr (hbb.2 rfl)))]
     rw [H1.out];clear H1 HONE hone c1 hX hC hA hl ha he hd h hs hT hg0 hb0 HO hm hb hbb;go_enter Tryz.func70,Tryz.ntmps70
     go_wp2_with fail
     rw [<- hW0];clear hW0
     go_wp2_with (go_at_call 91;with_reducible (refine Calls.mono HC.out ?_);rintro e w1 ⟨rfl,hb1⟩)
     have hbx:=hb1.drew;obtain ⟨⟨x0,x1,x5⟩,f1,f5⟩:=HX.out _ (jaa HB0.out hb1);obtain ⟨y0,y1,y2⟩:=HBX.out _ (jaa HB0.out hb1)
     go_region_held3 (fun W=>(W.cell? ⟨g,k * 6 + 5,none⟩=some (.bool true)/\W.cell? ⟨w.heap.size,0,none⟩=some (.int .i64 r.a))/\W.cell? ⟨p,0,none⟩=some (.slice (some ⟨g,0,none⟩) t.ts.length V.c1)/\W.cell? ⟨p,1,none⟩=some (.slice V.A2 t.vs.length V.c2)/\W.cell? ⟨p,2,none⟩=some (.slice V.A3 t.os.length V.c3))
      (exact ⟨⟨(HX.out _ (jaa HB0.out hbx)).1.2.2,HQ0.out _ hbx⟩,HBX.out _ (jaa HB0.out hbx)⟩)
      (first
       | (go_at_call 95;with_reducible (refine Calls.mono (HOH.out _ (jaa HB0.out hbx)) ?_);rintro e w3 ⟨rfl,hb3⟩;have hbx:=jaa hbx hb3)
       | (go_at_call 96;with_reducible (refine Calls.mono (HV.out _ (jaa HB0.out hbx)) ?_);rintro e w4 ⟨rfl,hb4⟩;have hbx:=jaa hbx hb4)
       | fail)
     obtain ⟨y0,y1,y2⟩:=HBX.out _ (jaa HB0.out hbx);go_wp2;go_ret;exact ⟨V,rfl,HB.out _ (jaa HB0.out hbx)⟩
  ·have hd2:t.ts[k].dying=false:=by simpa using hd
   have H1:Hid (je4 t r=(10,t)):=by show _=_;rw [HONE.out,if_pos (.inl hd2)]
   rw [H1.out];simp only [hd2] at HX;clear H1 HONE hone hX hC hA hl ha he hd hd2 h hs hg0 hb0;go_enter Tryz.func70,Tryz.ntmps70
   go_wp2_with fail
   rw [<- hW0];clear hW0
   go_wp2_with (go_at_call 91;with_reducible (refine Calls.mono HC.out ?_);rintro e w1 ⟨rfl,hb1⟩)
   obtain ⟨⟨x0,x1,x5⟩,f1,f5⟩:=HX.out _ (jaa HB0.out hb1)
   go_quiet (fail)
   go_wp2;go_ret;exact ⟨V,rfl,HB.out _ (jaa HB0.out (jaz hb1 nq))⟩
 ·have H1:Hid (je4 t r=(4,t)):=by show je4 t r=_;unfold je4;rw [ha]
  have HC:=Lib.hid (h.noT hs hl W0 hb0);rw [H1.out];clear hl ha H1 h hs hg0 hb0;go_enter Tryz.func70,Tryz.ntmps70
  go_wp2_with fail
  rw [<- hW0];clear hW0
  go_wp2_with (go_at_call 91;with_reducible (refine Calls.mono HC.out ?_);rintro e w1 ⟨rfl,hb1⟩)
  go_ret;exact ⟨V,rfl,HB.out _ (jaa HB0.out hb1)⟩
theorem jgx {r:Rc} (h:jaf r):0<=r.k/\r.k<=9:=by
 refine Classical.byContradiction fun hk=>?_
 unfold jaf jbo inR at h
 repeat' split at h
 all_goals (first | omega | exact h.elim)
theorem jmC {lo p:Nat} {w:World} {V:jat} {t:Tab} (h:jaZ lo w p V t) (hs:t.sound) (r:Rc) (hf:jaf r) :
  Calls Tryz.prog 39 #[.pointer (some ⟨p,0,none⟩),.agg (rcV r)] w fun e w'=>∃ V',e=.returned (.int .i64 (jar t r).1)/\jaZ lo w' p V' (jar t r).2/\Below lo w w':=by
 have hk:=jgx hf;obtain ⟨k,ra,rb,rc,rd,key⟩:=r;simp only at hk;have hb0:Below w.heap.size w (w.alloc (.cells (rcV ⟨k,ra,rb,rc,rd,key⟩) 56)):=(Below.refl _ _).alloc (Nat.le_refl _) _;have hd0:=h.below hb0;have hl0:=hb0.mono h.lo_le;have HD0:Hid (jaZ lo (w.alloc (.cells (rcV ⟨k,ra,rb,rc,rd,key⟩) 56)) p V t/\Below lo w (w.alloc (.cells (rcV ⟨k,ra,rb,rc,rd,key⟩) 56))):=⟨hd0,hl0⟩;simp only [rcV] at hd0 HD0 ⊢;have HL0:=Lib.hid hl0;rcases (show k=0∨k=1∨k=2∨k=3∨k=4∨k=5∨k=6∨k=7∨k=8∨k=9 by omega) with rfl | rfl | rfl | rfl | rfl | rfl | rfl | rfl | rfl | rfl
 ·have e:jar t ⟨0,ra,rb,rc,rd,key⟩=(0,t):=rfl;rw [e];clear h hs hf hk hb0 hl0 e hd0 HL0;go_enter Tryz.func39,Tryz.ntmps39;go_wp2;go_ret;exact ⟨V,rfl,HD0.out⟩
 ·have hx:jbo ⟨1,ra,rb,rc,rd,key⟩:=by unfold jaf at hf;rwa [if_pos rfl] at hf
  have H:=jh8 hd0 hs ⟨1,ra,rb,rc,rd,key⟩ hx;have e:jar t ⟨1,ra,rb,rc,rd,key⟩=je7 t ⟨1,ra,rb,rc,rd,key⟩:=rfl;rw [e];obtain ⟨O,hO⟩:∃ O,O=je7 t ⟨1,ra,rb,rc,rd,key⟩:=⟨_,rfl⟩;rw [<- hO] at H ⊢;simp only at H;have HC:=Lib.hid H;clear h hs hf hk hb0 hl0 e hd0 HD0 hO H hx;go_enter Tryz.func39,Tryz.ntmps39
  go_wp2_with (go_at_call 67;with_reducible (refine Calls.mono HC.out ?_);rintro e w1 ⟨V1,rfl,hd1,hb1⟩)
  go_ret;exact ⟨V1,rfl,hd1,HL0.out.trans hb1⟩
 ·have hx:inR rb 1 64:=by
   unfold jaf jbo inR at hf;unfold inR
   repeat' split at hf
   all_goals (first | omega | exact hf.elim | (simp at * <;> omega))
  have H:=jiK hd0 hs ⟨2,ra,rb,rc,rd,key⟩ hx;have e:jar t ⟨2,ra,rb,rc,rd,key⟩=jeS t ⟨2,ra,rb,rc,rd,key⟩:=rfl;rw [e];obtain ⟨O,hO⟩:∃ O,O=jeS t ⟨2,ra,rb,rc,rd,key⟩:=⟨_,rfl⟩;rw [<- hO] at H ⊢;simp only at H;have HC:=Lib.hid H;clear h hs hf hk hb0 hl0 e hd0 HD0 hO H hx;go_enter Tryz.func39,Tryz.ntmps39
  go_wp2_with (go_at_call 68;with_reducible (refine Calls.mono HC.out ?_);rintro e w1 ⟨V1,rfl,hd1,hb1⟩)
  go_ret;exact ⟨V1,rfl,hd1,HL0.out.trans hb1⟩
 ·have hx:True:=trivial;have H:=jic hd0 hs ⟨3,ra,rb,rc,rd,key⟩;have e:jar t ⟨3,ra,rb,rc,rd,key⟩=jeZ t ⟨3,ra,rb,rc,rd,key⟩:=rfl;rw [e];obtain ⟨O,hO⟩:∃ O,O=jeZ t ⟨3,ra,rb,rc,rd,key⟩:=⟨_,rfl⟩;rw [<- hO] at H ⊢;simp only at H;have HC:=Lib.hid H;clear h hs hf hk hb0 hl0 e hd0 HD0 hO H hx;go_enter Tryz.func39,Tryz.ntmps39
  go_wp2_with (go_at_call 69;with_reducible (refine Calls.mono HC.out ?_);rintro e w1 ⟨V1,rfl,hd1,hb1⟩)
  go_ret;exact ⟨V1,rfl,hd1,HL0.out.trans hb1⟩
 ·have hx:True:=trivial;have H:=jfX hd0 hs ⟨4,ra,rb,rc,rd,key⟩;have e:jar t ⟨4,ra,rb,rc,rd,key⟩=je4 t ⟨4,ra,rb,rc,rd,key⟩:=rfl;rw [e];obtain ⟨O,hO⟩:∃ O,O=je4 t ⟨4,ra,rb,rc,rd,key⟩:=⟨_,rfl⟩;rw [<- hO] at H ⊢;simp only at H;have HC:=Lib.hid H;clear h hs hf hk hb0 hl0 e hd0 HD0 hO H hx;go_enter Tryz.func39,Tryz.ntmps39
  go_wp2_with (go_at_call 70;with_reducible (refine Calls.mono HC.out ?_);rintro e w1 ⟨V1,rfl,hd1,hb1⟩)
  go_ret;exact ⟨V1,rfl,hd1,HL0.out.trans hb1⟩
 ·have hx:inR ra 0 7:=by
   unfold jaf jbo inR at hf;unfold inR
   repeat' split at hf
   all_goals (first | omega | exact hf.elim | (simp at * <;> omega))
  have H:=jhC hd0 hs ⟨5,ra,rb,rc,rd,key⟩ hx;have e:jar t ⟨5,ra,rb,rc,rd,key⟩=jd0 t ⟨5,ra,rb,rc,rd,key⟩:=rfl;rw [e];obtain ⟨O,hO⟩:∃ O,O=jd0 t ⟨5,ra,rb,rc,rd,key⟩:=⟨_,rfl⟩;rw [<- hO] at H ⊢;simp only at H;have HC:=Lib.hid H;clear h hs hf hk hb0 hl0 e hd0 HD0 hO H hx;go_enter Tryz.func39,Tryz.ntmps39
  go_wp2_with (go_at_call 71;with_reducible (refine Calls.mono HC.out ?_);rintro e w1 ⟨V1,rfl,hd1,hb1⟩)
  go_ret;exact ⟨V1,rfl,hd1,HL0.out.trans hb1⟩
 ·have hx:True:=trivial;have H:=jhu hd0 hs ⟨6,ra,rb,rc,rd,key⟩;have e:jar t ⟨6,ra,rb,rc,rd,key⟩=jga t ⟨6,ra,rb,rc,rd,key⟩:=rfl;rw [e];obtain ⟨O,hO⟩:∃ O,O=jga t ⟨6,ra,rb,rc,rd,key⟩:=⟨_,rfl⟩;rw [<- hO] at H ⊢;simp only at H;have HC:=Lib.hid H;clear h hs hf hk hb0 hl0 e hd0 HD0 hO H hx;go_enter Tryz.func39,Tryz.ntmps39
  go_wp2_with (go_at_call 72;with_reducible (refine Calls.mono HC.out ?_);rintro e w1 ⟨V1,rfl,hd1,hb1⟩)
  go_ret;exact ⟨V1,rfl,hd1,HL0.out.trans hb1⟩
 ·have hx:True:=trivial;have H:=jfY hd0 hs ⟨7,ra,rb,rc,rd,key⟩;have e:jar t ⟨7,ra,rb,rc,rd,key⟩=jgf t ⟨7,ra,rb,rc,rd,key⟩:=rfl;rw [e];obtain ⟨O,hO⟩:∃ O,O=jgf t ⟨7,ra,rb,rc,rd,key⟩:=⟨_,rfl⟩;rw [<- hO] at H ⊢;simp only at H;have HC:=Lib.hid H;clear h hs hf hk hb0 hl0 e hd0 HD0 hO H hx;go_enter Tryz.func39,Tryz.ntmps39
  go_wp2_with (go_at_call 73;with_reducible (refine Calls.mono HC.out ?_);rintro e w1 ⟨V1,rfl,hd1,hb1⟩)
  go_ret;exact ⟨V1,rfl,hd1,HL0.out.trans hb1⟩
 ·have hx:True:=trivial;have H:=jkW hd0 hs ⟨8,ra,rb,rc,rd,key⟩;have e:jar t ⟨8,ra,rb,rc,rd,key⟩=jf3 t ⟨8,ra,rb,rc,rd,key⟩:=rfl;rw [e];obtain ⟨O,hO⟩:∃ O,O=jf3 t ⟨8,ra,rb,rc,rd,key⟩:=⟨_,rfl⟩;rw [<- hO] at H ⊢;simp only at H;have HC:=Lib.hid H;clear h hs hf hk hb0 hl0 e hd0 HD0 hO H hx;go_enter Tryz.func39,Tryz.ntmps39
  go_wp2_with (go_at_call 74;with_reducible (refine Calls.mono HC.out ?_);rintro e w1 ⟨V1,rfl,hd1,hb1⟩)
  go_ret;exact ⟨V1,rfl,hd1,HL0.out.trans hb1⟩
 ·have hx:inR ra 0 63:=by
   unfold jaf jbo inR at hf;unfold inR
   repeat' split at hf
   all_goals (first | omega | exact hf.elim | (simp at * <;> omega))
  have H:=jjj hd0 hs ⟨9,ra,rb,rc,rd,key⟩ hx;have e:jar t ⟨9,ra,rb,rc,rd,key⟩=jcs t ⟨9,ra,rb,rc,rd,key⟩:=rfl;rw [e];obtain ⟨O,hO⟩:∃ O,O=jcs t ⟨9,ra,rb,rc,rd,key⟩:=⟨_,rfl⟩;rw [<- hO] at H ⊢;simp only at H;have HC:=Lib.hid H;clear h hs hf hk hb0 hl0 e hd0 HD0 hO H hx;go_enter Tryz.func39,Tryz.ntmps39
  go_wp2_with (go_at_call 75;with_reducible (refine Calls.mono HC.out ?_);rintro e w1 ⟨V1,rfl,hd1,hb1⟩)
  go_ret;exact ⟨V1,rfl,hd1,HL0.out.trans hb1⟩
end Go.Proofs.YtbnhkplhmanmoaaGreat
