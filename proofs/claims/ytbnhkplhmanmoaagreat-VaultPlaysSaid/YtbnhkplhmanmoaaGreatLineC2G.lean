/- . -/
import Derived.Test.YtbnhkplhmanmoaaGreatDiskCDG
import Derived.Test.YtbnhkplhmanmoaaGreatVaultAskG
namespace Go.Proofs.YtbnhkplhmanmoaaGreat
open Go.RowKit
set_option maxHeartbeats 6400000
set_option maxRecDepth 20000
theorem jlF (l:Ln):jft l=(inL 2147483647 [l.g,l.s] && (inL 9 [l.r.k] && inL 1099511627776 [l.r.a,l.r.b,l.r.c,l.r.d])):=by
 simp [jft,inL,Bool.and_assoc]
theorem jaI (l:List Int) (m:Int) (n:Nat) (hn:l.length=n) (hl:n<=16) (cs:Array Value) (hcs:cs=ICs l) (W:World) :
  Calls Tryz.prog 141 #[.int .i64 m,.slice (some ⟨W.heap.size,0,none⟩) n n] (W.alloc (.cells cs 3)) fun e w'=>e=.returned (.bool (inL m l))/\Below W.heap.size W w':=by
 subst hn hcs;have hb:Below W.heap.size W (W.alloc (.cells (ICs l) 3)):=(Below.refl _ _).alloc (Nat.le_refl _) _;refine (jjo (some ⟨W.heap.size,0,none⟩) l.length l m (W.alloc (.cells (ICs l) 3)) (jgi.new W 3 l).ints hl).mono ?_;rintro e w' ⟨h1,h2⟩;exact ⟨h1,by rw [h2];exact hb⟩
theorem jlb (l:Ln) (w:World) (h1:inL 2147483647 [l.g,l.s]=false) :
  Calls Tryz.prog 112 #[.agg (lnV l)] w fun e w'=>e=.returned (.int .i64 7)/\Below w.heap.size w w':=by
 have HW1:=Lib.hid (jaI [l.g,l.s] 2147483647 2 rfl (by decide) _ rfl);have HW2:=Lib.hid (jaI [l.r.k] 9 1 rfl (by decide) _ rfl);have HW3:=Lib.hid (jaI [l.r.a,l.r.b,l.r.c,l.r.d] 1099511627776 4 rfl (by decide) _ rfl);rw [h1] at HW1;clear h1;have hinf:(Tryz.prog.info? 56).map (·.size)=some (rcV l.r).size:=Tryz.infoRec;have hinf2:(Tryz.prog.info? 56).map (·.size)=some (rcV l.r).toList.length:=Tryz.infoRec;have hone:=jdN l.r;have HRA:Hid ((w.alloc (.cells (lnV l) 135)).rangeAt w.heap.size 3 (rcV l.r).toList):=(jav (heap_alloc_new w (.cells (lnV l) 135)) (Below.refl _ _)).2.2.2
 have HLN:Hid (∀ W W':World,W.heap[w.heap.size]? = some (.cells (lnV l) 135 (0,0))->Below W.heap.size W W'->W'.cell? ⟨w.heap.size,0,none⟩=some (.int .i64 l.g)/\W'.cell? ⟨w.heap.size,1,none⟩=some (.int .i64 l.s)/\W'.cell? ⟨w.heap.size,2,none⟩=some (.bool l.last)) :=
  fun W W' h hb=>⟨(jav h hb).1,(jav h hb).2.1,(jav h hb).2.2.1⟩
 have HRC:Hid (∀ W W':World,W.heap[w.heap.size + 1]? = some (.cells (rcV l.r) 56 (0,0))->Below W.heap.size W W'->W'.cell? ⟨w.heap.size + 1,0,none⟩=some (.int .i64 l.r.k)/\W'.cell? ⟨w.heap.size + 1,1,none⟩=some (.int .i64 l.r.a)/\W'.cell? ⟨w.heap.size + 1,2,none⟩=some (.int .i64 l.r.b)/\W'.cell? ⟨w.heap.size + 1,3,none⟩=some (.int .i64 l.r.c)/\W'.cell? ⟨w.heap.size + 1,4,none⟩=some (.int .i64 l.r.d)/\W'.cell? ⟨w.heap.size + 1,5,none⟩=some (.string l.r.key)) :=
  fun W W' h hb=>jdc h hb
 have HZ:Hid (((w.alloc (.cells (lnV l) 135)).alloc (.cells #[.int .i64 0,.int .i64 0,.int .i64 0,.int .i64 0,.int .i64 0,.string ⟨#[]⟩] 56)).heap[w.heap.size + 1]? = some (.cells #[.int .i64 0,.int .i64 0,.int .i64 0,.int .i64 0,.int .i64 0,.string ⟨#[]⟩] 56 (0,0))):=by
  have:=heap_alloc_new (w.alloc (.cells (lnV l) 135)) (.cells #[.int .i64 0,.int .i64 0,.int .i64 0,.int .i64 0,.int .i64 0,.string ⟨#[]⟩] 56)
  rwa [show (w.alloc (.cells (lnV l) 135)).heap.size=w.heap.size + 1 by simp] at this
 have HQ:Hid (∀ o,((w.alloc (.cells (lnV l) 135)).alloc o).heap[w.heap.size]? = some (.cells (lnV l) 135 (0,0))):=fun o=>by
  rw [Below.heap_alloc _ _ _ (by simp)];exact heap_alloc_new _ _
 have HB:Hid (∀ o o',Below w.heap.size w ((w.alloc o).alloc o')):=fun o o'=>((Below.refl _ _).alloc (Nat.le_refl _) _).alloc (by simp) _
 obtain ⟨L,hL⟩:∃ L,L=lnV l:=⟨_,rfl⟩;simp only [<- hL] at HRA HLN HZ HQ;rw [<- hL];obtain ⟨R,hR⟩:∃ L,L=rcV l.r:=⟨_,rfl⟩;rw [<- hR] at hinf hinf2 hone HRA;simp only [<- hR] at HRC;have hRT:R.toList.toArray=R:=Array.toArray_toList;obtain ⟨C,hC⟩:∃ L,L=R.toList:=⟨_,rfl⟩;rw [<- hC] at hinf2 HRA hRT;have hold:Hid (6=R.size):=by rw [hR];rfl
 clear hL hR hC;go_enter Tryz.func112,Tryz.ntmps112
 go_wp2_with (first
  | (refine wpList_load_mid rfl 56 _ rfl w.heap.size 3 rfl C _ HRA.out Tryz.underlying56 rfl hinf2 ?_;rw [hRT])
  | (refine jad rfl 56 _ _ rfl (w.heap.size + 1) R rfl rfl 56 _ HZ.out hinf hold.out hone (HB.out _ _) (Nat.le_succ _) ?_;intro W hW hbW hkW hsW
     have hqW:=(hkW _ (Nat.ne_of_lt (Nat.lt_succ_self _))).trans (HQ.out _);obtain ⟨l0,l1,l2⟩:=HLN.out W W hqW (Below.refl _ _);obtain ⟨r0,r1,r2,r3,r4,r5⟩:=HRC.out W W hW (Below.refl _ _);have HW:=Lib.hid hW;have HQW:=Lib.hid hqW;clear hW hkW hsW hqW))
 go_wp2_with (first
  | (go_at_call_of 141 (Value.int .i64 2147483647);with_reducible (refine Calls.mono (HW1.out _) ?_);rintro e w1 ⟨rfl,hb1⟩;obtain ⟨r0,r1,r2,r3,r4,r5⟩:=HRC.out W w1 HW.out hb1;have hx1:=hbW.trans (hb1.mono hbW.size))
  )
 go_ret;exact ⟨rfl,hx1⟩
theorem jlm (l:Ln) (w:World) (h1:inL 2147483647 [l.g,l.s]=true) (h2:inL 9 [l.r.k]=false) :
  Calls Tryz.prog 112 #[.agg (lnV l)] w fun e w'=>e=.returned (.int .i64 7)/\Below w.heap.size w w':=by
 have HW1:=Lib.hid (jaI [l.g,l.s] 2147483647 2 rfl (by decide) _ rfl);have HW2:=Lib.hid (jaI [l.r.k] 9 1 rfl (by decide) _ rfl);have HW3:=Lib.hid (jaI [l.r.a,l.r.b,l.r.c,l.r.d] 1099511627776 4 rfl (by decide) _ rfl);rw [h1] at HW1;rw [h2] at HW2;clear h1 h2;have hinf:(Tryz.prog.info? 56).map (·.size)=some (rcV l.r).size:=Tryz.infoRec;have hinf2:(Tryz.prog.info? 56).map (·.size)=some (rcV l.r).toList.length:=Tryz.infoRec;have hone:=jdN l.r;have HRA:Hid ((w.alloc (.cells (lnV l) 135)).rangeAt w.heap.size 3 (rcV l.r).toList):=(jav (heap_alloc_new w (.cells (lnV l) 135)) (Below.refl _ _)).2.2.2
 have HLN:Hid (∀ W W':World,W.heap[w.heap.size]? = some (.cells (lnV l) 135 (0,0))->Below W.heap.size W W'->W'.cell? ⟨w.heap.size,0,none⟩=some (.int .i64 l.g)/\W'.cell? ⟨w.heap.size,1,none⟩=some (.int .i64 l.s)/\W'.cell? ⟨w.heap.size,2,none⟩=some (.bool l.last)) :=
  fun W W' h hb=>⟨(jav h hb).1,(jav h hb).2.1,(jav h hb).2.2.1⟩
 have HRC:Hid (∀ W W':World,W.heap[w.heap.size + 1]? = some (.cells (rcV l.r) 56 (0,0))->Below W.heap.size W W'->W'.cell? ⟨w.heap.size + 1,0,none⟩=some (.int .i64 l.r.k)/\W'.cell? ⟨w.heap.size + 1,1,none⟩=some (.int .i64 l.r.a)/\W'.cell? ⟨w.heap.size + 1,2,none⟩=some (.int .i64 l.r.b)/\W'.cell? ⟨w.heap.size + 1,3,none⟩=some (.int .i64 l.r.c)/\W'.cell? ⟨w.heap.size + 1,4,none⟩=some (.int .i64 l.r.d)/\W'.cell? ⟨w.heap.size + 1,5,none⟩=some (.string l.r.key)) :=
  fun W W' h hb=>jdc h hb
 have HZ:Hid (((w.alloc (.cells (lnV l) 135)).alloc (.cells #[.int .i64 0,.int .i64 0,.int .i64 0,.int .i64 0,.int .i64 0,.string ⟨#[]⟩] 56)).heap[w.heap.size + 1]? = some (.cells #[.int .i64 0,.int .i64 0,.int .i64 0,.int .i64 0,.int .i64 0,.string ⟨#[]⟩] 56 (0,0))):=by
  have:=heap_alloc_new (w.alloc (.cells (lnV l) 135)) (.cells #[.int .i64 0,.int .i64 0,.int .i64 0,.int .i64 0,.int .i64 0,.string ⟨#[]⟩] 56)
  rwa [show (w.alloc (.cells (lnV l) 135)).heap.size=w.heap.size + 1 by simp] at this
 have HQ:Hid (∀ o,((w.alloc (.cells (lnV l) 135)).alloc o).heap[w.heap.size]? = some (.cells (lnV l) 135 (0,0))):=fun o=>by
  rw [Below.heap_alloc _ _ _ (by simp)];exact heap_alloc_new _ _
 have HB:Hid (∀ o o',Below w.heap.size w ((w.alloc o).alloc o')):=fun o o'=>((Below.refl _ _).alloc (Nat.le_refl _) _).alloc (by simp) _
 obtain ⟨L,hL⟩:∃ L,L=lnV l:=⟨_,rfl⟩;simp only [<- hL] at HRA HLN HZ HQ;rw [<- hL];obtain ⟨R,hR⟩:∃ L,L=rcV l.r:=⟨_,rfl⟩;rw [<- hR] at hinf hinf2 hone HRA;simp only [<- hR] at HRC;have hRT:R.toList.toArray=R:=Array.toArray_toList;obtain ⟨C,hC⟩:∃ L,L=R.toList:=⟨_,rfl⟩;rw [<- hC] at hinf2 HRA hRT;have hold:Hid (6=R.size):=by rw [hR];rfl
 clear hL hR hC;go_enter Tryz.func112,Tryz.ntmps112
 go_wp2_with (first
  | (refine wpList_load_mid rfl 56 _ rfl w.heap.size 3 rfl C _ HRA.out Tryz.underlying56 rfl hinf2 ?_;rw [hRT])
  | (refine jad rfl 56 _ _ rfl (w.heap.size + 1) R rfl rfl 56 _ HZ.out hinf hold.out hone (HB.out _ _) (Nat.le_succ _) ?_;intro W hW hbW hkW hsW
     have hqW:=(hkW _ (Nat.ne_of_lt (Nat.lt_succ_self _))).trans (HQ.out _);obtain ⟨l0,l1,l2⟩:=HLN.out W W hqW (Below.refl _ _);obtain ⟨r0,r1,r2,r3,r4,r5⟩:=HRC.out W W hW (Below.refl _ _);have HW:=Lib.hid hW;have HQW:=Lib.hid hqW;clear hW hkW hsW hqW))
 go_wp2_with (first
  | (go_at_call_of 141 (Value.int .i64 2147483647);with_reducible (refine Calls.mono (HW1.out _) ?_);rintro e w1 ⟨rfl,hb1⟩;obtain ⟨r0,r1,r2,r3,r4,r5⟩:=HRC.out W w1 HW.out hb1;have hx1:=hbW.trans (hb1.mono hbW.size))
  | (go_at_call_of 141 (Value.int .i64 9);with_reducible (refine Calls.mono (HW2.out _) ?_);rintro e w2 ⟨rfl,hb2⟩;have hx2:=hx1.trans (hb2.mono hx1.size);obtain ⟨r0,r1,r2,r3,r4,r5⟩:=HRC.out W w2 HW.out (hb1.trans (hb2.mono hb1.size)))
  )
 go_ret;exact ⟨rfl,hx2⟩
theorem jli (l:Ln) (w:World) (h1:inL 2147483647 [l.g,l.s]=true) (h2:inL 9 [l.r.k]=true) (h3:inL 1099511627776 [l.r.a,l.r.b,l.r.c,l.r.d]=false) :
  Calls Tryz.prog 112 #[.agg (lnV l)] w fun e w'=>e=.returned (.int .i64 7)/\Below w.heap.size w w':=by
 have HW1:=Lib.hid (jaI [l.g,l.s] 2147483647 2 rfl (by decide) _ rfl);have HW2:=Lib.hid (jaI [l.r.k] 9 1 rfl (by decide) _ rfl);have HW3:=Lib.hid (jaI [l.r.a,l.r.b,l.r.c,l.r.d] 1099511627776 4 rfl (by decide) _ rfl);rw [h1] at HW1;rw [h2] at HW2;rw [h3] at HW3;clear h1 h2 h3;have hinf:(Tryz.prog.info? 56).map (·.size)=some (rcV l.r).size:=Tryz.infoRec;have hinf2:(Tryz.prog.info? 56).map (·.size)=some (rcV l.r).toList.length:=Tryz.infoRec;have hone:=jdN l.r;have HRA:Hid ((w.alloc (.cells (lnV l) 135)).rangeAt w.heap.size 3 (rcV l.r).toList):=(jav (heap_alloc_new w (.cells (lnV l) 135)) (Below.refl _ _)).2.2.2
 have HLN:Hid (∀ W W':World,W.heap[w.heap.size]? = some (.cells (lnV l) 135 (0,0))->Below W.heap.size W W'->W'.cell? ⟨w.heap.size,0,none⟩=some (.int .i64 l.g)/\W'.cell? ⟨w.heap.size,1,none⟩=some (.int .i64 l.s)/\W'.cell? ⟨w.heap.size,2,none⟩=some (.bool l.last)) :=
  fun W W' h hb=>⟨(jav h hb).1,(jav h hb).2.1,(jav h hb).2.2.1⟩
 have HRC:Hid (∀ W W':World,W.heap[w.heap.size + 1]? = some (.cells (rcV l.r) 56 (0,0))->Below W.heap.size W W'->W'.cell? ⟨w.heap.size + 1,0,none⟩=some (.int .i64 l.r.k)/\W'.cell? ⟨w.heap.size + 1,1,none⟩=some (.int .i64 l.r.a)/\W'.cell? ⟨w.heap.size + 1,2,none⟩=some (.int .i64 l.r.b)/\W'.cell? ⟨w.heap.size + 1,3,none⟩=some (.int .i64 l.r.c)/\W'.cell? ⟨w.heap.size + 1,4,none⟩=some (.int .i64 l.r.d)/\W'.cell? ⟨w.heap.size + 1,5,none⟩=some (.string l.r.key)) :=
  fun W W' h hb=>jdc h hb
 have HZ:Hid (((w.alloc (.cells (lnV l) 135)).alloc (.cells #[.int .i64 0,.int .i64 0,.int .i64 0,.int .i64 0,.int .i64 0,.string ⟨#[]⟩] 56)).heap[w.heap.size + 1]? = some (.cells #[.int .i64 0,.int .i64 0,.int .i64 0,.int .i64 0,.int .i64 0,.string ⟨#[]⟩] 56 (0,0))):=by
  have:=heap_alloc_new (w.alloc (.cells (lnV l) 135)) (.cells #[.int .i64 0,.int .i64 0,.int .i64 0,.int .i64 0,.int .i64 0,.string ⟨#[]⟩] 56)
  rwa [show (w.alloc (.cells (lnV l) 135)).heap.size=w.heap.size + 1 by simp] at this
 have HQ:Hid (∀ o,((w.alloc (.cells (lnV l) 135)).alloc o).heap[w.heap.size]? = some (.cells (lnV l) 135 (0,0))):=fun o=>by
  rw [Below.heap_alloc _ _ _ (by simp)];exact heap_alloc_new _ _
 have HB:Hid (∀ o o',Below w.heap.size w ((w.alloc o).alloc o')):=fun o o'=>((Below.refl _ _).alloc (Nat.le_refl _) _).alloc (by simp) _
 obtain ⟨L,hL⟩:∃ L,L=lnV l:=⟨_,rfl⟩;simp only [<- hL] at HRA HLN HZ HQ;rw [<- hL];obtain ⟨R,hR⟩:∃ L,L=rcV l.r:=⟨_,rfl⟩;rw [<- hR] at hinf hinf2 hone HRA;simp only [<- hR] at HRC;have hRT:R.toList.toArray=R:=Array.toArray_toList;obtain ⟨C,hC⟩:∃ L,L=R.toList:=⟨_,rfl⟩;rw [<- hC] at hinf2 HRA hRT;have hold:Hid (6=R.size):=by rw [hR];rfl
 clear hL hR hC;go_enter Tryz.func112,Tryz.ntmps112
 go_wp2_with (first
  | (refine wpList_load_mid rfl 56 _ rfl w.heap.size 3 rfl C _ HRA.out Tryz.underlying56 rfl hinf2 ?_;rw [hRT])
  | (refine jad rfl 56 _ _ rfl (w.heap.size + 1) R rfl rfl 56 _ HZ.out hinf hold.out hone (HB.out _ _) (Nat.le_succ _) ?_;intro W hW hbW hkW hsW
     have hqW:=(hkW _ (Nat.ne_of_lt (Nat.lt_succ_self _))).trans (HQ.out _);obtain ⟨l0,l1,l2⟩:=HLN.out W W hqW (Below.refl _ _);obtain ⟨r0,r1,r2,r3,r4,r5⟩:=HRC.out W W hW (Below.refl _ _);have HW:=Lib.hid hW;have HQW:=Lib.hid hqW;clear hW hkW hsW hqW))
 go_wp2_with (first
  | (go_at_call_of 141 (Value.int .i64 2147483647);with_reducible (refine Calls.mono (HW1.out _) ?_);rintro e w1 ⟨rfl,hb1⟩;obtain ⟨r0,r1,r2,r3,r4,r5⟩:=HRC.out W w1 HW.out hb1;have hx1:=hbW.trans (hb1.mono hbW.size))
  | (go_at_call_of 141 (Value.int .i64 9);with_reducible (refine Calls.mono (HW2.out _) ?_);rintro e w2 ⟨rfl,hb2⟩;have hx2:=hx1.trans (hb2.mono hx1.size);obtain ⟨r0,r1,r2,r3,r4,r5⟩:=HRC.out W w2 HW.out (hb1.trans (hb2.mono hb1.size)))
  | (go_at_call_of 141 (Value.int .i64 1099511627776);with_reducible (refine Calls.mono (HW3.out _) ?_);rintro e w3 ⟨rfl,hb3⟩;have hx3:=hx2.trans (hb3.mono hx2.size);obtain ⟨r0,r1,r2,r3,r4,r5⟩:=HRC.out W w3 HW.out (hb1.trans ((hb2.trans (hb3.mono hb2.size)).mono hb1.size)))
  )
 go_ret;exact ⟨rfl,hx3⟩
theorem jmo (l:Ln) (w:World) (h1:inL 2147483647 [l.g,l.s]=true) (h2:inL 9 [l.r.k]=true) (h3:inL 1099511627776 [l.r.a,l.r.b,l.r.c,l.r.d]=true) (hk0:l.r.key.size≠0) (hk1:l.r.key.size≠16) :
  Calls Tryz.prog 112 #[.agg (lnV l)] w fun e w'=>e=.returned (.int .i64 1)/\Below w.heap.size w w':=by
 have HW1:=Lib.hid (jaI [l.g,l.s] 2147483647 2 rfl (by decide) _ rfl);have HW2:=Lib.hid (jaI [l.r.k] 9 1 rfl (by decide) _ rfl);have HW3:=Lib.hid (jaI [l.r.a,l.r.b,l.r.c,l.r.d] 1099511627776 4 rfl (by decide) _ rfl);rw [h1] at HW1;rw [h2] at HW2;rw [h3] at HW3;have kA:((l.r.key.size:Int) != 0)=true:=by rw [bne_iff_ne];omega
 have kC:((l.r.key.size:Int) != 16)=true:=by rw [bne_iff_ne];omega
 clear h1 h2 h3 hk0 hk1;have hinf:(Tryz.prog.info? 56).map (·.size)=some (rcV l.r).size:=Tryz.infoRec;have hinf2:(Tryz.prog.info? 56).map (·.size)=some (rcV l.r).toList.length:=Tryz.infoRec;have hone:=jdN l.r;have HRA:Hid ((w.alloc (.cells (lnV l) 135)).rangeAt w.heap.size 3 (rcV l.r).toList):=(jav (heap_alloc_new w (.cells (lnV l) 135)) (Below.refl _ _)).2.2.2
 have HLN:Hid (∀ W W':World,W.heap[w.heap.size]? = some (.cells (lnV l) 135 (0,0))->Below W.heap.size W W'->W'.cell? ⟨w.heap.size,0,none⟩=some (.int .i64 l.g)/\W'.cell? ⟨w.heap.size,1,none⟩=some (.int .i64 l.s)/\W'.cell? ⟨w.heap.size,2,none⟩=some (.bool l.last)) :=
  fun W W' h hb=>⟨(jav h hb).1,(jav h hb).2.1,(jav h hb).2.2.1⟩
 have HRC:Hid (∀ W W':World,W.heap[w.heap.size + 1]? = some (.cells (rcV l.r) 56 (0,0))->Below W.heap.size W W'->W'.cell? ⟨w.heap.size + 1,0,none⟩=some (.int .i64 l.r.k)/\W'.cell? ⟨w.heap.size + 1,1,none⟩=some (.int .i64 l.r.a)/\W'.cell? ⟨w.heap.size + 1,2,none⟩=some (.int .i64 l.r.b)/\W'.cell? ⟨w.heap.size + 1,3,none⟩=some (.int .i64 l.r.c)/\W'.cell? ⟨w.heap.size + 1,4,none⟩=some (.int .i64 l.r.d)/\W'.cell? ⟨w.heap.size + 1,5,none⟩=some (.string l.r.key)) :=
  fun W W' h hb=>jdc h hb
 have HZ:Hid (((w.alloc (.cells (lnV l) 135)).alloc (.cells #[.int .i64 0,.int .i64 0,.int .i64 0,.int .i64 0,.int .i64 0,.string ⟨#[]⟩] 56)).heap[w.heap.size + 1]? = some (.cells #[.int .i64 0,.int .i64 0,.int .i64 0,.int .i64 0,.int .i64 0,.string ⟨#[]⟩] 56 (0,0))):=by
  have:=heap_alloc_new (w.alloc (.cells (lnV l) 135)) (.cells #[.int .i64 0,.int .i64 0,.int .i64 0,.int .i64 0,.int .i64 0,.string ⟨#[]⟩] 56)
  rwa [show (w.alloc (.cells (lnV l) 135)).heap.size=w.heap.size + 1 by simp] at this
 have HQ:Hid (∀ o,((w.alloc (.cells (lnV l) 135)).alloc o).heap[w.heap.size]? = some (.cells (lnV l) 135 (0,0))):=fun o=>by
  rw [Below.heap_alloc _ _ _ (by simp)];exact heap_alloc_new _ _
 have HB:Hid (∀ o o',Below w.heap.size w ((w.alloc o).alloc o')):=fun o o'=>((Below.refl _ _).alloc (Nat.le_refl _) _).alloc (by simp) _
 obtain ⟨L,hL⟩:∃ L,L=lnV l:=⟨_,rfl⟩;simp only [<- hL] at HRA HLN HZ HQ;rw [<- hL];obtain ⟨R,hR⟩:∃ L,L=rcV l.r:=⟨_,rfl⟩;rw [<- hR] at hinf hinf2 hone HRA;simp only [<- hR] at HRC;have hRT:R.toList.toArray=R:=Array.toArray_toList;obtain ⟨C,hC⟩:∃ L,L=R.toList:=⟨_,rfl⟩;rw [<- hC] at hinf2 HRA hRT;have hold:Hid (6=R.size):=by rw [hR];rfl
 clear hL hR hC;go_enter Tryz.func112,Tryz.ntmps112
 go_wp2_with (first
  | (refine wpList_load_mid rfl 56 _ rfl w.heap.size 3 rfl C _ HRA.out Tryz.underlying56 rfl hinf2 ?_;rw [hRT])
  | (refine jad rfl 56 _ _ rfl (w.heap.size + 1) R rfl rfl 56 _ HZ.out hinf hold.out hone (HB.out _ _) (Nat.le_succ _) ?_;intro W hW hbW hkW hsW
     have hqW:=(hkW _ (Nat.ne_of_lt (Nat.lt_succ_self _))).trans (HQ.out _);obtain ⟨l0,l1,l2⟩:=HLN.out W W hqW (Below.refl _ _);obtain ⟨r0,r1,r2,r3,r4,r5⟩:=HRC.out W W hW (Below.refl _ _);have HW:=Lib.hid hW;have HQW:=Lib.hid hqW;clear hW hkW hsW hqW))
 go_wp2_with (first
  | (go_at_call_of 141 (Value.int .i64 2147483647);with_reducible (refine Calls.mono (HW1.out _) ?_);rintro e w1 ⟨rfl,hb1⟩;obtain ⟨r0,r1,r2,r3,r4,r5⟩:=HRC.out W w1 HW.out hb1;have hx1:=hbW.trans (hb1.mono hbW.size))
  | (go_at_call_of 141 (Value.int .i64 9);with_reducible (refine Calls.mono (HW2.out _) ?_);rintro e w2 ⟨rfl,hb2⟩;have hx2:=hx1.trans (hb2.mono hx1.size);obtain ⟨r0,r1,r2,r3,r4,r5⟩:=HRC.out W w2 HW.out (hb1.trans (hb2.mono hb1.size)))
  | (go_at_call_of 141 (Value.int .i64 1099511627776);with_reducible (refine Calls.mono (HW3.out _) ?_);rintro e w3 ⟨rfl,hb3⟩;have hx3:=hx2.trans (hb3.mono hx2.size);obtain ⟨r0,r1,r2,r3,r4,r5⟩:=HRC.out W w3 HW.out (hb1.trans ((hb2.trans (hb3.mono hb2.size)).mono hb1.size)))
  )
 go_ret;exact ⟨rfl,hx3⟩
theorem jkq (l:Ln) (w:World) (h1:inL 2147483647 [l.g,l.s]=true) (h2:inL 9 [l.r.k]=true) (h3:inL 1099511627776 [l.r.a,l.r.b,l.r.c,l.r.d]=true) (hk:l.r.key.size=0) :
  Calls Tryz.prog 112 #[.agg (lnV l)] w fun e w'=>e=.returned (.int .i64 0)/\Below w.heap.size w w':=by
 have HW1:=Lib.hid (jaI [l.g,l.s] 2147483647 2 rfl (by decide) _ rfl);have HW2:=Lib.hid (jaI [l.r.k] 9 1 rfl (by decide) _ rfl);have HW3:=Lib.hid (jaI [l.r.a,l.r.b,l.r.c,l.r.d] 1099511627776 4 rfl (by decide) _ rfl);rw [h1] at HW1;rw [h2] at HW2;rw [h3] at HW3;have kA:((l.r.key.size:Int) != 0)=false:=by rw [bne_eq_false_iff_eq];omega
 clear h1 h2 h3 hk;have hinf:(Tryz.prog.info? 56).map (·.size)=some (rcV l.r).size:=Tryz.infoRec;have hinf2:(Tryz.prog.info? 56).map (·.size)=some (rcV l.r).toList.length:=Tryz.infoRec;have hone:=jdN l.r;have HRA:Hid ((w.alloc (.cells (lnV l) 135)).rangeAt w.heap.size 3 (rcV l.r).toList):=(jav (heap_alloc_new w (.cells (lnV l) 135)) (Below.refl _ _)).2.2.2
 have HLN:Hid (∀ W W':World,W.heap[w.heap.size]? = some (.cells (lnV l) 135 (0,0))->Below W.heap.size W W'->W'.cell? ⟨w.heap.size,0,none⟩=some (.int .i64 l.g)/\W'.cell? ⟨w.heap.size,1,none⟩=some (.int .i64 l.s)/\W'.cell? ⟨w.heap.size,2,none⟩=some (.bool l.last)) :=
  fun W W' h hb=>⟨(jav h hb).1,(jav h hb).2.1,(jav h hb).2.2.1⟩
 have HRC:Hid (∀ W W':World,W.heap[w.heap.size + 1]? = some (.cells (rcV l.r) 56 (0,0))->Below W.heap.size W W'->W'.cell? ⟨w.heap.size + 1,0,none⟩=some (.int .i64 l.r.k)/\W'.cell? ⟨w.heap.size + 1,1,none⟩=some (.int .i64 l.r.a)/\W'.cell? ⟨w.heap.size + 1,2,none⟩=some (.int .i64 l.r.b)/\W'.cell? ⟨w.heap.size + 1,3,none⟩=some (.int .i64 l.r.c)/\W'.cell? ⟨w.heap.size + 1,4,none⟩=some (.int .i64 l.r.d)/\W'.cell? ⟨w.heap.size + 1,5,none⟩=some (.string l.r.key)) :=
  fun W W' h hb=>jdc h hb
 have HZ:Hid (((w.alloc (.cells (lnV l) 135)).alloc (.cells #[.int .i64 0,.int .i64 0,.int .i64 0,.int .i64 0,.int .i64 0,.string ⟨#[]⟩] 56)).heap[w.heap.size + 1]? = some (.cells #[.int .i64 0,.int .i64 0,.int .i64 0,.int .i64 0,.int .i64 0,.string ⟨#[]⟩] 56 (0,0))):=by
  have:=heap_alloc_new (w.alloc (.cells (lnV l) 135)) (.cells #[.int .i64 0,.int .i64 0,.int .i64 0,.int .i64 0,.int .i64 0,.string ⟨#[]⟩] 56)
  rwa [show (w.alloc (.cells (lnV l) 135)).heap.size=w.heap.size + 1 by simp] at this
 have HQ:Hid (∀ o,((w.alloc (.cells (lnV l) 135)).alloc o).heap[w.heap.size]? = some (.cells (lnV l) 135 (0,0))):=fun o=>by
  rw [Below.heap_alloc _ _ _ (by simp)];exact heap_alloc_new _ _
 have HB:Hid (∀ o o',Below w.heap.size w ((w.alloc o).alloc o')):=fun o o'=>((Below.refl _ _).alloc (Nat.le_refl _) _).alloc (by simp) _
 obtain ⟨L,hL⟩:∃ L,L=lnV l:=⟨_,rfl⟩;simp only [<- hL] at HRA HLN HZ HQ;rw [<- hL];obtain ⟨R,hR⟩:∃ L,L=rcV l.r:=⟨_,rfl⟩;rw [<- hR] at hinf hinf2 hone HRA;simp only [<- hR] at HRC;have hRT:R.toList.toArray=R:=Array.toArray_toList;obtain ⟨C,hC⟩:∃ L,L=R.toList:=⟨_,rfl⟩;rw [<- hC] at hinf2 HRA hRT;have hold:Hid (6=R.size):=by rw [hR];rfl
 clear hL hR hC;go_enter Tryz.func112,Tryz.ntmps112
 go_wp2_with (first
  | (refine wpList_load_mid rfl 56 _ rfl w.heap.size 3 rfl C _ HRA.out Tryz.underlying56 rfl hinf2 ?_;rw [hRT])
  | (refine jad rfl 56 _ _ rfl (w.heap.size + 1) R rfl rfl 56 _ HZ.out hinf hold.out hone (HB.out _ _) (Nat.le_succ _) ?_;intro W hW hbW hkW hsW
     have hqW:=(hkW _ (Nat.ne_of_lt (Nat.lt_succ_self _))).trans (HQ.out _);obtain ⟨l0,l1,l2⟩:=HLN.out W W hqW (Below.refl _ _);obtain ⟨r0,r1,r2,r3,r4,r5⟩:=HRC.out W W hW (Below.refl _ _);have HW:=Lib.hid hW;have HQW:=Lib.hid hqW;clear hW hkW hsW hqW))
 go_wp2_with (first
  | (go_at_call_of 141 (Value.int .i64 2147483647);with_reducible (refine Calls.mono (HW1.out _) ?_);rintro e w1 ⟨rfl,hb1⟩;obtain ⟨r0,r1,r2,r3,r4,r5⟩:=HRC.out W w1 HW.out hb1;have hx1:=hbW.trans (hb1.mono hbW.size))
  | (go_at_call_of 141 (Value.int .i64 9);with_reducible (refine Calls.mono (HW2.out _) ?_);rintro e w2 ⟨rfl,hb2⟩;have hx2:=hx1.trans (hb2.mono hx1.size);obtain ⟨r0,r1,r2,r3,r4,r5⟩:=HRC.out W w2 HW.out (hb1.trans (hb2.mono hb1.size)))
  | (go_at_call_of 141 (Value.int .i64 1099511627776);with_reducible (refine Calls.mono (HW3.out _) ?_);rintro e w3 ⟨rfl,hb3⟩;have hx3:=hx2.trans (hb3.mono hx2.size);obtain ⟨r0,r1,r2,r3,r4,r5⟩:=HRC.out W w3 HW.out (hb1.trans ((hb2.trans (hb3.mono hb2.size)).mono hb1.size)))
  )
 go_ret;exact ⟨rfl,hx3⟩
theorem ji0 (l:Ln) (w:World) (h1:inL 2147483647 [l.g,l.s]=true) (h2:inL 9 [l.r.k]=true) (h3:inL 1099511627776 [l.r.a,l.r.b,l.r.c,l.r.d]=true) (hk:l.r.key.size=16) :
  Calls Tryz.prog 112 #[.agg (lnV l)] w fun e w'=>e=.returned (.int .i64 0)/\Below w.heap.size w w':=by
 have HW1:=Lib.hid (jaI [l.g,l.s] 2147483647 2 rfl (by decide) _ rfl);have HW2:=Lib.hid (jaI [l.r.k] 9 1 rfl (by decide) _ rfl);have HW3:=Lib.hid (jaI [l.r.a,l.r.b,l.r.c,l.r.d] 1099511627776 4 rfl (by decide) _ rfl);rw [h1] at HW1;rw [h2] at HW2;rw [h3] at HW3;have kA:((l.r.key.size:Int) != 0)=true:=by rw [bne_iff_ne];omega
 have kC:((l.r.key.size:Int) != 16)=false:=by rw [bne_eq_false_iff_eq];omega
 clear h1 h2 h3 hk;have hinf:(Tryz.prog.info? 56).map (·.size)=some (rcV l.r).size:=Tryz.infoRec;have hinf2:(Tryz.prog.info? 56).map (·.size)=some (rcV l.r).toList.length:=Tryz.infoRec;have hone:=jdN l.r;have HRA:Hid ((w.alloc (.cells (lnV l) 135)).rangeAt w.heap.size 3 (rcV l.r).toList):=(jav (heap_alloc_new w (.cells (lnV l) 135)) (Below.refl _ _)).2.2.2
 have HLN:Hid (∀ W W':World,W.heap[w.heap.size]? = some (.cells (lnV l) 135 (0,0))->Below W.heap.size W W'->W'.cell? ⟨w.heap.size,0,none⟩=some (.int .i64 l.g)/\W'.cell? ⟨w.heap.size,1,none⟩=some (.int .i64 l.s)/\W'.cell? ⟨w.heap.size,2,none⟩=some (.bool l.last)) :=
  fun W W' h hb=>⟨(jav h hb).1,(jav h hb).2.1,(jav h hb).2.2.1⟩
 have HRC:Hid (∀ W W':World,W.heap[w.heap.size + 1]? = some (.cells (rcV l.r) 56 (0,0))->Below W.heap.size W W'->W'.cell? ⟨w.heap.size + 1,0,none⟩=some (.int .i64 l.r.k)/\W'.cell? ⟨w.heap.size + 1,1,none⟩=some (.int .i64 l.r.a)/\W'.cell? ⟨w.heap.size + 1,2,none⟩=some (.int .i64 l.r.b)/\W'.cell? ⟨w.heap.size + 1,3,none⟩=some (.int .i64 l.r.c)/\W'.cell? ⟨w.heap.size + 1,4,none⟩=some (.int .i64 l.r.d)/\W'.cell? ⟨w.heap.size + 1,5,none⟩=some (.string l.r.key)) :=
  fun W W' h hb=>jdc h hb
 have HZ:Hid (((w.alloc (.cells (lnV l) 135)).alloc (.cells #[.int .i64 0,.int .i64 0,.int .i64 0,.int .i64 0,.int .i64 0,.string ⟨#[]⟩] 56)).heap[w.heap.size + 1]? = some (.cells #[.int .i64 0,.int .i64 0,.int .i64 0,.int .i64 0,.int .i64 0,.string ⟨#[]⟩] 56 (0,0))):=by
  have:=heap_alloc_new (w.alloc (.cells (lnV l) 135)) (.cells #[.int .i64 0,.int .i64 0,.int .i64 0,.int .i64 0,.int .i64 0,.string ⟨#[]⟩] 56)
  rwa [show (w.alloc (.cells (lnV l) 135)).heap.size=w.heap.size + 1 by simp] at this
 have HQ:Hid (∀ o,((w.alloc (.cells (lnV l) 135)).alloc o).heap[w.heap.size]? = some (.cells (lnV l) 135 (0,0))):=fun o=>by
  rw [Below.heap_alloc _ _ _ (by simp)];exact heap_alloc_new _ _
 have HB:Hid (∀ o o',Below w.heap.size w ((w.alloc o).alloc o')):=fun o o'=>((Below.refl _ _).alloc (Nat.le_refl _) _).alloc (by simp) _
 obtain ⟨L,hL⟩:∃ L,L=lnV l:=⟨_,rfl⟩;simp only [<- hL] at HRA HLN HZ HQ;rw [<- hL];obtain ⟨R,hR⟩:∃ L,L=rcV l.r:=⟨_,rfl⟩;rw [<- hR] at hinf hinf2 hone HRA;simp only [<- hR] at HRC;have hRT:R.toList.toArray=R:=Array.toArray_toList;obtain ⟨C,hC⟩:∃ L,L=R.toList:=⟨_,rfl⟩;rw [<- hC] at hinf2 HRA hRT;have hold:Hid (6=R.size):=by rw [hR];rfl
 clear hL hR hC;go_enter Tryz.func112,Tryz.ntmps112
 go_wp2_with (first
  | (refine wpList_load_mid rfl 56 _ rfl w.heap.size 3 rfl C _ HRA.out Tryz.underlying56 rfl hinf2 ?_;rw [hRT])
  | (refine jad rfl 56 _ _ rfl (w.heap.size + 1) R rfl rfl 56 _ HZ.out hinf hold.out hone (HB.out _ _) (Nat.le_succ _) ?_;intro W hW hbW hkW hsW
     have hqW:=(hkW _ (Nat.ne_of_lt (Nat.lt_succ_self _))).trans (HQ.out _);obtain ⟨l0,l1,l2⟩:=HLN.out W W hqW (Below.refl _ _);obtain ⟨r0,r1,r2,r3,r4,r5⟩:=HRC.out W W hW (Below.refl _ _);have HW:=Lib.hid hW;have HQW:=Lib.hid hqW;clear hW hkW hsW hqW))
 go_wp2_with (first
  | (go_at_call_of 141 (Value.int .i64 2147483647);with_reducible (refine Calls.mono (HW1.out _) ?_);rintro e w1 ⟨rfl,hb1⟩;obtain ⟨r0,r1,r2,r3,r4,r5⟩:=HRC.out W w1 HW.out hb1;have hx1:=hbW.trans (hb1.mono hbW.size))
  | (go_at_call_of 141 (Value.int .i64 9);with_reducible (refine Calls.mono (HW2.out _) ?_);rintro e w2 ⟨rfl,hb2⟩;have hx2:=hx1.trans (hb2.mono hx1.size);obtain ⟨r0,r1,r2,r3,r4,r5⟩:=HRC.out W w2 HW.out (hb1.trans (hb2.mono hb1.size)))
  | (go_at_call_of 141 (Value.int .i64 1099511627776);with_reducible (refine Calls.mono (HW3.out _) ?_);rintro e w3 ⟨rfl,hb3⟩;have hx3:=hx2.trans (hb3.mono hx2.size);obtain ⟨r0,r1,r2,r3,r4,r5⟩:=HRC.out W w3 HW.out (hb1.trans ((hb2.trans (hb3.mono hb2.size)).mono hb1.size)))
  )
 go_ret;exact ⟨rfl,hx3⟩
theorem jgG (l:Ln) (w:World):Calls Tryz.prog 112 #[.agg (lnV l)] w fun e w'=>e=.returned (.int .i64 (jdj l))/\Below w.heap.size w w':=by
 have hr:=jlF l;cases h1:inL 2147483647 [l.g,l.s]
 ·rw [show jdj l=7 by unfold jdj;rw [hr,h1];rfl];exact jlb l w h1
 cases h2:inL 9 [l.r.k]
 ·rw [show jdj l=7 by unfold jdj;rw [hr,h1,h2];rfl];exact jlm l w h1 h2
 cases h3:inL 1099511627776 [l.r.a,l.r.b,l.r.c,l.r.d]
 ·rw [show jdj l=7 by unfold jdj;rw [hr,h1,h2,h3];rfl];exact jli l w h1 h2 h3
 have hr1:jft l=true:=by rw [hr,h1,h2,h3];rfl
 by_cases hk0:l.r.key.size=0
 ·rw [show jdj l=0 from jbB.2 ⟨hr1,.inl hk0⟩];exact jkq l w h1 h2 h3 hk0
 by_cases hk1:l.r.key.size=16
 ·rw [show jdj l=0 from jbB.2 ⟨hr1,.inr hk1⟩];exact ji0 l w h1 h2 h3 hk1
 rw [show jdj l=1 by unfold jdj;rw [if_pos hr1,if_neg (by omega)]];exact jmo l w h1 h2 h3 hk0 hk1
end Go.Proofs.YtbnhkplhmanmoaaGreat
