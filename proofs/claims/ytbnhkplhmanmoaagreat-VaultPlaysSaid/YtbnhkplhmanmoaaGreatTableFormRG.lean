/- . -/
import Derived.Test.YtbnhkplhmanmoaaGreatTableAskG
import Derived.Test.YtbnhkplhmanmoaaGreatTableC9G
namespace Go.Proofs.YtbnhkplhmanmoaaGreat
open Go.RowKit
set_option maxHeartbeats 6400000
set_option maxRecDepth 20000
theorem jh5 (rk ra rb rc rd:Int) (key:ByteArray) (hk:rk≠1) (hd:rd≠0) (w:World) :
  Calls Tryz.prog 29 #[.agg #[.int .i64 rk,.int .i64 ra,.int .i64 rb,.int .i64 rc,.int .i64 rd,.string key]] w fun e w'=>e=.returned (.bool (decide (jaf ⟨rk,ra,rb,rc,rd,key⟩)))/\Below w.heap.size w w':=by
 obtain ⟨W0,hW0⟩:∃ W,W=w.alloc (.cells #[.int .i64 rk,.int .i64 ra,.int .i64 rb,.int .i64 rc,.int .i64 rd,.string key] 56):=⟨_,rfl⟩;have HB0:Hid (Below w.heap.size w W0):=by rw [hW0];exact (Below.refl _ _).alloc (Nat.le_refl _) _
 have hg0:=heap_alloc_new w (.cells #[.int .i64 rk,.int .i64 ra,.int .i64 rb,.int .i64 rc,.int .i64 rd,.string key] 56);rw [<- hW0] at hg0;obtain ⟨r0,r1,r2,r3,r4,r5⟩:=jbz hg0;have HW0:=Lib.hid hW0;clear hg0 hW0;have e1:(rk == 1)=false:=beq_eq_false_iff_ne.2 hk;have e2:(rd != 0)=true:=bne_iff_ne.2 hd;have HE:Hid (decide (jaf ⟨rk,ra,rb,rc,rd,key⟩)=false):=decide_eq_false (by simp [jaf,hk,hd]);clear hk hd;go_enter Tryz.func29,Tryz.ntmps29
 go_wp2_with (first
  | (rw [<- HW0.out];clear HW0))
 go_ret;exact ⟨by rw [HE.out];rfl,HB0.out⟩
theorem jhN (rk ra rb rc:Int) (key:ByteArray) (hk:rk≠1) (hs:key.size≠0) (ks:¬ key.toList=[]) (w:World) :
  Calls Tryz.prog 29 #[.agg #[.int .i64 rk,.int .i64 ra,.int .i64 rb,.int .i64 rc,.int .i64 0,.string key]] w fun e w'=>e=.returned (.bool (decide (jaf ⟨rk,ra,rb,rc,0,key⟩)))/\Below w.heap.size w w':=by
 obtain ⟨W0,hW0⟩:∃ W,W=w.alloc (.cells #[.int .i64 rk,.int .i64 ra,.int .i64 rb,.int .i64 rc,.int .i64 0,.string key] 56):=⟨_,rfl⟩;have HB0:Hid (Below w.heap.size w W0):=by rw [hW0];exact (Below.refl _ _).alloc (Nat.le_refl _) _
 have hg0:=heap_alloc_new w (.cells #[.int .i64 rk,.int .i64 ra,.int .i64 rb,.int .i64 rc,.int .i64 0,.string key] 56);rw [<- hW0] at hg0;obtain ⟨r0,r1,r2,r3,r4,r5⟩:=jbz hg0;have HW0:=Lib.hid hW0;clear hg0 hW0;have e1:(rk == 1)=false:=beq_eq_false_iff_ne.2 hk;have HE:Hid (decide (jaf ⟨rk,ra,rb,rc,0,key⟩)=false):=decide_eq_false (by simp [jaf,hk,hs]);clear hk hs;go_enter Tryz.func29,Tryz.ntmps29
 go_wp2_with (first
  | (rw [<- HW0.out];clear HW0))
 go_ret;exact ⟨by rw [HE.out];rfl,HB0.out⟩
theorem jiw (rk ra rb rc:Int) (key:ByteArray) (hk:rk≠1) (hk5:rk≠5) (hc:rc≠0) (hs:key.size=0) (ks:key.toList=[]) (w:World) :
  Calls Tryz.prog 29 #[.agg #[.int .i64 rk,.int .i64 ra,.int .i64 rb,.int .i64 rc,.int .i64 0,.string key]] w fun e w'=>e=.returned (.bool (decide (jaf ⟨rk,ra,rb,rc,0,key⟩)))/\Below w.heap.size w w':=by
 obtain ⟨W0,hW0⟩:∃ W,W=w.alloc (.cells #[.int .i64 rk,.int .i64 ra,.int .i64 rb,.int .i64 rc,.int .i64 0,.string key] 56):=⟨_,rfl⟩;have HB0:Hid (Below w.heap.size w W0):=by rw [hW0];exact (Below.refl _ _).alloc (Nat.le_refl _) _
 have hg0:=heap_alloc_new w (.cells #[.int .i64 rk,.int .i64 ra,.int .i64 rb,.int .i64 rc,.int .i64 0,.string key] 56);rw [<- hW0] at hg0;obtain ⟨r0,r1,r2,r3,r4,r5⟩:=jbz hg0;have HW0:=Lib.hid hW0;clear hg0 hW0;have e1:(rk == 1)=false:=beq_eq_false_iff_ne.2 hk;have e5:(rk != 5)=true:=bne_iff_ne.2 hk5;have ec:(rc != 0)=true:=bne_iff_ne.2 hc;have HE:Hid (decide (jaf ⟨rk,ra,rb,rc,0,key⟩)=false):=decide_eq_false (by simp [jaf,hk,hk5,hc,hs]);clear hk hs hk5 hc;go_enter Tryz.func29,Tryz.ntmps29
 go_wp2_with (first
  | (rw [<- HW0.out];clear HW0))
 go_ret;exact ⟨by rw [HE.out];rfl,HB0.out⟩
theorem jgN (rk ra rb:Int) (key:ByteArray) (hk:¬ inR rk 0 9) (hs:key.size=0) (ks:key.toList=[]) (w:World) :
  Calls Tryz.prog 29 #[.agg #[.int .i64 rk,.int .i64 ra,.int .i64 rb,.int .i64 0,.int .i64 0,.string key]] w fun e w'=>e=.returned (.bool (decide (jaf ⟨rk,ra,rb,0,0,key⟩)))/\Below w.heap.size w w':=by
 obtain ⟨W0,hW0⟩:∃ W,W=w.alloc (.cells #[.int .i64 rk,.int .i64 ra,.int .i64 rb,.int .i64 0,.int .i64 0,.string key] 56):=⟨_,rfl⟩;have HB0:Hid (Below w.heap.size w W0):=by rw [hW0];exact (Below.refl _ _).alloc (Nat.le_refl _) _
 have hg0:=heap_alloc_new w (.cells #[.int .i64 rk,.int .i64 ra,.int .i64 rb,.int .i64 0,.int .i64 0,.string key] 56);rw [<- hW0] at hg0;obtain ⟨r0,r1,r2,r3,r4,r5⟩:=jbz hg0;have HW0:=Lib.hid hW0;clear hg0 hW0;unfold inR at hk;have n0:rk≠0:=by omega
 have e0:(rk == 0)=false:=beq_eq_false_iff_ne.2 n0;have n1:rk≠1:=by omega
 have e1:(rk == 1)=false:=beq_eq_false_iff_ne.2 n1;have n2:rk≠2:=by omega
 have e2:(rk == 2)=false:=beq_eq_false_iff_ne.2 n2;have n3:rk≠3:=by omega
 have e3:(rk == 3)=false:=beq_eq_false_iff_ne.2 n3;have n4:rk≠4:=by omega
 have e4:(rk == 4)=false:=beq_eq_false_iff_ne.2 n4;have n5:rk≠5:=by omega
 have e5:(rk == 5)=false:=beq_eq_false_iff_ne.2 n5;have n6:rk≠6:=by omega
 have e6:(rk == 6)=false:=beq_eq_false_iff_ne.2 n6;have n7:rk≠7:=by omega
 have e7:(rk == 7)=false:=beq_eq_false_iff_ne.2 n7;have n8:rk≠8:=by omega
 have e8:(rk == 8)=false:=beq_eq_false_iff_ne.2 n8;have n9:rk≠9:=by omega
 have e9:(rk == 9)=false:=beq_eq_false_iff_ne.2 n9;have HE:Hid (decide (jaf ⟨rk,ra,rb,0,0,key⟩)=false):=decide_eq_false (by simp [jaf,hs,n0,n1,n2,n3,n4,n5,n6,n7,n8,n9]);clear hk hs n0 n1 n2 n3 n4 n5 n6 n7 n8 n9;go_enter Tryz.func29,Tryz.ntmps29
 go_wp2_with (first
  | (rw [<- HW0.out];clear HW0))
 go_ret;exact ⟨by rw [HE.out];rfl,HB0.out⟩
theorem jln (ra rb rc rd:Int) (key:ByteArray) (w:World) :
  Calls Tryz.prog 29 #[.agg #[.int .i64 1,.int .i64 ra,.int .i64 rb,.int .i64 rc,.int .i64 rd,.string key]] w fun e w'=>e=.returned (.bool (decide (jaf ⟨1,ra,rb,rc,rd,key⟩)))/\Below w.heap.size w w':=by
 obtain ⟨W0,hW0⟩:∃ W,W=w.alloc (.cells #[.int .i64 1,.int .i64 ra,.int .i64 rb,.int .i64 rc,.int .i64 rd,.string key] 56):=⟨_,rfl⟩;have HB0:Hid (Below w.heap.size w W0):=by rw [hW0];exact (Below.refl _ _).alloc (Nat.le_refl _) _
 have hg0:=heap_alloc_new w (.cells #[.int .i64 1,.int .i64 ra,.int .i64 rb,.int .i64 rc,.int .i64 rd,.string key] 56);rw [<- hW0] at hg0;obtain ⟨r0,r1,r2,r3,r4,r5⟩:=jbz hg0;have HW0:=Lib.hid hW0;clear hg0 hW0;have HP:=Lib.hid (jeW ra rb rc rd key)
 have HE:Hid (decide (jaf ⟨1,ra,rb,rc,rd,key⟩)=decide (jcC ra rb rc rd key)):=by
  show _=_;rw [Bool.eq_iff_iff,decide_eq_true_iff,decide_eq_true_iff];unfold jaf jbo jcC;rw [if_pos rfl]
 rw [HE.out];obtain ⟨P,hP⟩:∃ P,P=decide (jcC ra rb rc rd key):=⟨_,rfl⟩;simp only [<- hP] at HP ⊢;clear hP HE;go_enter Tryz.func29,Tryz.ntmps29
 go_wp2_with (first
  | (rw [<- HW0.out];clear HW0)
  | (go_at_call 44;with_reducible (refine Calls.mono (HP.out _) ?_);rintro e w1 ⟨rfl,rfl⟩))
 go_ret;exact ⟨rfl,HB0.out⟩
theorem jmb (ra rb:Int) (key:ByteArray) (hs:key.size=0) (ks:key.toList=[]) (w:World) :
  Calls Tryz.prog 29 #[.agg #[.int .i64 0,.int .i64 ra,.int .i64 rb,.int .i64 0,.int .i64 0,.string key]] w fun e w'=>e=.returned (.bool (decide (jaf ⟨0,ra,rb,0,0,key⟩)))/\Below w.heap.size w w':=by
 obtain ⟨W0,hW0⟩:∃ W,W=w.alloc (.cells #[.int .i64 0,.int .i64 ra,.int .i64 rb,.int .i64 0,.int .i64 0,.string key] 56):=⟨_,rfl⟩;have HB0:Hid (Below w.heap.size w W0):=by rw [hW0];exact (Below.refl _ _).alloc (Nat.le_refl _) _
 have hg0:=heap_alloc_new w (.cells #[.int .i64 0,.int .i64 ra,.int .i64 rb,.int .i64 0,.int .i64 0,.string key] 56);rw [<- hW0] at hg0;obtain ⟨r0,r1,r2,r3,r4,r5⟩:=jbz hg0;have HW0:=Lib.hid hW0;clear hg0 hW0;by_cases qH1:ra=0
 ·have zH1:(ra == 0)=true:=beq_iff_eq.2 qH1;by_cases qH2:rb=0
  ·have zH2:(rb == 0)=true:=beq_iff_eq.2 qH2;have HE:Hid (decide (jaf ⟨0,ra,rb,0,0,key⟩)=true):=decide_eq_true (by simp [jaf,hs,qH1,qH2]);clear hs qH1 qH2;go_enter Tryz.func29,Tryz.ntmps29
   go_wp2_with (first
    | (rw [<- HW0.out];clear HW0))
   go_ret;exact ⟨by rw [HE.out];rfl,HB0.out⟩
  ·have zH2:(rb == 0)=false:=beq_eq_false_iff_ne.2 qH2;have HE:Hid (decide (jaf ⟨0,ra,rb,0,0,key⟩)=false):=decide_eq_false (by simp [jaf,hs,qH1,qH2]);clear hs qH1 qH2;go_enter Tryz.func29,Tryz.ntmps29
   go_wp2_with (first
    | (rw [<- HW0.out];clear HW0))
   go_ret;exact ⟨by rw [HE.out];rfl,HB0.out⟩
 ·have zH1:(ra == 0)=false:=beq_eq_false_iff_ne.2 qH1;have HE:Hid (decide (jaf ⟨0,ra,rb,0,0,key⟩)=false):=decide_eq_false (by simp [jaf,hs,qH1]);clear hs qH1;go_enter Tryz.func29,Tryz.ntmps29
  go_wp2_with (first
   | (rw [<- HW0.out];clear HW0))
  go_ret;exact ⟨by rw [HE.out];rfl,HB0.out⟩
theorem jlr (ra rb:Int) (key:ByteArray) (hs:key.size=0) (ks:key.toList=[]) (w:World) :
  Calls Tryz.prog 29 #[.agg #[.int .i64 2,.int .i64 ra,.int .i64 rb,.int .i64 0,.int .i64 0,.string key]] w fun e w'=>e=.returned (.bool (decide (jaf ⟨2,ra,rb,0,0,key⟩)))/\Below w.heap.size w w':=by
 obtain ⟨W0,hW0⟩:∃ W,W=w.alloc (.cells #[.int .i64 2,.int .i64 ra,.int .i64 rb,.int .i64 0,.int .i64 0,.string key] 56):=⟨_,rfl⟩;have HB0:Hid (Below w.heap.size w W0):=by rw [hW0];exact (Below.refl _ _).alloc (Nat.le_refl _) _
 have hg0:=heap_alloc_new w (.cells #[.int .i64 2,.int .i64 ra,.int .i64 rb,.int .i64 0,.int .i64 0,.string key] 56);rw [<- hW0] at hg0;obtain ⟨r0,r1,r2,r3,r4,r5⟩:=jbz hg0;have HW0:=Lib.hid hW0;clear hg0 hW0;by_cases qH1:inR ra 1 7
 ·have H1:Hid (∀ W,Calls Tryz.prog 43 #[.int .i64 ra,.int .i64 1,.int .i64 7] W fun e w'=>e=.returned (.bool true)/\W=w'):=fun W=>by have:=jag ra 1 7 W;rwa [decide_eq_true qH1] at this
  by_cases qH3:inR rb 1 64
  ·have H3:Hid (∀ W,Calls Tryz.prog 43 #[.int .i64 rb,.int .i64 1,.int .i64 64] W fun e w'=>e=.returned (.bool true)/\W=w'):=fun W=>by have:=jag rb 1 64 W;rwa [decide_eq_true qH3] at this
   have HE:Hid (decide (jaf ⟨2,ra,rb,0,0,key⟩)=true):=decide_eq_true (by simp [jaf,hs,qH1,qH3]);clear hs qH1 qH3;go_enter Tryz.func29,Tryz.ntmps29
   go_wp2_with (first
    | (rw [<- HW0.out];clear HW0)
    | (go_at_call 43;with_reducible (refine Calls.mono (H1.out _) ?_);rintro e w1 ⟨rfl,rfl⟩)
    | (go_at_call 43;with_reducible (refine Calls.mono (H3.out _) ?_);rintro e w1 ⟨rfl,rfl⟩))
   go_ret;exact ⟨by rw [HE.out];rfl,HB0.out⟩
  ·have H3:Hid (∀ W,Calls Tryz.prog 43 #[.int .i64 rb,.int .i64 1,.int .i64 64] W fun e w'=>e=.returned (.bool false)/\W=w'):=fun W=>by have:=jag rb 1 64 W;rwa [decide_eq_false qH3] at this
   have HE:Hid (decide (jaf ⟨2,ra,rb,0,0,key⟩)=false):=decide_eq_false (by simp [jaf,hs,qH1,qH3]);clear hs qH1 qH3;go_enter Tryz.func29,Tryz.ntmps29
   go_wp2_with (first
    | (rw [<- HW0.out];clear HW0)
    | (go_at_call 43;with_reducible (refine Calls.mono (H1.out _) ?_);rintro e w1 ⟨rfl,rfl⟩)
    | (go_at_call 43;with_reducible (refine Calls.mono (H3.out _) ?_);rintro e w1 ⟨rfl,rfl⟩))
   go_ret;exact ⟨by rw [HE.out];rfl,HB0.out⟩
 ·have H1:Hid (∀ W,Calls Tryz.prog 43 #[.int .i64 ra,.int .i64 1,.int .i64 7] W fun e w'=>e=.returned (.bool false)/\W=w'):=fun W=>by have:=jag ra 1 7 W;rwa [decide_eq_false qH1] at this
  have HE:Hid (decide (jaf ⟨2,ra,rb,0,0,key⟩)=false):=decide_eq_false (by simp [jaf,hs,qH1]);clear hs qH1;go_enter Tryz.func29,Tryz.ntmps29
  go_wp2_with (first
   | (rw [<- HW0.out];clear HW0)
   | (go_at_call 43;with_reducible (refine Calls.mono (H1.out _) ?_);rintro e w1 ⟨rfl,rfl⟩))
  go_ret;exact ⟨by rw [HE.out];rfl,HB0.out⟩
theorem jlj (ra rb:Int) (key:ByteArray) (hs:key.size=0) (ks:key.toList=[]) (w:World) :
  Calls Tryz.prog 29 #[.agg #[.int .i64 3,.int .i64 ra,.int .i64 rb,.int .i64 0,.int .i64 0,.string key]] w fun e w'=>e=.returned (.bool (decide (jaf ⟨3,ra,rb,0,0,key⟩)))/\Below w.heap.size w w':=by
 obtain ⟨W0,hW0⟩:∃ W,W=w.alloc (.cells #[.int .i64 3,.int .i64 ra,.int .i64 rb,.int .i64 0,.int .i64 0,.string key] 56):=⟨_,rfl⟩;have HB0:Hid (Below w.heap.size w W0):=by rw [hW0];exact (Below.refl _ _).alloc (Nat.le_refl _) _
 have hg0:=heap_alloc_new w (.cells #[.int .i64 3,.int .i64 ra,.int .i64 rb,.int .i64 0,.int .i64 0,.string key] 56);rw [<- hW0] at hg0;obtain ⟨r0,r1,r2,r3,r4,r5⟩:=jbz hg0;have HW0:=Lib.hid hW0;clear hg0 hW0;by_cases qH1:inR ra 1 7
 ·have H1:Hid (∀ W,Calls Tryz.prog 43 #[.int .i64 ra,.int .i64 1,.int .i64 7] W fun e w'=>e=.returned (.bool true)/\W=w'):=fun W=>by have:=jag ra 1 7 W;rwa [decide_eq_true qH1] at this
  by_cases qH3:rb=0
  ·have zH3:(rb == 0)=true:=beq_iff_eq.2 qH3;have HE:Hid (decide (jaf ⟨3,ra,rb,0,0,key⟩)=true):=decide_eq_true (by simp [jaf,hs,qH1,qH3]);clear hs qH1 qH3;go_enter Tryz.func29,Tryz.ntmps29
   go_wp2_with (first
    | (rw [<- HW0.out];clear HW0)
    | (go_at_call 43;with_reducible (refine Calls.mono (H1.out _) ?_);rintro e w1 ⟨rfl,rfl⟩))
   go_ret;exact ⟨by rw [HE.out];rfl,HB0.out⟩
  ·have zH3:(rb == 0)=false:=beq_eq_false_iff_ne.2 qH3;have HE:Hid (decide (jaf ⟨3,ra,rb,0,0,key⟩)=false):=decide_eq_false (by simp [jaf,hs,qH1,qH3]);clear hs qH1 qH3;go_enter Tryz.func29,Tryz.ntmps29
   go_wp2_with (first
    | (rw [<- HW0.out];clear HW0)
    | (go_at_call 43;with_reducible (refine Calls.mono (H1.out _) ?_);rintro e w1 ⟨rfl,rfl⟩))
   go_ret;exact ⟨by rw [HE.out];rfl,HB0.out⟩
 ·have H1:Hid (∀ W,Calls Tryz.prog 43 #[.int .i64 ra,.int .i64 1,.int .i64 7] W fun e w'=>e=.returned (.bool false)/\W=w'):=fun W=>by have:=jag ra 1 7 W;rwa [decide_eq_false qH1] at this
  have HE:Hid (decide (jaf ⟨3,ra,rb,0,0,key⟩)=false):=decide_eq_false (by simp [jaf,hs,qH1]);clear hs qH1;go_enter Tryz.func29,Tryz.ntmps29
  go_wp2_with (first
   | (rw [<- HW0.out];clear HW0)
   | (go_at_call 43;with_reducible (refine Calls.mono (H1.out _) ?_);rintro e w1 ⟨rfl,rfl⟩))
  go_ret;exact ⟨by rw [HE.out];rfl,HB0.out⟩
theorem jlI (ra rb:Int) (key:ByteArray) (hs:key.size=0) (ks:key.toList=[]) (w:World) :
  Calls Tryz.prog 29 #[.agg #[.int .i64 4,.int .i64 ra,.int .i64 rb,.int .i64 0,.int .i64 0,.string key]] w fun e w'=>e=.returned (.bool (decide (jaf ⟨4,ra,rb,0,0,key⟩)))/\Below w.heap.size w w':=by
 obtain ⟨W0,hW0⟩:∃ W,W=w.alloc (.cells #[.int .i64 4,.int .i64 ra,.int .i64 rb,.int .i64 0,.int .i64 0,.string key] 56):=⟨_,rfl⟩;have HB0:Hid (Below w.heap.size w W0):=by rw [hW0];exact (Below.refl _ _).alloc (Nat.le_refl _) _
 have hg0:=heap_alloc_new w (.cells #[.int .i64 4,.int .i64 ra,.int .i64 rb,.int .i64 0,.int .i64 0,.string key] 56);rw [<- hW0] at hg0;obtain ⟨r0,r1,r2,r3,r4,r5⟩:=jbz hg0;have HW0:=Lib.hid hW0;clear hg0 hW0;by_cases qH1:inR ra 1 7
 ·have H1:Hid (∀ W,Calls Tryz.prog 43 #[.int .i64 ra,.int .i64 1,.int .i64 7] W fun e w'=>e=.returned (.bool true)/\W=w'):=fun W=>by have:=jag ra 1 7 W;rwa [decide_eq_true qH1] at this
  by_cases qH3:rb=0
  ·have zH3:(rb == 0)=true:=beq_iff_eq.2 qH3;have HE:Hid (decide (jaf ⟨4,ra,rb,0,0,key⟩)=true):=decide_eq_true (by simp [jaf,hs,qH1,qH3]);clear hs qH1 qH3;go_enter Tryz.func29,Tryz.ntmps29
   go_wp2_with (first
    | (rw [<- HW0.out];clear HW0)
    | (go_at_call 43;with_reducible (refine Calls.mono (H1.out _) ?_);rintro e w1 ⟨rfl,rfl⟩))
   go_ret;exact ⟨by rw [HE.out];rfl,HB0.out⟩
  ·have zH3:(rb == 0)=false:=beq_eq_false_iff_ne.2 qH3;have HE:Hid (decide (jaf ⟨4,ra,rb,0,0,key⟩)=false):=decide_eq_false (by simp [jaf,hs,qH1,qH3]);clear hs qH1 qH3;go_enter Tryz.func29,Tryz.ntmps29
   go_wp2_with (first
    | (rw [<- HW0.out];clear HW0)
    | (go_at_call 43;with_reducible (refine Calls.mono (H1.out _) ?_);rintro e w1 ⟨rfl,rfl⟩))
   go_ret;exact ⟨by rw [HE.out];rfl,HB0.out⟩
 ·have H1:Hid (∀ W,Calls Tryz.prog 43 #[.int .i64 ra,.int .i64 1,.int .i64 7] W fun e w'=>e=.returned (.bool false)/\W=w'):=fun W=>by have:=jag ra 1 7 W;rwa [decide_eq_false qH1] at this
  have HE:Hid (decide (jaf ⟨4,ra,rb,0,0,key⟩)=false):=decide_eq_false (by simp [jaf,hs,qH1]);clear hs qH1;go_enter Tryz.func29,Tryz.ntmps29
  go_wp2_with (first
   | (rw [<- HW0.out];clear HW0)
   | (go_at_call 43;with_reducible (refine Calls.mono (H1.out _) ?_);rintro e w1 ⟨rfl,rfl⟩))
  go_ret;exact ⟨by rw [HE.out];rfl,HB0.out⟩
theorem jmk (ra rb:Int) (key:ByteArray) (hs:key.size=0) (ks:key.toList=[]) (w:World) :
  Calls Tryz.prog 29 #[.agg #[.int .i64 6,.int .i64 ra,.int .i64 rb,.int .i64 0,.int .i64 0,.string key]] w fun e w'=>e=.returned (.bool (decide (jaf ⟨6,ra,rb,0,0,key⟩)))/\Below w.heap.size w w':=by
 obtain ⟨W0,hW0⟩:∃ W,W=w.alloc (.cells #[.int .i64 6,.int .i64 ra,.int .i64 rb,.int .i64 0,.int .i64 0,.string key] 56):=⟨_,rfl⟩;have HB0:Hid (Below w.heap.size w W0):=by rw [hW0];exact (Below.refl _ _).alloc (Nat.le_refl _) _
 have hg0:=heap_alloc_new w (.cells #[.int .i64 6,.int .i64 ra,.int .i64 rb,.int .i64 0,.int .i64 0,.string key] 56);rw [<- hW0] at hg0;obtain ⟨r0,r1,r2,r3,r4,r5⟩:=jbz hg0;have HW0:=Lib.hid hW0;clear hg0 hW0;by_cases qH1:inR ra 0 7
 ·have H1:Hid (∀ W,Calls Tryz.prog 43 #[.int .i64 ra,.int .i64 0,.int .i64 7] W fun e w'=>e=.returned (.bool true)/\W=w'):=fun W=>by have:=jag ra 0 7 W;rwa [decide_eq_true qH1] at this
  by_cases qH3:inR rb 0 32
  ·have H3:Hid (∀ W,Calls Tryz.prog 43 #[.int .i64 rb,.int .i64 0,.int .i64 32] W fun e w'=>e=.returned (.bool true)/\W=w'):=fun W=>by have:=jag rb 0 32 W;rwa [decide_eq_true qH3] at this
   have HE:Hid (decide (jaf ⟨6,ra,rb,0,0,key⟩)=true):=decide_eq_true (by simp [jaf,hs,qH1,qH3]);clear hs qH1 qH3;go_enter Tryz.func29,Tryz.ntmps29
   go_wp2_with (first
    | (rw [<- HW0.out];clear HW0)
    | (go_at_call 43;with_reducible (refine Calls.mono (H1.out _) ?_);rintro e w1 ⟨rfl,rfl⟩)
    | (go_at_call 43;with_reducible (refine Calls.mono (H3.out _) ?_);rintro e w1 ⟨rfl,rfl⟩))
   go_ret;exact ⟨by rw [HE.out];rfl,HB0.out⟩
  ·have H3:Hid (∀ W,Calls Tryz.prog 43 #[.int .i64 rb,.int .i64 0,.int .i64 32] W fun e w'=>e=.returned (.bool false)/\W=w'):=fun W=>by have:=jag rb 0 32 W;rwa [decide_eq_false qH3] at this
   have HE:Hid (decide (jaf ⟨6,ra,rb,0,0,key⟩)=false):=decide_eq_false (by simp [jaf,hs,qH1,qH3]);clear hs qH1 qH3;go_enter Tryz.func29,Tryz.ntmps29
   go_wp2_with (first
    | (rw [<- HW0.out];clear HW0)
    | (go_at_call 43;with_reducible (refine Calls.mono (H1.out _) ?_);rintro e w1 ⟨rfl,rfl⟩)
    | (go_at_call 43;with_reducible (refine Calls.mono (H3.out _) ?_);rintro e w1 ⟨rfl,rfl⟩))
   go_ret;exact ⟨by rw [HE.out];rfl,HB0.out⟩
 ·have H1:Hid (∀ W,Calls Tryz.prog 43 #[.int .i64 ra,.int .i64 0,.int .i64 7] W fun e w'=>e=.returned (.bool false)/\W=w'):=fun W=>by have:=jag ra 0 7 W;rwa [decide_eq_false qH1] at this
  have HE:Hid (decide (jaf ⟨6,ra,rb,0,0,key⟩)=false):=decide_eq_false (by simp [jaf,hs,qH1]);clear hs qH1;go_enter Tryz.func29,Tryz.ntmps29
  go_wp2_with (first
   | (rw [<- HW0.out];clear HW0)
   | (go_at_call 43;with_reducible (refine Calls.mono (H1.out _) ?_);rintro e w1 ⟨rfl,rfl⟩))
  go_ret;exact ⟨by rw [HE.out];rfl,HB0.out⟩
theorem jlH (ra rb:Int) (key:ByteArray) (hs:key.size=0) (ks:key.toList=[]) (w:World) :
  Calls Tryz.prog 29 #[.agg #[.int .i64 7,.int .i64 ra,.int .i64 rb,.int .i64 0,.int .i64 0,.string key]] w fun e w'=>e=.returned (.bool (decide (jaf ⟨7,ra,rb,0,0,key⟩)))/\Below w.heap.size w w':=by
 obtain ⟨W0,hW0⟩:∃ W,W=w.alloc (.cells #[.int .i64 7,.int .i64 ra,.int .i64 rb,.int .i64 0,.int .i64 0,.string key] 56):=⟨_,rfl⟩;have HB0:Hid (Below w.heap.size w W0):=by rw [hW0];exact (Below.refl _ _).alloc (Nat.le_refl _) _
 have hg0:=heap_alloc_new w (.cells #[.int .i64 7,.int .i64 ra,.int .i64 rb,.int .i64 0,.int .i64 0,.string key] 56);rw [<- hW0] at hg0;obtain ⟨r0,r1,r2,r3,r4,r5⟩:=jbz hg0;have HW0:=Lib.hid hW0;clear hg0 hW0;by_cases qH1:inR ra 0 7
 ·have H1:Hid (∀ W,Calls Tryz.prog 43 #[.int .i64 ra,.int .i64 0,.int .i64 7] W fun e w'=>e=.returned (.bool true)/\W=w'):=fun W=>by have:=jag ra 0 7 W;rwa [decide_eq_true qH1] at this
  by_cases qH3:rb=0
  ·have zH3:(rb == 0)=true:=beq_iff_eq.2 qH3;have HE:Hid (decide (jaf ⟨7,ra,rb,0,0,key⟩)=true):=decide_eq_true (by simp [jaf,hs,qH1,qH3]);clear hs qH1 qH3;go_enter Tryz.func29,Tryz.ntmps29
   go_wp2_with (first
    | (rw [<- HW0.out];clear HW0)
    | (go_at_call 43;with_reducible (refine Calls.mono (H1.out _) ?_);rintro e w1 ⟨rfl,rfl⟩))
   go_ret;exact ⟨by rw [HE.out];rfl,HB0.out⟩
  ·have zH3:(rb == 0)=false:=beq_eq_false_iff_ne.2 qH3;have HE:Hid (decide (jaf ⟨7,ra,rb,0,0,key⟩)=false):=decide_eq_false (by simp [jaf,hs,qH1,qH3]);clear hs qH1 qH3;go_enter Tryz.func29,Tryz.ntmps29
   go_wp2_with (first
    | (rw [<- HW0.out];clear HW0)
    | (go_at_call 43;with_reducible (refine Calls.mono (H1.out _) ?_);rintro e w1 ⟨rfl,rfl⟩))
   go_ret;exact ⟨by rw [HE.out];rfl,HB0.out⟩
 ·have H1:Hid (∀ W,Calls Tryz.prog 43 #[.int .i64 ra,.int .i64 0,.int .i64 7] W fun e w'=>e=.returned (.bool false)/\W=w'):=fun W=>by have:=jag ra 0 7 W;rwa [decide_eq_false qH1] at this
  have HE:Hid (decide (jaf ⟨7,ra,rb,0,0,key⟩)=false):=decide_eq_false (by simp [jaf,hs,qH1]);clear hs qH1;go_enter Tryz.func29,Tryz.ntmps29
  go_wp2_with (first
   | (rw [<- HW0.out];clear HW0)
   | (go_at_call 43;with_reducible (refine Calls.mono (H1.out _) ?_);rintro e w1 ⟨rfl,rfl⟩))
  go_ret;exact ⟨by rw [HE.out];rfl,HB0.out⟩
theorem jlu (ra rb:Int) (key:ByteArray) (hs:key.size=0) (ks:key.toList=[]) (w:World) :
  Calls Tryz.prog 29 #[.agg #[.int .i64 8,.int .i64 ra,.int .i64 rb,.int .i64 0,.int .i64 0,.string key]] w fun e w'=>e=.returned (.bool (decide (jaf ⟨8,ra,rb,0,0,key⟩)))/\Below w.heap.size w w':=by
 obtain ⟨W0,hW0⟩:∃ W,W=w.alloc (.cells #[.int .i64 8,.int .i64 ra,.int .i64 rb,.int .i64 0,.int .i64 0,.string key] 56):=⟨_,rfl⟩;have HB0:Hid (Below w.heap.size w W0):=by rw [hW0];exact (Below.refl _ _).alloc (Nat.le_refl _) _
 have hg0:=heap_alloc_new w (.cells #[.int .i64 8,.int .i64 ra,.int .i64 rb,.int .i64 0,.int .i64 0,.string key] 56);rw [<- hW0] at hg0;obtain ⟨r0,r1,r2,r3,r4,r5⟩:=jbz hg0;have HW0:=Lib.hid hW0;clear hg0 hW0;by_cases qH1:inR ra 0 7
 ·have H1:Hid (∀ W,Calls Tryz.prog 43 #[.int .i64 ra,.int .i64 0,.int .i64 7] W fun e w'=>e=.returned (.bool true)/\W=w'):=fun W=>by have:=jag ra 0 7 W;rwa [decide_eq_true qH1] at this
  by_cases qH3:inR rb 0 1099511627776
  ·have H3:Hid (∀ W,Calls Tryz.prog 43 #[.int .i64 rb,.int .i64 0,.int .i64 1099511627776] W fun e w'=>e=.returned (.bool true)/\W=w'):=fun W=>by have:=jag rb 0 1099511627776 W;rwa [decide_eq_true qH3] at this
   have HE:Hid (decide (jaf ⟨8,ra,rb,0,0,key⟩)=true):=decide_eq_true (by simp [jaf,hs,qH1,qH3]);clear hs qH1 qH3;go_enter Tryz.func29,Tryz.ntmps29
   go_wp2_with (first
    | (rw [<- HW0.out];clear HW0)
    | (go_at_call 43;with_reducible (refine Calls.mono (H1.out _) ?_);rintro e w1 ⟨rfl,rfl⟩)
    | (go_at_call 43;with_reducible (refine Calls.mono (H3.out _) ?_);rintro e w1 ⟨rfl,rfl⟩))
   go_ret;exact ⟨by rw [HE.out];rfl,HB0.out⟩
  ·have H3:Hid (∀ W,Calls Tryz.prog 43 #[.int .i64 rb,.int .i64 0,.int .i64 1099511627776] W fun e w'=>e=.returned (.bool false)/\W=w'):=fun W=>by have:=jag rb 0 1099511627776 W;rwa [decide_eq_false qH3] at this
   have HE:Hid (decide (jaf ⟨8,ra,rb,0,0,key⟩)=false):=decide_eq_false (by simp [jaf,hs,qH1,qH3]);clear hs qH1 qH3;go_enter Tryz.func29,Tryz.ntmps29
   go_wp2_with (first
    | (rw [<- HW0.out];clear HW0)
    | (go_at_call 43;with_reducible (refine Calls.mono (H1.out _) ?_);rintro e w1 ⟨rfl,rfl⟩)
    | (go_at_call 43;with_reducible (refine Calls.mono (H3.out _) ?_);rintro e w1 ⟨rfl,rfl⟩))
   go_ret;exact ⟨by rw [HE.out];rfl,HB0.out⟩
 ·have H1:Hid (∀ W,Calls Tryz.prog 43 #[.int .i64 ra,.int .i64 0,.int .i64 7] W fun e w'=>e=.returned (.bool false)/\W=w'):=fun W=>by have:=jag ra 0 7 W;rwa [decide_eq_false qH1] at this
  have HE:Hid (decide (jaf ⟨8,ra,rb,0,0,key⟩)=false):=decide_eq_false (by simp [jaf,hs,qH1]);clear hs qH1;go_enter Tryz.func29,Tryz.ntmps29
  go_wp2_with (first
   | (rw [<- HW0.out];clear HW0)
   | (go_at_call 43;with_reducible (refine Calls.mono (H1.out _) ?_);rintro e w1 ⟨rfl,rfl⟩))
  go_ret;exact ⟨by rw [HE.out];rfl,HB0.out⟩
theorem jmu (ra rb:Int) (key:ByteArray) (hs:key.size=0) (ks:key.toList=[]) (w:World) :
  Calls Tryz.prog 29 #[.agg #[.int .i64 9,.int .i64 ra,.int .i64 rb,.int .i64 0,.int .i64 0,.string key]] w fun e w'=>e=.returned (.bool (decide (jaf ⟨9,ra,rb,0,0,key⟩)))/\Below w.heap.size w w':=by
 obtain ⟨W0,hW0⟩:∃ W,W=w.alloc (.cells #[.int .i64 9,.int .i64 ra,.int .i64 rb,.int .i64 0,.int .i64 0,.string key] 56):=⟨_,rfl⟩;have HB0:Hid (Below w.heap.size w W0):=by rw [hW0];exact (Below.refl _ _).alloc (Nat.le_refl _) _
 have hg0:=heap_alloc_new w (.cells #[.int .i64 9,.int .i64 ra,.int .i64 rb,.int .i64 0,.int .i64 0,.string key] 56);rw [<- hW0] at hg0;obtain ⟨r0,r1,r2,r3,r4,r5⟩:=jbz hg0;have HW0:=Lib.hid hW0;clear hg0 hW0;by_cases qH1:inR ra 0 63
 ·have H1:Hid (∀ W,Calls Tryz.prog 43 #[.int .i64 ra,.int .i64 0,.int .i64 63] W fun e w'=>e=.returned (.bool true)/\W=w'):=fun W=>by have:=jag ra 0 63 W;rwa [decide_eq_true qH1] at this
  by_cases qH3:inR rb 0 7
  ·have H3:Hid (∀ W,Calls Tryz.prog 43 #[.int .i64 rb,.int .i64 0,.int .i64 7] W fun e w'=>e=.returned (.bool true)/\W=w'):=fun W=>by have:=jag rb 0 7 W;rwa [decide_eq_true qH3] at this
   have HE:Hid (decide (jaf ⟨9,ra,rb,0,0,key⟩)=true):=decide_eq_true (by simp [jaf,hs,qH1,qH3]);clear hs qH1 qH3;go_enter Tryz.func29,Tryz.ntmps29
   go_wp2_with (first
    | (rw [<- HW0.out];clear HW0)
    | (go_at_call 43;with_reducible (refine Calls.mono (H1.out _) ?_);rintro e w1 ⟨rfl,rfl⟩)
    | (go_at_call 43;with_reducible (refine Calls.mono (H3.out _) ?_);rintro e w1 ⟨rfl,rfl⟩))
   go_ret;exact ⟨by rw [HE.out];rfl,HB0.out⟩
  ·have H3:Hid (∀ W,Calls Tryz.prog 43 #[.int .i64 rb,.int .i64 0,.int .i64 7] W fun e w'=>e=.returned (.bool false)/\W=w'):=fun W=>by have:=jag rb 0 7 W;rwa [decide_eq_false qH3] at this
   have HE:Hid (decide (jaf ⟨9,ra,rb,0,0,key⟩)=false):=decide_eq_false (by simp [jaf,hs,qH1,qH3]);clear hs qH1 qH3;go_enter Tryz.func29,Tryz.ntmps29
   go_wp2_with (first
    | (rw [<- HW0.out];clear HW0)
    | (go_at_call 43;with_reducible (refine Calls.mono (H1.out _) ?_);rintro e w1 ⟨rfl,rfl⟩)
    | (go_at_call 43;with_reducible (refine Calls.mono (H3.out _) ?_);rintro e w1 ⟨rfl,rfl⟩))
   go_ret;exact ⟨by rw [HE.out];rfl,HB0.out⟩
 ·have H1:Hid (∀ W,Calls Tryz.prog 43 #[.int .i64 ra,.int .i64 0,.int .i64 63] W fun e w'=>e=.returned (.bool false)/\W=w'):=fun W=>by have:=jag ra 0 63 W;rwa [decide_eq_false qH1] at this
  have HE:Hid (decide (jaf ⟨9,ra,rb,0,0,key⟩)=false):=decide_eq_false (by simp [jaf,hs,qH1]);clear hs qH1;go_enter Tryz.func29,Tryz.ntmps29
  go_wp2_with (first
   | (rw [<- HW0.out];clear HW0)
   | (go_at_call 43;with_reducible (refine Calls.mono (H1.out _) ?_);rintro e w1 ⟨rfl,rfl⟩))
  go_ret;exact ⟨by rw [HE.out];rfl,HB0.out⟩
theorem jlS (ra rb rc:Int) (key:ByteArray) (hs:key.size=0) (ks:key.toList=[]) (w:World) :
  Calls Tryz.prog 29 #[.agg #[.int .i64 5,.int .i64 ra,.int .i64 rb,.int .i64 rc,.int .i64 0,.string key]] w fun e w'=>e=.returned (.bool (decide (jaf ⟨5,ra,rb,rc,0,key⟩)))/\Below w.heap.size w w':=by
 obtain ⟨W0,hW0⟩:∃ W,W=w.alloc (.cells #[.int .i64 5,.int .i64 ra,.int .i64 rb,.int .i64 rc,.int .i64 0,.string key] 56):=⟨_,rfl⟩;have HB0:Hid (Below w.heap.size w W0):=by rw [hW0];exact (Below.refl _ _).alloc (Nat.le_refl _) _
 have hg0:=heap_alloc_new w (.cells #[.int .i64 5,.int .i64 ra,.int .i64 rb,.int .i64 rc,.int .i64 0,.string key] 56);rw [<- hW0] at hg0;obtain ⟨r0,r1,r2,r3,r4,r5⟩:=jbz hg0;have HW0:=Lib.hid hW0;clear hg0 hW0;by_cases hc:rc=0
 ·have ec:(rc != 0)=false:=by rw [hc];rfl
  by_cases qH2:inR ra 0 7
  ·have H2:Hid (∀ W,Calls Tryz.prog 43 #[.int .i64 ra,.int .i64 0,.int .i64 7] W fun e w'=>e=.returned (.bool true)/\W=w'):=fun W=>by have:=jag ra 0 7 W;rwa [decide_eq_true qH2] at this
   by_cases qH4:inR rb 1 7
   ·have H4:Hid (∀ W,Calls Tryz.prog 43 #[.int .i64 rb,.int .i64 1,.int .i64 7] W fun e w'=>e=.returned (.bool true)/\W=w'):=fun W=>by have:=jag rb 1 7 W;rwa [decide_eq_true qH4] at this
    by_cases qH6:inR rc 0 32
    ·have H6:Hid (∀ W,Calls Tryz.prog 43 #[.int .i64 rc,.int .i64 0,.int .i64 32] W fun e w'=>e=.returned (.bool true)/\W=w'):=fun W=>by have:=jag rc 0 32 W;rwa [decide_eq_true qH6] at this
     have HE:Hid (decide (jaf ⟨5,ra,rb,rc,0,key⟩)=true):=decide_eq_true (by simp [jaf,hs,qH2,qH4,qH6]);clear hs hc qH2 qH4 qH6;go_enter Tryz.func29,Tryz.ntmps29
     go_wp2_with (first
      | (rw [<- HW0.out];clear HW0)
      | (go_at_call 43;with_reducible (refine Calls.mono (H2.out _) ?_);rintro e w1 ⟨rfl,rfl⟩)
      | (go_at_call 43;with_reducible (refine Calls.mono (H4.out _) ?_);rintro e w1 ⟨rfl,rfl⟩)
      | (go_at_call 43;with_reducible (refine Calls.mono (H6.out _) ?_);rintro e w1 ⟨rfl,rfl⟩))
     go_ret;exact ⟨by rw [HE.out];rfl,HB0.out⟩
    ·have H6:Hid (∀ W,Calls Tryz.prog 43 #[.int .i64 rc,.int .i64 0,.int .i64 32] W fun e w'=>e=.returned (.bool false)/\W=w'):=fun W=>by have:=jag rc 0 32 W;rwa [decide_eq_false qH6] at this
     have HE:Hid (decide (jaf ⟨5,ra,rb,rc,0,key⟩)=false):=decide_eq_false (by simp [jaf,hs,qH2,qH4,qH6]);clear hs hc qH2 qH4 qH6;go_enter Tryz.func29,Tryz.ntmps29
     go_wp2_with (first
      | (rw [<- HW0.out];clear HW0)
      | (go_at_call 43;with_reducible (refine Calls.mono (H2.out _) ?_);rintro e w1 ⟨rfl,rfl⟩)
      | (go_at_call 43;with_reducible (refine Calls.mono (H4.out _) ?_);rintro e w1 ⟨rfl,rfl⟩)
      | (go_at_call 43;with_reducible (refine Calls.mono (H6.out _) ?_);rintro e w1 ⟨rfl,rfl⟩))
     go_ret;exact ⟨by rw [HE.out];rfl,HB0.out⟩
   ·have H4:Hid (∀ W,Calls Tryz.prog 43 #[.int .i64 rb,.int .i64 1,.int .i64 7] W fun e w'=>e=.returned (.bool false)/\W=w'):=fun W=>by have:=jag rb 1 7 W;rwa [decide_eq_false qH4] at this
    have HE:Hid (decide (jaf ⟨5,ra,rb,rc,0,key⟩)=false):=decide_eq_false (by simp [jaf,hs,qH2,qH4]);clear hs hc qH2 qH4;go_enter Tryz.func29,Tryz.ntmps29
    go_wp2_with (first
     | (rw [<- HW0.out];clear HW0)
     | (go_at_call 43;with_reducible (refine Calls.mono (H2.out _) ?_);rintro e w1 ⟨rfl,rfl⟩)
     | (go_at_call 43;with_reducible (refine Calls.mono (H4.out _) ?_);rintro e w1 ⟨rfl,rfl⟩))
    go_ret;exact ⟨by rw [HE.out];rfl,HB0.out⟩
  ·have H2:Hid (∀ W,Calls Tryz.prog 43 #[.int .i64 ra,.int .i64 0,.int .i64 7] W fun e w'=>e=.returned (.bool false)/\W=w'):=fun W=>by have:=jag ra 0 7 W;rwa [decide_eq_false qH2] at this
   have HE:Hid (decide (jaf ⟨5,ra,rb,rc,0,key⟩)=false):=decide_eq_false (by simp [jaf,hs,qH2]);clear hs hc qH2;go_enter Tryz.func29,Tryz.ntmps29
   go_wp2_with (first
    | (rw [<- HW0.out];clear HW0)
    | (go_at_call 43;with_reducible (refine Calls.mono (H2.out _) ?_);rintro e w1 ⟨rfl,rfl⟩))
   go_ret;exact ⟨by rw [HE.out];rfl,HB0.out⟩
 ·have ec:(rc != 0)=true:=bne_iff_ne.2 hc;by_cases qH2:inR ra 0 7
  ·have H2:Hid (∀ W,Calls Tryz.prog 43 #[.int .i64 ra,.int .i64 0,.int .i64 7] W fun e w'=>e=.returned (.bool true)/\W=w'):=fun W=>by have:=jag ra 0 7 W;rwa [decide_eq_true qH2] at this
   by_cases qH4:inR rb 1 7
   ·have H4:Hid (∀ W,Calls Tryz.prog 43 #[.int .i64 rb,.int .i64 1,.int .i64 7] W fun e w'=>e=.returned (.bool true)/\W=w'):=fun W=>by have:=jag rb 1 7 W;rwa [decide_eq_true qH4] at this
    by_cases qH6:inR rc 0 32
    ·have H6:Hid (∀ W,Calls Tryz.prog 43 #[.int .i64 rc,.int .i64 0,.int .i64 32] W fun e w'=>e=.returned (.bool true)/\W=w'):=fun W=>by have:=jag rc 0 32 W;rwa [decide_eq_true qH6] at this
     have HE:Hid (decide (jaf ⟨5,ra,rb,rc,0,key⟩)=true):=decide_eq_true (by simp [jaf,hs,qH2,qH4,qH6]);clear hs hc qH2 qH4 qH6;go_enter Tryz.func29,Tryz.ntmps29
     go_wp2_with (first
      | (rw [<- HW0.out];clear HW0)
      | (go_at_call 43;with_reducible (refine Calls.mono (H2.out _) ?_);rintro e w1 ⟨rfl,rfl⟩)
      | (go_at_call 43;with_reducible (refine Calls.mono (H4.out _) ?_);rintro e w1 ⟨rfl,rfl⟩)
      | (go_at_call 43;with_reducible (refine Calls.mono (H6.out _) ?_);rintro e w1 ⟨rfl,rfl⟩))
     go_ret;exact ⟨by rw [HE.out];rfl,HB0.out⟩
    ·have H6:Hid (∀ W,Calls Tryz.prog 43 #[.int .i64 rc,.int .i64 0,.int .i64 32] W fun e w'=>e=.returned (.bool false)/\W=w'):=fun W=>by have:=jag rc 0 32 W;rwa [decide_eq_false qH6] at this
     have HE:Hid (decide (jaf ⟨5,ra,rb,rc,0,key⟩)=false):=decide_eq_false (by simp [jaf,hs,qH2,qH4,qH6]);clear hs hc qH2 qH4 qH6;go_enter Tryz.func29,Tryz.ntmps29
     go_wp2_with (first
      | (rw [<- HW0.out];clear HW0)
      | (go_at_call 43;with_reducible (refine Calls.mono (H2.out _) ?_);rintro e w1 ⟨rfl,rfl⟩)
      | (go_at_call 43;with_reducible (refine Calls.mono (H4.out _) ?_);rintro e w1 ⟨rfl,rfl⟩)
      | (go_at_call 43;with_reducible (refine Calls.mono (H6.out _) ?_);rintro e w1 ⟨rfl,rfl⟩))
     go_ret;exact ⟨by rw [HE.out];rfl,HB0.out⟩
   ·have H4:Hid (∀ W,Calls Tryz.prog 43 #[.int .i64 rb,.int .i64 1,.int .i64 7] W fun e w'=>e=.returned (.bool false)/\W=w'):=fun W=>by have:=jag rb 1 7 W;rwa [decide_eq_false qH4] at this
    have HE:Hid (decide (jaf ⟨5,ra,rb,rc,0,key⟩)=false):=decide_eq_false (by simp [jaf,hs,qH2,qH4]);clear hs hc qH2 qH4;go_enter Tryz.func29,Tryz.ntmps29
    go_wp2_with (first
     | (rw [<- HW0.out];clear HW0)
     | (go_at_call 43;with_reducible (refine Calls.mono (H2.out _) ?_);rintro e w1 ⟨rfl,rfl⟩)
     | (go_at_call 43;with_reducible (refine Calls.mono (H4.out _) ?_);rintro e w1 ⟨rfl,rfl⟩))
    go_ret;exact ⟨by rw [HE.out];rfl,HB0.out⟩
  ·have H2:Hid (∀ W,Calls Tryz.prog 43 #[.int .i64 ra,.int .i64 0,.int .i64 7] W fun e w'=>e=.returned (.bool false)/\W=w'):=fun W=>by have:=jag ra 0 7 W;rwa [decide_eq_false qH2] at this
   have HE:Hid (decide (jaf ⟨5,ra,rb,rc,0,key⟩)=false):=decide_eq_false (by simp [jaf,hs,qH2]);clear hs hc qH2;go_enter Tryz.func29,Tryz.ntmps29
   go_wp2_with (first
    | (rw [<- HW0.out];clear HW0)
    | (go_at_call 43;with_reducible (refine Calls.mono (H2.out _) ?_);rintro e w1 ⟨rfl,rfl⟩))
   go_ret;exact ⟨by rw [HE.out];rfl,HB0.out⟩
theorem jfE (r:Rc) (w:World):Calls Tryz.prog 29 #[.agg (rcV r)] w fun e w'=>e=.returned (.bool (decide (jaf r)))/\Below w.heap.size w w':=by
 obtain ⟨rk,ra,rb,rc,rd,key⟩:=r;unfold rcV;by_cases h1:rk=1
 ·subst h1;exact jln ra rb rc rd key w
 ·by_cases hd:rd=0
  ·subst hd
   have hkl:key.toList=[]↔key.size=0:=by
    rw [ByteArray.toList_eq,<- List.length_eq_zero_iff];exact Iff.rfl
   by_cases hs:key.size=0
   ·have ks:=hkl.2 hs;by_cases h5:rk=5
    ·subst h5;exact jlS ra rb rc key hs ks w
    ·by_cases hc:rc=0
     ·subst hc;by_cases hk:inR rk 0 9
      ·unfold inR at hk;have:rk=0∨rk=2∨rk=3∨rk=4∨rk=6∨rk=7∨rk=8∨rk=9:=by omega
       rcases this with rfl | rfl | rfl | rfl | rfl | rfl | rfl | rfl
       ·exact jmb ra rb key hs ks w
       ·exact jlr ra rb key hs ks w
       ·exact jlj ra rb key hs ks w
       ·exact jlI ra rb key hs ks w
       ·exact jmk ra rb key hs ks w
       ·exact jlH ra rb key hs ks w
       ·exact jlu ra rb key hs ks w
       ·exact jmu ra rb key hs ks w
      ·exact jgN rk ra rb key hk hs ks w
     ·exact jiw rk ra rb rc key h1 h5 hc hs ks w
   ·exact jhN rk ra rb rc key h1 hs (fun h=>hs (hkl.1 h)) w
  ·exact jh5 rk ra rb rc rd key h1 hd w
end Go.Proofs.YtbnhkplhmanmoaaGreat
