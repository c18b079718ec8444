/- . -/
import Derived.Test.YtbnhkplhmanmoaaGreatTableAskG
import Derived.Test.YtbnhkplhmanmoaaGreatTkG
namespace Go.Proofs.YtbnhkplhmanmoaaGreat
open Go.RowKit
set_option maxHeartbeats 6400000
theorem jdY (a b n:Int) (w:World):Calls Tryz.prog 65 #[.agg #[.int .i64 a,.int .i64 b],.int .i64 n] w fun e w'=>e=.returned (.bool (decide (inR n a b)))/\Below w.heap.size w w':=by
 have hb:Below w.heap.size w (w.alloc (.cells #[.int .i64 a,.int .i64 b] 117)):=(Below.refl _ _).alloc (Nat.le_refl _) _;by_cases h0:a<=n
 ·by_cases h1:n<=b
  ·rw [decide_eq_true (show inR n a b from ⟨h0,h1⟩)];have d0:decide (a<=n)=true:=decide_eq_true h0;have d1:decide (n<=b)=true:=decide_eq_true h1;go_enter Tryz.func65,Tryz.ntmps65;go_wp2;go_ret;exact ⟨rfl,hb⟩
  ·rw [decide_eq_false (show ¬ inR n a b from fun h=>by unfold inR at h;omega)];have d0:decide (a<=n)=true:=decide_eq_true h0;have d1:decide (n<=b)=false:=decide_eq_false h1;go_enter Tryz.func65,Tryz.ntmps65;go_wp2;go_ret;exact ⟨rfl,hb⟩
 ·rw [decide_eq_false (show ¬ inR n a b from fun h=>by unfold inR at h;omega)];have d0:decide (a<=n)=false:=decide_eq_false h0;go_enter Tryz.func65,Tryz.ntmps65;go_wp2;go_ret;exact ⟨rfl,hb⟩
theorem joI (w:World) (o a b c d:Obj):(((((w.alloc o).alloc a).alloc b).alloc c).alloc d).heap[w.heap.size]? = some o/\Below w.heap.size w (((((w.alloc o).alloc a).alloc b).alloc c).alloc d):=by
 refine ⟨?_,(((((Below.refl _ _).alloc (Nat.le_refl _) _).alloc (by simp) _).alloc (by simp;omega) _).alloc (by simp;omega) _).alloc (by simp;omega) _⟩;rw [Below.heap_alloc _ _ _ (by simp;omega),Below.heap_alloc _ _ _ (by simp;omega),Below.heap_alloc _ _ _ (by simp;omega),Below.heap_alloc _ _ _ (by simp)];exact heap_alloc_new _ _
def jlk (k:Int):Array Value :=
 if k=1 then #[.int .i64 1,.int .i64 7,.int .i64 1,.int .i64 64,.int .i64 0,.int .i64 4294967296,.int .i64 1,.int .i64 64,.int .i64 16]
 else if k=2 then #[.int .i64 1,.int .i64 7,.int .i64 1,.int .i64 64,.int .i64 0,.int .i64 0,.int .i64 0,.int .i64 0,.int .i64 0]
 else if k=3∨k=4 then #[.int .i64 1,.int .i64 7,.int .i64 0,.int .i64 0,.int .i64 0,.int .i64 0,.int .i64 0,.int .i64 0,.int .i64 0]
 else if k=5 then #[.int .i64 0,.int .i64 7,.int .i64 1,.int .i64 7,.int .i64 0,.int .i64 32,.int .i64 0,.int .i64 0,.int .i64 0]
 else if k=6 then #[.int .i64 0,.int .i64 7,.int .i64 0,.int .i64 32,.int .i64 0,.int .i64 0,.int .i64 0,.int .i64 0,.int .i64 0]
 else if k=7 then #[.int .i64 0,.int .i64 7,.int .i64 0,.int .i64 0,.int .i64 0,.int .i64 0,.int .i64 0,.int .i64 0,.int .i64 0]
 else if k=8 then #[.int .i64 0,.int .i64 7,.int .i64 0,.int .i64 1099511627776,.int .i64 0,.int .i64 0,.int .i64 0,.int .i64 0,.int .i64 0]
 else if k=9 then #[.int .i64 0,.int .i64 63,.int .i64 0,.int .i64 7,.int .i64 0,.int .i64 0,.int .i64 0,.int .i64 0,.int .i64 0]
 else #[.int .i64 0,.int .i64 0,.int .i64 0,.int .i64 0,.int .i64 0,.int .i64 0,.int .i64 0,.int .i64 0,.int .i64 0]
theorem jbg (k:Int) (w:World) (hk:0<=k/\k<=9):Calls Tryz.prog 66 #[.int .i64 k] w fun e w'=>e=.returned (.agg (jlk k))/\Below w.heap.size w w':=by
 rcases (show k=0∨k=1∨k=2∨k=3∨k=4∨k=5∨k=6∨k=7∨k=8∨k=9 by omega) with rfl | rfl | rfl | rfl | rfl | rfl | rfl | rfl | rfl | rfl
 all_goals
  clear hk;go_enter Tryz.func66,Tryz.ntmps66;go_wp2;refine bodyPost_ret (results_cell_row rfl _ _ w.heap.size 119 _ (0,0) _ rfl (joI w _ _ _ _ _).1 Tryz.underlying119 rfl (by kernel_rfl)) rfl ⟨rfl,(joI w _ _ _ _ _).2⟩
theorem jgm (x:Ten) (w:World):Calls Tryz.prog 107 #[.agg (jcQ x)] w fun e w'=>e=.returned (.agg (rcV ⟨1,x.id,x.quota,x.rate,x.burst,x.key⟩))/\Below w.heap.size w w':=by
 have h2:=fun o a:Obj=>(heap_alloc_new (w.alloc o) a)
 obtain ⟨p0,p1,p2,p3,p4,p5⟩:=x;simp only [jcQ,rcV];go_enter Tryz.func107,Tryz.ntmps107;go_wp2;refine bodyPost_ret (results_cell_row rfl _ _ (w.heap.size + 1) 56 _ (0,0) _ rfl (by have:=h2 (.cells #[.int .i64 p0,.int .i64 p1,.int .i64 p2,.int .i64 p3,.string p4,.bool p5] 52) (.cells #[.int .i64 1,.int .i64 p0,.int .i64 p1,.int .i64 p2,.int .i64 p3,.string p4] 56);rwa [show (w.alloc (.cells #[.int .i64 p0,.int .i64 p1,.int .i64 p2,.int .i64 p3,.string p4,.bool p5] 52)).heap.size=w.heap.size + 1 by simp] at this) Tryz.underlying56 rfl (by kernel_rfl)) rfl ⟨rfl,((Below.refl _ _).alloc (Nat.le_refl _) _).alloc (by simp) _⟩
theorem jgl (x:Vol) (w:World):Calls Tryz.prog 108 #[.agg (jcJ x)] w fun e w'=>e=.returned (.agg (rcV ⟨5,x.id,x.ten,x.blocks,0,⟨#[]⟩⟩))/\Below w.heap.size w w':=by
 have h2:=fun o a:Obj=>(heap_alloc_new (w.alloc o) a)
 obtain ⟨p0,p1,p2,p3⟩:=x;simp only [jcJ,rcV];go_enter Tryz.func108,Tryz.ntmps108;go_wp2;refine bodyPost_ret (results_cell_row rfl _ _ (w.heap.size + 1) 56 _ (0,0) _ rfl (by have:=h2 (.cells #[.int .i64 p0,.int .i64 p1,.int .i64 p2,.int .i64 p3] 82) (.cells #[.int .i64 5,.int .i64 p0,.int .i64 p1,.int .i64 p2,.int .i64 0,.string ⟨#[]⟩] 56);rwa [show (w.alloc (.cells #[.int .i64 p0,.int .i64 p1,.int .i64 p2,.int .i64 p3] 82)).heap.size=w.heap.size + 1 by simp] at this) Tryz.underlying56 rfl (by kernel_rfl)) rfl ⟨rfl,((Below.refl _ _).alloc (Nat.le_refl _) _).alloc (by simp) _⟩
theorem jfo (x:Vol) (w:World):Calls Tryz.prog 109 #[.agg (jcJ x)] w fun e w'=>e=.returned (.agg (rcV ⟨8,x.id,x.base,0,0,⟨#[]⟩⟩))/\Below w.heap.size w w':=by
 have h2:=fun o a:Obj=>(heap_alloc_new (w.alloc o) a)
 obtain ⟨p0,p1,p2,p3⟩:=x;simp only [jcJ,rcV];go_enter Tryz.func109,Tryz.ntmps109;go_wp2;refine bodyPost_ret (results_cell_row rfl _ _ (w.heap.size + 1) 56 _ (0,0) _ rfl (by have:=h2 (.cells #[.int .i64 p0,.int .i64 p1,.int .i64 p2,.int .i64 p3] 82) (.cells #[.int .i64 8,.int .i64 p0,.int .i64 p3,.int .i64 0,.int .i64 0,.string ⟨#[]⟩] 56);rwa [show (w.alloc (.cells #[.int .i64 p0,.int .i64 p1,.int .i64 p2,.int .i64 p3] 82)).heap.size=w.heap.size + 1 by simp] at this) Tryz.underlying56 rfl (by kernel_rfl)) rfl ⟨rfl,((Below.refl _ _).alloc (Nat.le_refl _) _).alloc (by simp) _⟩
theorem jqb {X:World} {g:Nat} {T:TypeId} {v0 v1 v2 v3 v4 v5 v6 v7 v8:Value} (h:X.heap[g]? = some (.cells #[v0,v1,v2,v3,v4,v5,v6,v7,v8] T (0,0))) :
  X.cell? ⟨g,0,none⟩=some v0/\X.cell? ⟨g,1,none⟩=some v1/\X.cell? ⟨g,2,none⟩=some v2/\X.cell? ⟨g,3,none⟩=some v3/\X.cell? ⟨g,4,none⟩=some v4/\X.cell? ⟨g,5,none⟩=some v5/\X.cell? ⟨g,6,none⟩=some v6/\X.cell? ⟨g,7,none⟩=some v7/\X.cell? ⟨g,8,none⟩=some v8 :=
 ⟨by rw [cell_of_row _ _ _ _ _ _ h];rfl,by rw [cell_of_row _ _ _ _ _ _ h];rfl,by rw [cell_of_row _ _ _ _ _ _ h];rfl,by rw [cell_of_row _ _ _ _ _ _ h];rfl,by rw [cell_of_row _ _ _ _ _ _ h];rfl,by rw [cell_of_row _ _ _ _ _ _ h];rfl,by rw [cell_of_row _ _ _ _ _ _ h];rfl,by rw [cell_of_row _ _ _ _ _ _ h];rfl,by rw [cell_of_row _ _ _ _ _ _ h];rfl⟩
theorem jbz {X:World} {g:Nat} {T:TypeId} {v0 v1 v2 v3 v4 v5:Value} (h:X.heap[g]? = some (.cells #[v0,v1,v2,v3,v4,v5] T (0,0))) :
  X.cell? ⟨g,0,none⟩=some v0/\X.cell? ⟨g,1,none⟩=some v1/\X.cell? ⟨g,2,none⟩=some v2/\X.cell? ⟨g,3,none⟩=some v3/\X.cell? ⟨g,4,none⟩=some v4/\X.cell? ⟨g,5,none⟩=some v5 :=
 ⟨by rw [cell_of_row _ _ _ _ _ _ h];rfl,by rw [cell_of_row _ _ _ _ _ _ h];rfl,by rw [cell_of_row _ _ _ _ _ _ h];rfl,by rw [cell_of_row _ _ _ _ _ _ h];rfl,by rw [cell_of_row _ _ _ _ _ _ h];rfl,by rw [cell_of_row _ _ _ _ _ _ h];rfl⟩
theorem jjy {X:World} {g:Nat} {T:TypeId} {v0 v1 v2 v3:Value} (h:X.heap[g]? = some (.cells #[v0,v1,v2,v3] T (0,0))) :
  X.cell? ⟨g,0,none⟩=some v0/\X.cell? ⟨g,1,none⟩=some v1/\X.cell? ⟨g,2,none⟩=some v2/\X.cell? ⟨g,3,none⟩=some v3 :=
 ⟨by rw [cell_of_row _ _ _ _ _ _ h];rfl,by rw [cell_of_row _ _ _ _ _ _ h];rfl,by rw [cell_of_row _ _ _ _ _ _ h];rfl,by rw [cell_of_row _ _ _ _ _ _ h];rfl⟩
theorem jai {X:World} {g:Nat} {T:TypeId} {v0 v1 v2:Value} (h:X.heap[g]? = some (.cells #[v0,v1,v2] T (0,0))) :
  X.cell? ⟨g,0,none⟩=some v0/\X.cell? ⟨g,1,none⟩=some v1/\X.cell? ⟨g,2,none⟩=some v2 :=
 ⟨by rw [cell_of_row _ _ _ _ _ _ h];rfl,by rw [cell_of_row _ _ _ _ _ _ h];rfl,by rw [cell_of_row _ _ _ _ _ _ h];rfl⟩
set_option maxRecDepth 20000
theorem jbi (rk ra rb rc rd:Int) (key:ByteArray) (a0 a1 b0 b1 c0 c1 d0 d1 ky:Int) (w:World) (hk:inR rk 0 9)
  (hf:∀ W,Calls Tryz.prog 66 #[.int .i64 rk] W fun e w'=>e=.returned (.agg #[.int .i64 a0,.int .i64 a1,.int .i64 b0,.int .i64 b1,.int .i64 c0,.int .i64 c1,.int .i64 d0,.int .i64 d1,.int .i64 ky])/\Below W.heap.size W w') :
  Calls Tryz.prog 38 #[.agg #[.int .i64 rk,.int .i64 ra,.int .i64 rb,.int .i64 rc,.int .i64 rd,.string key]] w fun e w'=>e=.returned (.bool (decide (inR ra a0 a1) && decide (inR rb b0 b1) && decide (inR rc c0 c1) && decide (inR rd d0 d1) && decide ((key.size:Int)=ky)))/\Below w.heap.size w w':=by
 have H0:Hid (∀ W,Calls Tryz.prog 65 #[.agg #[.int .i64 0,.int .i64 9],.int .i64 rk] W fun e w'=>e=.returned (.bool true)/\Below W.heap.size W w'):=fun W=>by
  have h:=jdY 0 9 rk W
  rwa [decide_eq_true hk] at h
 have HF:=Lib.hid hf;have H1:=Lib.hid (fun W=>jdY a0 a1 ra W);have H2:=Lib.hid (fun W=>jdY b0 b1 rb W);have H3:=Lib.hid (fun W=>jdY c0 c1 rc W);have H4:=Lib.hid (fun W=>jdY d0 d1 rd W)
 have h5:((key.size:Int) == ky)=decide ((key.size:Int)=ky):=by
  rw [Bool.eq_iff_iff];simp
 obtain ⟨p1,hp1⟩:∃ P,P=decide (inR ra a0 a1):=⟨_,rfl⟩;obtain ⟨p2,hp2⟩:∃ P,P=decide (inR rb b0 b1):=⟨_,rfl⟩;obtain ⟨p3,hp3⟩:∃ P,P=decide (inR rc c0 c1):=⟨_,rfl⟩;obtain ⟨p4,hp4⟩:∃ P,P=decide (inR rd d0 d1):=⟨_,rfl⟩;obtain ⟨p5,hp5⟩:∃ P,P=decide ((key.size:Int)=ky):=⟨_,rfl⟩;rw [<- hp5] at h5;simp only [<- hp1,<- hp2,<- hp3,<- hp4,<- hp5] at H1 H2 H3 H4 ⊢;have HW0:=Lib.hid (heap_alloc_new w (.cells #[.int .i64 rk,.int .i64 ra,.int .i64 rb,.int .i64 rc,.int .i64 rd,.string key] 56));have hb0:Below w.heap.size w (w.alloc (.cells #[.int .i64 rk,.int .i64 ra,.int .i64 rb,.int .i64 rc,.int .i64 rd,.string key] 56)):=(Below.refl _ _).alloc (Nat.le_refl _) _;obtain ⟨W0,hW0⟩:∃ W,W=w.alloc (.cells #[.int .i64 rk,.int .i64 ra,.int .i64 rb,.int .i64 rc,.int .i64 rd,.string key] 56):=⟨_,rfl⟩;rw [<- hW0] at HW0 hb0;have HR:Hid (∀ X,Below W0.heap.size W0 X->X.cell? ⟨w.heap.size,0,none⟩=some (.int .i64 rk)/\X.cell? ⟨w.heap.size,1,none⟩=some (.int .i64 ra)/\X.cell? ⟨w.heap.size,2,none⟩=some (.int .i64 rb)/\X.cell? ⟨w.heap.size,3,none⟩=some (.int .i64 rc)/\X.cell? ⟨w.heap.size,4,none⟩=some (.int .i64 rd)/\X.cell? ⟨w.heap.size,5,none⟩=some (.string key)):=fun X hb=>jbz ((hb.block _ (Array.getElem?_eq_some_iff.1 HW0.out).1).trans HW0.out)
 have HC:Hid (∀ W X:World,Below (W.alloc (.cells #[.int .i64 a0,.int .i64 a1,.int .i64 b0,.int .i64 b1,.int .i64 c0,.int .i64 c1,.int .i64 d0,.int .i64 d1,.int .i64 ky] 119)).heap.size (W.alloc (.cells #[.int .i64 a0,.int .i64 a1,.int .i64 b0,.int .i64 b1,.int .i64 c0,.int .i64 c1,.int .i64 d0,.int .i64 d1,.int .i64 ky] 119)) X ->
   X.cell? ⟨W.heap.size,0,none⟩=some (.int .i64 a0)/\X.cell? ⟨W.heap.size,1,none⟩=some (.int .i64 a1)/\X.cell? ⟨W.heap.size,2,none⟩=some (.int .i64 b0)/\X.cell? ⟨W.heap.size,3,none⟩=some (.int .i64 b1)/\X.cell? ⟨W.heap.size,4,none⟩=some (.int .i64 c0)/\X.cell? ⟨W.heap.size,5,none⟩=some (.int .i64 c1)/\X.cell? ⟨W.heap.size,6,none⟩=some (.int .i64 d0)/\X.cell? ⟨W.heap.size,7,none⟩=some (.int .i64 d1)/\X.cell? ⟨W.heap.size,8,none⟩=some (.int .i64 ky)):=fun W X hb=>jqb ((hb.block _ (by simp)).trans (heap_alloc_new W _))
 obtain ⟨r0,r1,r2,r3,r4,r5⟩:=HR.out W0 (Below.refl _ _);have hb0':=Lib.hid hb0;clear hk hf hp1 hp2 hp3 hp4 hp5 HW0 hb0;cases p1
 ·skip
  go_enter Tryz.func38,Tryz.ntmps38
  go_wp2_with fail
  rw [<- hW0];clear hW0
  go_wp2_with (first
   | (go_at_call 65;with_reducible (refine Calls.mono (H0.out _) ?_);rintro e w1 ⟨rfl,hb1⟩
      obtain ⟨r0,r1,r2,r3,r4,r5⟩:=HR.out _ hb1)
   | (go_at_call 66;with_reducible (refine Calls.mono (HF.out _) ?_);rintro e w2 ⟨rfl,hb2⟩
      have hx2:=jaa hb1 hb2;have hx3:=hx2.alloc hx2.size (.cells #[.int .i64 a0,.int .i64 a1,.int .i64 b0,.int .i64 b1,.int .i64 c0,.int .i64 c1,.int .i64 d0,.int .i64 d1,.int .i64 ky] 119);have hbx:=Below.refl (w2.alloc (.cells #[.int .i64 a0,.int .i64 a1,.int .i64 b0,.int .i64 b1,.int .i64 c0,.int .i64 c1,.int .i64 d0,.int .i64 d1,.int .i64 ky] 119)).heap.size (w2.alloc (.cells #[.int .i64 a0,.int .i64 a1,.int .i64 b0,.int .i64 b1,.int .i64 c0,.int .i64 c1,.int .i64 d0,.int .i64 d1,.int .i64 ky] 119));obtain ⟨r0,r1,r2,r3,r4,r5⟩:=HR.out _ hx3)
   | (have hguard:=hx3;clear hguard;go_at_call 65;with_reducible (refine Calls.mono (H1.out _) ?_);rintro e w3 ⟨rfl,hb3⟩
      have hbx:=jaa hbx hb3;obtain ⟨r0,r1,r2,r3,r4,r5⟩:=HR.out _ (jaa hx3 hbx);obtain ⟨q0,q1,q2,q3,q4,q5,q6,q7,q8⟩:=HC.out _ _ hbx)
   | (have hguard:=hx3;clear hguard;go_at_call 65;with_reducible (refine Calls.mono (H2.out _) ?_);rintro e w3 ⟨rfl,hb3⟩
      have hbx:=jaa hbx hb3;obtain ⟨r0,r1,r2,r3,r4,r5⟩:=HR.out _ (jaa hx3 hbx);obtain ⟨q0,q1,q2,q3,q4,q5,q6,q7,q8⟩:=HC.out _ _ hbx)
   | (have hguard:=hx3;clear hguard;go_at_call 65;with_reducible (refine Calls.mono (H3.out _) ?_);rintro e w3 ⟨rfl,hb3⟩
      have hbx:=jaa hbx hb3;obtain ⟨r0,r1,r2,r3,r4,r5⟩:=HR.out _ (jaa hx3 hbx);obtain ⟨q0,q1,q2,q3,q4,q5,q6,q7,q8⟩:=HC.out _ _ hbx)
   | (have hguard:=hx3;clear hguard;go_at_call 65;with_reducible (refine Calls.mono (H4.out _) ?_);rintro e w3 ⟨rfl,hb3⟩
      have hbx:=jaa hbx hb3;obtain ⟨r0,r1,r2,r3,r4,r5⟩:=HR.out _ (jaa hx3 hbx);obtain ⟨q0,q1,q2,q3,q4,q5,q6,q7,q8⟩:=HC.out _ _ hbx))
  go_ret;exact ⟨rfl,jaa hb0'.out (jaa hx3 hbx)⟩
 ·
  cases p2
  ·skip
   go_enter Tryz.func38,Tryz.ntmps38
   go_wp2_with fail
   rw [<- hW0];clear hW0
   go_wp2_with (first
    | (go_at_call 65;with_reducible (refine Calls.mono (H0.out _) ?_);rintro e w1 ⟨rfl,hb1⟩
       obtain ⟨r0,r1,r2,r3,r4,r5⟩:=HR.out _ hb1)
    | (go_at_call 66;with_reducible (refine Calls.mono (HF.out _) ?_);rintro e w2 ⟨rfl,hb2⟩
       have hx2:=jaa hb1 hb2;have hx3:=hx2.alloc hx2.size (.cells #[.int .i64 a0,.int .i64 a1,.int .i64 b0,.int .i64 b1,.int .i64 c0,.int .i64 c1,.int .i64 d0,.int .i64 d1,.int .i64 ky] 119);have hbx:=Below.refl (w2.alloc (.cells #[.int .i64 a0,.int .i64 a1,.int .i64 b0,.int .i64 b1,.int .i64 c0,.int .i64 c1,.int .i64 d0,.int .i64 d1,.int .i64 ky] 119)).heap.size (w2.alloc (.cells #[.int .i64 a0,.int .i64 a1,.int .i64 b0,.int .i64 b1,.int .i64 c0,.int .i64 c1,.int .i64 d0,.int .i64 d1,.int .i64 ky] 119));obtain ⟨r0,r1,r2,r3,r4,r5⟩:=HR.out _ hx3)
    | (have hguard:=hx3;clear hguard;go_at_call 65;with_reducible (refine Calls.mono (H1.out _) ?_);rintro e w3 ⟨rfl,hb3⟩
       have hbx:=jaa hbx hb3;obtain ⟨r0,r1,r2,r3,r4,r5⟩:=HR.out _ (jaa hx3 hbx);obtain ⟨q0,q1,q2,q3,q4,q5,q6,q7,q8⟩:=HC.out _ _ hbx)
    | (have hguard:=hx3;clear hguard;go_at_call 65;with_reducible (refine Calls.mono (H2.out _) ?_);rintro e w3 ⟨rfl,hb3⟩
       have hbx:=jaa hbx hb3;obtain ⟨r0,r1,r2,r3,r4,r5⟩:=HR.out _ (jaa hx3 hbx);obtain ⟨q0,q1,q2,q3,q4,q5,q6,q7,q8⟩:=HC.out _ _ hbx)
    | (have hguard:=hx3;clear hguard;go_at_call 65;with_reducible (refine Calls.mono (H3.out _) ?_);rintro e w3 ⟨rfl,hb3⟩
       have hbx:=jaa hbx hb3;obtain ⟨r0,r1,r2,r3,r4,r5⟩:=HR.out _ (jaa hx3 hbx);obtain ⟨q0,q1,q2,q3,q4,q5,q6,q7,q8⟩:=HC.out _ _ hbx)
    | (have hguard:=hx3;clear hguard;go_at_call 65;with_reducible (refine Calls.mono (H4.out _) ?_);rintro e w3 ⟨rfl,hb3⟩
       have hbx:=jaa hbx hb3;obtain ⟨r0,r1,r2,r3,r4,r5⟩:=HR.out _ (jaa hx3 hbx);obtain ⟨q0,q1,q2,q3,q4,q5,q6,q7,q8⟩:=HC.out _ _ hbx))
   go_ret;exact ⟨rfl,jaa hb0'.out (jaa hx3 hbx)⟩
  ·
   cases p3
   ·skip
    go_enter Tryz.func38,Tryz.ntmps38
    go_wp2_with fail
    rw [<- hW0];clear hW0
    go_wp2_with (first
     | (go_at_call 65;with_reducible (refine Calls.mono (H0.out _) ?_);rintro e w1 ⟨rfl,hb1⟩
        obtain ⟨r0,r1,r2,r3,r4,r5⟩:=HR.out _ hb1)
     | (go_at_call 66;with_reducible (refine Calls.mono (HF.out _) ?_);rintro e w2 ⟨rfl,hb2⟩
        have hx2:=jaa hb1 hb2;have hx3:=hx2.alloc hx2.size (.cells #[.int .i64 a0,.int .i64 a1,.int .i64 b0,.int .i64 b1,.int .i64 c0,.int .i64 c1,.int .i64 d0,.int .i64 d1,.int .i64 ky] 119);have hbx:=Below.refl (w2.alloc (.cells #[.int .i64 a0,.int .i64 a1,.int .i64 b0,.int .i64 b1,.int .i64 c0,.int .i64 c1,.int .i64 d0,.int .i64 d1,.int .i64 ky] 119)).heap.size (w2.alloc (.cells #[.int .i64 a0,.int .i64 a1,.int .i64 b0,.int .i64 b1,.int .i64 c0,.int .i64 c1,.int .i64 d0,.int .i64 d1,.int .i64 ky] 119));obtain ⟨r0,r1,r2,r3,r4,r5⟩:=HR.out _ hx3)
     | (have hguard:=hx3;clear hguard;go_at_call 65;with_reducible (refine Calls.mono (H1.out _) ?_);rintro e w3 ⟨rfl,hb3⟩
        have hbx:=jaa hbx hb3;obtain ⟨r0,r1,r2,r3,r4,r5⟩:=HR.out _ (jaa hx3 hbx);obtain ⟨q0,q1,q2,q3,q4,q5,q6,q7,q8⟩:=HC.out _ _ hbx)
     | (have hguard:=hx3;clear hguard;go_at_call 65;with_reducible (refine Calls.mono (H2.out _) ?_);rintro e w3 ⟨rfl,hb3⟩
        have hbx:=jaa hbx hb3;obtain ⟨r0,r1,r2,r3,r4,r5⟩:=HR.out _ (jaa hx3 hbx);obtain ⟨q0,q1,q2,q3,q4,q5,q6,q7,q8⟩:=HC.out _ _ hbx)
     | (have hguard:=hx3;clear hguard;go_at_call 65;with_reducible (refine Calls.mono (H3.out _) ?_);rintro e w3 ⟨rfl,hb3⟩
        have hbx:=jaa hbx hb3;obtain ⟨r0,r1,r2,r3,r4,r5⟩:=HR.out _ (jaa hx3 hbx);obtain ⟨q0,q1,q2,q3,q4,q5,q6,q7,q8⟩:=HC.out _ _ hbx)
     | (have hguard:=hx3;clear hguard;go_at_call 65;with_reducible (refine Calls.mono (H4.out _) ?_);rintro e w3 ⟨rfl,hb3⟩
        have hbx:=jaa hbx hb3;obtain ⟨r0,r1,r2,r3,r4,r5⟩:=HR.out _ (jaa hx3 hbx);obtain ⟨q0,q1,q2,q3,q4,q5,q6,q7,q8⟩:=HC.out _ _ hbx))
    go_ret;exact ⟨rfl,jaa hb0'.out (jaa hx3 hbx)⟩
   ·
    cases p4
    ·skip
     go_enter Tryz.func38,Tryz.ntmps38
     go_wp2_with fail
     rw [<- hW0];clear hW0
     go_wp2_with (first
      | (go_at_call 65;with_reducible (refine Calls.mono (H0.out _) ?_);rintro e w1 ⟨rfl,hb1⟩
         obtain ⟨r0,r1,r2,r3,r4,r5⟩:=HR.out _ hb1)
      | (go_at_call 66;with_reducible (refine Calls.mono (HF.out _) ?_);rintro e w2 ⟨rfl,hb2⟩
         have hx2:=jaa hb1 hb2;have hx3:=hx2.alloc hx2.size (.cells #[.int .i64 a0,.int .i64 a1,.int .i64 b0,.int .i64 b1,.int .i64 c0,.int .i64 c1,.int .i64 d0,.int .i64 d1,.int .i64 ky] 119);have hbx:=Below.refl (w2.alloc (.cells #[.int .i64 a0,.int .i64 a1,.int .i64 b0,.int .i64 b1,.int .i64 c0,.int .i64 c1,.int .i64 d0,.int .i64 d1,.int .i64 ky] 119)).heap.size (w2.alloc (.cells #[.int .i64 a0,.int .i64 a1,.int .i64 b0,.int .i64 b1,.int .i64 c0,.int .i64 c1,.int .i64 d0,.int .i64 d1,.int .i64 ky] 119));obtain ⟨r0,r1,r2,r3,r4,r5⟩:=HR.out _ hx3)
      | (have hguard:=hx3;clear hguard;go_at_call 65;with_reducible (refine Calls.mono (H1.out _) ?_);rintro e w3 ⟨rfl,hb3⟩
         have hbx:=jaa hbx hb3;obtain ⟨r0,r1,r2,r3,r4,r5⟩:=HR.out _ (jaa hx3 hbx);obtain ⟨q0,q1,q2,q3,q4,q5,q6,q7,q8⟩:=HC.out _ _ hbx)
      | (have hguard:=hx3;clear hguard;go_at_call 65;with_reducible (refine Calls.mono (H2.out _) ?_);rintro e w3 ⟨rfl,hb3⟩
         have hbx:=jaa hbx hb3;obtain ⟨r0,r1,r2,r3,r4,r5⟩:=HR.out _ (jaa hx3 hbx);obtain ⟨q0,q1,q2,q3,q4,q5,q6,q7,q8⟩:=HC.out _ _ hbx)
      | (have hguard:=hx3;clear hguard;go_at_call 65;with_reducible (refine Calls.mono (H3.out _) ?_);rintro e w3 ⟨rfl,hb3⟩
         have hbx:=jaa hbx hb3;obtain ⟨r0,r1,r2,r3,r4,r5⟩:=HR.out _ (jaa hx3 hbx);obtain ⟨q0,q1,q2,q3,q4,q5,q6,q7,q8⟩:=HC.out _ _ hbx)
      | (have hguard:=hx3;clear hguard;go_at_call 65;with_reducible (refine Calls.mono (H4.out _) ?_);rintro e w3 ⟨rfl,hb3⟩
         have hbx:=jaa hbx hb3;obtain ⟨r0,r1,r2,r3,r4,r5⟩:=HR.out _ (jaa hx3 hbx);obtain ⟨q0,q1,q2,q3,q4,q5,q6,q7,q8⟩:=HC.out _ _ hbx))
     go_ret;exact ⟨rfl,jaa hb0'.out (jaa hx3 hbx)⟩
    ·
     cases p5
     ·skip
      go_enter Tryz.func38,Tryz.ntmps38
      go_wp2_with fail
      rw [<- hW0];clear hW0
      go_wp2_with (first
       | (go_at_call 65;with_reducible (refine Calls.mono (H0.out _) ?_);rintro e w1 ⟨rfl,hb1⟩
          obtain ⟨r0,r1,r2,r3,r4,r5⟩:=HR.out _ hb1)
       | (go_at_call 66;with_reducible (refine Calls.mono (HF.out _) ?_);rintro e w2 ⟨rfl,hb2⟩
          have hx2:=jaa hb1 hb2;have hx3:=hx2.alloc hx2.size (.cells #[.int .i64 a0,.int .i64 a1,.int .i64 b0,.int .i64 b1,.int .i64 c0,.int .i64 c1,.int .i64 d0,.int .i64 d1,.int .i64 ky] 119);have hbx:=Below.refl (w2.alloc (.cells #[.int .i64 a0,.int .i64 a1,.int .i64 b0,.int .i64 b1,.int .i64 c0,.int .i64 c1,.int .i64 d0,.int .i64 d1,.int .i64 ky] 119)).heap.size (w2.alloc (.cells #[.int .i64 a0,.int .i64 a1,.int .i64 b0,.int .i64 b1,.int .i64 c0,.int .i64 c1,.int .i64 d0,.int .i64 d1,.int .i64 ky] 119));obtain ⟨r0,r1,r2,r3,r4,r5⟩:=HR.out _ hx3)
       | (have hguard:=hx3;clear hguard;go_at_call 65;with_reducible (refine Calls.mono (H1.out _) ?_);rintro e w3 ⟨rfl,hb3⟩
          have hbx:=jaa hbx hb3;obtain ⟨r0,r1,r2,r3,r4,r5⟩:=HR.out _ (jaa hx3 hbx);obtain ⟨q0,q1,q2,q3,q4,q5,q6,q7,q8⟩:=HC.out _ _ hbx)
       | (have hguard:=hx3;clear hguard;go_at_call 65;with_reducible (refine Calls.mono (H2.out _) ?_);rintro e w3 ⟨rfl,hb3⟩
          have hbx:=jaa hbx hb3;obtain ⟨r0,r1,r2,r3,r4,r5⟩:=HR.out _ (jaa hx3 hbx);obtain ⟨q0,q1,q2,q3,q4,q5,q6,q7,q8⟩:=HC.out _ _ hbx)
       | (have hguard:=hx3;clear hguard;go_at_call 65;with_reducible (refine Calls.mono (H3.out _) ?_);rintro e w3 ⟨rfl,hb3⟩
          have hbx:=jaa hbx hb3;obtain ⟨r0,r1,r2,r3,r4,r5⟩:=HR.out _ (jaa hx3 hbx);obtain ⟨q0,q1,q2,q3,q4,q5,q6,q7,q8⟩:=HC.out _ _ hbx)
       | (have hguard:=hx3;clear hguard;go_at_call 65;with_reducible (refine Calls.mono (H4.out _) ?_);rintro e w3 ⟨rfl,hb3⟩
          have hbx:=jaa hbx hb3;obtain ⟨r0,r1,r2,r3,r4,r5⟩:=HR.out _ (jaa hx3 hbx);obtain ⟨q0,q1,q2,q3,q4,q5,q6,q7,q8⟩:=HC.out _ _ hbx))
      go_ret;exact ⟨rfl,jaa hb0'.out (jaa hx3 hbx)⟩
     ·
      go_enter Tryz.func38,Tryz.ntmps38
      go_wp2_with fail
      rw [<- hW0];clear hW0
      go_wp2_with (first
       | (go_at_call 65;with_reducible (refine Calls.mono (H0.out _) ?_);rintro e w1 ⟨rfl,hb1⟩
          obtain ⟨r0,r1,r2,r3,r4,r5⟩:=HR.out _ hb1)
       | (go_at_call 66;with_reducible (refine Calls.mono (HF.out _) ?_);rintro e w2 ⟨rfl,hb2⟩
          have hx2:=jaa hb1 hb2;have hx3:=hx2.alloc hx2.size (.cells #[.int .i64 a0,.int .i64 a1,.int .i64 b0,.int .i64 b1,.int .i64 c0,.int .i64 c1,.int .i64 d0,.int .i64 d1,.int .i64 ky] 119);have hbx:=Below.refl (w2.alloc (.cells #[.int .i64 a0,.int .i64 a1,.int .i64 b0,.int .i64 b1,.int .i64 c0,.int .i64 c1,.int .i64 d0,.int .i64 d1,.int .i64 ky] 119)).heap.size (w2.alloc (.cells #[.int .i64 a0,.int .i64 a1,.int .i64 b0,.int .i64 b1,.int .i64 c0,.int .i64 c1,.int .i64 d0,.int .i64 d1,.int .i64 ky] 119));obtain ⟨r0,r1,r2,r3,r4,r5⟩:=HR.out _ hx3)
       | (have hguard:=hx3;clear hguard;go_at_call 65;with_reducible (refine Calls.mono (H1.out _) ?_);rintro e w3 ⟨rfl,hb3⟩
          have hbx:=jaa hbx hb3;obtain ⟨r0,r1,r2,r3,r4,r5⟩:=HR.out _ (jaa hx3 hbx);obtain ⟨q0,q1,q2,q3,q4,q5,q6,q7,q8⟩:=HC.out _ _ hbx)
       | (have hguard:=hx3;clear hguard;go_at_call 65;with_reducible (refine Calls.mono (H2.out _) ?_);rintro e w3 ⟨rfl,hb3⟩
          have hbx:=jaa hbx hb3;obtain ⟨r0,r1,r2,r3,r4,r5⟩:=HR.out _ (jaa hx3 hbx);obtain ⟨q0,q1,q2,q3,q4,q5,q6,q7,q8⟩:=HC.out _ _ hbx)
       | (have hguard:=hx3;clear hguard;go_at_call 65;with_reducible (refine Calls.mono (H3.out _) ?_);rintro e w3 ⟨rfl,hb3⟩
          have hbx:=jaa hbx hb3;obtain ⟨r0,r1,r2,r3,r4,r5⟩:=HR.out _ (jaa hx3 hbx);obtain ⟨q0,q1,q2,q3,q4,q5,q6,q7,q8⟩:=HC.out _ _ hbx)
       | (have hguard:=hx3;clear hguard;go_at_call 65;with_reducible (refine Calls.mono (H4.out _) ?_);rintro e w3 ⟨rfl,hb3⟩
          have hbx:=jaa hbx hb3;obtain ⟨r0,r1,r2,r3,r4,r5⟩:=HR.out _ (jaa hx3 hbx);obtain ⟨q0,q1,q2,q3,q4,q5,q6,q7,q8⟩:=HC.out _ _ hbx))
      go_ret;exact ⟨rfl,jaa hb0'.out (jaa hx3 hbx)⟩
end Go.Proofs.YtbnhkplhmanmoaaGreat
