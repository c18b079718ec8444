/- . -/
import Derived.Test.YtbnhkplhmanmoaaGreatDiskC8G
import Derived.OwnWalk
namespace Go.Proofs.YtbnhkplhmanmoaaGreat
open Go.RowKit
set_option maxHeartbeats 6400000
theorem jpr (n:Int) (hbad:n < 1∨4096 < n) (w:World):Calls Tryz.prog 7 #[.int .i64 n] w fun e w'=>e=.returned (.tuple #[.pointer none,.int .i64 1])/\Below w.heap.size w w':=by
 have hb:Hid (Below w.heap.size w w):=Below.refl _ _;by_cases h1:n < 1
 ·clear hbad;go_enter Tryz.func7,Tryz.ntmps7;go_wp2;go_ret2;exact ⟨rfl,hb.out⟩
 ·have h2:4096 < n:=by omega
  clear hbad;go_enter Tryz.func7,Tryz.ntmps7;go_wp2;go_ret2;exact ⟨rfl,hb.out⟩
theorem jnQ (n:Nat) (h1:1<=n) (h2:n<=4096) (w:World):Calls Tryz.prog 7 #[.int .i64 (n:Int)] w fun e w'=>∃ (p:Nat) (F:Nat->Prop),e=.returned (.tuple #[.pointer (some ⟨p,0,none⟩),.int .i64 0])/\jbq w' p F (jeU n)/\(∀ b,F b->w.heap.size<=b)/\Below w.heap.size w w':=by
 have hmm:=@run_makeMap Tryz.prog;have k1:¬ (n:Int) < 1:=by omega
 have k2:¬ (4096:Int) < (n:Int):=by omega
 have R:Hid (jbq (((w.alloc (.map #[] 0)).alloc (.map #[] 0)).alloc (.cells #[.int .i64 (n:Int),.map (some w.heap.size),.slice none 0 0,.map (some (w.heap.size + 1)),.int .i64 (-1),.bool false] 62)) (w.heap.size + 1 + 1) (jbh (w.heap.size + 1 + 1) w.heap.size (w.heap.size + 1) (.slice none 0 0)) (jeU n)/\(∀ b,jbh (w.heap.size + 1 + 1) w.heap.size (w.heap.size + 1) (.slice none 0 0) b->w.heap.size<=b) /\
   Below w.heap.size w (((w.alloc (.map #[] 0)).alloc (.map #[] 0)).alloc (.cells #[.int .i64 (n:Int),.map (some w.heap.size),.slice none 0 0,.map (some (w.heap.size + 1)),.int .i64 (-1),.bool false] 62))):=by
  have hs1:(w.alloc (.map #[] 0)).heap.size=w.heap.size + 1:=by simp
  have hs2:((w.alloc (.map #[] 0)).alloc (.map #[] 0)).heap.size=w.heap.size + 1 + 1:=by simp
  have m1:(w.alloc (.map #[] 0)).ownsMap Tryz.prog 3 jc8 w.heap.size 0 (.map []:DataW Value):=World.ownsMap_made _ _ _ _;have m2:=World.ownsMap_made (H:=Unit) (w.alloc (.map #[] 0)) Tryz.prog 3 (plainElem Tryz.prog 3);rw [hs1] at m2;have hbox:=heap_alloc_new ((w.alloc (.map #[] 0)).alloc (.map #[] 0)) (.cells #[.int .i64 (n:Int),.map (some w.heap.size),.slice none 0 0,.map (some (w.heap.size + 1)),.int .i64 (-1),.bool false] 62);rw [hs2] at hbox;refine ⟨⟨w.heap.size,w.heap.size + 1,.slice none 0 0,-1,.map [],.map [],rfl,jlM h1 h2,?_,(m1.alloc _).alloc _,ji9 n,m2.alloc _,jfK,World.ownsRow_nil _ _ _ _,.inl ⟨rfl,by decide⟩,by unfold jeI;decide,⟨by omega,by omega,by omega⟩,⟨by simp [Value.ownBlock],by simp [Value.ownBlock],by simp [Value.ownBlock]⟩⟩,fun b hb=>?_,((Below.refl _ _).alloc (Nat.le_refl _) _ |>.alloc (by omega) _ |>.alloc (by omega) _)⟩
  ·rw [hbox];simp [jeU]
  ·rcases hb with e | e | e | e
   ·omega
   ·omega
   ·omega
   ·cases e
 clear h1 h2;go_enter Tryz.func7,Tryz.ntmps7;go_wp2;go_ret2;exact ⟨_,rfl,_,R.out⟩
section
variable {w:World} {p gl gn:Nat} {V:Value} {z:Int} {DL:DataW Value} {DN:DataW Unit} {s:Dk}
theorem jnR (h:jak w p gl gn V z DL DN s) (n:Int) (hn:jeI n):Calls Tryz.prog 12 #[.pointer (some ⟨p,0,none⟩),.int .i64 n] w fun e w'=>∃ F',e=.returned (.tuple #[])/\jbq w' p F' (jf6 s n)/\jcx (jbh p gl gn V) F' w.heap.size/\jaM (jbh p gl gn V) w w':=by
 obtain ⟨_,_,_,_,c4,_⟩:=h.cells;have f4:=h.thaw 4
 have R:Hid (jbq (w.setCell ⟨p,4,none⟩ (.int .i64 n)) p (jbh p gl gn V) (jf6 s n)/\jcx (jbh p gl gn V) (jbh p gl gn V) w.heap.size/\jaM (jbh p gl gn V) w (w.setCell ⟨p,4,none⟩ (.int .i64 n))):=by
  refine ⟨⟨gl,gn,V,n,DL,DN,rfl,h.turn n s.off (jf6 s n).lim ?_ hn (jaC w p 4 (.int .i64 n) _ _ h.box) (fun b hb=>jah w p b 4 _ (Ne.symm hb))⟩,fun b q=>.inl q,(jaM.refl _ w).set jdL 4 _⟩;unfold jf6;by_cases q:n < 0
  ·exact .inl ⟨if_pos q,q⟩
  ·exact .inr ⟨n.toNat,if_neg q,by omega⟩
 clear h hn;go_enter Tryz.func12,Tryz.ntmps12;go_wp2;exact bodyPost_end (results_none rfl _ _ _) rfl ⟨_,rfl,R.out⟩
theorem jkA (h:jak w p gl gn V z DL DN s):Calls Tryz.prog 18 #[.pointer (some ⟨p,0,none⟩)] w fun e w'=>e=.returned (.int .i64 (s.pend.length:Int))/\Below w.heap.size w w':=by
 obtain ⟨_,_,c2,_⟩:=h.cells;obtain ⟨A,c,hV,_,_⟩:=h.len;rw [hV] at c2;have hb:Hid (Below w.heap.size w w):=Below.refl _ _;clear h hV;go_enter Tryz.func18,Tryz.ntmps18;go_wp2;go_ret;exact ⟨rfl,hb.out⟩
theorem jmP (n:Int) (w:World):Calls Tryz.prog 12 #[.pointer none,.int .i64 n] w fun e w'=>e=.returned (.tuple #[])/\Below w.heap.size w w':=by
 have hb:Hid (Below w.heap.size w w):=Below.refl _ _;go_enter Tryz.func12,Tryz.ntmps12;go_wp2;exact bodyPost_end (results_none rfl _ _ _) rfl ⟨rfl,hb.out⟩
theorem jiR (w:World):Calls Tryz.prog 18 #[.pointer none] w fun e w'=>e=.returned (.int .i64 0)/\Below w.heap.size w w':=by
 have hb:Hid (Below w.heap.size w w):=Below.refl _ _;go_enter Tryz.func18,Tryz.ntmps18;go_wp2;go_ret;exact ⟨rfl,hb.out⟩
theorem jlP (A:Option Addr) (l c:Nat) (w:World):Calls Tryz.prog 13 #[.pointer none,.slice A l c] w fun e w'=>e=.returned (.tuple #[])/\Below w.heap.size w w':=by
 have hb:Hid (Below w.heap.size w (w.alloc (.cells #[.slice A l c] 37))):=(Below.refl _ _).alloc (Nat.le_refl _) _;go_enter Tryz.func13,Tryz.ntmps13;go_wp2;refine bodyPost_ret (results_none rfl _ _ _) rfl ?_;exact ⟨rfl,hb.out⟩
theorem joi (h:jak w p gl gn V z DL DN s) (A:Option Addr) (c:Nat) (l:List Bool) (hB:jdm w w.heap.size A l) (hF:Off (jbh p gl gn V) A l.length) :
  Calls Tryz.prog 13 #[.pointer (some ⟨p,0,none⟩),.slice A l.length c] w fun e w'=>∃ F',e=.returned (.tuple #[])/\jbq w' p F' (jbZ s l)/\jcx (jbh p gl gn V) F' w.heap.size/\jaM (jbh p gl gn V) w w':=by
 have hmf:∀ (fn:Fn) (first cap:Array Value) (w:World),(Instr.makeFunc fn first cap).run Tryz.prog w=.ok (.func fn first cap) w:=fun _ _ _ _=>rfl
 have hb:Below w.heap.size w (w.alloc (.cells #[.slice A l.length c] 37)):=(Below.refl _ _).alloc (Nat.le_refl _) _;have hnew:=heap_alloc_new w (.cells #[.slice A l.length c] 37);have h1:=h.later hb;have hA1:jaM (jbh p gl gn V) w (w.alloc (.cells #[.slice A l.length c] 37)):=jhh (jaM.refl _ w) _;have hlt:w.heap.size < (w.alloc (.cells #[.slice A l.length c] 37)).heap.size:=by simp
 have hno:¬ jbh p gl gn V w.heap.size:=fun q=>absurd (h.lt _ q) (Nat.lt_irrefl _)
 have HST:=Lib.hid (jhK h1 32 #[.pointer (some ⟨w.heap.size,0,none⟩)] (fun i=>l.getD i false) (fun args w=>by kernel_rfl) (fun i W hi ha=>by
  refine jl1 w.heap.size c w.heap.size A l W ((ha.cell hlt hno).trans (cell_of_row _ _ _ _ _ _ hnew)) (fun j hj=>?_) i;obtain ⟨b,o,e,hbl,hc⟩:=hB j hj;refine ⟨b,o,e,hbl,?_⟩;rw [ha.cell (Nat.lt_trans hbl hlt) (hF (by omega) b o e),hb.cell (p:=⟨b,o + j,none⟩) hbl];exact hc))
 have HE:Hid (∀ w3:World,((∃ DL' DN',jak w3 p gl gn (.slice none 0 0) z DL' DN' ⟨jdl (jcF s.pend (fun i=>l.getD i false) s.pend.length) s.last,[],s.lim,s.off⟩)/\jaM (jbh p gl gn V) (w.alloc (.cells #[.slice A l.length c] 37)) w3) ->
   (w3.cell? ⟨p,4,none⟩=some (.int .i64 z)/\w3.cell? ⟨p,5,none⟩=some (.bool s.off)/\w3.frozen? ⟨p,4,none⟩=false/\w3.frozen? ⟨p,5,none⟩=false) /\
   jbq ((w3.setCell ⟨p,5,none⟩ (.bool false)).setCell ⟨p,4,none⟩ (.int .i64 (-1))) p (jbh p gl gn (.slice none 0 0)) (jbZ s l)/\jcx (jbh p gl gn V) (jbh p gl gn (.slice none 0 0)) w.heap.size/\jaM (jbh p gl gn V) w ((w3.setCell ⟨p,5,none⟩ (.bool false)).setCell ⟨p,4,none⟩ (.int .i64 (-1)))):=fun w3 ⟨⟨DL',DN',q1⟩,q2⟩=>by
  obtain ⟨_,_,_,_,e4,e5⟩:=q1.cells;refine ⟨⟨e4,e5,q1.thaw 4,q1.thaw 5⟩,⟨gl,gn,_,-1,DL',DN',rfl,?_⟩,fun b q=>?_,?_⟩
  ·have:=q1.turn (w':=(w3.setCell ⟨p,5,none⟩ (.bool false)).setCell ⟨p,4,none⟩ (.int .i64 (-1))) (-1) false none (.inl ⟨rfl,by decide⟩) (by unfold jeI;decide) (jaC _ p 4 _ _ _ (jaC _ p 5 _ _ _ q1.box)) (fun b hb=>(jah _ p b 4 _ (Ne.symm hb)).trans (jah _ p b 5 _ (Ne.symm hb)));rw [jgE] at this;exact this
  ·rcases q with e | e | e | e
   ·exact .inl (.inl e)
   ·exact .inl (.inr (.inl e))
   ·exact .inl (.inr (.inr (.inl e)))
   ·cases e
  ·exact ((jhf hA1 q2 (fun _ q=>.inl q)).set jdL 5 _).set jdL 4 _
 obtain ⟨s2,hs2⟩:∃ s2,s2=jbZ s l:=⟨_,rfl⟩;rw [<- hs2] at HE ⊢;clear h hB hF hb hnew h1 hA1 hlt hno hs2;go_enter Tryz.func13,Tryz.ntmps13
 go_wp2_with (go_at_call 31;with_reducible (refine Calls.mono HST.out ?_);rintro e w3 ⟨rfl,hr3⟩
              obtain ⟨⟨y4,y5,f4,f5⟩,hR⟩:=HE.out w3 hr3;replace hR:=Lib.hid hR)
 exact bodyPost_end (results_none rfl _ _ _) rfl ⟨_,rfl,hR.out⟩
end
section
variable {w W1 W':World} {p gl gn:Nat} {V V':Value} {z z':Int} {DL DL':DataW Value} {DN DN':DataW Unit} {s s':Dk}
theorem jfe (h:jak w p gl gn V z DL DN s) (h1:Below w.heap.size w W1) (o:Obj) (hd:jak W' p gl gn V' z' DL' DN' s') (hv:V'.ownBlock=none∨V.ownBlock=V'.ownBlock∨∃ g,V'.ownBlock=some g/\(W1.alloc o).heap.size<=g) (ha:jaM (jbh p gl gn V) (W1.alloc o) W') (x:Value) :
  ∃ F',jbq (W'.setCell ⟨W1.heap.size,0,none⟩ x) p F' s'/\jcx (jbh p gl gn V) F' w.heap.size/\jaM (jbh p gl gn V) w (W'.setCell ⟨W1.heap.size,0,none⟩ x):=by
 have hsz:=h1.size;have hso:(W1.alloc o).heap.size=W1.heap.size + 1:=by simp
 refine ⟨jbh p gl gn V',⟨gl,gn,V',z',DL',DN',rfl,hd.keep fun b q=>jah _ _ _ _ _ (fun e=>?_)⟩,fun b q=>?_,?_⟩
 ·subst e;rcases q with e | e | e | e
  ·have:=h.lt p jdL;omega
  ·have:=h.lt gl jkg;omega
  ·have:=h.lt gn jma;omega
  ·rcases hv with e2 | e2 | ⟨g,e2,hl⟩
   ·rw [e2] at e;cases e
   ·have:=h.lt _ (.inr (.inr (.inr (e2.trans e))));omega
   ·rw [e2] at e;injection e with e;omega
 ·rcases q with e | e | e | e
  ·exact .inl (.inl e)
  ·exact .inl (.inr (.inl e))
  ·exact .inl (.inr (.inr (.inl e)))
  ·rcases hv with e2 | e2 | ⟨g,e2,hl⟩
   ·rw [e2] at e;cases e
   ·exact .inl (.inr (.inr (.inr (e2.trans e))))
   ·rw [e2] at e;injection e with e;exact .inr (by omega)
 ·refine ⟨ha.os.trans h1.os,ha.tape.trans h1.tape,ha.output.trans h1.output,Nat.le_trans (by omega) (Nat.le_trans ha.size (by simp [World.setCell])),fun k k1 k2=>?_⟩;rw [jah _ _ _ _ _ (show W1.heap.size≠k by omega),ha.block k (by omega) k2,Below.heap_alloc W1 o k (by omega)];exact h1.block k k1
theorem jfi {o:Obj} (h:jak w p gl gn V z DL DN s) (h1:Below w.heap.size w W1) (ha:jaM (jbh p gl gn V) (W1.alloc o) W'):W'.heap[W1.heap.size]? = some o:=by
 have hsz:=h1.size;rw [ha.block W1.heap.size (by simp) (fun q=>by have:=h.lt _ q;omega)];exact heap_alloc_new W1 o
theorem jnK (h:jak w p gl gn V z DL DN s):Calls Tryz.prog 83 #[.pointer (some ⟨p,0,none⟩)] w fun e w'=>∃ F',e=.returned (.int .i64 (jbu s))/\jbq w' p F' (jbD s)/\jcx (jbh p gl gn V) F' w.heap.size/\jaM (jbh p gl gn V) w w':=by
 have hmf:∀ (fn:Fn) (first cap:Array Value) (w:World),(Instr.makeFunc fn first cap).run Tryz.prog w=.ok (.func fn first cap) w:=fun _ _ _ _=>rfl
 obtain ⟨W1,hW1⟩:∃ W1,W1=w.alloc (.cells #[.pointer (some ⟨p,0,none⟩)] 23):=⟨_,rfl⟩;have hb:Below w.heap.size w W1:=by rw [hW1];exact (Below.refl _ _).alloc (Nat.le_refl _) _
 have hb2:Below w.heap.size w (W1.alloc (.cells #[.int .i64 0] 24)):=hb.alloc hb.size _;have hnew:W1.heap[w.heap.size]? = some (.cells #[.pointer (some ⟨p,0,none⟩)] 23 (0,0)):=by rw [hW1];exact heap_alloc_new w _
 have hlt:w.heap.size < W1.heap.size:=by rw [hW1];simp
 have h2:=h.later hb2;have hc0:(W1.alloc (.cells #[.int .i64 0] 24)).cell? ⟨w.heap.size,0,none⟩=some (.pointer (some ⟨p,0,none⟩)):=cell_of_row _ _ _ _ _ _ ((Below.heap_alloc W1 _ _ hlt).trans hnew);have hno:¬ jbh p gl gn V w.heap.size:=fun q=>absurd (h.lt _ q) (Nat.lt_irrefl _)
 have HAT:Hid (Calls Tryz.prog 53 #[.pointer (some ⟨p,0,none⟩),.func (.func 120) #[] #[.pointer (some ⟨w.heap.size,0,none⟩)]] W1 fun e w'=>e=.returned (.int .i64 (jbu s))/\∃ F',jbq w' p F' (jbD s)/\jcx (jbh p gl gn V) F' w.heap.size/\jaM (jbh p gl gn V) w w'):=by
  by_cases hE:jbu s=0
  ·refine (jeu 120 _ _ W1 (fun args w=>by kernel_rfl) (jmE h2 w.heap.size hc0 hno hE) (fun W' q=>jfi h hb q.2)).mono ?_;rintro e w' ⟨q1,W',⟨⟨z',DL',DN',q2⟩,q3⟩,rfl⟩;rw [hE];exact ⟨q1,jfe h hb _ q2 (.inl rfl) q3 _⟩
  ·refine (jeG 120 _ (jbu s) _ W1 (fun args w=>by kernel_rfl) (jmL h2 w.heap.size hc0 hE) (fun W' q=>jfi h hb q.2)).mono ?_;rintro e w' ⟨q1,W',⟨q2,q3⟩,rfl⟩;exact ⟨q1,jfe h hb _ q2 (.inr (.inl rfl)) q3 _⟩
 have HW:=Lib.hid hW1;have hcp:W1.cell? ⟨w.heap.size,0,none⟩=some (.pointer (some ⟨p,0,none⟩)):=cell_of_row _ _ _ _ _ _ hnew;obtain ⟨s2,hs2⟩:∃ s2,s2=jbD s:=⟨_,rfl⟩;obtain ⟨E,hE⟩:∃ E,E=jbu s:=⟨_,rfl⟩;rw [<- hs2,<- hE] at HAT ⊢;clear h hW1 hb hb2 hnew hlt h2 hc0 hno hs2 hE;go_enter Tryz.func83,Tryz.ntmps83;rw [HW.out] at HAT
 go_wp2_with (go_at_call 53;with_reducible (refine Calls.mono HAT.out ?_);rintro e w2 ⟨rfl,F',hr⟩;replace hr:=Lib.hid hr)
 go_ret;exact ⟨F',rfl,hr.out⟩
theorem jl2 (w:World):Calls Tryz.prog 83 #[.pointer none] w fun e w'=>e=.returned (.int .i64 11)/\Below w.heap.size w w':=by
 have hmf:∀ (fn:Fn) (first cap:Array Value) (w:World),(Instr.makeFunc fn first cap).run Tryz.prog w=.ok (.func fn first cap) w:=fun _ _ _ _=>rfl
 have hb:Hid (Below w.heap.size w (w.alloc (.cells #[.pointer none] 23))):=(Below.refl _ _).alloc (Nat.le_refl _) _;go_enter Tryz.func83,Tryz.ntmps83
 go_wp2_with (go_at_call 53;with_reducible (refine Calls.mono (jdd _ _) ?_);rintro e w2 ⟨rfl,hb2⟩)
 go_ret;exact ⟨rfl,jaa hb.out hb2⟩
end
section
variable {w:World} {p gl gn:Nat} {V:Value} {z:Int} {DL:DataW Value} {DN:DataW Unit} {s:Dk}
theorem jfz (w:World) (o0 o1 o2:Obj):Below w.heap.size w (((w.alloc o0).alloc o1).alloc o2)/\(((w.alloc o0).alloc o1).alloc o2).heap.size=w.heap.size + 1 + 1 + 1/\(((w.alloc o0).alloc o1).alloc o2).heap[w.heap.size]? = some o0/\(((w.alloc o0).alloc o1).alloc o2).heap[w.heap.size + 1]? = some o1/\(((w.alloc o0).alloc o1).alloc o2).heap[w.heap.size + 1 + 1]? = some o2:=by
 have s1:(w.alloc o0).heap.size=w.heap.size + 1:=by simp
 have s2:((w.alloc o0).alloc o1).heap.size=w.heap.size + 1 + 1:=by simp
 have h0:=heap_alloc_new w o0;have h1:=heap_alloc_new (w.alloc o0) o1;have h2:=heap_alloc_new ((w.alloc o0).alloc o1) o2;rw [s1] at h1;rw [s2] at h2;refine ⟨((Below.refl _ _).alloc (Nat.le_refl _) _ |>.alloc (by omega) _ |>.alloc (by omega) _),by simp,?_,?_,h2⟩
 ·rw [Below.heap_alloc _ _ _ (by omega),Below.heap_alloc _ _ _ (by omega)];exact h0
 ·rw [Below.heap_alloc _ _ _ (by omega)];exact h1
theorem jnn (h:jak w p gl gn V z DL DN s) (n:Int) (hn:jeI n) (A:Option Addr) (c:Nat) (t:List Nat) (hI:jaO w w.heap.size .u8 A (up t)) (ht:∀ y∈t,y < 256) (hF:Off (jbh p gl gn V) A t.length) (hm:s.pend.length<=2147483647) :
  Calls Tryz.prog 81 #[.pointer (some ⟨p,0,none⟩),.int .i64 n,.slice A t.length c] w fun e w'=>∃ F',e=.returned (.int .i64 (ja5 s n t))/\jbq w' p F' (jbl s n t)/\jcx (jbh p gl gn V) F' w.heap.size/\jaM (jbh p gl gn V) w w':=by
 have hmf:∀ (fn:Fn) (first cap:Array Value) (w:World),(Instr.makeFunc fn first cap).run Tryz.prog w=.ok (.func fn first cap) w:=fun _ _ _ _=>rfl
 obtain ⟨W1,hW1⟩:∃ W1,W1=((w.alloc (.cells #[.pointer (some ⟨p,0,none⟩)] 23)).alloc (.cells #[.int .i64 n] 3)).alloc (.cells #[.slice A t.length c] 54):=⟨_,rfl⟩;obtain ⟨hb,hs1,k0,k1,k2⟩:=jfz w (.cells #[.pointer (some ⟨p,0,none⟩)] 23) (.cells #[.int .i64 n] 3) (.cells #[.slice A t.length c] 54);rw [<- hW1] at hb hs1 k0 k1 k2;have hb2:Below w.heap.size w (W1.alloc (.cells #[.int .i64 0] 24)):=hb.alloc hb.size _;have h2:=h.later hb2;have hc0:(W1.alloc (.cells #[.int .i64 0] 24)).cell? ⟨w.heap.size,0,none⟩=some (.pointer (some ⟨p,0,none⟩)):=cell_of_row _ _ _ _ _ _ ((Below.heap_alloc W1 _ _ (by omega)).trans k0);have hc1:(W1.alloc (.cells #[.int .i64 0] 24)).cell? ⟨w.heap.size + 1 + 1,0,none⟩=some (.slice A t.length c):=cell_of_row _ _ _ _ _ _ ((Below.heap_alloc W1 _ _ (by omega)).trans k2);have hc2:(W1.alloc (.cells #[.int .i64 0] 24)).cell? ⟨w.heap.size + 1,0,none⟩=some (.int .i64 n):=cell_of_row _ _ _ _ _ _ ((Below.heap_alloc W1 _ _ (by omega)).trans k1);have hno:∀ b,w.heap.size<=b->¬ jbh p gl gn V b:=fun b hb q=>absurd (h.lt _ q) (by omega)
 have HAT:Hid (Calls Tryz.prog 53 #[.pointer (some ⟨p,0,none⟩),.func (.func 118) #[] #[.pointer (some ⟨w.heap.size,0,none⟩),.pointer (some ⟨w.heap.size + 1 + 1,0,none⟩),.pointer (some ⟨w.heap.size + 1,0,none⟩)]] W1 fun e w'=>e=.returned (.int .i64 (ja5 s n t))/\∃ F',jbq w' p F' (jbl s n t)/\jcx (jbh p gl gn V) F' w.heap.size/\jaM (jbh p gl gn V) w w'):=by
  by_cases hE:ja5 s n t=0
  ·have hout:¬ je6 s n:=fun q=>by
    unfold ja5 at hE;split at hE
    ·cases hE
    ·split at hE
     ·cases hE
     ·first | (rw [if_pos q] at hE;cases hE) | cases hE
   have h64:t.length=64:=by
    unfold ja5 at hE;split at hE
    ·cases hE
    ·by_cases q:t.length=64
     ·exact q
     ·first | (rw [if_pos q] at hE;cases hE) | cases hE
   obtain ⟨i,rfl,hi⟩:=jmT hout;refine (jeu 118 _ _ W1 (fun args w=>by kernel_rfl) (jmJ h2 w.heap.size (w.heap.size + 1 + 1) (w.heap.size + 1) c i A t ((hI.below hb2).more hb2.size) ht (fun b o e=>hF (by omega) b o e) hc0 hc1 hc2 ⟨hno _ (by omega),hno _ (by omega),hno _ (by omega)⟩ hm hE) (fun W' q=>jfi h hb q.2)).mono ?_;rintro e w' ⟨q1,W',⟨⟨V',z',DN',q2,q4⟩,q3⟩,rfl⟩;rw [hE];exact ⟨q1,jfe h hb _ q2 (.inr q4) q3 _⟩
  ·refine (jeG 118 _ (ja5 s n t) _ W1 (fun args w=>by kernel_rfl) (jlY h2 w.heap.size (w.heap.size + 1 + 1) (w.heap.size + 1) t.length c A n t rfl hc0 hc1 hc2 hE) (fun W' q=>jfi h hb q.2)).mono ?_;rintro e w' ⟨q1,W',⟨q2,q3⟩,rfl⟩;exact ⟨q1,jfe h hb _ q2 (.inr (.inl rfl)) q3 _⟩
 have HW:=Lib.hid hW1;obtain ⟨s2,hs2⟩:∃ s2,s2=jbl s n t:=⟨_,rfl⟩;obtain ⟨E,hE⟩:∃ E,E=ja5 s n t:=⟨_,rfl⟩;rw [<- hs2,<- hE] at HAT ⊢;clear h hW1 hb hb2 k0 k1 k2 hs1 h2 hc0 hc1 hc2 hno hs2 hE hn hI ht hF hm;obtain ⟨N,hN⟩:∃ N,N=t.length:=⟨_,rfl⟩;rw [HW.out] at HAT;rw [<- hN] at HAT ⊢;clear hN HW;go_enter Tryz.func81,Tryz.ntmps81
 go_wp2_with (go_at_call 53;with_reducible (refine Calls.mono HAT.out ?_);rintro e w2 ⟨rfl,F',hr⟩;replace hr:=Lib.hid hr)
 go_ret;exact ⟨F',rfl,hr.out⟩
theorem jl3 (n:Int) (A:Option Addr) (l c:Nat) (w:World):Calls Tryz.prog 81 #[.pointer none,.int .i64 n,.slice A l c] w fun e w'=>e=.returned (.int .i64 11)/\Below w.heap.size w w':=by
 have hmf:∀ (fn:Fn) (first cap:Array Value) (w:World),(Instr.makeFunc fn first cap).run Tryz.prog w=.ok (.func fn first cap) w:=fun _ _ _ _=>rfl
 have hb:=Lib.hid (jfz w (.cells #[.pointer none] 23) (.cells #[.int .i64 n] 3) (.cells #[.slice A l c] 54)).1;go_enter Tryz.func81,Tryz.ntmps81
 go_wp2_with (go_at_call 53;with_reducible (refine Calls.mono (jdd _ _) ?_);rintro e w2 ⟨rfl,hb2⟩)
 go_ret;exact ⟨rfl,jaa hb.out hb2⟩
def jo7 (w w':World) (t:List Nat):Prop:=∃ g,w'.heap[w.heap.size + 1 + 1]? = some (.cells #[.slice (some ⟨g,0,none⟩) 64 64] 54 (0,0))/\w'.heap[g]? = some (.cells (BA t) 103 (0,0))/\w.heap.size<=g/\g≠w.heap.size + 1 + 1/\Below w.heap.size w w'
theorem jo7.got {w w':World} {t:List Nat} (h:jo7 w w' t):∃ g,w'.heap[w.heap.size + 1 + 1]? = some (.cells #[.slice (some ⟨g,0,none⟩) 64 64] 54 (0,0))/\Hid (∀ v,Got w (w'.setCell ⟨w.heap.size + 1 + 1,0,none⟩ v) (some ⟨g,0,none⟩) t/\Below w.heap.size w (w'.setCell ⟨w.heap.size + 1 + 1,0,none⟩ v)):=by
 obtain ⟨g,h1,h2,h3,h4,h5⟩:=h;refine ⟨g,h1,fun v=>?_⟩;have hg:(w'.setCell ⟨w.heap.size + 1 + 1,0,none⟩ v).heap[g]? = some (.cells (BA t) 103 (0,0)):=(jah _ _ _ _ _ (Ne.symm h4)).trans h2;refine ⟨⟨g,0,rfl,h3,(Array.getElem?_eq_some_iff.1 hg).1,fun i hi=>⟨?_,frozen_of_row _ _ _ _ _ hg⟩⟩,h5.setCell (p:=⟨w.heap.size + 1 + 1,0,none⟩) (by show w.heap.size<=w.heap.size + 1 + 1;omega) _⟩;rw [Nat.zero_add,jpv hg hi]
theorem jfm (fid:FuncId) (n:Int) (t:List Nat) (w:World) (he:∀ args w,(callFunc fid args).run Tryz.prog w=.ok (.enter fid args) w)
  (hcall:∀ W,W=(((w.alloc (.cells #[.pointer (some ⟨p,0,none⟩)] 23)).alloc (.cells #[.int .i64 n] 3)).alloc (.cells #[.slice none 0 0] 54)).alloc (.cells #[.int .i64 0] 24)->Calls Tryz.prog fid #[.pointer (some ⟨w.heap.size,0,none⟩),.pointer (some ⟨w.heap.size + 1,0,none⟩),.pointer (some ⟨w.heap.size + 1 + 1,0,none⟩)] W fun e w'=>e=.returned (.tuple #[]) /\
   ∃ W',Below W.heap.size W W'/\w'=(W'.alloc (.cells (BA t) 103)).setCell ⟨w.heap.size + 1 + 1,0,none⟩ (.slice (some ⟨W'.heap.size,0,none⟩) 64 64)) :
  Calls Tryz.prog 53 #[.pointer (some ⟨p,0,none⟩),.func (.func fid) #[] #[.pointer (some ⟨w.heap.size,0,none⟩),.pointer (some ⟨w.heap.size + 1,0,none⟩),.pointer (some ⟨w.heap.size + 1 + 1,0,none⟩)]]
   (((w.alloc (.cells #[.pointer (some ⟨p,0,none⟩)] 23)).alloc (.cells #[.int .i64 n] 3)).alloc (.cells #[.slice none 0 0] 54)) fun e w'=>e=.returned (.int .i64 0)/\jo7 w w' t:=by
 obtain ⟨hb,hs1,_,_,k2⟩:=jfz w (.cells #[.pointer (some ⟨p,0,none⟩)] 23) (.cells #[.int .i64 n] 3) (.cells #[.slice none 0 0] 54);obtain ⟨W1,hW1⟩:∃ W1,W1=((w.alloc (.cells #[.pointer (some ⟨p,0,none⟩)] 23)).alloc (.cells #[.int .i64 n] 3)).alloc (.cells #[.slice none 0 0] 54):=⟨_,rfl⟩;rw [<- hW1] at hb hs1 k2 hcall ⊢;have hnew:=heap_alloc_new W1 (.cells #[.int .i64 0] 24);have k3:=(Below.heap_alloc W1 (.cells #[.int .i64 0] 24) (w.heap.size + 1 + 1) (by omega)).trans k2;have hb2:Below w.heap.size w (W1.alloc (.cells #[.int .i64 0] 24)):=hb.alloc hb.size _;have hs2:(W1.alloc (.cells #[.int .i64 0] 24)).heap.size=W1.heap.size + 1:=by simp
 refine (jeu fid _ _ W1 he (hcall _ rfl) ?_).mono ?_
 ·rintro W ⟨W',q1,rfl⟩;rw [jah _ _ _ _ _ (by omega),Below.heap_alloc _ _ _ (by have:=q1.size;omega),q1.block _ (by omega)];exact hnew
 ·rintro e w' ⟨q0,W,⟨W',q1,rfl⟩,rfl⟩;have hsz:=q1.size;refine ⟨q0,W'.heap.size,?_,?_,by omega,by omega,?_⟩
  ·rw [jah _ _ _ _ _ (by omega)];have hk:=jaC (W'.alloc (.cells (BA t) 103)) (w.heap.size + 1 + 1) 0 (.slice (some ⟨W'.heap.size,0,none⟩) 64 64) _ _ ((Below.heap_alloc W' (.cells (BA t) 103) (w.heap.size + 1 + 1) (by omega)).trans ((q1.block _ (by omega)).trans k3));rw [hk];rfl
  ·rw [jah _ _ _ _ _ (by omega),jah _ _ _ _ _ (by omega)];exact heap_alloc_new W' _
  ·have h3:Below w.heap.size w W':=hb2.trans (q1.mono (by omega));exact ((h3.alloc (by omega) _).setCell (p:=⟨w.heap.size + 1 + 1,0,none⟩) (by show w.heap.size<=w.heap.size + 1 + 1;omega) _).setCell (p:=⟨W1.heap.size,0,none⟩) (by show w.heap.size<=W1.heap.size;omega) _
theorem jfQ (fid:FuncId) (n E:Int) (w:World) (he:∀ args w,(callFunc fid args).run Tryz.prog w=.ok (.enter fid args) w)
  (hcall:∀ W,W=(((w.alloc (.cells #[.pointer (some ⟨p,0,none⟩)] 23)).alloc (.cells #[.int .i64 n] 3)).alloc (.cells #[.slice none 0 0] 54)).alloc (.cells #[.int .i64 0] 24)->Calls Tryz.prog fid #[.pointer (some ⟨w.heap.size,0,none⟩),.pointer (some ⟨w.heap.size + 1,0,none⟩),.pointer (some ⟨w.heap.size + 1 + 1,0,none⟩)] W fun e w'=>e=.panicked (upV E)/\w'=W) :
  Calls Tryz.prog 53 #[.pointer (some ⟨p,0,none⟩),.func (.func fid) #[] #[.pointer (some ⟨w.heap.size,0,none⟩),.pointer (some ⟨w.heap.size + 1,0,none⟩),.pointer (some ⟨w.heap.size + 1 + 1,0,none⟩)]]
   (((w.alloc (.cells #[.pointer (some ⟨p,0,none⟩)] 23)).alloc (.cells #[.int .i64 n] 3)).alloc (.cells #[.slice none 0 0] 54)) fun e w'=>e=.returned (.int .i64 E)/\w'.heap[w.heap.size + 1 + 1]? = some (.cells #[.slice none 0 0] 54 (0,0))/\Below w.heap.size w w':=by
 obtain ⟨hb,hs1,_,_,k2⟩:=jfz w (.cells #[.pointer (some ⟨p,0,none⟩)] 23) (.cells #[.int .i64 n] 3) (.cells #[.slice none 0 0] 54);obtain ⟨W1,hW1⟩:∃ W1,W1=((w.alloc (.cells #[.pointer (some ⟨p,0,none⟩)] 23)).alloc (.cells #[.int .i64 n] 3)).alloc (.cells #[.slice none 0 0] 54):=⟨_,rfl⟩;rw [<- hW1] at hb hs1 k2 hcall ⊢;have hnew:=heap_alloc_new W1 (.cells #[.int .i64 0] 24);refine (jeG fid _ E _ W1 he (hcall _ rfl) ?_).mono ?_
 ·rintro W rfl;exact hnew
 ·rintro e w' ⟨q0,W,rfl,rfl⟩;refine ⟨q0,?_,(hb.alloc hb.size _).setCell (p:=⟨W1.heap.size,0,none⟩) (by show w.heap.size<=W1.heap.size;omega) _⟩;rw [jah _ _ _ _ _ (by omega),Below.heap_alloc _ _ _ (by omega)];exact k2
theorem jen {W:World} (h:jak w p gl gn V z DL DN s) {n:Int} (hW:W=(((w.alloc (.cells #[.pointer (some ⟨p,0,none⟩)] 23)).alloc (.cells #[.int .i64 n] 3)).alloc (.cells #[.slice none 0 0] 54)).alloc (.cells #[.int .i64 0] 24)) :
  jak W p gl gn V z DL DN s/\W.cell? ⟨w.heap.size,0,none⟩=some (.pointer (some ⟨p,0,none⟩))/\W.cell? ⟨w.heap.size + 1,0,none⟩=some (.int .i64 n)/\W.heap[w.heap.size + 1 + 1]? = some (.cells #[.slice none 0 0] 54 (0,0)):=by
 obtain ⟨hb,hs1,k0,k1,k2⟩:=jfz w (.cells #[.pointer (some ⟨p,0,none⟩)] 23) (.cells #[.int .i64 n] 3) (.cells #[.slice none 0 0] 54);subst hW;exact ⟨h.later (hb.alloc hb.size _),cell_of_row _ _ _ _ _ _ ((Below.heap_alloc _ _ _ (by omega)).trans k0),cell_of_row _ _ _ _ _ _ ((Below.heap_alloc _ _ _ (by omega)).trans k1),(Below.heap_alloc _ _ _ (by omega)).trans k2⟩
end
end Go.Proofs.YtbnhkplhmanmoaaGreat
