/- . -/
import Derived.Test.YtbnhkplhmanmoaaGreatDiskCAG
import Derived.OwnWalk
import Derived.Test.YtbnhkplhmanmoaaGreatTkG
import Derived.Lib.Bytes
import Derived.Test.YtbnhkplhmanmoaaGreatVaultAskG
import Derived.Deep.MidRow
import Derived.Deep.TreeCalls
import Derived.Deep.RegionHeld3
import Derived.Test.YtbnhkplhmanmoaaGreatTableC9G
namespace Go.Proofs.YtbnhkplhmanmoaaGreat
open Go.RowKit
set_option maxHeartbeats 6400000
section
variable {w:World} {p gl gn:Nat} {V:Value} {z:Int} {DL:DataW Value} {DN:DataW Unit} {s:Dk}
theorem joW (h:jak w p gl gn V z DL DN s) (i:Nat) (hE:jcR s (i:Int)=0):Calls Tryz.prog 106 #[.pointer (some ⟨p,0,none⟩),.int .i64 (i:Int)] w fun e w'=>∃ A c,e=.returned (.tuple #[.slice A 64 c,.int .i64 0])/\64<=c/\Got w w' A (jjQ s i)/\Below w.heap.size w w':=by
 have hmf:∀ (fn:Fn) (first cap:Array Value) (w:World),(Instr.makeFunc fn first cap).run Tryz.prog w=.ok (.func fn first cap) w:=fun _ _ _ _=>rfl
 have HAT:=Lib.hid (jfm 138 (i:Int) (jjQ s i) w (fun args w=>by kernel_rfl) (fun W hW=>by
  obtain ⟨q1,q2,q3,q4⟩:=jen h hW;exact jnk q1 w.heap.size (w.heap.size + 1) (w.heap.size + 1 + 1) i q2 q3 q4 hE))
 obtain ⟨t,ht⟩:∃ t,t=jjQ s i:=⟨_,rfl⟩;rw [<- ht] at HAT ⊢;clear h hE ht;go_enter Tryz.func106,Tryz.ntmps106
 go_wp2_with (go_at_call 53;with_reducible (refine Calls.mono HAT.out ?_);rintro e w2 ⟨rfl,hg⟩
              obtain ⟨g,y0,hR⟩:=hg.got;have y1:w2.cell? ⟨w.heap.size + 1 + 1,0,none⟩=some (.slice (some ⟨g,0,none⟩) 64 64):=cell_of_row _ _ _ _ _ _ y0;have y2:w2.frozen? ⟨w.heap.size + 1 + 1,0,none⟩=false:=frozen_of_row _ _ _ _ _ y0)
 have y3:(w2.setCell ⟨w.heap.size + 1 + 1,0,none⟩ (.slice (some ⟨g,0,none⟩) 64 64)).cell? ⟨w.heap.size + 1 + 1,0,none⟩=some (.slice (some ⟨g,0,none⟩) 64 64):=cell_of_row _ _ _ _ _ _ (jaC _ _ _ _ _ _ y0);refine bodyPost_ret (v:=.tuple #[.slice (some ⟨g,0,none⟩) 64 64,.int .i64 0]) (by simp [results,Tryz.results106,go_sem,y3]) rfl ?_;exact ⟨_,_,rfl,Nat.le_refl _,hR.out _⟩
theorem jof (h:jak w p gl gn V z DL DN s) (n:Int) (hE:jcR s n≠0):Calls Tryz.prog 106 #[.pointer (some ⟨p,0,none⟩),.int .i64 n] w fun e w'=>∃ A c,e=.returned (.tuple #[.slice A 0 c,.int .i64 (jcR s n)])/\Below w.heap.size w w':=by
 have hmf:∀ (fn:Fn) (first cap:Array Value) (w:World),(Instr.makeFunc fn first cap).run Tryz.prog w=.ok (.func fn first cap) w:=fun _ _ _ _=>rfl
 have HAT:=Lib.hid (jfQ 138 n (jcR s n) w (fun args w=>by kernel_rfl) (fun W hW=>by
  obtain ⟨q1,q2,q3,q4⟩:=jen h hW;exact jnv q1 w.heap.size (w.heap.size + 1) (w.heap.size + 1 + 1) n q2 q3 hE))
 obtain ⟨E,hE2⟩:∃ E,E=jcR s n:=⟨_,rfl⟩;rw [<- hE2] at HAT ⊢;clear h hE hE2;go_enter Tryz.func106,Tryz.ntmps106
 go_wp2_with (go_at_call 53;with_reducible (refine Calls.mono HAT.out ?_);rintro e w2 ⟨rfl,y0,hb⟩
              have hR:Hid (∀ v,Below w.heap.size w (w2.setCell ⟨w.heap.size + 1 + 1,0,none⟩ v)):=fun v=>hb.setCell (p:=⟨w.heap.size + 1 + 1,0,none⟩) (by show w.heap.size<=w.heap.size + 1 + 1;omega) v
              have y1:w2.cell? ⟨w.heap.size + 1 + 1,0,none⟩=some (.slice none 0 0):=cell_of_row _ _ _ _ _ _ y0;have y2:w2.frozen? ⟨w.heap.size + 1 + 1,0,none⟩=false:=frozen_of_row _ _ _ _ _ y0)
 have y3:(w2.setCell ⟨w.heap.size + 1 + 1,0,none⟩ (.slice none 0 0)).cell? ⟨w.heap.size + 1 + 1,0,none⟩=some (.slice none 0 0):=cell_of_row _ _ _ _ _ _ (jaC _ _ _ _ _ _ y0);refine bodyPost_ret (v:=.tuple #[.slice none 0 0,.int .i64 E]) (by simp [results,Tryz.results106,go_sem,y3]) rfl ?_;exact ⟨_,_,rfl,hR.out _⟩
theorem jn8 (n:Int) (w:World):Calls Tryz.prog 106 #[.pointer none,.int .i64 n] w fun e w'=>∃ A c,e=.returned (.tuple #[.slice A 0 c,.int .i64 11])/\Below w.heap.size w w':=by
 have hmf:∀ (fn:Fn) (first cap:Array Value) (w:World),(Instr.makeFunc fn first cap).run Tryz.prog w=.ok (.func fn first cap) w:=fun _ _ _ _=>rfl
 have hb:=Lib.hid (jfz w (.cells #[.pointer none] 23) (.cells #[.int .i64 n] 3) (.cells #[.slice none 0 0] 54));have hsz:Hid (w.heap.size + 1 + 1 < (((w.alloc (.cells #[.pointer none] 23)).alloc (.cells #[.int .i64 n] 3)).alloc (.cells #[.slice none 0 0] 54)).heap.size):=by unfold Hid;rw [hb.out.2.1];omega
 go_enter Tryz.func106,Tryz.ntmps106
 go_wp2_with (go_at_call 53;with_reducible (refine Calls.mono (jdd _ _) ?_);rintro e w2 ⟨rfl,hb2⟩
              have y0:w2.heap[w.heap.size + 1 + 1]? = some (.cells #[.slice none 0 0] 54 (0,0)):=(hb2.block _ hsz.out).trans hb.out.2.2.2.2;have hR:Hid (∀ v,Below w.heap.size w (w2.setCell ⟨w.heap.size + 1 + 1,0,none⟩ v)):=fun v=>(hb.out.1.trans (hb2.mono (by have:=hsz.out;omega))).setCell (p:=⟨w.heap.size + 1 + 1,0,none⟩) (by show w.heap.size<=w.heap.size + 1 + 1;omega) v
              have y1:w2.cell? ⟨w.heap.size + 1 + 1,0,none⟩=some (.slice none 0 0):=cell_of_row _ _ _ _ _ _ y0;have y2:w2.frozen? ⟨w.heap.size + 1 + 1,0,none⟩=false:=frozen_of_row _ _ _ _ _ y0)
 have y3:(w2.setCell ⟨w.heap.size + 1 + 1,0,none⟩ (.slice none 0 0)).cell? ⟨w.heap.size + 1 + 1,0,none⟩=some (.slice none 0 0):=cell_of_row _ _ _ _ _ _ (jaC _ _ _ _ _ _ y0);refine bodyPost_ret (v:=.tuple #[.slice none 0 0,.int .i64 11]) (by simp [results,Tryz.results106,go_sem,y3]) rfl ?_;exact ⟨_,_,rfl,hR.out _⟩
theorem jkT (h:jak w p gl gn V z DL DN s) (i:Nat) (hE:jds s (i:Int)=0):Calls Tryz.prog 33 #[.pointer (some ⟨p,0,none⟩),.int .i64 (i:Int)] w fun e w'=>∃ A c,e=.returned (.tuple #[.slice A 64 c,.int .i64 0])/\64<=c/\Got w w' A (s.last.getD i [])/\Below w.heap.size w w':=by
 have hmf:∀ (fn:Fn) (first cap:Array Value) (w:World),(Instr.makeFunc fn first cap).run Tryz.prog w=.ok (.func fn first cap) w:=fun _ _ _ _=>rfl
 have HAT:=Lib.hid (jfm 54 (i:Int) (s.last.getD i []) w (fun args w=>by kernel_rfl) (fun W hW=>by
  obtain ⟨q1,q2,q3,q4⟩:=jen h hW;exact jm7 q1 w.heap.size (w.heap.size + 1) (w.heap.size + 1 + 1) i q2 q3 q4 hE ⟨by omega,by omega,fun e=>by have:=h.lt p jdL;omega⟩))
 obtain ⟨t,ht⟩:∃ t,t=s.last.getD i []:=⟨_,rfl⟩;rw [<- ht] at HAT ⊢;clear h hE ht;go_enter Tryz.func33,Tryz.ntmps33
 go_wp2_with (go_at_call 53;with_reducible (refine Calls.mono HAT.out ?_);rintro e w2 ⟨rfl,hg⟩
              obtain ⟨g,y0,hR⟩:=hg.got;have y1:w2.cell? ⟨w.heap.size + 1 + 1,0,none⟩=some (.slice (some ⟨g,0,none⟩) 64 64):=cell_of_row _ _ _ _ _ _ y0;have y2:w2.frozen? ⟨w.heap.size + 1 + 1,0,none⟩=false:=frozen_of_row _ _ _ _ _ y0)
 have y3:(w2.setCell ⟨w.heap.size + 1 + 1,0,none⟩ (.slice (some ⟨g,0,none⟩) 64 64)).cell? ⟨w.heap.size + 1 + 1,0,none⟩=some (.slice (some ⟨g,0,none⟩) 64 64):=cell_of_row _ _ _ _ _ _ (jaC _ _ _ _ _ _ y0);refine bodyPost_ret (v:=.tuple #[.slice (some ⟨g,0,none⟩) 64 64,.int .i64 0]) (by simp [results,Tryz.results33,go_sem,y3]) rfl ?_;exact ⟨_,_,rfl,Nat.le_refl _,hR.out _⟩
theorem jiP (h:jak w p gl gn V z DL DN s) (n:Int) (hE:jds s n≠0):Calls Tryz.prog 33 #[.pointer (some ⟨p,0,none⟩),.int .i64 n] w fun e w'=>∃ A c,e=.returned (.tuple #[.slice A 0 c,.int .i64 (jds s n)])/\Below w.heap.size w w':=by
 have hmf:∀ (fn:Fn) (first cap:Array Value) (w:World),(Instr.makeFunc fn first cap).run Tryz.prog w=.ok (.func fn first cap) w:=fun _ _ _ _=>rfl
 have HAT:=Lib.hid (jfQ 54 n (jds s n) w (fun args w=>by kernel_rfl) (fun W hW=>by
  obtain ⟨q1,q2,q3,q4⟩:=jen h hW;exact jnU q1 w.heap.size (w.heap.size + 1) (w.heap.size + 1 + 1) n q2 q3 hE))
 obtain ⟨E,hE2⟩:∃ E,E=jds s n:=⟨_,rfl⟩;rw [<- hE2] at HAT ⊢;clear h hE hE2;go_enter Tryz.func33,Tryz.ntmps33
 go_wp2_with (go_at_call 53;with_reducible (refine Calls.mono HAT.out ?_);rintro e w2 ⟨rfl,y0,hb⟩
              have hR:Hid (∀ v,Below w.heap.size w (w2.setCell ⟨w.heap.size + 1 + 1,0,none⟩ v)):=fun v=>hb.setCell (p:=⟨w.heap.size + 1 + 1,0,none⟩) (by show w.heap.size<=w.heap.size + 1 + 1;omega) v
              have y1:w2.cell? ⟨w.heap.size + 1 + 1,0,none⟩=some (.slice none 0 0):=cell_of_row _ _ _ _ _ _ y0;have y2:w2.frozen? ⟨w.heap.size + 1 + 1,0,none⟩=false:=frozen_of_row _ _ _ _ _ y0)
 have y3:(w2.setCell ⟨w.heap.size + 1 + 1,0,none⟩ (.slice none 0 0)).cell? ⟨w.heap.size + 1 + 1,0,none⟩=some (.slice none 0 0):=cell_of_row _ _ _ _ _ _ (jaC _ _ _ _ _ _ y0);refine bodyPost_ret (v:=.tuple #[.slice none 0 0,.int .i64 E]) (by simp [results,Tryz.results33,go_sem,y3]) rfl ?_;exact ⟨_,_,rfl,hR.out _⟩
theorem jiF (n:Int) (w:World):Calls Tryz.prog 33 #[.pointer none,.int .i64 n] w fun e w'=>∃ A c,e=.returned (.tuple #[.slice A 0 c,.int .i64 11])/\Below w.heap.size w w':=by
 have hmf:∀ (fn:Fn) (first cap:Array Value) (w:World),(Instr.makeFunc fn first cap).run Tryz.prog w=.ok (.func fn first cap) w:=fun _ _ _ _=>rfl
 have hb:=Lib.hid (jfz w (.cells #[.pointer none] 23) (.cells #[.int .i64 n] 3) (.cells #[.slice none 0 0] 54));have hsz:Hid (w.heap.size + 1 + 1 < (((w.alloc (.cells #[.pointer none] 23)).alloc (.cells #[.int .i64 n] 3)).alloc (.cells #[.slice none 0 0] 54)).heap.size):=by unfold Hid;rw [hb.out.2.1];omega
 go_enter Tryz.func33,Tryz.ntmps33
 go_wp2_with (go_at_call 53;with_reducible (refine Calls.mono (jdd _ _) ?_);rintro e w2 ⟨rfl,hb2⟩
              have y0:w2.heap[w.heap.size + 1 + 1]? = some (.cells #[.slice none 0 0] 54 (0,0)):=(hb2.block _ hsz.out).trans hb.out.2.2.2.2;have hR:Hid (∀ v,Below w.heap.size w (w2.setCell ⟨w.heap.size + 1 + 1,0,none⟩ v)):=fun v=>(hb.out.1.trans (hb2.mono (by have:=hsz.out;omega))).setCell (p:=⟨w.heap.size + 1 + 1,0,none⟩) (by show w.heap.size<=w.heap.size + 1 + 1;omega) v
              have y1:w2.cell? ⟨w.heap.size + 1 + 1,0,none⟩=some (.slice none 0 0):=cell_of_row _ _ _ _ _ _ y0;have y2:w2.frozen? ⟨w.heap.size + 1 + 1,0,none⟩=false:=frozen_of_row _ _ _ _ _ y0)
 have y3:(w2.setCell ⟨w.heap.size + 1 + 1,0,none⟩ (.slice none 0 0)).cell? ⟨w.heap.size + 1 + 1,0,none⟩=some (.slice none 0 0):=cell_of_row _ _ _ _ _ _ (jaC _ _ _ _ _ _ y0);refine bodyPost_ret (v:=.tuple #[.slice none 0 0,.int .i64 11]) (by simp [results,Tryz.results33,go_sem,y3]) rfl ?_;exact ⟨_,_,rfl,hR.out _⟩
end
theorem jmr (w0:World):jd7 w0 jbq where
 keep:=fun w w' p F s h hk=>jlQ w w' p F s h hk
 lt:=fun w p F s h=>jpp w p F s h
 ok:=fun w p F s ⟨_,_,_,_,_,_,_,h⟩=>h.ok
 no:=fun n w _ _ hbad=>jpr n hbad w
 new:=fun n w _ h1 h2=>jnQ n h1 h2 w
 read:=fun i p F s w _ ⟨_,_,_,_,_,_,_,h⟩ _ hE=>joW h i hE
 readNo:=fun n p F s w _ _ ⟨_,_,_,_,_,_,_,h⟩ _ hE=>jof h n hE
 write:=fun n A c t p F s w _ hn hI ht _ _ hF hm ⟨_,_,_,_,_,_,e,h⟩ _=>by
  subst e;exact jnn h n hn A c t hI ht hF hm
 flush:=fun p F s w _ ⟨_,_,_,_,_,_,e,h⟩ _=>by
  subst e;exact jnK h
 limit:=fun n p F s w _ hn ⟨_,_,_,_,_,_,e,h⟩ _=>by
  subst e;exact jnR h n hn
 crash:=fun A c l p F s w _ hB _ _ hF ⟨_,_,_,_,_,_,e,h⟩ _=>by
  subst e;exact joi h A c l hB hF
 last:=fun i p F s w _ ⟨_,_,_,_,_,_,_,h⟩ _ hE=>jkT h i hE
 lastNo:=fun n p F s w _ _ ⟨_,_,_,_,_,_,_,h⟩ _ hE=>jiP h n hE
 pending:=fun p F s w _ ⟨_,_,_,_,_,_,_,h⟩ _=>jkA h
 nread:=fun n w _=>jn8 n w
 nwrite:=fun n A l c w _=>jl3 n A l c w
 nflush:=fun w _=>jl2 w
 nlimit:=fun n w _=>jmP n w
 ncrash:=fun A l c w _=>jlP A l c w
 nlast:=fun n w _=>jiF n w
 npending:=fun w _=>jiR w

theorem jiY {x y:List Int} (hx:∀ z∈x,0<=z/\z<=255) (hy:∀ z∈y,0<=z/\z<=255):((strOfNums x).toList == (strOfNums y).toList)=decide (x=y):=by
 rw [Lib.strOfNums_toList,Lib.strOfNums_toList];by_cases h:x=y
 ·rw [h,decide_eq_true rfl];exact beq_self_eq_true _
 ·rw [decide_eq_false h,beq_eq_false_iff_ne];intro e;have e2:jiA (strOfNums x)=jiA (strOfNums y):=congrArg (fun l:List UInt8=>l.map fun b:UInt8=>((b.toNat:Nat):Int)) e;exact h (by rw [<- jjP hx,<- jjP hy,e2])
def inL (m:Int) (l:List Int):Bool:=l.all fun n=>inN n m
theorem jmj {m:Int} {l:List Int} {k:Nat} (hk:k < l.length) (h:inN (l.getD k 0) m=false):inL m l=false:=by
 unfold inL;rw [List.all_eq_false];exact ⟨l.getD k 0,jb6 hk,by rw [h];decide⟩
theorem joj {m:Int} {l:List Int} (h:∀ k,k < l.length->inN (l.getD k 0) m=true):inL m l=true:=by
 unfold inL;rw [List.all_eq_true];intro x hx;obtain ⟨i,hi,rfl⟩:=List.getElem_of_mem hx;have:=h i hi
 rwa [List.getD_eq_getElem?_getD,List.getElem?_eq_getElem hi] at this
theorem jjo (A:Option Addr) (c:Nat) (l:List Int) (m:Int) (w:World) (h:jaO w w.heap.size .i64 A l) (hl:l.length<=16) :
  Calls Tryz.prog 141 #[.int .i64 m,.slice A l.length c] w fun e w'=>e=.returned (.bool (inL m l))/\w'=w:=by
 have HI:=Lib.hid h;have HF:Hid (∀ k,k < l.length->inN (l.getD k 0) m=false->inL m l=false):=fun k hk h=>jmj hk h
 have HT:Hid ((∀ k,k < l.length->inN (l.getD k 0) m=true)->inL m l=true):=joj;obtain ⟨N,hN⟩:∃ N,N=l.length:=⟨_,rfl⟩;have HN:=Lib.hid hN;obtain ⟨B,hB⟩:∃ B,B=inL m l:=⟨_,rfl⟩;rw [<- hB] at HF HT ⊢;rw [<- hN] at HF HT hl ⊢;have n1:(N:Int)<=16:=by omega
 clear h hN hB;go_enter Tryz.func141,Tryz.ntmps141;go_wp2
 go_loopw [9] (fun i wr=>∃ k:Nat,k<=N/\i=.int .i64 k/\wr=w/\Hid (∀ j,j < k->inN (l.getD j 0) m=true)) (fun i _=>N - (intOf i).toNat)
 case atStart=>exact ⟨0,Nat.zero_le _,rfl,rfl,fun j hj=>absurd hj (Nat.not_lt_zero j)⟩
 case round =>
  obtain ⟨k,hk,rfl,rfl,HA⟩:=hrel;by_cases hlt:k < N
  ·obtain ⟨b,o,rfl,_,q0⟩:=HI.out k (by have:=HN.out;omega);have HNO:=Lib.hid (HF.out k hlt)
   have HYE:Hid (inN (l.getD k 0) m=true->∀ j,j < k + 1->inN (l.getD j 0) m=true):=fun h j hj=>by
    rcases Nat.lt_or_ge j k with q | q
    ·exact HA.out j q
    ·rw [show j=k by omega];exact h
   have k1:(k:Int) < (N:Int):=by omega
   have k0:(0:Int)<=(k:Int):=by omega
   obtain ⟨x,hx⟩:∃ x,x=l.getD k 0:=⟨_,rfl⟩;rw [<- hx] at q0 HNO HYE;clear hx;by_cases h0:0<=x
   ·have a0:¬ x < 0:=by omega
    by_cases h1:x<=m
    ·have a1:¬ m < x:=by omega
     have HY:=Lib.hid (HYE.out (jfB.2 ⟨h0,h1⟩));go_wp2;go_roundw
     case rel=>exact ⟨k + 1,by omega,by go_num,trivial,HY⟩
     case measure=>simp [intOf];omega
    ·have a1:m < x:=by omega
     have HY:Hid (B=false):=HNO.out (by unfold inN;rw [decide_eq_false (by omega)]);go_wp2;go_ret;exact ⟨by rw [HY.out];rfl,rfl⟩
   ·have a0:x < 0:=by omega
    have HY:Hid (B=false):=HNO.out (by unfold inN;rw [decide_eq_false (by omega)]);go_wp2;go_ret;exact ⟨by rw [HY.out];rfl,rfl⟩
  ·have hkN:k=N:=by omega
   have k1:¬ (k:Int) < (N:Int):=by omega
   rw [hkN] at HA;have HY:Hid (B=true):=HT.out HA.out;clear HA;go_wp2;go_ret;exact ⟨by rw [HY.out];rfl,rfl⟩
theorem jm8 (b:Bool) (w:World):Calls Tryz.prog 143 #[.bool b] w fun e w'=>e=.returned (.int .i64 (jcE b))/\w'=w:=by
 cases b
 ·go_enter Tryz.func143,Tryz.ntmps143;go_wp2;go_ret;exact ⟨rfl,rfl⟩
 ·go_enter Tryz.func143,Tryz.ntmps143;go_wp2;go_ret;exact ⟨rfl,rfl⟩
def szL:List Int:=[2,4,4,1,1,7,7,7,7,1]
theorem jht (w:World):Calls Tryz.prog 115 #[] w fun e w'=>e=.returned (.slice (some ⟨w.heap.size,0,none⟩) 10 10)/\w'=w.alloc (.cells (ICs szL) 3):=by
 go_enter Tryz.func115,Tryz.ntmps115;go_wp2;go_ret;exact ⟨rfl,rfl⟩
theorem jc2 (q:Nat) (A:Option Addr) (c:Nat) (l:List Int) (k:Nat) (w:World) (hq:w.heap[q]? = some (.cells #[.slice A l.length c] 159 (0,0))) (h:jaO w w.heap.size .u64 A l) (hk:k < l.length) (hk9:k<=9) (hb:0<=l.getD k 0/\l.getD k 0<=9223372036854775807) :
  Calls Tryz.prog 146 #[.int .i64 (k:Int),.pointer (some ⟨q,0,none⟩)] w fun e w'=>e=.returned (.int .i64 (l.getD k 0))/\w'=w:=by
 obtain ⟨b,o,rfl,_,q0⟩:=h k hk;have hc:=cell_of_row _ _ 0 _ _ _ hq;obtain ⟨x,hx⟩:∃ x,x=l.getD k 0:=⟨_,rfl⟩;rw [<- hx] at q0 hb ⊢;have hc':w.cell? ⟨q,0,none⟩=some (.slice (some ⟨b,o,none⟩) l.length c):=hc;have hw:IntKind.i64.wrap x=x:=IntWalk.i64_in _ (by omega);have k1:(k:Int) < (l.length:Int):=by omega
 have k0:(0:Int)<=(k:Int):=by omega
 obtain ⟨N,hN⟩:∃ N,N=l.length:=⟨_,rfl⟩;rw [<- hN] at hc' k1;clear hx hc hq h hN;go_enter Tryz.func146,Tryz.ntmps146;go_wp2;go_ret;exact ⟨rfl,rfl⟩
theorem jkp (A1 A2:Option Addr) (c1 c2:Nat) (x y:List Int) (w:World) (h1:jaO w w.heap.size .u8 A1 x) (h2:jaO w w.heap.size .u8 A2 y) (m1:∀ z∈x,0<=z/\z<=255) (m2:∀ z∈y,0<=z/\z<=255) :
  Calls Tryz.prog 123 #[.slice A1 x.length c1,.slice A2 y.length c2] w fun e w'=>e=.returned (.bool (decide (x=y)))/\w'=w:=by
 have H:=jiY m1 m2;have t1:=h1.textAs (P:=Tryz.prog) Tryz.underlying54 Tryz.underlying5 Tryz.underlying9 rfl rfl c1;have t2:=h2.textAs (P:=Tryz.prog) Tryz.underlying54 Tryz.underlying5 Tryz.underlying9 rfl rfl c2;obtain ⟨s1,hs1⟩:∃ s,s=strOfNums x:=⟨_,rfl⟩;obtain ⟨s2,hs2⟩:∃ s,s=strOfNums y:=⟨_,rfl⟩;rw [<- hs1] at t1 H;rw [<- hs2] at t2 H;obtain ⟨B,hB⟩:∃ B,B=decide (x=y):=⟨_,rfl⟩;rw [<- hB] at H ⊢;obtain ⟨N1,hN1⟩:∃ N,N=x.length:=⟨_,rfl⟩;obtain ⟨N2,hN2⟩:∃ N,N=y.length:=⟨_,rfl⟩;rw [<- hN1] at t1 ⊢;rw [<- hN2] at t2 ⊢;clear hs1 hs2 hB h1 h2 m1 m2 hN1 hN2;go_enter Tryz.func123,Tryz.ntmps123;go_wp2;go_ret;exact ⟨rfl,rfl⟩
end Go.Proofs.YtbnhkplhmanmoaaGreat
