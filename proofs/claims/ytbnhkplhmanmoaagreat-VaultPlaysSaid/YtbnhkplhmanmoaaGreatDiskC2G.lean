/- . -/
import Derived.Test.YtbnhkplhmanmoaaGreatRecArgG
import Derived.Tactics
import Derived.Tactics2
import Derived.Defers
import Derived.Recover
import Derived.Laws.Pointers
import Derived.OpenShut
import Derived.WalkLawsBesides
import Derived.BigQuiet
import Derived.Shelf.RegionOpenPlain
import Derived.Deep.WholeRow
import Derived.Test.YtbnhkplhmanmoaaGreatTkG
import Derived.Maps.OwnSet
import Derived.Deep.MidRow
import Derived.Test.YtbnhkplhmanmoaaGreatVaultHoldG
import Derived.RegionTactic
namespace Go.Proofs.YtbnhkplhmanmoaaGreat
open Go.RowKit
set_option maxHeartbeats 6400000
set_option maxRecDepth 20000
def upV (c:Int):List PanicEntry:=[{ v:=.iface 24 (.int .i64 c),recovered:=false }]
theorem jbs (c:Int) (w:World):Calls Tryz.prog 55 #[.bool true,.int .i64 c] w fun e w'=>e=.returned (.tuple #[])/\w'=w:=by
 have hnot:∀ (x:Bool) (w:World),(Op.unary .not (.bool x)).run Tryz.prog w=.ok (.bool (!x)) w:=fun _ _=>rfl
 go_enter Tryz.func55,Tryz.ntmps55;go_wp2;exact bodyPost_end (results_none rfl _ _ _) rfl ⟨rfl,rfl⟩
theorem jch (c:Int) (w:World):Calls Tryz.prog 55 #[.bool false,.int .i64 c] w fun e w'=>e=.panicked (upV c)/\w'=w:=by
 have hnot:∀ (x:Bool) (w:World),(Op.unary .not (.bool x)).run Tryz.prog w=.ok (.bool (!x)) w:=fun _ _=>rfl
 go_enter Tryz.func55,Tryz.ntmps55;go_wp2;exact ⟨rfl,rfl,rfl⟩
theorem jpK (c:Int) (w:World):(Instr.typeAssert (.iface 24 (.int .i64 c)) 20 24 false).run Tryz.prog w=.ok (.int .i64 c) w:=by kernel_rfl
theorem job (a:Addr) (x c:Int) (w:World) (hc:w.cell? a=some (.int .i64 x)) (hz:w.frozen? a=false) :
  CallsD Tryz.prog 85 #[.pointer (some a)] (.panicking (upV c)) w fun e u' w' =>
   e=.returned (.tuple #[])/\u'=.panicking [{ v:=.iface 24 (.int .i64 c),recovered:=true }]/\w'=w.setCell a (.int .i64 c):=by
 refine callsD_of_wpS Tryz.func85 rfl fun c₀ cs hu=>?_
 unfold upV at hu;apply wpS_seq;apply wpS_region;simp [wpOpsS,go_sem,recoverD,hu,Tryz.ntmps85,Exit.thenS];apply wpS_seq;apply wpS_region;simp [wpOpsS,go_sem,Exit.thenS];refine wpS_cond (t:=true) (by simp [Act.eval,Array.replicate]) ?_;simp only [if_true];apply wpS_region;simp [wpOpsS,go_sem,jpK,hc,hz,bodyPostS,results,Tryz.results85]
theorem jkF (a:Addr) (w:World) :
  CallsD Tryz.prog 85 #[.pointer (some a)] .returning w fun e u' w'=>e=.returned (.tuple #[])/\u'=.returning/\w'=w:=by
 refine callsD_of_wpS Tryz.func85 rfl fun c₀ cs hu=>?_
 apply wpS_seq;apply wpS_region;simp [wpOpsS,go_sem,recoverD,hu,Tryz.ntmps85,Exit.thenS];apply wpS_seq;apply wpS_region;simp [wpOpsS,go_sem,Exit.thenS];refine wpS_cond (t:=false) (by simp [Act.eval,Array.replicate]) ?_;simp only [Bool.false_eq_true,if_false];refine wpS_of_wp (wp_skip ?_);cases c₀
 simp_all [bodyPostS,results,Tryz.results85]
section
variable {p:Nat}
theorem jeu (fid:FuncId) (cap:Array Value) (Q:World->Prop) (w:World) (he:∀ args w,(callFunc fid args).run Tryz.prog w=.ok (.enter fid args) w)
  (hcall:Calls Tryz.prog fid cap (w.alloc (.cells #[.int .i64 0] 24)) fun e w'=>e=.returned (.tuple #[])/\Q w')
  (hQ:∀ W,Q W->W.heap[w.heap.size]? = some (.cells #[.int .i64 0] 24 (0,0))) :
  Calls Tryz.prog 53 #[.pointer (some ⟨p,0,none⟩),.func (.func fid) #[] cap] w fun e w'=>e=.returned (.int .i64 0)/\∃ W,Q W/\w'=W.setCell ⟨w.heap.size,0,none⟩ (.int .i64 0):=by
 have hmf:∀ (fn:Fn) (first cap:Array Value) (w:World),(Instr.makeFunc fn first cap).run Tryz.prog w=.ok (.func fn first cap) w:=fun _ _ _ _=>rfl
 have HC:=Lib.hid hcall;have HQ:=Lib.hid hQ;clear hcall hQ;have eg:=he
 go_enter_defers Tryz.func53,Tryz.ntmps53
 go_wp2_with (go_at_fn fid;with_reducible (refine Calls.mono HC.out ?_);rintro e w2 ⟨rfl,hq2⟩
              have hc:=HQ.out _ hq2;have c0:w2.cell? ⟨w.heap.size,0,none⟩=some (.int .i64 0):=cell_of_row _ _ _ _ _ _ hc;have f0:w2.frozen? ⟨w.heap.size,0,none⟩=false:=frozen_of_row _ _ _ _ _ hc)
 refine leaves_cons (f:=85) (args:=#[.pointer (some ⟨w.heap.size,0,none⟩)]) (by simp) (by simp [go_sem]) ?_;refine (jkF ⟨w.heap.size,0,none⟩ _).mono ?_;rintro e u' w'' ⟨rfl,rfl,rfl⟩;have hc2:=jaC w2 w.heap.size 0 (.int .i64 0) _ _ hc;have c1:(w2.setCell ⟨w.heap.size,0,none⟩ (.int .i64 0)).cell? ⟨w.heap.size,0,none⟩=some (.int .i64 0):=cell_of_row _ _ _ _ _ _ hc2;simp [Leaves,settle,results,Tryz.results53,go_sem,c1];exact ⟨w2,hq2,rfl⟩
theorem jeG (fid:FuncId) (cap:Array Value) (c:Int) (Q:World->Prop) (w:World) (he:∀ args w,(callFunc fid args).run Tryz.prog w=.ok (.enter fid args) w)
  (hcall:Calls Tryz.prog fid cap (w.alloc (.cells #[.int .i64 0] 24)) fun e w'=>e=.panicked (upV c)/\Q w')
  (hQ:∀ W,Q W->W.heap[w.heap.size]? = some (.cells #[.int .i64 0] 24 (0,0))) :
  Calls Tryz.prog 53 #[.pointer (some ⟨p,0,none⟩),.func (.func fid) #[] cap] w fun e w'=>e=.returned (.int .i64 c)/\∃ W,Q W/\w'=W.setCell ⟨w.heap.size,0,none⟩ (.int .i64 c):=by
 have hmf:∀ (fn:Fn) (first cap:Array Value) (w:World),(Instr.makeFunc fn first cap).run Tryz.prog w=.ok (.func fn first cap) w:=fun _ _ _ _=>rfl
 have HC:=Lib.hid hcall;have HQ:=Lib.hid hQ;clear hcall hQ;have eg:=he
 go_enter_defers Tryz.func53,Tryz.ntmps53
 go_wp2_with (go_at_fn fid;with_reducible (refine Calls.mono HC.out ?_);rintro e w2 ⟨rfl,hq2⟩
              have hc:=HQ.out _ hq2;have c0:w2.cell? ⟨w.heap.size,0,none⟩=some (.int .i64 0):=cell_of_row _ _ _ _ _ _ hc;have f0:w2.frozen? ⟨w.heap.size,0,none⟩=false:=frozen_of_row _ _ _ _ _ hc)
 refine leaves_cons (f:=85) (args:=#[.pointer (some ⟨w.heap.size,0,none⟩)]) (by simp) (by simp [go_sem]) ?_;refine (job ⟨w.heap.size,0,none⟩ 0 c _ c0 f0).mono ?_;rintro e u' w'' ⟨rfl,rfl,rfl⟩;have hc2:=jaC w2 w.heap.size 0 (.int .i64 c) _ _ hc;have c1:(w2.setCell ⟨w.heap.size,0,none⟩ (.int .i64 c)).cell? ⟨w.heap.size,0,none⟩=some (.int .i64 c):=cell_of_row _ _ _ _ _ _ hc2;simp [Leaves,settle,results,Tryz.results53,go_sem,c1];exact ⟨w2,hq2,rfl⟩
theorem jdd (v:Value) (w:World):Calls Tryz.prog 53 #[.pointer none,v] w fun e w'=>e=.returned (.int .i64 11)/\Below w.heap.size w w':=by
 have hb:Hid (Below w.heap.size w (w.alloc (.cells #[.int .i64 11] 24))):=(Below.refl _ _).alloc (Nat.le_refl _) _
 go_enter_defers Tryz.func53,Tryz.ntmps53
 go_wp2;simp [bodyPostD,Leaves,results,Tryz.results53,go_sem];exact hb.out
end
section
variable {w:World} {p gl gn:Nat} {V:Value} {z:Int} {DL:DataW Value} {DN:DataW Unit} {s:Dk}
theorem jgY (h:jak w p gl gn V z DL DN s) (n:Int) (ho:¬ je6 s n):Calls Tryz.prog 56 #[.pointer (some ⟨p,0,none⟩),.int .i64 n] w fun e w'=>e=.returned (.bool true)/\w'=w:=by
 obtain ⟨c0,_⟩:=h.cells;obtain ⟨i,rfl,hi⟩:=jmT ho;have k0:(0:Int)<=(i:Int):=by omega
 have k1:(i:Int) < (s.last.length:Int):=by omega
 obtain ⟨N,hN⟩:∃ N:Int,N=(s.last.length:Int):=⟨_,rfl⟩;rw [<- hN] at c0 k1;clear h ho hi hN;go_enter Tryz.func56,Tryz.ntmps56;go_wp2;go_ret;exact ⟨rfl,rfl⟩
theorem jlW (h:jak w p gl gn V z DL DN s) (n:Int) (ho:je6 s n):Calls Tryz.prog 56 #[.pointer (some ⟨p,0,none⟩),.int .i64 n] w fun e w'=>e=.returned (.bool false)/\w'=w:=by
 obtain ⟨c0,_⟩:=h.cells;obtain ⟨N,hN⟩:∃ N:Int,N=(s.last.length:Int):=⟨_,rfl⟩;unfold je6 at ho;rw [<- hN] at c0 ho;by_cases k0:n < 0
 ·have k1:¬ 0<=n:=by omega
  clear h hN ho k0;go_enter Tryz.func56,Tryz.ntmps56;go_wp2;go_ret;exact ⟨rfl,rfl⟩
 ·have k1:0<=n:=by omega
  have k2:¬ n < N:=by omega
  clear h hN ho k0;go_enter Tryz.func56,Tryz.ntmps56;go_wp2;go_ret;exact ⟨rfl,rfl⟩
end
theorem jj5 (t:List Nat) (ht:t.length=64) (w:World):Calls Tryz.prog 57 #[jfc t] w fun e w'=>e=.returned (.slice (some ⟨w.heap.size,0,none⟩) 64 64)/\w'=w.alloc (.cells (BA t) 103):=by
 unfold jfc;have hB:(BA t).size=64:=by rw [jcN,ht]
 obtain ⟨C,hC⟩:∃ C,C=BA t:=⟨_,rfl⟩;rw [<- hC] at hB ⊢;clear hC ht;go_enter Tryz.func57,Tryz.ntmps57;go_wp2;go_ret;exact ⟨rfl,rfl⟩
theorem Tryz.und64 : Tryz.prog.underlying 103 = some (.array 64 5):=by kernel_rfl
theorem jhk {P:Program} {w:World} {ops:Array Oper} {rest:List Oper} {o:Oper} {a:Act} {Q:Exit->Act->World->Prop} (hgd:o.guard=none) (t:TypeId) (parts:Array (Nat × Operand)) (ho:o.op=.build t parts)
  (vs:Array (Nat × Value)) (hv:parts.map (fun (i,x)=>(i,a.eval x))=vs) (cells:Array Value) (hb:(Instr.build t vs).run P w=.ok (.agg cells) w) (h:wpList P ops Q rest (a.put o.dst (.agg cells)) w):wpList P ops Q (o :: rest) a w:=by
 refine wpList_plain hgd fun K hK=>?_
 unfold Oper.wp execOp;simp only [ho,hv,hb,Sem.run_bind,Sem.run_pure,Result.andThen_ok];exact hK _ _ h
theorem jqH {t:List Nat} (ht:t.length=64) {C Z:Array Value} (hC:C=BA t) (hZ:Z=BA jas) (W:World):(Op.equalIn 10000 103 (.agg C) (.agg Z)).run Tryz.prog W=.ok (t == jas) W:=by
 obtain ⟨i,hi,hs⟩:∃ i,Tryz.prog.info? 5 = some i/\i.size=1:=by
  have e:(Tryz.prog.info? 5).map (fun i=>i.size)=some 1:=by kernel_rfl
  simpa using e
 rw [hC,hZ];exact jhU (P:=Tryz.prog) (t:=103) (e:=5) (n:=64) (i:=i) (by kernel_rfl) (by kernel_rfl) (by kernel_rfl) hi hs t jas ht (by simp [jas]) W
theorem jp9 : Tryz.prog.built 103 []=some (BA jas):=by kernel_rfl
theorem jp1 {Z:Array Value} (hZ:Z=BA jas) (W:World):(Instr.build 103 #[]).run Tryz.prog W=.ok (.agg Z) W:=by
 rw [hZ];exact run_build W _ #[] _ jp9
theorem jnZ (t:List Nat) (ht:t.length=64) (w:World):Calls Tryz.prog 84 #[jfc t] w fun e w'=>e=.returned (.bool (t == jas))/\w'=w.alloc (.cells (BA t) 103):=by
 unfold jfc;have hB:(BA t).size=64:=by rw [jcN,ht]
 obtain ⟨C,hC⟩:∃ C,C=BA t:=⟨_,rfl⟩;obtain ⟨Z,hZ⟩:∃ Z,Z=BA jas:=⟨_,rfl⟩;have hq:=jqH ht hC hZ;have hz:=jp1 hZ;obtain ⟨r,hr⟩:∃ r,r=(t == jas):=⟨_,rfl⟩;rw [<- hC] at hB ⊢;rw [<- hr];simp only [<- hr] at hq;have hg:=heap_alloc_new w (.cells C 103);have hi:(Tryz.prog.info? 103).map (·.size)=some C.size:=by rw [hB];kernel_rfl
 have hu:=Tryz.und64;clear hC hZ hr ht;go_enter Tryz.func84,Tryz.ntmps84
 go_wp2_with (first
  | (refine wpList_load_row rfl 103 _ rfl w.heap.size rfl 103 _ (0,0) _ hg hu rfl hi ?_)
  | (refine jhk rfl 103 _ rfl #[] (by simp) Z (hz _) ?_))
 go_ret;exact ⟨rfl,rfl⟩
theorem jeM {P:Program} (w:World) {ops:Array Oper} {rest:List Oper} {o:Oper} {a:Act} {Q:Exit->Act->World->Prop} (hg:o.guard=none) (m x:Operand) (t:TypeId) (hop:o.op=Op.lookup t m x true)
  (k e:TypeId) (q:IntKind) (K:Maps.Keyed P k) (ht:P.underlying t=some (.map k e)) (he:P.underlying e=some (.int q)) (hz:(zeroValue e).run P w=.ok (.int q 0) w) (b n:Nat) (D:DataW Unit)
  (hm:a.eval m=.map (some b)) (hown:w.ownsMap P k (plainElem P e) b n D) (key:Value) (kl:Lit) (hx:a.eval x=key) (hkey:keyOf P k key=some kl) (c:Int) (h:Bool) (hat:D.atKey kl (.lit (.int q 0))=.lit (.int q c)) (hh:Maps.has D kl=h)
  (hK:wpList P ops Q rest (a.put o.dst (.tuple #[.int q c,.bool h])) w):wpList P ops Q (o :: rest) a w :=
 wpList_lookup_own_ok_int w hg m x t hop k e q K ht he hz b n D hm hown key kl hx hkey fun c' h1 _=>by
  rw [hat] at h1;injection h1 with h1
  injection h1 with _ h1
  rw [<- h1,hh];exact hK
theorem jfT {q:Nat × List Nat} (h:q.2.length=64):(wrV q).length=65:=by simp [wrV,jcN,h]
theorem jj7:∀ (ps:List (Nat × List Nat)) (j k:Nat),(∀ i,i < ps.length->(ps.getD i (0,[])).2.length=64)->j < ps.length->k < 65->(je0 ps)[j * 65 + k]? = (wrV (ps.getD j (0,[])))[k]?
 | [],j,_,_,h,_=>absurd h (by simp)
 | q :: ps,0,k,hl,_,hk=>by
  have hq:(wrV q).length=65:=jfT (hl 0 (by simp));show (wrV q ++ je0 ps)[0 * 65 + k]? = (wrV q)[k]?;rw [Nat.zero_mul,Nat.zero_add,List.getElem?_append_left (by omega)]
 | q :: ps,j + 1,k,hl,hj,hk=>by
  have hq:(wrV q).length=65:=jfT (hl 0 (by simp));have ih:=jj7 ps j k (fun i hi=>hl (i + 1) (by simpa using hi)) (by simpa using hj) hk;show (wrV q ++ je0 ps)[(j + 1) * 65 + k]? = (wrV (ps.getD j (0,[])))[k]?;rw [List.getElem?_append_right (by omega),hq,show (j + 1) * 65 + k - 65=j * 65 + k by omega];exact ih
theorem Tryz.undW:∃ d,Tryz.prog.underlying 105 = some d/\d.isRow=true:=by
 have h:(Tryz.prog.underlying 105).map (·.isRow)=some true:=by kernel_rfl
 cases hd : Tryz.prog.underlying 105 with
 | none=>rw [hd] at h;cases h
 | some d=>rw [hd] at h;exact ⟨d,rfl,by injection h⟩
theorem Tryz.infW:(Tryz.prog.info? 105).map (·.size)=some 65:=by kernel_rfl
theorem Tryz.infS:(Tryz.prog.info? 103).map (·.size)=some 64:=by kernel_rfl
section
variable {w:World} {p gl gn:Nat} {V:Value} {z:Int} {DL:DataW Value} {DN:DataW Unit} {s:Dk}
theorem jak.write (h:jak w p gl gn V z DL DN s) {j:Nat} (hj:j < s.pend.length):∃ g c,V=.slice (some ⟨g,0,none⟩) s.pend.length c/\w.rangeAt g (j * 65) (wrV (s.pend.getD j (0,[])))/\w.rangeAt g (j * 65) (BA (s.pend.getD j (0,[])).2).toList:=by
 have hlen:∀ i,i < s.pend.length->(s.pend.getD i (0,[])).2.length=64:=fun i hi=>(h.ok.pen i hi).2.1
 rcases h.pend.2 with ⟨_,h0⟩ | ⟨g,cap,cur,e,_,hg,h1,h2,h3,h4⟩
 ·omega
 ·have key:w.rangeAt g (j * 65) (wrV (s.pend.getD j (0,[]))):=fun k v hv=>by
   have hk:k < 65:=by
    rcases Nat.lt_or_ge k 65 with q | q
    ·exact q
    ·rw [List.getElem?_eq_none (by rw [jfT (hlen j hj)];exact q)] at hv;cases hv
   rw [cell_of_row w g _ cur _ _ hg,<- Array.getElem?_toList];have hlt:j * 65 + k < s.pend.length * 65:=by omega
   have hq:cur.toList[j * 65 + k]? = (cur.toList.take (s.pend.length * 65))[j * 65 + k]?:=by rw [List.getElem?_take,if_pos hlt]
   rw [hq,h4,jj7 s.pend j k hlen hj hk,hv]
  refine ⟨g,cap,e,key,fun k v hv=>key k v ?_⟩
  have hk:k < (BA (s.pend.getD j (0,[])).2).toList.length:=by
   rcases Nat.lt_or_ge k (BA (s.pend.getD j (0,[])).2).toList.length with q | q
   ·exact q
   ·rw [List.getElem?_eq_none q] at hv;cases hv
  unfold wrV;rw [List.getElem?_append_left hk];exact hv
theorem jfG (h:jak w p gl gn V z DL DN s) (hs:jbV s=0) :
  Calls Tryz.prog 119 #[.pointer (some ⟨p,0,none⟩)] w fun e w'=>e=.returned (.tuple #[])/\(∃ z',jak w' p gl gn V z' DL DN ⟨s.last,s.pend,(jaT s).lim,false⟩)/\jaM (jbh p gl gn V) w w':=by
 obtain ⟨_,_,_,_,c4,c5⟩:=h.cells;have f4:=h.thaw 4;have f5:=h.thaw 5;have hl:s.lim≠some 0:=fun e=>by unfold jbV at hs;rw [if_pos e] at hs;cases hs
 have hsl:(jaT s).lim=s.lim.map (· - 1):=by unfold jaT;rw [if_neg hl]
 rw [hsl];have b5:=jaC w p 5 (.bool false) _ _ h.box;have o5:=fun b (hb:b≠p)=>jah w p b 5 (.bool false) (Ne.symm hb)
 have A5:=(jaM.refl (jbh p gl gn V) w).set jdL 5 (.bool false);rcases h.lim with ⟨e1,e2⟩ | ⟨m,e1,e2⟩
 ·have k0:(z == 0)=false:=beq_eq_false_iff_ne.2 (by omega);have k1:¬ 0 < z:=by omega
  have R:=Lib.hid (And.intro (h.turn z false (s.lim.map (· - 1)) (.inl ⟨by rw [e1];rfl,e2⟩) h.zi b5 o5) A5);obtain ⟨L,hL⟩:∃ L,L=s.lim.map (· - 1):=⟨_,rfl⟩;rw [<- hL] at R ⊢;clear h hs hl hsl b5 o5 A5 e1 e2 hL;go_enter Tryz.func119,Tryz.ntmps119
  go_wp2_with (go_at_call 55;with_reducible (refine Calls.mono (jbs _ _) ?_);rintro e w1 ⟨rfl,rfl⟩)
  exact bodyPost_end (results_none rfl _ _ _) rfl ⟨rfl,⟨_,R.out.1⟩,R.out.2⟩
 ·have hm:m≠0:=fun e=>hl (by rw [e1,e])
  have k0:(z == 0)=false:=beq_eq_false_iff_ne.2 (by omega);have k1:0 < z:=by omega
  have hzi:=h.zi;unfold jeI at hzi;have k2:IntKind.i64.wrap (z - 1)=z - 1:=by rw [IntKind.wrap_i64];omega
  have b4:=jaC (w.setCell ⟨p,5,none⟩ (.bool false)) p 4 (.int .i64 (z - 1)) _ _ b5;have R:=Lib.hid (And.intro (h.turn (z - 1) false (s.lim.map (· - 1)) (.inr ⟨m - 1,by rw [e1];rfl,by omega⟩) (by unfold jeI;omega) b4 (fun b hb=>(jah _ p b 4 _ (Ne.symm hb)).trans (o5 b hb))) (A5.set jdL 4 (.int .i64 (z - 1))));obtain ⟨L,hL⟩:∃ L,L=s.lim.map (· - 1):=⟨_,rfl⟩;rw [<- hL] at R ⊢;clear h hs hl hsl b5 o5 A5 e1 e2 hL b4 hm;go_enter Tryz.func119,Tryz.ntmps119
  go_wp2_with (go_at_call 55;with_reducible (refine Calls.mono (jbs _ _) ?_);rintro e w1 ⟨rfl,rfl⟩)
  exact bodyPost_end (results_none rfl _ _ _) rfl ⟨rfl,⟨_,R.out.1⟩,R.out.2⟩
theorem jfr (h:jak w p gl gn V z DL DN s) (hs:jbV s≠0) :
  Calls Tryz.prog 119 #[.pointer (some ⟨p,0,none⟩)] w fun e w'=>e=.panicked (upV 8)/\jak w' p gl gn V z DL DN (jaT s)/\jaM (jbh p gl gn V) w w':=by
 obtain ⟨_,_,_,_,c4,c5⟩:=h.cells;have f5:=h.thaw 5
 have hl:s.lim=some 0:=by
  unfold jbV at hs;by_cases e:s.lim=some 0
  ·exact e
  ·rw [if_neg e] at hs;exact absurd rfl hs
 have hz0:z=0:=by
  rcases h.lim with ⟨e1,_⟩ | ⟨m,e1,e2⟩
  ·rw [hl] at e1;cases e1
  ·rw [hl] at e1;injection e1 with e1;omega
 have b5:=jaC w p 5 (.bool true) _ _ h.box
 have R:Hid (jak (w.setCell ⟨p,5,none⟩ (.bool true)) p gl gn V z DL DN (jaT s)/\jaM (jbh p gl gn V) w (w.setCell ⟨p,5,none⟩ (.bool true))):=by
  have e:jaT s=⟨s.last,s.pend,s.lim,true⟩:=by unfold jaT;rw [if_pos hl]
  rw [e];exact ⟨h.turn z true s.lim h.lim h.zi b5 (fun b hb=>jah w p b 5 _ (Ne.symm hb)),(jaM.refl _ w).set jdL 5 _⟩
 subst hz0;obtain ⟨s2,hs2⟩:∃ s2,s2=jaT s:=⟨_,rfl⟩;rw [<- hs2] at R ⊢;clear h hs hl b5 hs2;go_enter Tryz.func119,Tryz.ntmps119
 go_wp2_with (go_at_call 55;with_reducible (refine Calls.mono (jch _ _) ?_);rintro e w1 ⟨rfl,rfl⟩)
 exact ⟨rfl,rfl,R.out⟩
theorem jqr (h:jak w p gl gn V z DL DN s) (i:Nat) (hi:i < s.last.length) :
  Calls Tryz.prog 139 #[.pointer (some ⟨p,0,none⟩),.int .i64 (i:Int)] w fun e w'=>e=.returned (jfc (jjQ s i))/\Below w.heap.size w w':=by
 have hi6:(i:Int) < 4096:=by have:=h.ok.le;omega
 have hkey:=Lib.hid (jjN (x:=(i:Int)) (by unfold jeI;omega));have HB:Hid (Below w.heap.size w (w.alloc (.cells (BA jas) 103))):=(Below.refl _ _).alloc (Nat.le_refl _) _;have HB2:=HB;have hnew:=heap_alloc_new w (.cells (BA jas) 103);have h1:=h.later HB.out;have hzs:(zeroValue 103).run Tryz.prog w=.ok (jfc jas) w:=jlh w;unfold jfc at hzs;obtain ⟨Z,hZ⟩:∃ Z,Z=BA jas:=⟨_,rfl⟩;have hZs:Z.size=64:=by rw [hZ];rfl
 rw [<- hZ] at HB HB2 hnew h1 hzs;obtain ⟨W,hW⟩:∃ W,W=w.alloc (.cells Z 103):=⟨_,rfl⟩;have hsz:w.heap.size < W.heap.size:=by rw [hW];simp
 rw [<- hW] at HB hnew h1;have HW:=Lib.hid hW;obtain ⟨c0,c1,c2,c3,c4,c5⟩:=h1.cells;have HN:=Lib.hid h1.new;have hu:=Tryz.und64;have hinf:∀ t:List Nat,t.length=64->(Tryz.prog.info? 103).map (·.size)=some (BA t).size:=fun t ht=>by rw [jcN,ht];exact Tryz.infS
 have HPOST:Hid (∀ (t:List Nat) (W':World),t.length=64->W'.heap[w.heap.size]? = some (.cells (BA t) 103 (0,0))->∀ tmps:Array Value,tmps.getD 4 undef=.pointer (some ⟨w.heap.size,0,none⟩)->(results Tryz.f139 tmps).run Tryz.prog W'=.ok (jfc t) W'):=fun t W' ht hg tmps hp=>results_cell_row rfl tmps W' w.heap.size _ (BA t) (0,0) _ hp hg hu rfl (hinf t ht)
 have hone:∀ t:List Nat,(BA t).all (·.oneCell')=true:=jjO;rcases h.nsays i with ⟨q1,q2⟩ | ⟨j,hj,q1,q2,q3⟩
 ·have hno:=Lib.hid (Maps.atKey_of_not_has q1 (.lit (.int .i64 0)));have hh:=Lib.hid q1;have e1:jjQ s i=s.last.getD i []:=q2 _;have ht:(s.last.getD i []).length=64:=(h.ok.sec i hi).1;rw [e1];obtain ⟨v,ps,hrun,hR⟩:=h1.last.lookup joK Tryz.undMapL (jlh W) (zd:=.held (jfc jas)) (zp:=[]) rfl hkey.out;rw [h1.lsays.here i hi] at hR
  have hv:v=jfc (s.last.getD i []):=by
   unfold jc8 at hR;injection hR with hR
   injection hR with hR _
   injection hR
  rw [hv] at hrun;obtain ⟨t,htt⟩:∃ t,t=s.last.getD i []:=⟨_,rfl⟩;rw [<- htt] at ht hrun ⊢;have hone:=jjO t;have hinT:=hinf t ht;have HP:=Lib.hid (fun W' hg tmps hp=>HPOST.out t W' ht hg tmps hp);unfold jfc at hrun HP ⊢;obtain ⟨C,hC⟩:∃ C,C=BA t:=⟨_,rfl⟩;rw [<- hC] at hrun hone hinT ⊢;simp only [<- hC] at HP;have hZC:Z.size=C.size:=by rw [hZs,hC,jcN,ht]
  clear h h1 hi q1 q2 e1 ht hR hv htt hC HPOST hinf hW hZ hZs hu;go_enter Tryz.func139,Tryz.ntmps139;rw [HW.out] at c3
  go_wp2_with (first
   | (at_lookup;rw [<- HW.out];refine jeM _ rfl _ _ 59 rfl 3 3 .i64 joK Tryz.undMapN Tryz.undIntD (jp8 _) gn _ DN rfl HN.out _ _ rfl hkey.out _ _ hno.out hh.out ?_)
   | (refine jad rfl 103 _ _ rfl w.heap.size C rfl rfl 103 Z hnew hinT hZC hone HB.out (Nat.le_refl _) ?_;intro W2 hW2 hb2 hk2 hs2))
  refine bodyPost_ret (HP.out _ hW2 _ rfl) rfl ?_;exact ⟨rfl,hb2⟩
 ·have hh:=Lib.hid q1;have hat:=Lib.hid q2;have e1:jjQ s i=(s.pend.getD j (0,[])).2:=q3 _;have ht:(s.pend.getD j (0,[])).2.length=64:=(h.ok.pen j hj).2.1;rw [e1];obtain ⟨g,c,hV,_,hr2⟩:=h1.write hj;obtain ⟨t,htt⟩:∃ t,t=(s.pend.getD j (0,[])).2:=⟨_,rfl⟩;rw [<- htt] at ht hr2 ⊢;have hone:=jjO t;have hinT:=hinf t ht;have hinL:(Tryz.prog.info? 103).map (·.size)=some (BA t).toList.length:=by rw [Array.length_toList];exact hinT
  have HP:=Lib.hid (fun W' hg tmps hp=>HPOST.out t W' ht hg tmps hp);unfold jfc at HP ⊢;obtain ⟨C,hC⟩:∃ C,C=BA t:=⟨_,rfl⟩;rw [<- hC] at hr2 hone hinT hinL ⊢;simp only [<- hC] at HP;have hZC:Z.size=C.size:=by rw [hZs,hC,jcN,ht]
  have k0:(0:Int)<=(j:Int):=by omega
  have k1:(j:Int) < (s.pend.length:Int):=by omega
  rw [hV] at c2;obtain ⟨N,hN⟩:∃ N,N=s.pend.length:=⟨_,rfl⟩;rw [<- hN] at c2 k1;have HL:=Lib.hid hr2;clear h h1 hi q1 q2 q3 e1 ht htt hC HPOST hinf hW hZ hZs hN hV hr2;go_enter Tryz.func139,Tryz.ntmps139;rw [HW.out] at c3
  go_wp2_with (first
   | (at_lookup;rw [<- HW.out];refine jeM _ rfl _ _ 59 rfl 3 3 .i64 joK Tryz.undMapN Tryz.undIntD (jp8 _) gn _ DN rfl HN.out _ _ rfl hkey.out _ _ hat.out hh.out ?_)
   | (refine wpList_load_mid rfl 103 _ rfl g (j * 65) (by first | rfl | simp) C.toList _ HL.out hu rfl hinL ?_)
   | (refine jad rfl 103 _ _ rfl w.heap.size C rfl rfl 103 Z hnew hinT hZC hone HB.out (Nat.le_refl _) ?_;intro W2 hW2 hb2 hk2 hs2))
  refine bodyPost_ret (HP.out _ hW2 _ rfl) rfl ?_;exact ⟨rfl,hb2⟩
end
end Go.Proofs.YtbnhkplhmanmoaaGreat
namespace Go.Proofs.YtbnhkplhmanmoaaGreat
open Go.RowKit
open Go.ChangeMaps (setBlock)
open Go.Maps (Keyed)
theorem jbm {w w':World} {b k:Nat} (h:w.mapTurned w' b) (hk:k≠b):w'.heap[k]? = w.heap[k]?:=by
 obtain ⟨es,clock,es',clock',hb,rfl⟩:=h;show (w.heap.setIfInBounds b _)[k]? = _;rw [Array.getElem?_setIfInBounds_ne (Ne.symm hk)]
theorem jgS {F:Nat->Prop} {a w w':World} {b:Nat} (h:jaM F a w) (ht:w.mapTurned w' b) (hF:F b):jaM F a w':=by
 have hk:=fun k=>jbm (k:=k) ht
 obtain ⟨es,clock,es',clock',hb,rfl⟩:=ht;exact ⟨h.os,h.tape,h.output,by simpa [setBlock] using h.size,fun k hk1 hk2=>(hk k (fun e=>hk2 (e ▸ hF))).trans (h.block k hk1 hk2)⟩
theorem jhh {F:Nat->Prop} {a w:World} (h:jaM F a w) (o:Obj):jaM F a (w.alloc o) :=
 ⟨h.os,h.tape,h.output,by have:=h.size;simp;omega,fun k hk1 hk2=>(Below.heap_alloc w o k (by have:=h.size;omega)).trans (h.block k hk1 hk2)⟩
theorem jgJ {F:Nat->Prop} {a w w':World} (h:jaM F a w) (hb:Below w.heap.size w w'):jaM F a w' :=
 ⟨hb.os.trans h.os,hb.tape.trans h.tape,hb.output.trans h.output,Nat.le_trans h.size hb.size,fun k hk1 hk2=>(hb.block k (by have:=h.size;omega)).trans (h.block k hk1 hk2)⟩
theorem jhf {F F':Nat->Prop} {a w w':World} (h:jaM F a w) (h':jaM F' w w') (hF:∀ b,F' b->F b∨a.heap.size<=b):jaM F a w' :=
 ⟨h'.os.trans h.os,h'.tape.trans h.tape,h'.output.trans h.output,Nat.le_trans h.size h'.size,fun k hk1 hk2=>(h'.block k (Nat.lt_of_lt_of_le hk1 h.size) (fun q=>(hF k q).elim hk2 (fun q=>by omega))).trans (h.block k hk1 hk2)⟩
section
variable {H:Type} {P:Program} {k:TypeId} {R:Value->Option (DataW H × List MemPlace)} {w:World} {b n:Nat} {D:DataW H}
theorem jlt {w:World} {b:Nat} {o o':Obj} (hb:w.heap[b]? = some o):(setBlock w b o').heap[b]? = some o':=by
 obtain ⟨hlt,_⟩:=Array.getElem?_eq_some_iff.1 hb;show (w.heap.setIfInBounds b o')[b]? = _;rw [Array.getElem?_setIfInBounds_self,if_pos hlt]
theorem jhd {t e:TypeId} (h:w.ownsMap P k R b n D) (ht:P.underlying t=some (.map k e)) (ty:TypeId) :
  ∃ w',(Builtin.clear_ #[t] ty #[.map (some b)]).run P w=.ok (.tuple #[]) w'/\w'.ownsMap P k R b 0 (.map []:DataW H)/\w.mapTurned w' b:=by
 obtain ⟨es,clock,hb,F,hs,rfl⟩:=h;refine ⟨setBlock w b (.map #[] clock),?_,⟨#[],clock,jlt hb,⟨by simp,MapKept.stamped_empty clock,by simp⟩,Nat.le_refl _,rfl⟩,⟨es,clock,#[],clock,hb,rfl⟩⟩;simp [Builtin.clear_,run_underlying ht,MapKept.run_getObj_map hb,MapKept.run_setObj_map _ hb,Result.andThen,setBlock]
theorem jgR {ops:Array Oper} {rest:List Oper} {o:Oper} {a:Act} {Q:Exit->Act->World->Prop} (hg:o.guard=none) (m:Operand) (t:TypeId) (hop:o.op=Op.call { callee:=Callee.builtin Builtin.clear,args:=#[m],argTypes:=#[t] })
  (e:TypeId) (ht:P.underlying t=some (.map k e)) (hm:a.eval m=.map (some b)) (hown:w.ownsMap P k R b n D)
  (hK:∀ w',w'.ownsMap P k R b 0 (.map []:DataW H)->w.mapTurned w' b->wpList P ops Q rest (a.put o.dst (.tuple #[])) w'):wpList P ops Q (o :: rest) a w:=by
 refine wpList_plain hg fun K' hK'=>?_
 obtain ⟨w',hr,h2,h3⟩:=jhd hown ht o.type;unfold Oper.wp execOp;simp only [hop,resolve,invoke,builtin,Sem.run_bind,Sem.run_pure,Result.andThen_ok,List.map_toArray,List.map_cons,List.map_nil,hm,hr];exact hK' _ _ (hK w' h2 h3)
theorem jhO {ops:Array Oper} {o:Oper} {a:Act} {K:Act->World->Prop} {Q:Exit->Act->World->Prop} {E:Prop} (hgd:o.guard=none) (m x:Operand) (t:TypeId) (hop:o.op=Op.call { callee:=Callee.builtin Builtin.delete,args:=#[m,x],argTypes:=#[t,k] })
  (e:TypeId) (KK:Keyed P k) (ht:P.underlying t=some (.map k e))
  (hm:a.eval m=.map (some b)) (hown:w.ownsMap P k R b n D) (key:Value) (kl:Lit) (hx:a.eval x=key) (hkey:keyOf P k key=some kl)
  (h:∀ w',w'.ownsMap P k R b n (D.del kl)->w.mapTurned w' b->K (a.put o.dst (.tuple #[])) w') :
  if Region.wanted o (yielded ops a.tmps)=true then Oper.wp P o a w K Q else E:=by
 have hw:Region.wanted o (yielded ops a.tmps)=true:=by simp [Region.wanted,hgd]
 rw [if_pos hw];obtain ⟨w',hr,h2,h3⟩:=hown.drop KK ht hkey o.type;unfold Oper.wp execOp;simp only [hop,resolve,invoke,builtin,Sem.run_bind,Sem.run_pure,Result.andThen_ok,List.map_toArray,List.map_cons,List.map_nil,hm,hx,hr];exact h w' h2 h3
end
end Go.Proofs.YtbnhkplhmanmoaaGreat
