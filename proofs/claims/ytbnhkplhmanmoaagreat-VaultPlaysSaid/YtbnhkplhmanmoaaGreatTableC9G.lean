/- . -/
import Derived.Test.YtbnhkplhmanmoaaGreatTableC8G
import Derived.Maps.AppendAt
import Derived.Deep.OwnRows
import Derived.Deep.RegionHeld3
import Derived.Test.YtbnhkplhmanmoaaGreatVaultAskG
import Derived.Test.YtbnhkplhmanmoaaGreatTkG
namespace Go.Proofs.YtbnhkplhmanmoaaGreat
open Go.RowKit
set_option maxHeartbeats 6400000
set_option maxRecDepth 20000
theorem Tryz.infoTenD:(Tryz.prog.info? 52).map (fun i=>(i.zero,i.size,i.bytes))=some (some (.agg #[.int .i64 0,.int .i64 0,.int .i64 0,.int .i64 0,.string ⟨#[]⟩,.bool false]),6,56):=by kernel_rfl
theorem Tryz.infoVolD:(Tryz.prog.info? 82).map (fun i=>(i.zero,i.size,i.bytes))=some (some (.agg #[.int .i64 0,.int .i64 0,.int .i64 0,.int .i64 0]),4,32):=by kernel_rfl
theorem Tryz.infoIntD:(Tryz.prog.info? 3).map (fun i=>(i.zero,i.size,i.bytes))=some (some (.int .i64 0),1,8):=by kernel_rfl
theorem jab {P:Program} {fn:Func} {p u:Tmp} {ty:TypeId} (h:fn.results=#[.cell p ty,.tmp u]) (tmps:Array Value) (w:World) (g:Nat) (t:TypeId) (cs:Array Value) (fr:Nat × Nat) (d:TypeDesc)
  (hp:tmps.getD p undef=.pointer (some ⟨g,0,none⟩)) (hg:w.heap[g]? = some (.cells cs t fr))
  (hu:P.underlying ty=some d) (hd:(match d with | .struct _ | .array _ _=>true | _=>false)=true) (hi:(P.info? ty).map (·.size)=some cs.size) :
  (results fn tmps).run P w=.ok (.tuple #[.agg cs,tmps.getD u undef]) w:=by
 have hp':tmps[p]?.getD undef=.pointer (some ⟨g,0,none⟩):=by simpa using hp
 simp [results,h,hp',asAddr,run_loadVar_row w g t ty cs fr d hg hu hd hi]
theorem jcB {w:World} {base base' e n size:Nat} {v:Value} {xs:List Value} (h:w.ownsRow base e size v n xs) (hb:base'<=base):w.ownsRow base' e size v n xs:=by
 refine ⟨h.1,?_⟩;rcases h.2 with hn | ⟨g,cap,cur,hv,hbg,rest⟩
 ·exact .inl hn
 ·exact .inr ⟨g,cap,cur,hv,Nat.le_trans hb hbg,rest⟩
theorem jfu {w:World} {base e n size:Nat} {v:Value} {xs:List Value} (h:w.ownsRow base e size v n xs):∃ A c,v=.slice A n c:=by
 rcases h.2 with ⟨rfl,rfl⟩ | ⟨g,cap,cur,rfl,_⟩
 ·exact ⟨none,0,rfl⟩
 ·exact ⟨_,_,rfl⟩
theorem jit (A:Option Addr) (c:Nat) (l:List Ten) (w:World) (h:jbb w w.heap.size A l) (h64:l.length<=64) :
  Calls Tryz.prog 62 #[.slice A l.length c] w fun e w'=>∃ A' c',e=.returned (.slice A' l.length c')/\w'.ownsRow w.heap.size 52 6 (.slice A' l.length c') l.length (jaE jbP l)/\Below w.heap.size w w':=by
 cases A with
 | none =>
  have h0:l=[]:=by
   cases l with
   | nil=>rfl
   | cons x l=>obtain ⟨b,off,e,_⟩:=h 0 (Nat.zero_lt_succ _);cases e
  subst h0;have hnil:∀ W,(binOp .eql 32 (.slice none 0 c) (.slice none 0 0)).run Tryz.prog W=.ok (.bool true) W:=fun W=>by kernel_rfl
  have R:Hid (w.ownsRow w.heap.size 52 6 (.slice none 0 0) 0 []):=World.ownsRow_nil w w.heap.size 52 6;clear h h64;go_enter Tryz.func62,Tryz.ntmps62;go_wp2;go_ret;exact ⟨none,0,rfl,R.out,Below.refl _ _⟩
 | some ad =>
  obtain ⟨i0,hi,hz0,hz1,hz2⟩:=info_parts Tryz.infoTenD;have hnil:∀ W,(binOp .eql 32 (.slice (some ad) l.length c) (.slice none 0 0)).run Tryz.prog W=.ok (.bool false) W:=fun W=>by kernel_rfl
  have hba:Below w.heap.size w (w.alloc (.cells #[] 52)):=(Below.refl _ _).alloc (Nat.le_refl _) _;have HNW:=Lib.hid (jfp (h.below hba));have hfl:=jaY jaF l;have hf1:=jcm jbT l;obtain ⟨F,hF⟩:∃ F,F=jaE jbP l:=⟨_,rfl⟩;rw [<- hF] at hfl hf1 HNW ⊢;obtain ⟨N,hN⟩:∃ N,N=l.length:=⟨_,rfl⟩;rw [<- hN] at hfl h64 hnil ⊢;clear h hF hN;go_enter Tryz.func62,Tryz.ntmps62
  go_wp2_with (at_builtin;refine wpList_append_own_at _ rfl _ _ 32 rfl w.heap.size 52 i0 (.agg #[.int .i64 0,.int .i64 0,.int .i64 0,.int .i64 0,.string ⟨#[]⟩,.bool false]) 6 56 Tryz.underlying32 hi hz0 hz1 hz2 rfl (by decide) (.slice (some ⟨w.heap.size,0,none⟩) 0 0) 0 [] rfl (World.ownsRow_made w #[] 0 (Nat.le_refl _) (Nat.zero_le _) rfl) ad N c F rfl hfl HNW.out hf1 ?d1 ?d2 (by simp) ?_)
  case d1=>unfold maxLen;omega
  case d2=>omega
  intro v4 w4 hown4 hg4 _ _;have hb4:Below w.heap.size w w4:=hba.grown hg4 (by simp) fun q hq=>by simp [Value.ownBlock] at hq;omega
  obtain ⟨A4,c4,rfl⟩:=jfu hown4;have R:=Lib.hid (And.intro hown4 hb4);clear hown4 hg4 hb4 hba HNW;go_wp2;go_ret;exact ⟨A4,c4,rfl,R.out.1,R.out.2⟩
theorem jh6 (A:Option Addr) (c:Nat) (l:List Vol) (w:World) (h:jbc w w.heap.size A l) (h64:l.length<=64) :
  Calls Tryz.prog 63 #[.slice A l.length c] w fun e w'=>∃ A' c',e=.returned (.slice A' l.length c')/\w'.ownsRow w.heap.size 82 4 (.slice A' l.length c') l.length (jaE jb1 l)/\Below w.heap.size w w':=by
 cases A with
 | none =>
  have h0:l=[]:=by
   cases l with
   | nil=>rfl
   | cons x l=>obtain ⟨b,off,e,_⟩:=h 0 (Nat.zero_lt_succ _);cases e
  subst h0;have hnil:∀ W,(binOp .eql 33 (.slice none 0 c) (.slice none 0 0)).run Tryz.prog W=.ok (.bool true) W:=fun W=>by kernel_rfl
  have R:Hid (w.ownsRow w.heap.size 82 4 (.slice none 0 0) 0 []):=World.ownsRow_nil w w.heap.size 82 4;clear h h64;go_enter Tryz.func63,Tryz.ntmps63;go_wp2;go_ret;exact ⟨none,0,rfl,R.out,Below.refl _ _⟩
 | some ad =>
  obtain ⟨i0,hi,hz0,hz1,hz2⟩:=info_parts Tryz.infoVolD;have hnil:∀ W,(binOp .eql 33 (.slice (some ad) l.length c) (.slice none 0 0)).run Tryz.prog W=.ok (.bool false) W:=fun W=>by kernel_rfl
  have hba:Below w.heap.size w (w.alloc (.cells #[] 82)):=(Below.refl _ _).alloc (Nat.le_refl _) _;have HNW:=Lib.hid (jfZ (h.below hba));have hfl:=jaY jaG l;have hf1:=jcm jbQ l;obtain ⟨F,hF⟩:∃ F,F=jaE jb1 l:=⟨_,rfl⟩;rw [<- hF] at hfl hf1 HNW ⊢;obtain ⟨N,hN⟩:∃ N,N=l.length:=⟨_,rfl⟩;rw [<- hN] at hfl h64 hnil ⊢;clear h hF hN;go_enter Tryz.func63,Tryz.ntmps63
  go_wp2_with (at_builtin;refine wpList_append_own_at _ rfl _ _ 33 rfl w.heap.size 82 i0 (.agg #[.int .i64 0,.int .i64 0,.int .i64 0,.int .i64 0]) 4 32 Tryz.underlying33 hi hz0 hz1 hz2 rfl (by decide) (.slice (some ⟨w.heap.size,0,none⟩) 0 0) 0 [] rfl (World.ownsRow_made w #[] 0 (Nat.le_refl _) (Nat.zero_le _) rfl) ad N c F rfl hfl HNW.out hf1 ?d1 ?d2 (by simp) ?_)
  case d1=>unfold maxLen;omega
  case d2=>omega
  intro v4 w4 hown4 hg4 _ _;have hb4:Below w.heap.size w w4:=hba.grown hg4 (by simp) fun q hq=>by simp [Value.ownBlock] at hq;omega
  obtain ⟨A4,c4,rfl⟩:=jfu hown4;have R:=Lib.hid (And.intro hown4 hb4);clear hown4 hg4 hb4 hba HNW;go_wp2;go_ret;exact ⟨A4,c4,rfl,R.out.1,R.out.2⟩
theorem jhG (A:Option Addr) (c:Nat) (l:List Int) (w:World) (h:jaO w w.heap.size .i64 A l) (h64:l.length<=64) :
  Calls Tryz.prog 64 #[.slice A l.length c] w fun e w'=>∃ A' c',e=.returned (.slice A' l.length c')/\w'.ownsRow w.heap.size 3 1 (.slice A' l.length c') l.length (jaE jiy l)/\Below w.heap.size w w':=by
 cases A with
 | none =>
  have h0:l=[]:=by
   cases l with
   | nil=>rfl
   | cons x l=>obtain ⟨b,off,e,_⟩:=h 0 (Nat.zero_lt_succ _);cases e
  subst h0;have hnil:∀ W,(binOp .eql 31 (.slice none 0 c) (.slice none 0 0)).run Tryz.prog W=.ok (.bool true) W:=fun W=>by kernel_rfl
  have R:Hid (w.ownsRow w.heap.size 3 1 (.slice none 0 0) 0 []):=World.ownsRow_nil w w.heap.size 3 1;clear h h64;go_enter Tryz.func64,Tryz.ntmps64;go_wp2;go_ret;exact ⟨none,0,rfl,R.out,Below.refl _ _⟩
 | some ad =>
  obtain ⟨i0,hi,hz0,hz1,hz2⟩:=info_parts Tryz.infoIntD;have hnil:∀ W,(binOp .eql 31 (.slice (some ad) l.length c) (.slice none 0 0)).run Tryz.prog W=.ok (.bool false) W:=fun W=>by kernel_rfl
  have hba:Below w.heap.size w (w.alloc (.cells #[] 3)):=(Below.refl _ _).alloc (Nat.le_refl _) _;have HNW:=Lib.hid (jhz (h.below hba));have hfl:=jaY jbS l;have hf1:=jcm jjX l;obtain ⟨F,hF⟩:∃ F,F=jaE jiy l:=⟨_,rfl⟩;rw [<- hF] at hfl hf1 HNW ⊢;obtain ⟨N,hN⟩:∃ N,N=l.length:=⟨_,rfl⟩;rw [<- hN] at hfl h64 hnil ⊢;clear h hF hN;go_enter Tryz.func64,Tryz.ntmps64
  go_wp2_with (at_builtin;refine wpList_append_own_at _ rfl _ _ 31 rfl w.heap.size 3 i0 (.int .i64 0) 1 8 Tryz.underlying31 hi hz0 hz1 hz2 rfl (by decide) (.slice (some ⟨w.heap.size,0,none⟩) 0 0) 0 [] rfl (World.ownsRow_made w #[] 0 (Nat.le_refl _) (Nat.zero_le _) rfl) ad N c F rfl hfl HNW.out hf1 ?d1 ?d2 (by simp) ?_)
  case d1=>unfold maxLen;omega
  case d2=>omega
  intro v4 w4 hown4 hg4 _ _;have hb4:Below w.heap.size w w4:=hba.grown hg4 (by simp) fun q hq=>by simp [Value.ownBlock] at hq;omega
  obtain ⟨A4,c4,rfl⟩:=jfu hown4;have R:=Lib.hid (And.intro hown4 hb4);clear hown4 hg4 hb4 hba HNW;go_wp2;go_ret;exact ⟨A4,c4,rfl,R.out.1,R.out.2⟩
theorem jo9 (n:Nat) (w:World) (h1:1<=n) (h2:n<=64) :
  Calls Tryz.prog 19 #[.int .i64 (n:Int)] w fun e w'=>∃ V,e=.returned (.tuple #[.agg (jan V (jbf n)),.int .i64 0])/\jao w' w'.heap.size V (jbf n)/\jay w.heap.size V/\Below w.heap.size w w':=by
 have hmk:∀ W:World,(Instr.makeSlice 31 (.int .i64 (n:Int)) (.int .i64 (n:Int))).run Tryz.prog W=.ok (.slice (some ⟨W.heap.size,0,none⟩) n n) (W.alloc (.cells (madeCells #[Value.int .i64 0] n) 3)):=fun W=>run_make_row' (P:=Tryz.prog) 31 3 (.int .i64 0) 8 Tryz.underlying31 Tryz.infoIntD rfl .i64 .i64 n (by omega) (by omega) W
 have hZl:(madeCells #[Value.int .i64 0] n).toList=(List.replicate n (0:Int)).map (Value.int .i64):=by rw [toList_madeCells_one,List.map_replicate]
 obtain ⟨Z,hZ⟩:∃ Z,Z=madeCells #[Value.int .i64 0] n:=⟨_,rfl⟩;rw [<- hZ] at hmk hZl;have k1:¬ ((n:Int) < 1):=by omega
 have k2:¬ ((n:Int) > 64):=by omega
 have HZL:=Lib.hid hZl;have hn:(jbf n).os.length=n:=by show (List.replicate n (0:Int)).length=n;rw [List.length_replicate]
 have htv:∀ a,jan ⟨none,0,none,0,some a,n⟩ (jbf n)=#[.slice none 0 0,.slice none 0 0,.slice (some a) n n]:=fun a=>by unfold jan;rw [hn];rfl
 have HTV:=Lib.hid htv;clear hZ hZl htv hn;go_enter Tryz.func19,Tryz.ntmps19;go_wp2;have hb0:Below w.heap.size w (w.alloc (.cells #[.slice none 0 0,.slice none 0 0,.slice (some ⟨w.heap.size + 1,0,none⟩) n n] 35)):=(Below.refl _ _).alloc (Nat.le_refl _) _;have hs0:(w.alloc (.cells #[.slice none 0 0,.slice none 0 0,.slice (some ⟨w.heap.size + 1,0,none⟩) n n] 35)).heap.size=w.heap.size + 1:=by simp
 have hi:=(jaO.new (w.alloc (.cells #[.slice none 0 0,.slice none 0 0,.slice (some ⟨w.heap.size + 1,0,none⟩) n n] 35)) 3 .i64 (List.replicate n 0) Z HZL.out);rw [hs0] at hi
 have hh:((w.alloc (.cells #[.slice none 0 0,.slice none 0 0,.slice (some ⟨w.heap.size + 1,0,none⟩) n n] 35)).alloc (.cells Z 3)).heap[w.heap.size]? = some (.cells #[.slice none 0 0,.slice none 0 0,.slice (some ⟨w.heap.size + 1,0,none⟩) n n] 35 (0,0)):=by
  rw [Below.heap_alloc _ _ _ (by simp)];exact heap_alloc_new _ _
 refine bodyPost_ret (jab rfl _ _ w.heap.size _ _ _ _ rfl hh Tryz.underlying35 rfl (by kernel_rfl)) rfl ⟨⟨none,0,none,0,some ⟨w.heap.size + 1,0,none⟩,n⟩,?_,⟨jbb.nil _ _ _,jbc.nil _ _ _,hi.more (by simp),Nat.le_refl _,Nat.le_refl _,?_⟩,fun a ha=>?_,hb0.alloc hb0.size _⟩
 ·rw [HTV.out];rfl
 ·show (List.replicate n (0:Int)).length<=n;rw [List.length_replicate];exact Nat.le_refl _
 ·rcases ha with ha | ha | ha
  ·cases ha
  ·cases ha
  ·injection ha with ha;subst ha;exact Nat.le_succ _
theorem jqx (n:Int) (w:World) (hr:¬ inR n 1 64) :
  Calls Tryz.prog 19 #[.int .i64 n] w fun e w'=>∃ V,e=.returned (.tuple #[.agg (jan V Tab.zero),.int .i64 1])/\Below w.heap.size w w':=by
 unfold inR at hr;by_cases h1:n < 1
 all_goals
  first | (have h2:n > 64:=by omega) | skip
  clear hr;go_enter Tryz.func19,Tryz.ntmps19;go_wp2;refine bodyPost_ret (jab rfl _ _ w.heap.size _ _ _ _ rfl (heap_alloc_new w _) Tryz.underlying35 rfl (by kernel_rfl)) rfl ?_
  first
   | exact ⟨⟨(⟨none,0,none,0,none,0⟩:jat),rfl⟩,(Below.refl _ _).alloc (Nat.le_refl _) _⟩
   | exact ⟨(⟨none,0,none,0,none,0⟩:jat),rfl,(Below.refl _ _).alloc (Nat.le_refl _) _⟩
theorem jd4 {X:World} {g:Nat} {T:TypeId} {v0 v1 v2:Value} (x y z:Value) (h:X.heap[g]? = some (.cells #[v0,v1,v2] T (0,0))) :
  (((X.setCell ⟨g,0,none⟩ x).setCell ⟨g,1,none⟩ y).setCell ⟨g,2,none⟩ z).heap[g]? = some (.cells #[x,y,z] T (0,0))/\X.grownBy (((X.setCell ⟨g,0,none⟩ x).setCell ⟨g,1,none⟩ y).setCell ⟨g,2,none⟩ z) (some g):=by
 refine ⟨?_,jal X g 0 [x,y,z]⟩;simp [World.setCell,Array.getElem?_modify,h]
theorem jhZ (V:jat) (t:Tab) (w:World) (h:jao w w.heap.size V t) (h1:t.ts.length<=64) (h2:t.vs.length<=64) (h3:t.os.length<=64) :
  Calls Tryz.prog 37 #[.agg (jan V t)] w fun e w'=>∃ V',e=.returned (.agg (jan V' t))/\ja8 w.heap.size w' V' t/\Below w.heap.size w w':=by
 have hb1:Below w.heap.size w (w.alloc (.cells (jan V t) 35)):=(Below.refl _ _).alloc (Nat.le_refl _) _;have hb2:=hb1.alloc hb1.size (.cells #[.slice none 0 0,.slice none 0 0,.slice none 0 0] 35);have hs1:(w.alloc (.cells (jan V t) 35)).heap.size=w.heap.size + 1:=by simp
 have hg1:((w.alloc (.cells (jan V t) 35)).alloc (.cells #[.slice none 0 0,.slice none 0 0,.slice none 0 0] 35)).heap[w.heap.size]? = some (.cells (jan V t) 35 (0,0)):=by
  rw [Below.heap_alloc _ _ _ (by simp)];exact heap_alloc_new _ _
 have hg2:=heap_alloc_new (w.alloc (.cells (jan V t) 35)) (.cells #[.slice none 0 0,.slice none 0 0,.slice none 0 0] 35);rw [hs1] at hg2;obtain ⟨W0,hW0⟩:∃ W,W=(w.alloc (.cells (jan V t) 35)).alloc (.cells #[.slice none 0 0,.slice none 0 0,.slice none 0 0] 35):=⟨_,rfl⟩;rw [<- hW0] at hg1 hg2 hb2;have hcell1:∀ X:World,X.heap[w.heap.size]? = some (.cells (jan V t) 35 (0,0))->X.cell? ⟨w.heap.size,0,none⟩=some (.slice V.A1 t.ts.length V.c1)/\X.cell? ⟨w.heap.size,1,none⟩=some (.slice V.A2 t.vs.length V.c2)/\X.cell? ⟨w.heap.size,2,none⟩=some (.slice V.A3 t.os.length V.c3):=fun X q=>jai q
 have HF:Hid (∀ X,Below W0.heap.size W0 X->X.cell? ⟨w.heap.size,0,none⟩=some (.slice V.A1 t.ts.length V.c1)/\X.cell? ⟨w.heap.size,1,none⟩=some (.slice V.A2 t.vs.length V.c2)/\X.cell? ⟨w.heap.size,2,none⟩=some (.slice V.A3 t.os.length V.c3)):=fun X hb=>hcell1 X ((hb.block _ (Array.getElem?_eq_some_iff.1 hg1).1).trans hg1)
 have HFS:Hid (∀ (X:World) (x y z:Value),Below W0.heap.size W0 X->(((X.setCell ⟨w.heap.size + 1,0,none⟩ x).setCell ⟨w.heap.size + 1,1,none⟩ y).setCell ⟨w.heap.size + 1,2,none⟩ z).cell? ⟨w.heap.size,0,none⟩=some (.slice V.A1 t.ts.length V.c1)/\(((X.setCell ⟨w.heap.size + 1,0,none⟩ x).setCell ⟨w.heap.size + 1,1,none⟩ y).setCell ⟨w.heap.size + 1,2,none⟩ z).cell? ⟨w.heap.size,1,none⟩=some (.slice V.A2 t.vs.length V.c2)/\(((X.setCell ⟨w.heap.size + 1,0,none⟩ x).setCell ⟨w.heap.size + 1,1,none⟩ y).setCell ⟨w.heap.size + 1,2,none⟩ z).cell? ⟨w.heap.size,2,none⟩=some (.slice V.A3 t.os.length V.c3)):=fun X x y z hb =>
  hcell1 _ ((jaq (w.heap.size + 1) w.heap.size (Nat.ne_of_lt (Nat.lt_succ_self _)) [x,y,z] 0 X).trans ((hb.block _ (Array.getElem?_eq_some_iff.1 hg1).1).trans hg1))
 have HR2:Hid (∀ X,Below W0.heap.size W0 X->(X.cell? ⟨w.heap.size + 1,0,none⟩=some (.slice none 0 0)/\X.cell? ⟨w.heap.size + 1,1,none⟩=some (.slice none 0 0)/\X.cell? ⟨w.heap.size + 1,2,none⟩=some (.slice none 0 0)) /\
   X.frozen? ⟨w.heap.size + 1,0,none⟩=false/\X.frozen? ⟨w.heap.size + 1,1,none⟩=false/\X.frozen? ⟨w.heap.size + 1,2,none⟩=false):=fun X hb=>by
  have q2:=(hb.block _ (Array.getElem?_eq_some_iff.1 hg2).1).trans hg2;exact ⟨jai q2,frozen_of_row _ _ _ _ _ q2,frozen_of_row _ _ _ _ _ q2,frozen_of_row _ _ _ _ _ q2⟩
 have HG2:Hid (∀ X,Below W0.heap.size W0 X->X.heap[w.heap.size + 1]? = some (.cells #[.slice none 0 0,.slice none 0 0,.slice none 0 0] 35 (0,0))):=fun X hb=>(hb.block _ (Array.getElem?_eq_some_iff.1 hg2).1).trans hg2
 have HSZ:Hid (w.heap.size + 2<=W0.heap.size):=by rw [hW0];show _<=_;simp
 have hT:∀ X,Below W0.heap.size W0 X->jao X X.heap.size V t:=fun X hb=>(h.below (jaa hb2 hb)).more (jaa hb2 hb).size
 have H1:=Lib.hid (fun X (hb:Below W0.heap.size W0 X)=>jit V.A1 V.c1 t.ts X (hT X hb).ts h1);have H2:=Lib.hid (fun X (hb:Below W0.heap.size W0 X)=>jh6 V.A2 V.c2 t.vs X (hT X hb).vs h2);have H3:=Lib.hid (fun X (hb:Below W0.heap.size W0 X)=>jhG V.A3 V.c3 t.os X (hT X hb).os h3);have HB2:=Lib.hid hb2;unfold jan at hW0 ⊢;clear h h1 h2 h3 hT hb1 hb2 hs1 hg1 hg2 hcell1;go_enter Tryz.func37,Tryz.ntmps37
 go_wp2_with fail
 rw [<- hW0];clear hW0;have hbx:Below W0.heap.size W0 W0.drew:=(Below.refl _ _).drew
 go_region_held3 (fun X=>X.cell? ⟨w.heap.size,0,none⟩=some (.slice V.A1 t.ts.length V.c1)/\X.cell? ⟨w.heap.size,1,none⟩=some (.slice V.A2 t.vs.length V.c2)/\X.cell? ⟨w.heap.size,2,none⟩=some (.slice V.A3 t.os.length V.c3))
  (first | exact HF.out _ hbx | exact HFS.out _ _ _ _ hbx)
  (first
   | (go_at_call 62;with_reducible (refine Calls.mono (H1.out _ hbx) ?_);rintro e w3 ⟨A4,c4,rfl,r4,hb3⟩;have l3:=hbx.size;have hbx:Below W0.heap.size W0 w3:=hbx.trans (hb3.mono hbx.size);obtain ⟨⟨g0,g1,g2⟩,g3,g4,g5⟩:=HR2.out _ hbx)
   | (go_at_call 63;with_reducible (refine Calls.mono (H2.out _ hbx) ?_);rintro e w4 ⟨A5,c5,rfl,r5,hb4⟩;have l4:=hbx.size;have hbx:Below W0.heap.size W0 w4:=hbx.trans (hb4.mono hbx.size);obtain ⟨⟨g0,g1,g2⟩,g3,g4,g5⟩:=HR2.out _ hbx)
   | (go_at_call 64;with_reducible (refine Calls.mono (H3.out _ hbx) ?_);rintro e w5 ⟨A6,c6,rfl,r6,hb5⟩;have l5:=hbx.size;have hbx:Below W0.heap.size W0 w5:=hbx.trans (hb5.mono hbx.size);obtain ⟨⟨g0,g1,g2⟩,g3,g4,g5⟩:=HR2.out _ hbx)
   | fail)
 go_wp2;have hs:=jd4 (.slice A4 t.ts.length c4) (.slice A5 t.vs.length c5) (.slice A6 t.os.length c6) (HG2.out w5 hbx);have hz:=HSZ.out;have hB2:=HB2.out.size;refine bodyPost_ret (results_cell_row rfl _ _ (w.heap.size + 1) 35 _ (0,0) _ rfl hs.1 Tryz.underlying35 rfl (by kernel_rfl)) rfl ?_;refine ⟨⟨A4,c4,A5,c5,A6,c6⟩,rfl,⟨?_,?_,?_,?_,?_,?_⟩,jae (jaa HB2.out hbx) hs.2 (Nat.le_trans hB2 hbx.size) (Nat.le_succ _)⟩
 ·refine jcB (jaA (jcn (jcn r4 hb4) hb5) hs.2 fun b hb q=>?_) (Nat.le_trans hB2 l3);have:=(r4.lt b hb).1;injection q with q;omega
 ·refine jcB (jaA (jcn r5 hb5) hs.2 fun b hb q=>?_) (Nat.le_trans hB2 l4);have:=(r5.lt b hb).1;injection q with q;omega
 ·refine jcB (jaA r6 hs.2 fun b hb q=>?_) (Nat.le_trans hB2 l5);have:=(r6.lt b hb).1;injection q with q;omega
 ·intro b hb hb2;have h1:=(ja1 r4 b hb).2;have h2:=(ja1 r5 b hb2).1;omega
 ·intro b hb hb2;have h1:=(ja1 r4 b hb).2;have h2:=(ja1 r6 b hb2).1;have:=hb4.size;omega
 ·intro b hb hb2;have h1:=(ja1 r5 b hb).2;have h2:=(ja1 r6 b hb2).1;omega
def jdp (w:World) (B:Nat) (A:Option Addr) (T:List (List Int)):Prop :=
 ∀ k,k < 192->∃ b off Ak ck,A=some ⟨b,off,none⟩/\b < B/\w.cell? ⟨b,off + k,none⟩=some (.slice Ak 64 ck)/\jaO w B .u8 Ak (T.getD k [])/\(∀ z∈T.getD k [],0<=z/\z<=255)/\(T.getD k []).length=64/\64<=ck
theorem jmH {w:World} {B:Nat} {A:Option Addr} {ps:List jer} {T:List (List Int)} (h:jiB w B A ps) (hp:ps.length=192) (he:jaS ps=T) (hl:∀ k,k < 192->(T.getD k []).length=64):jdp w B A T:=fun k hk=>by
 obtain ⟨b,off,e,hb,hc,ho⟩:=h k (by omega);have e2:=jhi ps (i:=k) (by omega);rw [he] at e2;have hlk:=hl k hk;rw [e2] at hlk ⊢;rw [hlk] at hc;have hle:=ho.le;exact ⟨b,off,_,_,e,hb,hc,ho.ints,ho.byte,hlk,by omega⟩
theorem jdp.below {w w':World} {B:Nat} {A:Option Addr} {T:List (List Int)} (h:jdp w B A T) (hb:Below B w w'):jdp w' B A T:=fun k hk=>by
 obtain ⟨b,off,Ak,ck,e,h1,h2,h3,h4⟩:=h k hk;exact ⟨b,off,Ak,ck,e,h1,(hb.cell (p:=⟨b,off + k,none⟩) h1).trans h2,h3.below hb,h4⟩
theorem jj0 {s:Dk} (h:s.ok) (hl:384<=s.last.length) {a:Nat} (ha:a < 2):∀ k,k < 192->((jaj s.last a).getD k []).length=64:=fun k hk=>by
 rw [jd5 _ _ hk,jfW];exact (h.sec _ (by omega)).1
theorem jp3 {b:List Int} : jdD (jbF b).2.g:=by
 rcases jih b with h | h
 ·obtain ⟨hr,_⟩:=jbB.1 h.2.2.1;have:=((jcq _).1 hr).1;unfold jdD;omega
 ·rw [h];unfold jdD jg6;decide
theorem jg4 (L:List (List Int)):∀ {k:Nat},∀ t∈jba L k,t≠[]
 | 0,t,h=>by cases h
 | k + 1,t,h=>by
  rw [jb4] at h;split at h
  ·rcases List.mem_append.1 h with h | h
   ·exact jg4 L t h
   ·rw [List.mem_singleton.1 h];simp
  ·exact jg4 L t h
theorem jg0 (T:List (List Int)):∀ t∈jau T,t≠[]:=fun t h=>jg4 T t h
theorem jaL.other {w W:World} {B g:Nat} {A:Option Addr} {ts:List (List Rc)} {t:TypeId} {x y:Int} (h:jaL w B A ts) (hne:∀ r∈ts,r≠[]) (hg:w.heap[g]? = some (.cells #[.int .i64 x,.int .i64 y,.slice none 0 0] t (0,0))) (hk:∀ k,k≠g->W.heap[k]? = w.heap[k]?):jaL W B A ts:=fun i hi=>by
 obtain ⟨b,off,Ai,ci,e,hl,hc,hle,hr⟩:=h i hi;have hn0:=hne _ (List.getElem_mem hi)
 have hb:b≠g:=fun q=>by
  subst q;rw [cell_of_row _ _ _ _ _ _ hg] at hc
  match off + i,hc with
  | 0,hc=>simp at hc
  | 1,hc=>simp at hc
  | 2,hc =>
   simp at hc;exact hn0 (List.eq_nil_of_length_eq_zero hc.2.1.symm)
  | n + 3,hc=>simp at hc
 refine ⟨b,off,Ai,ci,e,hl,by rw [World.cell?_of_block (hk b hb)];exact hc,hle,fun k hk2=>?_⟩;obtain ⟨b2,o2,e2,hl2,c0,c1,c2,c3,c4,c5⟩:=hr k hk2
 have hb2:b2≠g:=fun q=>by
  subst q;rw [cell_of_row _ _ _ _ _ _ hg] at c5
  match o2 + 6 * k + 5,c5 with
  | 0,hc=>simp at hc
  | 1,hc=>simp at hc
  | 2,hc=>simp at hc
  | n + 3,hc=>simp at hc
 have hx:=hk b2 hb2;exact ⟨b2,o2,e2,hl2,by rw [World.cell?_of_block hx];exact c0,by rw [World.cell?_of_block hx];exact c1,by rw [World.cell?_of_block hx];exact c2,by rw [World.cell?_of_block hx];exact c3,by rw [World.cell?_of_block hx];exact c4,by rw [World.cell?_of_block hx];exact c5⟩
theorem jph:hdV 0 0 none 0 0=#[.int .i64 0,.int .i64 0,.slice none 0 0]:=rfl
theorem Tryz.infoHolding:(Tryz.prog.info? 87).map (·.size)=some 3:=by kernel_rfl
section
variable {Rep:World->Nat->(Nat->Prop)->Dk->Prop} (L:jbX Rep)
include L
theorem jbX.repl {A:Option Addr} {c:Nat} {ps:List jer} {T:List (List Int)} {g:Int} {w:World} (h:jiB w w.heap.size A ps) (hp:ps.length=192) (he:jaS ps=T) (hc:192<=c) (hg:jdD g) :
  Calls Tryz.prog 87 #[.slice A 192 c,.int .i64 g] w fun e w'=>∃ A' c',e=.returned (.slice A' (jda T g).length c')/\(jda T g).length<=c'/\jaL w' w'.heap.size A' (jda T g)/\Below w.heap.size w w':=by
 have:=(L.l w).repl A c ps g w (Below.refl _ _) h (by omega) (by omega) hg
 rwa [hp,he] at this
theorem jno (p:Nat) (F:Nat->Prop) (s:Dk) (a:Nat) (w:World) (h:Rep w p F s) (ho:s.off=false) (hpe:s.pend=[]) (hl:384<=s.last.length) (ha:a < 2) :
  Calls Tryz.prog 58 #[.pointer (some ⟨p,0,none⟩),.int .i64 (a:Int)] w fun e w'=>∃ A c,e=.returned (.tuple #[.agg (hdV a (jcO (jaj s.last a)) A (jau (jaj s.last a)).length c),.int .i64 0])/\(jau (jaj s.last a)).length<=c/\jaL w' w'.heap.size A (jau (jaj s.last a))/\Below w.heap.size w w':=by
 have hok:=(L.d w).ok w p F s h;have hlen:=jj0 hok hl ha;have hb0:Below w.heap.size w (w.alloc (.cells (hdV 0 0 none 0 0) 87)):=(Below.refl _ _).alloc (Nat.le_refl _) _;have hg0:=heap_alloc_new w (.cells (hdV 0 0 none 0 0) 87);rw [jph] at hb0 hg0;obtain ⟨W0,hW0⟩:∃ W,W=w.alloc (.cells #[.int .i64 0,.int .i64 0,.slice none 0 0] 87):=⟨_,rfl⟩;rw [<- hW0] at hb0 hg0;have H1:=jf1 L p F s a W0 (L.keep h hb0) ho hpe hl ha;obtain ⟨T,hT⟩:∃ T,T=jaj s.last a:=⟨_,rfl⟩;rw [<- hT] at H1 hlen ⊢;have H1:=Lib.hid H1;obtain ⟨WH,hWH⟩:∃ R,R=jau T:=⟨_,rfl⟩;obtain ⟨G,hG⟩:∃ G,G=jcO T:=⟨_,rfl⟩
 have HRE:Hid (∀ (A:Option Addr) (c:Nat) (ps:List jer) (w1 W:World),jiB w1 w1.heap.size A ps->ps.length=192->jaS ps=T->192<=c->Below w1.heap.size w1 W->Calls Tryz.prog 87 #[.slice A 192 c,.int .i64 G] W fun e w'=>∃ A' c',e=.returned (.slice A' WH.length c')/\WH.length<=c'/\jaL w' w'.heap.size A' WH/\Below W.heap.size W w'):=fun A c ps w1 W q1 q2 q3 q4 q5=>by
  rw [hWH];unfold jau;rw [<- hG];exact L.repl ((q1.below q5).more q5.size) q2 q3 q4 (by rw [hG];exact jp3)
 have HDE:Hid (∀ (A:Option Addr) (c:Nat) (W:World),jaO W W.heap.size .u8 A (T.getD 0 [])->(∀ z∈T.getD 0 [],0<=z/\z<=255)->64<=c->Calls Tryz.prog 86 #[.slice A 64 c] W fun e w'=>e=.returned (.tuple #[.agg (lnV (jbF (T.getD 0 [])).2),.int .i64 (jbF (T.getD 0 [])).1])/\Below W.heap.size W w'):=fun A c W q1 q2 q3=>L.dec q1 q2 (hlen 0 (by decide)) q3
 obtain ⟨E,hE⟩:∃ E,E=(jbF (T.getD 0 [])).1:=⟨_,rfl⟩;obtain ⟨D,hD⟩:∃ D,D=(jbF (T.getD 0 [])).2:=⟨_,rfl⟩;have HGD:Hid (G=D.g):=by unfold Hid;rw [hG,hD];rfl
 simp only [<- hE,<- hD] at HDE;have HAR:Hid (∀ (A:Option Addr) (ps:List jer) (w1:World),jiB w1 w1.heap.size A ps->ps.length=192->jaS ps=T->jdp w1 w1.heap.size A T):=fun A ps w1 q1 q2 q3=>jmH q1 q2 q3 hlen
 have hinf:(Tryz.prog.info? 135).map (·.size)=some (lnV D).size:=Tryz.infoLine;have hone:=jdP D;have hold:Hid (9=(lnV D).size):=rfl;have HLC:Hid (∀ (q:Nat) (W W':World),W.heap[q]? = some (.cells (lnV D) 135 (0,0))->Below W.heap.size W W'->W'.cell? ⟨q,0,none⟩=some (.int .i64 G)):=fun q W W' q1 q2=>by rw [HGD.out];exact (jav q1 q2).1
 have HNEW:=Lib.hid (fun W:World=>heap_alloc_new W (.cells #[.int .i64 0,.int .i64 0,.bool false,.int .i64 0,.int .i64 0,.int .i64 0,.int .i64 0,.int .i64 0,.string ⟨#[]⟩] 135));have HAL:=Lib.hid (fun W:World=>(Below.refl W.heap.size W).alloc (Nat.le_refl _) (.cells #[.int .i64 0,.int .i64 0,.bool false,.int .i64 0,.int .i64 0,.int .i64 0,.int .i64 0,.int .i64 0,.string ⟨#[]⟩] 135));obtain ⟨LN,hLN⟩:∃ LN,LN=lnV D:=⟨_,rfl⟩;rw [<- hLN] at hinf hone hold;simp only [<- hLN] at HDE HLC;obtain ⟨NW,hNW⟩:∃ n,n=WH.length:=⟨_,rfl⟩;have HWN:Hid (∀ r∈WH,r≠[]):=by rw [hWH];exact jg0 T
 have HB0:=Lib.hid hb0;have HG0:Hid (∀ X,Below W0.heap.size W0 X->(X.heap[w.heap.size]? = some (.cells #[.int .i64 0,.int .i64 0,.slice none 0 0] 87 (0,0)))):=fun X hb=>(hb.block _ (Array.getElem?_eq_some_iff.1 hg0).1).trans hg0
 rw [<- hWH,<- hG,<- hNW];simp only [<- hNW] at HRE;unfold hdV;clear h ho hpe hl ha hok hlen hT hWH hG hE hD hLN hNW hb0 hg0 HGD L;go_enter Tryz.func58,Tryz.ntmps58
 go_wp2_with fail
 rw [<- hW0];clear hW0
 go_wp2_with (first
  | (go_at_call 76;with_reducible (refine Calls.mono H1.out ?_);rintro e w1 ⟨A,c,rfl,hc,ps,hp1,hp2,hp3,hb1⟩
     obtain ⟨b,off,A0,c0,rfl,_,k0,k1,k2,_,k4⟩:=HAR.out _ _ _ hp2 hp1 hp3 0 (by decide);rw [Nat.add_zero] at k0;have HI:=Lib.hid k1;have HZ:=Lib.hid k2;have HC:=Lib.hid k4;have HSE:=Lib.hid hp2;have HPN:=Lib.hid hp1;have HPS:=Lib.hid hp3;have HCC:=Lib.hid hc;have HB1:=Lib.hid hb1;clear k1 k2 k4 hp1 hp2 hp3 hc hb1 H1 HAR)
  | (go_at_call 86;with_reducible (refine Calls.mono (HDE.out _ _ _ HI.out HZ.out HC.out) ?_);rintro e w2 ⟨rfl,hb2⟩;have HB2:=Lib.hid hb2;have l2:=Lib.hid hb2.size;clear hb2 k0)
  | (refine jad rfl 135 _ _ rfl w2.heap.size LN rfl rfl 135 _ (HNEW.out _) hinf hold.out hone (HAL.out _) (Nat.le_refl _) ?_;intro W3 hW3 hbW3 hkW hsW
     have HL3:Hid (∀ X,Below W3.heap.size W3 X->X.cell? ⟨w2.heap.size,0,none⟩=some (.int .i64 G)):=fun X hb=>HLC.out _ _ _ hW3 hb
     have HB3:=Lib.hid (jaa HB2.out hbW3);have hlt3:=(Array.getElem?_eq_some_iff.1 hW3).1;clear hW3 hkW hsW hbW3 HLC HDE HI HZ HC HNEW HAL HB2))
 have HG3:Hid (∀ X,Below W3.heap.size W3 X->X.heap[w.heap.size]? = some (.cells #[.int .i64 0,.int .i64 0,.slice none 0 0] 87 (0,0))):=fun X hb=>HG0.out X (jaa (jaa HB1.out HB3.out) hb)
 have HBW:Hid (Below w.heap.size w W3):=jaa HB0.out (jaa HB1.out HB3.out);have HR3:Hid (∀ W,Below W3.heap.size W3 W->Calls Tryz.prog 87 #[.slice (some ⟨b,off,none⟩) 192 c,.int .i64 G] W fun e w'=>∃ A' c',e=.returned (.slice A' NW c')/\NW<=c'/\jaL w' w'.heap.size A' WH/\Below W.heap.size W w'):=fun W hb=>HRE.out _ _ _ _ _ HSE.out HPN.out HPS.out HCC.out (jaa HB3.out hb)
 obtain ⟨q,hq⟩:∃ q,q=w2.heap.size:=⟨_,rfl⟩;rw [<- hq] at HL3 hlt3 ⊢
 have HQ:Hid (w.heap.size < q/\q < W3.heap.size):=⟨by
  have h1:=(Array.getElem?_eq_some_iff.1 (HG0.out W0 (Below.refl _ _))).1;have h2:=HB1.out.size;have h3:=l2.out;have h4:w2.heap.size < W3.heap.size:=hq ▸ hlt3
  omega,hlt3⟩
 have HR5:Hid (∀ X,Below W3.heap.size W3 X->(X.cell? ⟨w.heap.size,0,none⟩=some (.int .i64 0)/\X.cell? ⟨w.heap.size,1,none⟩=some (.int .i64 0)/\X.cell? ⟨w.heap.size,2,none⟩=some (.slice none 0 0)) /\
   X.frozen? ⟨w.heap.size,0,none⟩=false/\X.frozen? ⟨w.heap.size,1,none⟩=false/\X.frozen? ⟨w.heap.size,2,none⟩=false):=fun X hb=>by
  have q2:=HG3.out X hb;exact ⟨jai q2,frozen_of_row _ _ _ _ _ q2,frozen_of_row _ _ _ _ _ q2,frozen_of_row _ _ _ _ _ q2⟩
 have HFS:Hid (∀ (X:World) (x y z:Value),Below W3.heap.size W3 X->(((X.setCell ⟨w.heap.size,0,none⟩ x).setCell ⟨w.heap.size,1,none⟩ y).setCell ⟨w.heap.size,2,none⟩ z).cell? ⟨q,0,none⟩=some (.int .i64 G)):=fun X x y z hb=>by
  rw [World.cell?_of_block (jaq w.heap.size q (Nat.ne_of_gt HQ.out.1) [x,y,z] 0 X)];exact HL3.out X hb
 have hbx:Below W3.heap.size W3 W3.drew:=(Below.refl _ _).drew;clear hq hlt3 HG0 HB0 HB1 HB3 HSE HPN HPS HCC HRE l2
 go_region_held3 (fun X=>X.cell? ⟨q,0,none⟩=some (.int .i64 G))
  (first | exact HL3.out _ hbx | exact HFS.out _ _ _ _ hbx)
  (first
   | (go_at_call 87;with_reducible (refine Calls.mono (HR3.out _ hbx) ?_);rintro e w4 ⟨A4,c4,rfl,r4,s4,hb4⟩;have hbx:Below W3.heap.size W3 w4:=hbx.trans (hb4.mono hbx.size);obtain ⟨⟨g0,g1,g2⟩,g3,g4,g5⟩:=HR5.out _ hbx)
   | fail)
 go_wp2;have hs:=jd4 (.int .i64 (a:Int)) (.int .i64 G) (.slice A4 NW c4) (HG3.out w4 hbx);refine bodyPost_ret (jab rfl _ _ w.heap.size 87 _ (0,0) _ rfl hs.1 Tryz.underlying87 rfl (by kernel_rfl)) rfl ?_;have hbel:=jae (jaa HBW.out hbx) hs.2 (jaa HBW.out hbx).size (Nat.le_refl _);refine ⟨A4,c4,rfl,r4,?_,hbel⟩;have h3:=s4.other HWN.out (HG3.out w4 hbx) (fun k hk=>jaq w.heap.size k hk [.int .i64 (a:Int),.int .i64 G,.slice A4 NW c4] 0 w4);exact h3.more hs.2.size
end
def ICs (l:List Int):Array Value:=(l.map (Value.int .i64)).toArray
theorem jqu {l:List Int} {i:Nat} (h:i < l.length):(ICs l)[i]? = some (.int .i64 (l.getD i 0)):=by
 simp [ICs,List.getD_eq_getElem?_getD,h]
def jgi (t:TypeId) (g:Nat) (l:List Int) (w:World):Prop:=w.heap[g]? = some (.cells (ICs l) t (0,0))
section
variable {t:TypeId} {g:Nat} {l:List Int} {w w':World}
theorem jgi.cell (h:jgi t g l w) {i:Nat} (hi:i < l.length):w.cell? ⟨g,i,none⟩=some (.int .i64 (l.getD i 0)):=by
 rw [cell_of_row _ _ _ _ _ _ h,jqu hi]
theorem jgi.lt (h:jgi t g l w):g < w.heap.size:=(Array.getElem?_eq_some_iff.1 h).1
theorem jgi.ints (h:jgi t g l w):jaO w w.heap.size .i64 (some ⟨g,0,none⟩) l:=fun i hi =>
 ⟨g,0,rfl,h.lt,by rw [Nat.zero_add];exact h.cell hi⟩
theorem jgi.below {B:Nat} (h:jgi t g l w) (hb:Below B w w') (hg:g < B):jgi t g l w':=by
 show _=_;rw [hb.block g hg];exact h
theorem jgi.new (w:World) (t:TypeId) (l:List Int):jgi t w.heap.size l (w.alloc (.cells (ICs l) t)):=heap_alloc_new w (.cells (ICs l) t)
end
end Go.Proofs.YtbnhkplhmanmoaaGreat
