/- . -/
import Derived.Test.YtbnhkplhmanmoaaGreatLineC2G
import Derived.Test.YtbnhkplhmanmoaaGreatTkG
import Derived.Test.YtbnhkplhmanmoaaGreatChecked
import Derived.Lib.BufferWrite
import Derived.Deep.OwnRows
import Derived.Deep.WholeRow
import Derived.Deep.MidRow
import Derived.Laws.CopyOwn
import Derived.Test.YtbnhkplhmanmoaaGreatVaultAskG
import Derived.Lib.SlBytesConst
import Derived.Deep.RegionHeld3
import Derived.Deep.TreeCalls
namespace Go.Proofs.YtbnhkplhmanmoaaGreat
open Go.RowKit
set_option maxHeartbeats 6400000
set_option maxRecDepth 20000
def jkS (l:Ln):List Int:=[l.g,l.s,jcE l.last,l.r.k,l.r.a,l.r.b,l.r.c,l.r.d,(l.r.key.size:Nat)]
def joa (l:Ln):List Int:=21324 :: jkS l
theorem jjT {l:Ln} (hE:jdj l=0):∀ i,i < 9->0<=(jkS l).getD i 0/\(jkS l).getD i 0<=1099511627776:=by
 obtain ⟨hr,hk⟩:=jbB.1 hE;obtain ⟨q1,q2,q3,q4,q5,q6,q7⟩:=(jcq l).1 hr;have hlast:0<=jcE l.last/\jcE l.last<=1:=by unfold jcE;split <;> decide
 intro i hi
 match i,hi with
 | 0,_=>show 0<=l.g/\l.g<=_;omega
 | 1,_=>show 0<=l.s/\l.s<=_;omega
 | 2,_=>show 0<=jcE l.last/\jcE l.last<=_;omega
 | 3,_=>show 0<=l.r.k/\l.r.k<=_;omega
 | 4,_=>show 0<=l.r.a/\l.r.a<=_;omega
 | 5,_=>show 0<=l.r.b/\l.r.b<=_;omega
 | 6,_=>show 0<=l.r.c/\l.r.c<=_;omega
 | 7,_=>show 0<=l.r.d/\l.r.d<=_;omega
 | 8,_=>show 0<=((l.r.key.size:Nat):Int)/\((l.r.key.size:Nat):Int)<=_;omega
theorem Tryz.infoU64L:(Tryz.prog.info? 163).map (fun i=>(i.zero,i.size,i.bytes))=some (some (.int .u64 0),1,8):=by kernel_rfl
theorem jjg (l : Ln) (w : World) (hE : jdj l = 0) :
    Calls Tryz.prog 114 #[.agg (lnV l)] w fun e w' => ∃ A c, e = .returned (.slice A 10 c) /\ jaO w' w'.heap.size .u64 A (joa l) /\ Below w.heap.size w w' := by
  obtain ⟨i0, hi8, hz0, hz1, hz2⟩ := info_parts Tryz.infoU64L;have HFL := Lib.hid (fun W => jm8 l.last W);have HTB := Lib.hid (jjT hE);have HTT : Hid (ICs (jkS l) = #[.int .i64 l.g, .int .i64 l.s, .int .i64 (jcE l.last), .int .i64 l.r.k, .int .i64 l.r.a, .int .i64 l.r.b, .int .i64 l.r.c, .int .i64 l.r.d, .int .i64 (l.r.key.size : Nat)]) := rfl;obtain ⟨T, hT⟩ : ∃ T, T = jkS l := ⟨_, rfl⟩;have nT : T.length = 9 := by rw [hT]; rfl
  have HNL : Hid (joa l = 21324 :: T) := by rw [hT]; rfl
  rw [<- hT] at HTB HTT;obtain ⟨la, hla⟩ : ∃ x, x = jcE l.last := ⟨_, rfl⟩;rw [<- hla] at HFL HTT;clear hE hT hla;have hinf : (Tryz.prog.info? 56).map (·.size) = some (rcV l.r).size := Tryz.infoRec;have hinf2 : (Tryz.prog.info? 56).map (·.size) = some (rcV l.r).toList.length := Tryz.infoRec;have hone := jdN l.r;have HRA : Hid ((w.alloc (.cells (lnV l) 135)).rangeAt w.heap.size 3 (rcV l.r).toList) := (jav (heap_alloc_new w (.cells (lnV l) 135)) (Below.refl _ _)).2.2.2
  have HLN : Hid (∀ W W' : World, W.heap[w.heap.size]? = some (.cells (lnV l) 135 (0, 0)) -> Below W.heap.size W W' -> W'.cell? ⟨w.heap.size, 0, none⟩ = some (.int .i64 l.g) /\ W'.cell? ⟨w.heap.size, 1, none⟩ = some (.int .i64 l.s) /\ W'.cell? ⟨w.heap.size, 2, none⟩ = some (.bool l.last)) :=
    fun W W' h hb => ⟨(jav h hb).1, (jav h hb).2.1, (jav h hb).2.2.1⟩
  have HRC : Hid (∀ W W' : World, W.heap[w.heap.size + 1]? = some (.cells (rcV l.r) 56 (0, 0)) -> Below W.heap.size W W' -> W'.cell? ⟨w.heap.size + 1, 0, none⟩ = some (.int .i64 l.r.k) /\ W'.cell? ⟨w.heap.size + 1, 1, none⟩ = some (.int .i64 l.r.a) /\ W'.cell? ⟨w.heap.size + 1, 2, none⟩ = some (.int .i64 l.r.b) /\ W'.cell? ⟨w.heap.size + 1, 3, none⟩ = some (.int .i64 l.r.c) /\ W'.cell? ⟨w.heap.size + 1, 4, none⟩ = some (.int .i64 l.r.d) /\ W'.cell? ⟨w.heap.size + 1, 5, none⟩ = some (.string l.r.key)) :=
    fun W W' h hb => jdc h hb
  have HZ : Hid (((w.alloc (.cells (lnV l) 135)).alloc (.cells #[.int .i64 0, .int .i64 0, .int .i64 0, .int .i64 0, .int .i64 0, .string ⟨#[]⟩] 56)).heap[w.heap.size + 1]? = some (.cells #[.int .i64 0, .int .i64 0, .int .i64 0, .int .i64 0, .int .i64 0, .string ⟨#[]⟩] 56 (0, 0))) := by
    have := heap_alloc_new (w.alloc (.cells (lnV l) 135)) (.cells #[.int .i64 0, .int .i64 0, .int .i64 0, .int .i64 0, .int .i64 0, .string ⟨#[]⟩] 56)
    rwa [show (w.alloc (.cells (lnV l) 135)).heap.size = w.heap.size + 1 by simp] at this
  have HQ : Hid (∀ o, ((w.alloc (.cells (lnV l) 135)).alloc o).heap[w.heap.size]? = some (.cells (lnV l) 135 (0, 0))) := fun o => by
    rw [Below.heap_alloc _ _ _ (by simp)]; exact heap_alloc_new _ _
  have HB : Hid (∀ o o', Below w.heap.size w ((w.alloc o).alloc o')) := fun o o' => ((Below.refl _ _).alloc (Nat.le_refl _) _).alloc (by simp) _
  obtain ⟨L, hL⟩ : ∃ L, L = lnV l := ⟨_, rfl⟩;simp only [<- hL] at HRA HLN HZ HQ;rw [<- hL];obtain ⟨R, hR⟩ : ∃ L, L = rcV l.r := ⟨_, rfl⟩;rw [<- hR] at hinf hinf2 hone HRA;simp only [<- hR] at HRC;have hRT : R.toList.toArray = R := Array.toArray_toList;obtain ⟨C, hC⟩ : ∃ L, L = R.toList := ⟨_, rfl⟩;rw [<- hC] at hinf2 HRA hRT;have hold : Hid (6 = R.size) := by rw [hR]; rfl
  clear hL hR hC;go_enter Tryz.func114, Tryz.ntmps114
  go_wp2_with (first
    | (refine wpList_load_mid rfl 56 _ rfl w.heap.size 3 rfl C _ HRA.out Tryz.underlying56 rfl hinf2 ?_; rw [hRT])
    | (refine jad rfl 56 _ _ rfl (w.heap.size + 1) R rfl rfl 56 _ HZ.out hinf hold.out hone (HB.out _ _) (Nat.le_succ _) ?_; intro W hW hbW hkW hsW
       have hqW := (hkW _ (Nat.ne_of_lt (Nat.lt_succ_self _))).trans (HQ.out _);obtain ⟨l0, l1, l2⟩ := HLN.out W W hqW (Below.refl _ _);obtain ⟨r0, r1, r2, r3, r4, r5⟩ := HRC.out W W hW (Below.refl _ _);have HW := Lib.hid hW;have HQW := Lib.hid hqW;clear hW hkW hsW hqW))
  have hba : Below W.heap.size W (W.alloc (.cells #[.int .u64 21324] 163)) := (Below.refl _ _).alloc (Nat.le_refl _) _;have hbx := hba.drew;have hbb := fun o : Obj => (hba.alloc hba.size o).drew
  have HKS : Hid (∀ V, Below W.heap.size W V -> V.cell? ⟨w.heap.size, 0, none⟩ = some (.int .i64 l.g) /\ V.cell? ⟨w.heap.size, 1, none⟩ = some (.int .i64 l.s) /\ V.cell? ⟨w.heap.size, 2, none⟩ = some (.bool l.last) /\ V.cell? ⟨w.heap.size + 1, 0, none⟩ = some (.int .i64 l.r.k) /\ V.cell? ⟨w.heap.size + 1, 1, none⟩ = some (.int .i64 l.r.a) /\ V.cell? ⟨w.heap.size + 1, 2, none⟩ = some (.int .i64 l.r.b) /\ V.cell? ⟨w.heap.size + 1, 3, none⟩ = some (.int .i64 l.r.c) /\ V.cell? ⟨w.heap.size + 1, 4, none⟩ = some (.int .i64 l.r.d) /\ V.cell? ⟨w.heap.size + 1, 5, none⟩ = some (.string l.r.key)) := fun V hb => by
    obtain ⟨a0, a1, a2⟩ := HLN.out W _ HQW.out hb;obtain ⟨s0, s1, s2, s3, s4, s5⟩ := HRC.out W _ HW.out hb;exact ⟨a0, a1, a2, s0, s1, s2, s3, s4, s5⟩
  clear l0 l1 l2 r0 r1 r2 r3 r4 r5
  go_region_held3 (fun V => V.cell? ⟨w.heap.size, 0, none⟩ = some (.int .i64 l.g) /\ V.cell? ⟨w.heap.size, 1, none⟩ = some (.int .i64 l.s) /\ V.cell? ⟨w.heap.size, 2, none⟩ = some (.bool l.last) /\ V.cell? ⟨w.heap.size + 1, 0, none⟩ = some (.int .i64 l.r.k) /\ V.cell? ⟨w.heap.size + 1, 1, none⟩ = some (.int .i64 l.r.a) /\ V.cell? ⟨w.heap.size + 1, 2, none⟩ = some (.int .i64 l.r.b) /\ V.cell? ⟨w.heap.size + 1, 3, none⟩ = some (.int .i64 l.r.c) /\ V.cell? ⟨w.heap.size + 1, 4, none⟩ = some (.int .i64 l.r.d) /\ V.cell? ⟨w.heap.size + 1, 5, none⟩ = some (.string l.r.key))
    (first
      | exact HKS.out _ hba
      | exact HKS.out _ hbx
      | exact HKS.out _ (hbb _))
    (first
      | (go_at_call 143; with_reducible (refine Calls.mono (HFL.out _) ?_); rintro e wq ⟨rfl, rfl⟩)
      | fail)
  rw [<- HTT.out]
  have HC : Hid (((W.alloc (.cells #[.int .u64 21324] 163)).alloc (.cells (ICs T) 3)).drew.ownsRow W.heap.size 163 1 (.slice (some ⟨W.heap.size, 0, none⟩) 1 1) 1 [.int .u64 21324] /\ jgi 3 (W.heap.size + 1) T ((W.alloc (.cells #[.int .u64 21324] 163)).alloc (.cells (ICs T) 3)).drew /\ Below W.heap.size W ((W.alloc (.cells #[.int .u64 21324] 163)).alloc (.cells (ICs T) 3)).drew) := by
    refine ⟨((World.ownsRow_lit (base := W.heap.size) (e := 163) (size := 1) W #[.int .u64 21324] 1 (Nat.le_refl _) (by decide) rfl).alloc _), ?_, hbb _⟩;have h := jgi.new (W.alloc (.cells #[.int .u64 21324] 163)) 3 T;rw [show (W.alloc (.cells #[.int .u64 21324] 163)).heap.size = W.heap.size + 1 by simp] at h;exact h
  obtain ⟨V, hV⟩ : ∃ V, V = ((W.alloc (.cells #[.int .u64 21324] 163)).alloc (.cells (ICs T) 3)).drew := ⟨_, rfl⟩;rw [<- hV] at HC ⊢;have HNK : Hid (∀ k, k < 9 -> T.take (k + 1) = T.take k ++ [T.getD k 0]) := fun k hk => jb9 T k (by omega)
  have HT9 : Hid (T.take 9 = T) := List.take_of_length_le (by omega);have HNT := Lib.hid nT;have hbw := Lib.hid hbW;clear hV HTT HKS hba hbb hbx hbW HLN HRC HRA HZ HQ HB HFL hinf hinf2 hone hRT hold HW HQW nT;go_wp2
  go_loopw [4, 32] (fun v i wr => ∃ k : Nat, k <= 9 /\ i = .int .i64 k /\ (∃ A c, v = .slice A (1 + k) c) /\ Hid (wr.ownsRow W.heap.size 163 1 v (1 + k) ((21324 :: T.take k).map (Value.int .u64)) /\ v.ownBlock ≠ some (W.heap.size + 1) /\ jgi 3 (W.heap.size + 1) T wr /\ Below W.heap.size W wr)) (fun _ i _ => 9 - (intOf i).toNat)
  case atStart =>
    refine ⟨0, Nat.zero_le _, rfl, ⟨_, _, rfl⟩, HC.out.1, fun h => ?_, HC.out.2⟩;have : W.heap.size = W.heap.size + 1 := by injection h
    omega
  case round =>
    obtain ⟨k, hk, rfl, ⟨A1, c1, rfl⟩, hS⟩ := hrel;clear HC;by_cases hlt : k < 9
    · obtain ⟨hown, hne, hrow, hbel⟩ := hS.out
      have hq0 := hrow.cell (i := k) (by have := HNT.out; omega);obtain ⟨x0, x1⟩ := HTB.out k hlt;have HK1 := Lib.hid (HNK.out k hlt);have k1 : (k : Int) < 9 := by omega
      have k0 : (0 : Int) <= (k : Int) := by omega
      have hq1 := hrow.lt;obtain ⟨x, hx⟩ : ∃ x, x = T.getD k 0 := ⟨_, rfl⟩;rw [<- hx] at hq0 x0 x1 HK1;have hw : IntKind.u64.wrap x = x := IntWalk.u64_in _ (by omega);have hHR := Lib.hid (And.intro hne hrow);clear hx hS hne hrow
      go_wp2_with (at_builtin; refine wpList_append_own_at _ rfl _ _ 159 rfl W.heap.size 163 i0 (.int .u64 0) 1 8 Tryz.underlying159 hi8 hz0 hz1 hz2 rfl (by decide) _ _ _ rfl (hown.alloc _) ⟨wr.heap.size, 0, none⟩ 1 1 [_] rfl rfl (cell_one_new _ _ _) ?c2 ?c3 ?c4 ?c5 ?_)
      case c2 => intro u hu; simp at hu; subst hu; rfl
      case c3 => unfold maxLen; omega
      case c4 => omega
      case c5 => have := hbel.size; simp; omega
      intro v1 w1 hown1 hgrow _ hvb
      have R : Hid (w1.ownsRow W.heap.size 163 1 v1 (1 + (k + 1)) ((21324 :: T.take (k + 1)).map (Value.int .u64)) /\ v1.ownBlock ≠ some (W.heap.size + 1) /\ jgi 3 (W.heap.size + 1) T w1 /\ Below W.heap.size W w1) := by
        obtain ⟨hne, hrow⟩ := hHR.out;refine ⟨?_, ?_, ?_, (hbel.alloc hbel.size _).grown hgrow (by have := hbel.size; simp; omega) fun q hq => (hown.lt q hq).1⟩
        · have e : (21324 :: (T.take k ++ [x])).map (Value.int .u64) = Value.int .u64 21324 :: ((T.map (Value.int .u64)).take k ++ [Value.int .u64 x]) := by simp [List.map_take]
          rw [HK1.out, <- Nat.add_assoc, e]; exact hown1
        · rcases hvb with h | h
          · rw [h]; exact hne
          · rw [h]; intro e; injection e with e; simp at e; omega
        · show _ = _
          rw [hgrow.block _ (by simp; omega) (fun e => hne e.symm), Below.heap_alloc _ _ _ hq1]; exact hrow
      obtain ⟨A3, c3, rfl⟩ := jeb R.out.1;clear hown1 hgrow hown hbel hHR hvb hq0 hq1 hw;go_wp2;go_roundw
      case rel => first | exact ⟨k + 1, by omega, by go_num, ⟨A3, c3, rfl⟩, R⟩ | ((repeat apply Exists.intro); exact ⟨⟨k + 1, by omega, by go_num, ⟨A3, c3, rfl⟩, R⟩, rfl⟩)
      case measure => first | (simp [intOf]; done) | (simp [intOf]; omega)
    · have hk9 : k = 9 := by omega
      subst hk9
      have HR : Hid (jaO wr wr.heap.size .u64 A1 (joa l) /\ Below w.heap.size w wr) := by
        obtain ⟨hown, _, _, hbel⟩ := hS.out;rw [HT9.out] at hown;refine ⟨?_, hbw.out.trans (hbel.mono hbw.out.size)⟩;rw [HNL.out]
        exact jaO.of_own (n := 10) (c := c1) (by rw [(by rw [List.length_cons, HNT.out] : (21324 :: T).length = 10)]; exact hown)
      clear hS;go_wp2;go_ret;exact ⟨A1, c1, rfl, HR.out.1, HR.out.2⟩
def UB (l:List Int):Array Value:=(l.map (Value.int .u8)).toArray
theorem jqF {l:List Int} {i:Nat} (h:i < l.length):(UB l)[i]? = some (.int .u8 (l.getD i 0)):=by
 simp [UB,List.getD_eq_getElem?_getD,h]
def jc7 (t:TypeId) (g:Nat) (l:List Int) (w:World):Prop:=w.heap[g]? = some (.cells (UB l) t (0,0))
section
variable {t:TypeId} {g:Nat} {l:List Int} {w w':World}
theorem jc7.cell (h:jc7 t g l w) {i:Nat} (hi:i < l.length):w.cell? ⟨g,i,none⟩=some (.int .u8 (l.getD i 0)):=by
 rw [cell_of_row _ _ _ _ _ _ h,jqF hi]
theorem jc7.thaw (h:jc7 t g l w) (i:Nat):w.frozen? ⟨g,i,none⟩=false:=frozen_of_row _ _ _ _ _ h
theorem jc7.lt (h:jc7 t g l w):g < w.heap.size:=(Array.getElem?_eq_some_iff.1 h).1
theorem jc7.ints (h:jc7 t g l w):jaO w w.heap.size .u8 (some ⟨g,0,none⟩) l:=fun i hi =>
 ⟨g,0,rfl,h.lt,by rw [Nat.zero_add];exact h.cell hi⟩
theorem jc7.below {B:Nat} (h:jc7 t g l w) (hb:Below B w w') (hg:g < B):jc7 t g l w':=by
 show _=_;rw [hb.block g hg];exact h
theorem jc7.new (w:World) (t:TypeId) (l:List Int):jc7 t w.heap.size l (w.alloc (.cells (UB l) t)):=heap_alloc_new w (.cells (UB l) t)
end
def jeC (cur:List Int) (off:Nat) (l:List Int):List Int:=cur.take off ++ (l ++ cur.drop (off + l.length))
theorem ji3 (cur l:List Int) (off:Nat):(Go.splice (cur.map (Value.int .u8)) off (l.map (Value.int .u8))).toArray=UB (jeC cur off l):=by
 unfold Go.splice UB jeC;simp only [List.map_append,List.map_take,List.map_drop,List.length_map]
theorem Tryz.infoU8B:(Tryz.prog.info? 5).map (fun i=>(i.zero,i.size,i.bytes))=some (some (.int .u8 0),1,1):=by kernel_rfl
theorem jl9 (n:Nat) (hn:n<=100000) (w:World):(Instr.makeSlice 54 (.int .i64 (n:Int)) (.int .i64 (n:Int))).run Tryz.prog w=.ok (.slice (some ⟨w.heap.size,0,none⟩) n n) (w.alloc (.cells (UB (List.replicate n 0)) 5)):=by
 have h:=run_make_row' (P:=Tryz.prog) 54 5 (.int .u8 0) 1 Tryz.underlying54 Tryz.infoU8B rfl .i64 .i64 n (by omega) (by omega) w;rw [show madeCells #[Value.int .u8 0] n=UB (List.replicate n 0) from Array.toList_inj.1 (by rw [toList_madeCells_one];simp [UB])] at h;exact h
theorem ji1 {w:World} {B:Nat} {A:Option Addr} {l:List Int} (h:jaO w B .u8 A l) (h0:0 < l.length):∃ ad,A=some ad/\∀ j v,(l.map (Value.int .u8))[j]? = some v->w.cell? (ad.add j)=some v:=by
 obtain ⟨b,off,rfl,_,hc⟩:=h.at_ h0;refine ⟨_,rfl,fun j v hv=>?_⟩
 have hj:j < l.length:=by
  rcases Nat.lt_or_ge j l.length with q | q
  ·exact q
  ·rw [List.getElem?_eq_none (by rw [List.length_map];exact q)] at hv;cases hv
 have hadd:(⟨b,off,none⟩:Addr).add j=⟨b,off + j,none⟩:=by unfold Addr.add;split <;> simp_all
 rw [hadd,hc j hj,<- hv,List.getElem?_map,List.getElem?_eq_getElem hj];simp [List.getD_eq_getElem?_getD,hj]
theorem jdh {w:World} {ops:Array Oper} {rest:List Oper} {o:Oper} {a:Act} {Q:Exit->Act->World->Prop} (hgd:o.guard=none) (d s:Operand)
  (ho:o.op=.call { callee:=.builtin .copy,args:=#[d,s],argTypes:=#[54,54] }) (g off:Nat) (dn dc:Nat) (A:Option Addr) (n c:Nat) (hd:a.eval d=.slice (some ⟨g,off,none⟩) dn dc) (hs:a.eval s=.slice A n c)
  (l cur new:List Int) (hn:l.length=n) (hle:n<=dn) (t:TypeId) (hg:jc7 t g cur w) (B1:Nat) (hI:jaO w B1 .u8 A l) (hfit:off + n<=cur.length) (hnew:jeC cur off l=new) (B:Nat) (w0:World) (hb:Below B w0 w) (hBg:B<=g)
  (h:∀ w',jc7 t g new w'->Below B w0 w'->wpList Tryz.prog ops Q rest (a.put o.dst (goInt n)) w'):wpList Tryz.prog ops Q (o :: rest) a w:=by
 subst hn hnew;refine wpList_copy_splice hgd d s 54 54 ho 5 Tryz.underlying54 (by kernel_rfl) _ _ dn dc l.length c hd hs g off (cur.map (Value.int .u8)) t hg (l.map (Value.int .u8)) ?_ (fun h0=>?_) ?_ ?_ B w0 hb hBg fun w' q1 q2=>?_
 ·rw [List.length_map];exact (Nat.min_eq_left hle).symm
 ·exact ⟨rfl,ji1 hI (by simpa using h0)⟩
 ·rw [List.length_map,List.length_map];exact hfit
 ·intro v hv;obtain ⟨z,_,rfl⟩:=List.mem_map.1 hv;rfl
 ·have q3:=q1.out;rw [ji3] at q3;have e:=h w' q3 q2;rw [List.length_map];exact e
def jo3 (s:ByteArray):List Int:=s.data.toList.map fun b=>(b.toNat:Int)
theorem jm5 (s:ByteArray):(jo3 s).length=s.size:=by unfold jo3;rw [List.length_map];rfl
theorem jf8 {ops:Array Oper} {o:Oper} {a:Act} {w:World} {K:Act->World->Prop} {Q:Exit->Act->World->Prop} {E:Prop} (hgd:o.guard=none) (d s:Operand)
  (ho:o.op=.call { callee:=.builtin .copy,args:=#[d,s],argTypes:=#[54,9] }) (g off:Nat) (dn dc:Nat) (x:ByteArray) (hd:a.eval d=.slice (some ⟨g,off,none⟩) dn dc) (hs:a.eval s=.string x)
  (cur new:List Int) (hle:x.size<=dn) (t:TypeId) (hg:jc7 t g cur w) (hfit:off + x.size<=cur.length) (hnew:jeC cur off (jo3 x)=new) (B:Nat) (w0:World) (hb:Below B w0 w) (hBg:B<=g)
  (h:∀ w',Hid (jc7 t g new w')->Below B w0 w'->K (a.put o.dst (goInt x.size)) w') :
  if Region.wanted o (yielded ops a.tmps)=true then Oper.wp Tryz.prog o a w K Q else E:=by
 have hw:Region.wanted o (yielded ops a.tmps)=true:=by simp [Region.wanted,hgd]
 rw [if_pos hw];subst hnew;have hcur:(UB cur).size=cur.length:=by simp [UB]
 have hrun:=Lib.run_copy_row_string (P:=Tryz.prog) w 54 9 o.type 5 g off dn dc x (UB cur) t Tryz.underlying54 (by kernel_rfl) hg hle (by rw [hcur];exact hfit);unfold Oper.wp;simp [execOp,ho,resolve,invoke,builtin,hd,hs,hrun,Result.andThen];refine h _ ?_ (below_setRow hb hBg _);have e:=setRow_heap w g (UB cur) ((UB cur).toList.take off ++ Lib.byteCells x.data.toList ++ (UB cur).toList.drop (off + x.size)).toArray t (0,0) hg
 have e2:((UB cur).toList.take off ++ Lib.byteCells x.data.toList ++ (UB cur).toList.drop (off + x.size)).toArray=UB (jeC cur off (jo3 x)):=by
  unfold UB jeC;have e3:Lib.byteCells x.data.toList=(jo3 x).map (Value.int .u8):=by unfold Lib.byteCells jo3;rw [List.map_map];rfl
  rw [e3,jm5];simp
 show _=_;rw [<- e2];simpa using e
def U (zs:List Nat):Array Value:=(zs.map fun z:Nat=>Value.int .u32 (z:Int)).toArray
def Row (w:World) (g:Nat) (t:TypeId) (zs:List Nat):Prop:=w.heap[g]? = some (.cells (U zs) t (0,0))
theorem jgv (zs:List Nat):(U zs).size=zs.length:=by simp [U]
theorem jpU (zs:List Nat):(U zs).all (·.oneCell')=true:=by
 rw [Array.all_eq_true_iff_forall_mem];intro v hv;simp only [U,List.mem_toArray,List.mem_map] at hv;obtain ⟨z,_,rfl⟩:=hv;rfl
theorem jqQ (zs:List Nat) (i:Nat) (hi:i < zs.length):(U zs)[i]? = some (.int .u32 (zs.getD i 0:Nat)):=by
 simp [U,List.getElem?_eq_getElem hi,List.getD_eq_getElem?_getD]
theorem jqD (zs:List Nat) (i z:Nat):(U zs).setIfInBounds i (.int .u32 (z:Int))=U (zs.set i z):=by
 simp [U,List.map_set]
section
variable {w w':World} {g:Nat} {t:TypeId} {zs:List Nat}
theorem Row.cell (h:Row w g t zs) {i:Nat} (hi:i < zs.length):w.cell? ⟨g,i,none⟩=some (.int .u32 (zs.getD i 0:Nat)):=by
 rw [cell_of_row w g i _ t _ h,jqQ zs i hi]
theorem Row.lt (h:Row w g t zs):g < w.heap.size:=by
 by_cases hlt:g < w.heap.size
 ·exact hlt
 ·have hn:w.heap[g]? = none:=by simp;omega
  rw [Row,hn] at h;cases h
theorem Row.new (w:World) (t:TypeId) (zs:List Nat):Row (w.alloc (.cells (U zs) t)) w.heap.size t zs:=heap_alloc_new _ _
theorem Row.alloc (h:Row w g t zs) (o:Obj):Row (w.alloc o) g t zs:=(Below.heap_alloc w o g h.lt).trans h
theorem Row.set (h:Row w g t zs) (i z:Nat):Row (w.setCell ⟨g,i,none⟩ (.int .u32 (z:Int))) g t (zs.set i z):=by
 rw [Row,heap_setCell_same w g i _ t _ h,jqD]
theorem Row.other (h:Row w g t zs) (a:Addr) (v:Value) (ha:g≠a.block):Row (w.setCell a v) g t zs:=(heap_setCell_other w a g v ha).trans h
theorem Row.laid (h:Row w g t zs) (ys:List Nat):Row (w.setRow g (U ys)) g t ys:=setRow_heap w g _ _ t _ h
theorem Row.free (h:Row w g t zs) (j:Nat):w.frozen? ⟨g,j,none⟩=false:=frozen_of_row w g j _ t h
end
theorem Row.new' (w:World) (t:TypeId) (g:Nat) (zs:List Nat) {cs:Array Value} (hg:g=w.heap.size) (hc:cs=U zs):Row (w.alloc (.cells cs t)) g t zs:=by
 subst hg hc;exact Row.new w t zs
theorem jmX (q:Nat) (w:World) (hql:q < 2 ^ 32) :
  Calls Tryz.prog 179 #[.int .u32 (q:Int)] w fun e w'=>e=.returned (.int .u32 (jaN q:Nat))/\w=w':=by
 have HQ:Hid (jcX 8 q=jaN q):=rfl;go_enter Tryz.func179,Tryz.ntmps179;go_wp2
 go_loop [0,4] (fun r i=>∃ j:Nat,j<=8/\i=.int .i64 j/\r=.int .u32 (jcX j q:Nat)) (fun _ i=>8 - (intOf i).toNat)
 case atStart=>exact ⟨0,by omega,rfl,rfl⟩
 case round =>
  obtain ⟨j,hj,rfl,rfl⟩:=hrel;by_cases hj8:j < 8
  ·have hpl:=jj9 (n:=j) hql;have HB:=Lib.hid (jcp j q);obtain ⟨p,hp⟩:∃ p,p=jcX j q:=⟨_,rfl⟩;rw [<- hp] at hpl HB ⊢;clear hp;have hpl1:(p:Int)<=4294967295:=by omega
   have hp2:=jnI (p / 2) 3988292384 (by omega) (by decide);have ed:((p / 2:Nat):Int)=(p:Int) / 2:=by omega
   rw [ed] at hp2;have han:=u32_and_nat p 1 (by omega) (by decide);rw [Nat.and_one_is_mod] at han;rcases Nat.mod_two_eq_zero_or_one p with ho | ho
   ·rw [ho] at han;have HO:=Lib.hid (jim ho);clear ho hp2 ed;have ha:bits .and .u32 (p:Int) 1=0:=han;clear han;go_wp2;go_round
    case rel=>exact ⟨j + 1,by omega,by go_num,by rw [HB.out,HO.out];go_num⟩
    case measure=>simp [intOf];omega
   ·rw [ho] at han;have HO:=Lib.hid (ji4 ho);clear ho ed;have ha:bits .and .u32 (p:Int) 1=1:=han;clear han;go_wp2;go_round
    case rel=>exact ⟨j + 1,by omega,by go_num,by rw [HB.out,HO.out];exact congrArg _ hp2⟩
    case measure=>simp [intOf];omega
  ·have hj9:j=8:=by omega
   subst hj9;rw [HQ.out];go_wp2;go_ret;exact ⟨rfl,rfl⟩
def jiC (l zs:List Nat) (j:Nat):List Nat:=l.take j ++ zs.drop j
theorem jlA (l zs:List Nat) (j:Nat) (hl:j < l.length) (hz:j < zs.length):(jiC l zs j).set j (l.getD j 0)=jiC l zs (j + 1):=by
 apply List.ext_getElem?;intro i;simp only [jiC];rw [List.getElem?_set];rw [List.getElem?_append,List.getElem?_append];simp only [List.length_append,List.length_take,List.length_drop,List.getElem?_take,List.getElem?_drop];rw [List.getD_eq_getElem?_getD,List.getElem?_eq_getElem hl];rcases Nat.lt_trichotomy i j with hi | hi | hi
 ·have a1:¬ j=i:=by omega
  have a2:i < min j l.length:=by omega
  have a3:i < min (j + 1) l.length:=by omega
  have a4:i < j + 1:=by omega
  simp [hi,a1,a2,a3,a4]
 ·subst hi;have a3:i < min (i + 1) l.length:=by omega
  have a4:i < min i l.length + (zs.length - i):=by omega
  simp [a3,a4,List.getElem?_eq_getElem hl]
 ·have a1:¬ j=i:=by omega
  have a2:¬ i < min j l.length:=by omega
  have a3:¬ i < min (j + 1) l.length:=by omega
  have a5:j + (i - min j l.length)=j + 1 + (i - min (j + 1) l.length):=by omega
  simp only [a1,a2,a3,if_false,a5]
def tab:List Nat:=(List.range 256).map jaN
def ja2:List Nat:=List.replicate 256 0
theorem jlL (i:Nat) (h:i < 256):tab.getD i 0=jaN i:=by simp [tab,List.getD_eq_getElem?_getD,h]
theorem jnF (m r j:Nat) (h:r / 2 ^ j % 2=1):jcX m (r % 2 ^ (j + 1))=jcX m (r % 2 ^ j) ^^^ jcX m (2 ^ j):=by
 rw [<- jie]
 congr 1
 have hb:r.testBit j=true:=by rw [Nat.testBit_eq_decide_div_mod_eq,h];rfl
 apply Nat.eq_of_testBit_eq;intro i;rw [Nat.testBit_xor,Nat.testBit_two_pow,Nat.testBit_mod_two_pow,Nat.testBit_mod_two_pow];rcases Nat.lt_trichotomy i j with hi | hi | hi
 ·have a1:i < j + 1:=by omega
  have a2:¬ j=i:=by omega
  simp [hi,a1,a2]
 ·subst hi;simp [hb]
 ·have a1:¬ i < j + 1:=by omega
  have a2:¬ j=i:=by omega
  have a3:¬ i < j:=by omega
  simp [a1,a2,a3]
theorem jl8 (j k:Nat) (h:k < 2 ^ j):jaN (2 ^ j + k)=jaN (2 ^ j) ^^^ jaN k:=by
 have e:=jnF 8 (2 ^ j + k) j (by rw [Nat.add_div_left _ (Nat.two_pow_pos j),Nat.div_eq_of_lt h]);rw [Nat.mod_eq_of_lt (by rw [Nat.pow_succ];omega),Nat.add_mod_left,Nat.mod_eq_of_lt h,Nat.xor_comm] at e;exact e
theorem jpM (l zs:List Nat) (j i:Nat) (hi:i < j) (hl:j<=l.length):(jiC l zs j).getD i 0=l.getD i 0:=by
 simp only [jiC,List.getD_eq_getElem?_getD];rw [List.getElem?_append_left (by rw [List.length_take];omega),List.getElem?_take,if_pos hi]
theorem jm2 (l zs:List Nat) (n:Nat) (hl:l.length<=n) (hz:zs.length<=n):jiC l zs n=l:=by
 simp only [jiC];rw [List.take_of_length_le hl,List.drop_eq_nil_of_le hz,List.append_nil]
theorem jjb (w:World) :
  Calls Tryz.prog 169 #[] w fun e w'=>e=.returned (.agg (U tab))/\Below w.heap.size w w':=by
 have HE:=Lib.hid jmX;have hz:=(zero_of_info (P:=Tryz.prog) (t:=206) (v:=.agg (U ja2)) (n:=256) (by kernel_rfl)).1;go_enter Tryz.func169,Tryz.ntmps169;go_wp2;clear hz
 go_loopw [6] (fun i wr=>∃ j:Nat,j<=8/\i=.int .i64 j/\Below w.heap.size w wr/\Row wr w.heap.size 206 ja2/\Row wr (w.heap.size + 1) 206 (jiC tab ja2 (2 ^ j))) (fun i _=>8 - (intOf i).toNat)
 case atStart =>
  refine ⟨0,by omega,rfl,?_,?_,?_⟩
  ·exact ((Below.refl _ _).alloc (Nat.le_refl _) _).alloc (by simp) _
  ·exact (Row.new' w _ _ ja2 rfl rfl).alloc _
  ·exact Row.new' (w.alloc _) _ _ (jiC tab ja2 (2 ^ 0)) (by simp) rfl
 case round =>
  obtain ⟨j,hj,rfl,hbel,hr2,hr3⟩:=hrel;by_cases hj8:j < 8
  ·have hp:2 ^ j<=128:=Nat.pow_le_pow_right (n:=2) (j:=7) (by decide) (by omega);have hA:=Lib.hid (jl8 j);have HD:Hid (2 ^ (j + 1)=2 ^ j + 2 ^ j):=by unfold Hid;rw [Nat.pow_succ];omega
   obtain ⟨p,hpe⟩:∃ p,p=2 ^ j:=⟨_,rfl⟩;have hpi:(2:Int) ^ j=(p:Int):=by rw [hpe,Int.natCast_pow];rfl
   rw [<- hpe] at hp hA HD hr3;have HE':=Lib.hid fun w=>HE.out p w (by omega)
   have R:=Lib.hid (And.intro hbel (And.intro hr2 hr3));obtain ⟨ch,hch⟩:∃ ch,ch=jaN p:=⟨_,rfl⟩;rw [<- hch] at HE' hA;have hch1:ch < 2 ^ 32:=by rw [hch];exact jde (by omega)
   clear hpe HE hr2 hr3 hbel hch
   go_wp2_with (go_at_call 179;refine Calls.mono (HE'.out _) ?_;rintro e w' ⟨rfl,rfl⟩)
   have hwr:=R.out
   go_loopw [15] (fun i wq=>∃ k:Nat,k<=p/\i=.int .i64 k/\Below w.heap.size w wq/\Row wq w.heap.size 206 ja2/\Row wq (w.heap.size + 1) 206 (jiC tab ja2 (p + k))) (fun i _=>p - (intOf i).toNat)
   case atStart=>exact ⟨0,by omega,rfl,hwr⟩
   case round =>
    obtain ⟨k,hk,rfl,hbel,hr2,hr3⟩:=hrel;by_cases hkp:k < p
    ·have hx:=hA.out k hkp;have hl3:=hr3.lt;have hlen:(jiC tab ja2 (p + k)).length=256:=by simp only [jiC,List.length_append,List.length_take,List.length_drop,tab,ja2,List.length_map,List.length_range,List.length_replicate];omega
     have hc3:=hr3.cell (i:=k) (by rw [hlen];omega);rw [jpM tab ja2 (p + k) k (by omega) (by simp only [tab,List.length_map,List.length_range];omega),jlL k (by omega)] at hc3;have hc4:=hr3.cell (i:=p + k) (by rw [hlen];omega);have hf4:=hr3.free (p + k);have HN:=Lib.hid (jlA tab ja2 (p + k) (by simp only [tab,List.length_map,List.length_range];omega) (by simp only [ja2,List.length_replicate];omega));rw [jlL _ (by omega),hx] at HN;obtain ⟨y,hy⟩:∃ y,y=(jiC tab ja2 (p + k)).getD (p + k) 0:=⟨_,rfl⟩;obtain ⟨x,hxe⟩:∃ x,x=jaN k:=⟨_,rfl⟩;have hx1:x < 2 ^ 32:=by rw [hxe];exact jde (by omega)
     rw [<- hy] at hc4;rw [<- hxe] at hc3 HN;have hxr:=jnI ch x hch1 hx1;obtain ⟨q,hq⟩:∃ q,q=ch ^^^ x:=⟨_,rfl⟩;rw [<- hq] at hxr HN;have R:=Lib.hid (And.intro hbel (And.intro hr2 hr3));clear hy hxe hq hx hlen hr2 hr3 hbel hwr;go_wp2;obtain ⟨hbel,hr2,hr3⟩:=R.out
     have R2:Below w.heap.size w (wr.setCell ⟨w.heap.size + 1,p + k,none⟩ (.int .u32 (q:Int)))/\Row (wr.setCell ⟨w.heap.size + 1,p + k,none⟩ (.int .u32 (q:Int))) w.heap.size 206 ja2 /\
       Row (wr.setCell ⟨w.heap.size + 1,p + k,none⟩ (.int .u32 (q:Int))) (w.heap.size + 1) 206 (jiC tab ja2 (p + (k + 1))) :=
      ⟨hbel.setCell (by simp only [];omega) _,hr2.other _ _ (by simp only [];omega),by rw [<- Nat.add_assoc,<- HN.out];exact hr3.set _ _⟩
     clear hbel hr2 hr3;go_roundw
     case rel=>exact ⟨k + 1,by omega,by go_num,R2⟩
     case measure=>simp [intOf];omega
    ·have hkp2:k=p:=by omega
     subst hkp2;rw [<- HD.out] at hr3;have R2:Below w.heap.size w wr/\Row wr w.heap.size 206 ja2/\Row wr (w.heap.size + 1) 206 (jiC tab ja2 (2 ^ (j + 1))):=⟨hbel,hr2,hr3⟩;clear hbel hr2 hr3 hwr R;go_wp2;go_roundw
     case rel=>exact ⟨j + 1,by omega,by go_num,R2⟩
     case measure=>simp [intOf];omega
  ·have hj9:j=8:=by omega
   subst hj9;have e3:jiC tab ja2 (2 ^ 8)=tab:=jm2 _ _ _ (by simp only [tab,List.length_map,List.length_range];decide) (by simp only [ja2,List.length_replicate];decide);rw [e3] at hr3;have hu:=Tryz.underlying206;have hi:(Tryz.prog.info? 206).map (·.size)=some (U tab).size:=by rw [jgv];kernel_rfl
   have ho:(U ja2).size=(U tab).size:=by rw [jgv,jgv];kernel_rfl
   go_wp2_with (first
    | (refine wpList_load_row rfl 206 _ rfl (w.heap.size + 1) rfl 206 _ (0,0) _ hr3 hu rfl hi ?_)
    | (refine wpList_store_row rfl 206 _ _ rfl w.heap.size _ rfl rfl 206 _ hr2 hi ho (jpU _) ?_))
   refine bodyPost_ret (v:=.agg (U tab)) ?_ rfl ⟨rfl,below_setRow hbel (by omega) _⟩;exact results_cell_row rfl _ _ w.heap.size 206 _ (0,0) _ rfl (hr2.laid _) hu rfl hi
theorem joh {w:World} {g:Nat} {t:TypeId} (h:Row w g t tab) {j:Nat} (hj:j < 256):w.cell? ⟨g,j,none⟩=some (.int .u32 (jaN j:Nat)):=by
 rw [h.cell (by simp only [tab,List.length_map,List.length_range];exact hj),jlL j hj]
theorem jkZ (r x:Nat) (hx:x < 256):jaN (r ^^^ x)=r / 256 ^^^ jaN (r % 256 ^^^ x):=by
 rw [jf9,Nat.xor_comm]
 have e1:(r ^^^ x) / 256=r / 256:=by
  have h:=Nat.shiftRight_xor_distrib (a:=r) (b:=x) (i:=8);simp only [Nat.shiftRight_eq_div_pow] at h;rw [show (2:Nat) ^ 8=256 from rfl,Nat.div_eq_of_lt hx,Nat.xor_zero] at h;exact h
 have e2:(r ^^^ x) % 256=r % 256 ^^^ x:=by
  have h:=Nat.xor_mod_two_pow (a:=r) (b:=x) (n:=8);rw [show (2:Nat) ^ 8=256 from rfl,Nat.mod_eq_of_lt hx] at h;exact h
 rw [e1,e2]
theorem jiW:∀ (A:Option Addr) (c:Nat) (zs:List Int) (s:Nat) (w:World),jaO w w.heap.size .u8 A zs->(∀ z∈zs,0<=z/\z<=255)->zs.length<=c->zs.length<=9223372036854775807->s < 2 ^ 32 ->
  Calls Tryz.prog 144 #[.int .u32 (s:Int),.slice A zs.length c] w fun e w'=>e=.returned (.int .u32 (jhQ s (nb zs):Nat))/\Below w.heap.size w w':=by
 intro A c zs s w hr hz hc hm hs;have HZ:=Lib.hid hz;have HS:=Lib.hid hs;have HR:=Lib.hid hr;have hs1:s<=4294967295:=by omega
 have hib:=jjJ s hs;have hil:=jjF s;obtain ⟨t,ht⟩:∃ t,t=jge s:=⟨_,rfl⟩;rw [<- ht] at hib hil;have HT:=Lib.hid ht;obtain ⟨cs,hcs⟩:∃ cs,cs=U tab:=⟨_,rfl⟩;obtain ⟨c0,hc0⟩:∃ c0,c0=U ja2:=⟨_,rfl⟩;have HC:=Lib.hid jjb;have hz0:=(zero_of_info (P:=Tryz.prog) (t:=206) (v:=.agg (U ja2)) (n:=256) (by kernel_rfl)).1;have HI:Hid ((Tryz.prog.info? 206).map (·.size)=some cs.size):=by unfold Hid;rw [hcs,jgv];kernel_rfl
 have HO:Hid (c0.size=cs.size):=by unfold Hid;rw [hcs,hc0,jgv,jgv];kernel_rfl
 have H1:Hid (cs.all (·.oneCell')=true):=by unfold Hid;rw [hcs];exact jpU tab
 rw [<- hcs] at HC;rw [<- hc0] at hz0;have HT0:Hid (∀ (w:World) (g:Nat) (t:TypeId),w.heap[g]? = some (.cells cs t (0,0))->Row w g t tab):=fun w g t h=>by rw [hcs] at h;exact h
 clear hz hs ht hr hcs hc0;go_enter Tryz.func144,Tryz.ntmps144
 go_wp2_with (first
  | (go_at_call 169;refine Calls.mono (HC.out _) ?_;rintro e w' ⟨rfl,hb⟩)
  | (refine wpList_store_row rfl 206 _ _ rfl w'.heap.size _ rfl rfl 206 c0 (heap_alloc_new _ _) HI.out HO.out H1.out ?_))
 have hrow:=HT0.out _ _ _ (setRow_heap (w'.alloc (.cells c0 206)) w'.heap.size c0 cs 206 (0,0) (heap_alloc_new _ _));have hbel:=below_setRow (hb.alloc hb.size (.cells c0 206)) hb.size cs;generalize (w'.alloc (.cells c0 206)).setRow w'.heap.size cs=W at hrow hbel ⊢;have hints:=HR.out.below hbel;have HB:=Lib.hid hbel;clear hbel hz0
 go_loop [6,14] (fun r i=>∃ k:Nat,k<=zs.length/\i=.int .i64 k/\r=.int .u32 (jkc t (nb (zs.take k)):Nat)) (fun _ i=>zs.length - (intOf i).toNat)
 case atStart=>exact ⟨0,Nat.zero_le _,rfl,rfl⟩
 case round =>
  obtain ⟨k,hk,rfl,rfl⟩:=hrel;have hrl:jkc t (nb (zs.take k)) < 2 ^ 32:=jo8 _ hil (jqJ fun z hz=>HZ.out z (List.mem_of_mem_take hz));by_cases hlt:k < zs.length
  ·obtain ⟨b,off,rfl,_,hcell⟩:=hints k hlt;have hx:=HZ.out _ (jb6 hlt);have HN:Hid (jkc t (nb (zs.take (k + 1)))=jaN (jkc t (nb (zs.take k)) ^^^ (zs.getD k 0).toNat)):=by rw [jij zs k hlt];exact jlE _ _ _
   obtain ⟨x,hx'⟩:∃ x:Nat,(x:Int)=zs.getD k 0:=⟨(zs.getD k 0).toNat,by omega⟩;have hxn:(zs.getD k 0).toNat=x:=by omega
   rw [hxn] at HN;rw [<- hx'] at hcell hx;obtain ⟨r,hr'⟩:∃ r,r=jkc t (nb (zs.take k)):=⟨_,rfl⟩;rw [<- hr'] at hrl HN ⊢;have hx256:x < 256:=by omega
   have HN2:=Lib.hid (HN.out.trans (jkZ r x hx256));have hql:r % 256 ^^^ x < 256:=Nat.xor_lt_two_pow (n:=8) (by omega) hx256;have hb8:=u8_xor_nat (r % 256) x (by omega) hx256;rw [Int.natCast_emod] at hb8;have hb8':bits .xor .u8 ((r:Int) % 256) (x:Int)=((r % 256 ^^^ x:Nat):Int):=hb8;have hct:=joh hrow hql;obtain ⟨q,hq⟩:∃ q,q=r % 256 ^^^ x:=⟨_,rfl⟩;rw [<- hq] at HN2 hql hb8' hct;have hyl:jaN q < 2 ^ 32:=jde (by omega);obtain ⟨y,hy⟩:∃ y,y=jaN q:=⟨_,rfl⟩;rw [<- hy] at HN2 hyl hct;have hxr:=jnI (r / 256) y (by omega) hyl;rw [Int.natCast_ediv] at hxr;have hxr':bits .xor .u32 ((r:Int) / 256) (y:Int)=((r / 256 ^^^ y:Nat):Int):=hxr;clear hx' hxn hr' HN hx hb8 hq hy hxr hrow;go_wp2;go_round
   case rel=>exact ⟨k + 1,by omega,by go_num,by rw [HN2.out]⟩
   case measure=>simp [intOf];omega
  ·have hkl:k=zs.length:=by omega
   subst hkl;rw [List.take_length] at hrl ⊢;have hie:=jjJ _ hrl;have HM:Hid (jge (jkc t (nb zs))=jhQ s (nb zs)):=by unfold Hid jhQ;rw [<- HT.out]
   go_wp2;go_ret;rw [<- HM.out];exact ⟨rfl,HB.out⟩
theorem jkh:∀ (A:Option Addr) (c:Nat) (zs:List Int) (w:World),jaO w w.heap.size .u8 A zs->(∀ z∈zs,0<=z/\z<=255)->zs.length<=c->zs.length<=9223372036854775807 ->
  Calls Tryz.prog 117 #[.slice A zs.length c] w fun e w'=>e=.returned (.int .u32 (jhQ 0 (nb zs):Nat))/\Below w.heap.size w w':=by
 intro A c zs w hr hz hc hm;have HM:=Lib.hid (jiW A c zs 0 w hr hz hc hm (by decide));clear hz hr;go_enter Tryz.func117,Tryz.ntmps117
 go_wp2_with (go_at_call 144;refine Calls.mono HM.out ?_;rintro e w' ⟨rfl,hb⟩)
 go_ret;exact ⟨rfl,hb⟩
end Go.Proofs.YtbnhkplhmanmoaaGreat
