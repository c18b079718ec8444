/-
  What is asked of the four functions of the layer crc, as properties of their calls; the document's Sum and Zeros; the law's own 'awake' from these.
-/
import Derived.Test.YtkikigpdcjkneaaCrcRef
import Derived.Lib.SlBytesConst
import Derived.Deep.RegionHeld3
import Derived.Deep.TreeCalls
namespace Go.Proofs.Ytkikigpdcjkneaa
open Go.RowKit

def SumSpec : Prop := ∀ (A : Option Addr) (c : Nat) (zs : List Int) (w : World), Ints w w.heap.size .u8 A zs → (∀ z ∈ zs, 0 ≤ z ∧ z ≤ 255) → zs.length ≤ c → zs.length ≤ 9223372036854775807 →
  Calls Try.prog 12 #[.slice A zs.length c] w fun e w' => e = .returned (.int .u32 (moreN 0 (nb zs) : Nat)) ∧ Below w.heap.size w w'
def MoreSpec : Prop := ∀ (A : Option Addr) (c : Nat) (zs : List Int) (s : Nat) (w : World), Ints w w.heap.size .u8 A zs → (∀ z ∈ zs, 0 ≤ z ∧ z ≤ 255) → zs.length ≤ c → zs.length ≤ 9223372036854775807 → s < 2 ^ 32 →
  Calls Try.prog 14 #[.int .u32 (s : Int), .slice A zs.length c] w fun e w' => e = .returned (.int .u32 (moreN s (nb zs) : Nat)) ∧ Below w.heap.size w w'
def ZerosSpec : Prop := ∀ (s : Nat) (n : Int) (w : World), s < 2 ^ 32 → -9223372036854775808 ≤ n → n ≤ 9223372036854775807 →
  Calls Try.prog 16 #[.int .u32 (s : Int), .int .i64 n] w fun e w' => e = .returned (.int .u32 (zerosN s n.toNat : Nat)) ∧ Below w.heap.size w w'
def JoinSpec : Prop := ∀ (a b : Nat) (n : Int) (w : World), a < 2 ^ 32 → b < 2 ^ 32 → -9223372036854775808 ≤ n → n ≤ 9223372036854775807 →
  Calls Try.prog 18 #[.int .u32 (a : Int), .int .u32 (b : Int), .int .i64 n] w fun e w' => e = .returned (.int .u32 (joinN a b n.toNat : Nat)) ∧ Below w.heap.size w w'

theorem zerosN_lt (s n : Nat) : zerosN s n < 2 ^ 32 := moreN_lt _ _

/-- The document's 'Sum'. -/
theorem refSum_any (A : Option Addr) (c B : Nat) (zs : List Int) (w : World) (hr : Ints w B .u8 A zs) (hz : ∀ z ∈ zs, 0 ≤ z ∧ z ≤ 255) (hm : zs.length ≤ 9223372036854775807) :
    Calls Try.prog 13 #[.slice A zs.length c] w fun e w' => e = .returned (.int .u32 (moreN 0 (nb zs) : Nat)) ∧ w = w' := by
  have H := refMore_any A c B zs 0 w hr hz hm (by decide)
  have HM := Lib.hid H
  clear H hz
  go_enter Try.func13, Try.ntmps13
  go_wp2_with (go_at_call 15; refine Calls.mono HM.out ?_; rintro e w' ⟨rfl, rfl⟩)
  go_ret
  exact ⟨rfl, rfl⟩

/-- The document's 'Zeros'. -/
theorem refZeros_any (s : Nat) (n : Int) (w : World) (hs : s < 2 ^ 32) (hn : n ≤ 9223372036854775807) :
    Calls Try.prog 17 #[.int .u32 (s : Int), .int .i64 n] w fun e w' => e = .returned (.int .u32 (zerosN s n.toNat : Nat)) ∧ Below w.heap.size w w' := by
  have HS := Lib.hid hs
  clear hs
  go_enter Try.func17, Try.ntmps17
  go_wp2
  go_loopw [0, 5] (fun t i wr => ∃ k : Nat, k ≤ n.toNat ∧ i = .int .i64 k ∧ t = .int .u32 (zerosN s k : Nat) ∧ Below w.heap.size w wr) (fun _ i _ => n.toNat - (intOf i).toNat)
  case atStart => exact ⟨0, Nat.zero_le _, rfl, by rw [zerosN_zero HS.out], Below.refl _ _⟩
  case round =>
    obtain ⟨k, hk, rfl, rfl, hbel⟩ := hrel
    by_cases hlt : (k : Int) < n
    · have hzl := zerosN_lt s k
      have HN := Lib.hid (zerosN_add s k 1)
      obtain ⟨t, ht⟩ : ∃ t, t = zerosN s k := ⟨_, rfl⟩
      rw [← ht] at hzl HN ⊢
      have H := fun u => refMore_any (some ⟨wr.heap.size, 0, none⟩) 1 _ [0] t _ (Ints.new wr u .u8 [0] #[.int .u8 0] rfl) (by intro z hz; simp at hz; omega) (by simp) hzl
      have HM := Lib.hid H
      have HB := Lib.hid (fun o : Obj => hbel.alloc hbel.size o)
      clear H ht hzl
      go_wp2_with (go_at_call 15; refine Calls.mono (HM.out _) ?_; rintro e w' ⟨rfl, rfl⟩)
      go_roundw
      case rel => exact ⟨k + 1, by omega, by go_num, by rw [← HN.out]; rfl, HB.out _⟩
      case measure => simp [intOf]; omega
    · have hkn : k = n.toNat := by omega
      subst hkn
      go_wp2
      go_ret
      exact ⟨rfl, hbel⟩

/-- 'awake'. -/
theorem crcAwake (HSum : SumSpec) (w : World) : Calls Try.prog 11 #[] w fun e w' => e = .returned (.bool true) ∧ Below w.heap.size w w' := by
  have kc := fun (w : World) (C : Array Value) (n c : Nat) => Lib.run_convert_bytes_const (P := Try.prog) w 23 5 C n c Try.underlying23 Try.underlying5
  have H1 := Lib.hid (fun (w : World) (t : TypeId) (fr : Nat × Nat) =>
    HSum (some ⟨w.heap.size, 0, none⟩) 9 [49, 50, 51, 52, 53, 54, 55, 56, 57] (w.alloc (.cells #[.int .u8 49, .int .u8 50, .int .u8 51, .int .u8 52, .int .u8 53, .int .u8 54, .int .u8 55, .int .u8 56, .int .u8 57] t fr))
      ((Ints.newMark w t .u8 _ _ fr rfl).more (by simp)) (by intro z hz; simp at hz; omega) (by simp) (by simp))
  have H2 := Lib.hid (fun (w : World) => HSum none 0 [] w (Ints.nil _ _ _ _) (by simp) (by simp) (by simp))
  have e1 : moreN 0 (nb [49, 50, 51, 52, 53, 54, 55, 56, 57]) = 3421780262 := by decide +kernel
  have e2 : moreN 0 (nb []) = 0 := by decide +kernel
  rw [e1] at H1
  rw [e2] at H2
  have HB := Lib.hid (fun (o : Obj) => (Below.refl w.heap.size w).alloc (Nat.le_refl _) o)
  clear HSum e1 e2
  go_enter Try.func11, Try.ntmps11
  go_wp2_with (first
    | (go_at_call_of 12 (Value.slice none 0 0); refine Calls.mono (H2.out _) ?_; rintro e w2 ⟨rfl, hb2⟩)
    | (go_at_call 12; refine Calls.mono (H1.out _ _ _) ?_; rintro e w1 ⟨rfl, hb1⟩))
  go_ret
  exact ⟨rfl, ((HB.out _).trans (hb1.mono (by simp))).trans (hb2.mono (Nat.le_trans (by simp) hb1.size))⟩

end Go.Proofs.Ytkikigpdcjkneaa
