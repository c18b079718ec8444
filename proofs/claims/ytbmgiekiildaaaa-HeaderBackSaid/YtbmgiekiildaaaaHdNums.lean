/-
  Plain: a head as a sector, and back. A head is spoken of as a record: k its tenant, a its volume, b its block, c its slot, d its version, key its tag. No program is spoken of here.
-/
import Derived.Test.YtbmgiekiildaaaaLineNums
namespace Go.Proofs.Ytbmgiekiildaaaa
open Go.RowKit

def hRng (h : Rc) : Prop := (1 ≤ h.k ∧ h.k ≤ 7) ∧ (0 ≤ h.a ∧ h.a ≤ 7) ∧ (0 ≤ h.b ∧ h.b ≤ 31) ∧ (0 ≤ h.c ∧ h.c ≤ 63) ∧ (1 ≤ h.d ∧ h.d ≤ 1099511627776)
instance (h : Rc) : Decidable (hRng h) := by unfold hRng; infer_instance
def hErr (h : Rc) : Int := if hRng h then (if h.key.size = 16 then 0 else 1) else 7
def hFront (h : Rc) : List Int := [83, 72] ++ (bytesOf h.k 1 ++ (bytesOf h.a 1 ++ (bytesOf h.b 1 ++ (bytesOf h.c 1 ++ bytesOf h.d 8))))
def hBody (h : Rc) : List Int := hFront h ++ (keyI h.key ++ List.replicate 30 0)
def hSec (h : Rc) : List Int := hBody h ++ sumB (hBody h)
def wr64 (n : Int) : Int := IntKind.i64.wrap n
def hRead (b : List Int) : Rc := ⟨b.getD 2 0, b.getD 3 0, b.getD 4 0, b.getD 5 0, wr64 (valOf (sub b 6 14)), strOfNums (sub b 14 30)⟩
def hZero : Rc := ⟨0, 0, 0, 0, 0, ByteArray.empty⟩
def zero64 : List Int := List.replicate 64 0
def hDec (b : List Int) : Int × Rc := if b = zero64 then (4, hZero) else if b.length = 64 ∧ hErr (hRead b) = 0 ∧ hSec (hRead b) = b then (0, hRead b) else (2, hZero)

theorem hErr_zero {h : Rc} : hErr h = 0 ↔ hRng h ∧ h.key.size = 16 := by
  unfold hErr
  by_cases h1 : hRng h
  · rw [if_pos h1]
    by_cases h2 : h.key.size = 16
    · rw [if_pos h2]; exact ⟨fun _ => ⟨h1, h2⟩, fun _ => rfl⟩
    · rw [if_neg h2]; exact ⟨fun h3 => by omega, fun h3 => absurd h3.2 h2⟩
  · rw [if_neg h1]; exact ⟨fun h3 => by omega, fun h3 => absurd h3.1 h1⟩
theorem hFront_len (h : Rc) : (hFront h).length = 14 := by unfold hFront; simp [bytesOf_len]
theorem hBody_len {h : Rc} (hk : h.key.size = 16) : (hBody h).length = 60 := by
  unfold hBody
  rw [List.length_append, List.length_append, hFront_len, keyI_len, List.length_replicate, hk]
theorem hSec_len {h : Rc} (hk : h.key.size = 16) : (hSec h).length = 64 := by
  unfold hSec
  rw [List.length_append, hBody_len hk, sumB_len]
theorem hFront_mem (h : Rc) : ∀ z ∈ hFront h, 0 ≤ z ∧ z ≤ 255 := fun z hz => by
  unfold hFront at hz
  simp only [List.mem_append] at hz
  rcases hz with h | h | h | h | h | h
  · simp at h; omega
  all_goals exact bytesOf_mem _ _ z h
theorem hBody_mem (h : Rc) : ∀ z ∈ hBody h, 0 ≤ z ∧ z ≤ 255 := fun z hz => by
  unfold hBody at hz
  simp only [List.mem_append] at hz
  rcases hz with h | h | h
  · exact hFront_mem _ z h
  · exact keyI_mem _ z h
  · have := List.eq_of_mem_replicate h; omega
theorem hSec_mem (h : Rc) : ∀ z ∈ hSec h, 0 ≤ z ∧ z ≤ 255 := fun z hz => by
  unfold hSec at hz
  rcases List.mem_append.1 hz with h | h
  · exact hBody_mem _ z h
  · exact bytesOf_mem _ _ z h
theorem hFront_eq {h : Rc} (hr : hRng h) : hFront h = [83, 72, h.k, h.a, h.b, h.c] ++ bytesOf h.d 8 := by
  obtain ⟨r1, r2, r3, r4, r5⟩ := hr
  unfold hFront
  rw [bytesOf_one (by omega) (by omega), bytesOf_one (by omega) (by omega), bytesOf_one (by omega) (by omega), bytesOf_one (by omega) (by omega)]
  rfl
theorem hSec_eq {h : Rc} (hr : hRng h) : hSec h = 83 :: 72 :: h.k :: h.a :: h.b :: h.c :: (bytesOf h.d 8 ++ (keyI h.key ++ (List.replicate 30 0 ++ sumB (hBody h)))) := by
  unfold hSec
  conv => lhs; arg 1; unfold hBody; rw [hFront_eq hr]
  simp only [List.append_assoc, List.cons_append, List.nil_append]
theorem wr64_in {n : Int} (h0 : -9223372036854775808 ≤ n) (h1 : n ≤ 9223372036854775807) : wr64 n = n := IntWalk.i64_in _ (by omega)
/-- What was written is read as it was. -/
theorem hRead_sec {h : Rc} (he : hErr h = 0) : hRead (hSec h) = h := by
  obtain ⟨hr, hk⟩ := hErr_zero.1 he
  have e := hSec_eq hr
  have s1 : sub (hSec h) 6 14 = bytesOf h.d 8 := by
    rw [e, show (83 : Int) :: 72 :: h.k :: h.a :: h.b :: h.c :: (bytesOf h.d 8 ++ (keyI h.key ++ (List.replicate 30 0 ++ sumB (hBody h)))) = [83, 72, h.k, h.a, h.b, h.c] ++ (bytesOf h.d 8 ++ (keyI h.key ++ (List.replicate 30 0 ++ sumB (hBody h)))) from rfl]
    exact sub_mid _ _ _ rfl (by rw [bytesOf_len])
  have s2 : sub (hSec h) 14 30 = keyI h.key := by
    rw [e, show (83 : Int) :: 72 :: h.k :: h.a :: h.b :: h.c :: (bytesOf h.d 8 ++ (keyI h.key ++ (List.replicate 30 0 ++ sumB (hBody h)))) = ([83, 72, h.k, h.a, h.b, h.c] ++ bytesOf h.d 8) ++ (keyI h.key ++ (List.replicate 30 0 ++ sumB (hBody h))) by simp]
    exact sub_mid _ _ _ (by simp [bytesOf_len]) (by rw [keyI_len, hk])
  obtain ⟨r1, r2, r3, r4, r5⟩ := hr
  have g : ∀ i, (hSec h).getD i 0 = (83 :: 72 :: h.k :: h.a :: h.b :: h.c :: (bytesOf h.d 8 ++ (keyI h.key ++ (List.replicate 30 0 ++ sumB (hBody h))))).getD i 0 := fun i => by rw [← e]
  unfold hRead
  rw [s1, s2, str_keyI, valOf_bytesOf _ _ (by omega) (by omega), wr64_in (by omega) (by omega), g 2, g 3, g 4, g 5]
  rfl
theorem sec_ne {h : Rc} (hr : hRng h) : hSec h ≠ zero64 := fun e => by
  rw [hSec_eq hr] at e
  have h2 := congrArg (fun l : List Int => l.getD 0 0) e
  simp [zero64] at h2
theorem hDec_sec {h : Rc} (he : hErr h = 0) : hDec (hSec h) = (0, h) := by
  obtain ⟨hr, hk⟩ := hErr_zero.1 he
  unfold hDec
  rw [if_neg (sec_ne hr), hRead_sec he, if_pos ⟨hSec_len hk, he, rfl⟩]
theorem hDec_ok {b : List Int} (h : (hDec b).1 = 0) : b.length = 64 ∧ hErr (hDec b).2 = 0 ∧ hSec (hDec b).2 = b := by
  unfold hDec at h ⊢
  by_cases h0 : b = zero64
  · rw [if_pos h0] at h; exact absurd h (by decide)
  · rw [if_neg h0] at h ⊢
    split
    · next h1 => exact h1
    · next h1 => rw [if_neg h1] at h; exact absurd h (by decide)

end Go.Proofs.Ytbmgiekiildaaaa
