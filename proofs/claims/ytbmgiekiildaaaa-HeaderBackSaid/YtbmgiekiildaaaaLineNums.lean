/-
  Plain: a record's line as bytes, and back; the whole transactions that lines begin with. No program is spoken of here.
-/
import Derived.Test.YtbmgiekiildaaaaRec
import Derived.Test.YtbmgiekiildaaaaNumb
import Derived.Test.YtbmgiekiildaaaaCrcNums
namespace Go.Proofs.Ytbmgiekiildaaaa
open Go.RowKit

structure Ln where
  g : Int
  s : Int
  last : Bool
  r : Rc
theorem ln_ext (x y : Ln) : (x.g = y.g ∧ x.s = y.s ∧ x.last = y.last ∧ x.r = y.r) ↔ x = y := by
  constructor
  · obtain ⟨_, _, _, _⟩ := x
    obtain ⟨_, _, _, _⟩ := y
    rintro ⟨h1, h2, h3, h4⟩
    simp only at h1 h2 h3 h4
    subst h1 h2 h3 h4; rfl
  · rintro rfl; exact ⟨rfl, rfl, rfl, rfl⟩
instance : DecidableEq Ln := fun x y => decidable_of_iff _ (ln_ext x y)
/-- A text's bytes. -/
def keyI (s : ByteArray) : List Int := s.data.toList.map fun b => (b.toNat : Int)
theorem keyI_len (s : ByteArray) : (keyI s).length = s.size := by unfold keyI; rw [List.length_map]; rfl
theorem keyI_mem (s : ByteArray) : ∀ z ∈ keyI s, 0 ≤ z ∧ z ≤ 255 := fun z hz => by
  unfold keyI at hz
  obtain ⟨b, _, rfl⟩ := List.mem_map.1 hz
  have := b.toNat_lt
  omega
theorem str_keyI (s : ByteArray) : strOfNums (keyI s) = s := by
  unfold strOfNums keyI
  rw [List.map_map]
  obtain ⟨⟨l⟩⟩ := s
  have e : l.map ((fun n : Int => UInt8.ofNat n.toNat) ∘ fun b : UInt8 => (b.toNat : Int)) = l := by
    conv => rhs; rw [← List.map_id l]
    exact List.map_congr_left fun b _ => by show UInt8.ofNat ((b.toNat : Nat) : Int).toNat = b; rw [Int.toNat_natCast]; exact UInt8.ofNat_toNat
  show (⟨(l.map _).toArray⟩ : ByteArray) = _
  rw [e]
theorem keyI_str {l : List Int} (h : ∀ z ∈ l, 0 ≤ z ∧ z ≤ 255) : keyI (strOfNums l) = l := by
  unfold strOfNums keyI
  show (l.map fun n => UInt8.ofNat n.toNat).map (fun b => (b.toNat : Int)) = l
  rw [List.map_map]
  conv => rhs; rw [← List.map_id l]
  refine List.map_congr_left fun z hz => ?_
  have := h z hz
  simp only [Function.comp_apply, UInt8.toNat_ofNat', id]
  omega

def inN (n m : Int) : Bool := decide (0 ≤ n ∧ n ≤ m)
def rangeL (l : Ln) : Bool := inN l.g 2147483647 && inN l.s 2147483647 && inN l.r.k 9 && inN l.r.a 1099511627776 && inN l.r.b 1099511627776 && inN l.r.c 1099511627776 && inN l.r.d 1099511627776
def encE (l : Ln) : Int := if rangeL l = true then (if l.r.key.size = 0 ∨ l.r.key.size = 16 then 0 else 1) else 7
def lastN (b : Bool) : Int := if b then 1 else 0
def frontL (l : Ln) : List Int := [83, 76] ++ (bytesOf l.g 4 ++ (bytesOf l.s 4 ++ (bytesOf (lastN l.last) 1 ++ (bytesOf l.r.k 1 ++ (bytesOf l.r.a 7 ++ (bytesOf l.r.b 7 ++ (bytesOf l.r.c 7 ++ (bytesOf l.r.d 7 ++ bytesOf (l.r.key.size : Nat) 1))))))))
def bodyL (l : Ln) : List Int := frontL l ++ (keyI l.r.key ++ List.replicate (19 - l.r.key.size) 0)
def sumB (b : List Int) : List Int := bytesOf (moreN 0 (nb b) : Nat) 4
def encB (l : Ln) : List Int := bodyL l ++ sumB (bodyL l)
def encR (l : Ln) : Int × List Int := (encE l, if encE l = 0 then encB l else [])
def sub (b : List Int) (i j : Nat) : List Int := (b.drop i).take (j - i)
def parseL (b : List Int) : Ln := ⟨valOf (sub b 2 6), valOf (sub b 6 10), decide (b.getD 10 0 = 1), ⟨valOf (sub b 11 12), valOf (sub b 12 19), valOf (sub b 19 26), valOf (sub b 26 33), valOf (sub b 33 40), if b.getD 40 0 = 16 then strOfNums (sub b 41 57) else ByteArray.empty⟩⟩
def zeroL : Ln := ⟨0, 0, false, ⟨0, 0, 0, 0, 0, ByteArray.empty⟩⟩
def decR (b : List Int) : Int × Ln := if b.length = 64 ∧ encE (parseL b) = 0 ∧ encB (parseL b) = b then (0, parseL b) else (2, zeroL)

theorem inN_iff {n m : Int} : inN n m = true ↔ 0 ≤ n ∧ n ≤ m := decide_eq_true_iff
theorem rangeL_iff (l : Ln) : rangeL l = true ↔ (0 ≤ l.g ∧ l.g ≤ 2147483647) ∧ (0 ≤ l.s ∧ l.s ≤ 2147483647) ∧ (0 ≤ l.r.k ∧ l.r.k ≤ 9) ∧ (0 ≤ l.r.a ∧ l.r.a ≤ 1099511627776) ∧ (0 ≤ l.r.b ∧ l.r.b ≤ 1099511627776) ∧ (0 ≤ l.r.c ∧ l.r.c ≤ 1099511627776) ∧ (0 ≤ l.r.d ∧ l.r.d ≤ 1099511627776) := by
  unfold rangeL
  simp only [Bool.and_eq_true, inN_iff]
  constructor
  · rintro ⟨⟨⟨⟨⟨⟨h1, h2⟩, h3⟩, h4⟩, h5⟩, h6⟩, h7⟩; exact ⟨h1, h2, h3, h4, h5, h6, h7⟩
  · rintro ⟨h1, h2, h3, h4, h5, h6, h7⟩; exact ⟨⟨⟨⟨⟨⟨h1, h2⟩, h3⟩, h4⟩, h5⟩, h6⟩, h7⟩
theorem encE_zero {l : Ln} : encE l = 0 ↔ rangeL l = true ∧ (l.r.key.size = 0 ∨ l.r.key.size = 16) := by
  unfold encE
  split
  · next h => split
              · next h2 => exact ⟨fun _ => ⟨h, h2⟩, fun _ => rfl⟩
              · next h2 => exact ⟨fun h3 => by omega, fun h3 => absurd h3.2 h2⟩
  · next h => exact ⟨fun h3 => by omega, fun h3 => absurd h3.1 h⟩
theorem frontL_len (l : Ln) : (frontL l).length = 41 := by unfold frontL; simp [bytesOf_len]
theorem bodyL_len {l : Ln} (h : l.r.key.size ≤ 19) : (bodyL l).length = 60 := by
  unfold bodyL
  rw [List.length_append, List.length_append, frontL_len, keyI_len, List.length_replicate]; omega
theorem sumB_len (b : List Int) : (sumB b).length = 4 := bytesOf_len _ _
theorem encB_len {l : Ln} (h : encE l = 0) : (encB l).length = 64 := by
  unfold encB
  rw [List.length_append, bodyL_len (by have := (encE_zero.1 h).2; omega), sumB_len]
theorem frontL_mem (l : Ln) : ∀ z ∈ frontL l, 0 ≤ z ∧ z ≤ 255 := fun z hz => by
  unfold frontL at hz
  simp only [List.mem_append] at hz
  rcases hz with h | h | h | h | h | h | h | h | h | h
  · simp at h; omega
  all_goals exact bytesOf_mem _ _ z h
theorem bodyL_mem (l : Ln) : ∀ z ∈ bodyL l, 0 ≤ z ∧ z ≤ 255 := fun z hz => by
  unfold bodyL at hz
  simp only [List.mem_append] at hz
  rcases hz with h | h | h
  · exact frontL_mem l z h
  · exact keyI_mem _ z h
  · have := List.eq_of_mem_replicate h; omega
theorem encB_mem (l : Ln) : ∀ z ∈ encB l, 0 ≤ z ∧ z ≤ 255 := fun z hz => by
  unfold encB at hz
  rcases List.mem_append.1 hz with h | h
  · exact bodyL_mem l z h
  · exact bytesOf_mem _ _ z h
theorem sub_mid (p m r : List Int) {i j : Nat} (hi : p.length = i) (hj : i + m.length = j) : sub (p ++ (m ++ r)) i j = m := by
  subst hi hj
  unfold sub
  rw [List.drop_left, show p.length + m.length - p.length = m.length by omega, List.take_left]
theorem getD_mid (p r : List Int) (x : Int) {i : Nat} (hi : p.length = i) : (p ++ ([x] ++ r)).getD i 0 = x := by
  subst hi
  simp [List.getD]
theorem cut_pieces (T G S L K A B C D Z Y : List Int) (hT : T.length = 2) (hG : G.length = 4) (hS : S.length = 4) (hL : L.length = 1) (hK : K.length = 1) (hA : A.length = 7) (hB : B.length = 7) (hC : C.length = 7) (hD : D.length = 7) (hZ : Z.length = 1) (E : List Int)
    (hE : E = T ++ (G ++ (S ++ (L ++ (K ++ (A ++ (B ++ (C ++ (D ++ (Z ++ Y)))))))))) :
    sub E 2 6 = G ∧ sub E 6 10 = S ∧ sub E 10 11 = L ∧ sub E 11 12 = K ∧ sub E 12 19 = A ∧ sub E 19 26 = B ∧ sub E 26 33 = C ∧ sub E 33 40 = D ∧ sub E 40 41 = Z := by
  subst hE
  refine ⟨sub_mid T G _ (by omega) (by omega), ?_, ?_, ?_, ?_, ?_, ?_, ?_, ?_⟩
  · rw [← List.append_assoc]; exact sub_mid (T ++ G) S _ (by simp; omega) (by omega)
  · rw [← List.append_assoc, ← List.append_assoc]; exact sub_mid (T ++ G ++ S) L _ (by simp; omega) (by omega)
  · rw [← List.append_assoc, ← List.append_assoc, ← List.append_assoc]; exact sub_mid (T ++ G ++ S ++ L) K _ (by simp; omega) (by omega)
  · rw [← List.append_assoc, ← List.append_assoc, ← List.append_assoc, ← List.append_assoc]; exact sub_mid (T ++ G ++ S ++ L ++ K) A _ (by simp; omega) (by omega)
  · rw [← List.append_assoc, ← List.append_assoc, ← List.append_assoc, ← List.append_assoc, ← List.append_assoc]; exact sub_mid (T ++ G ++ S ++ L ++ K ++ A) B _ (by simp; omega) (by omega)
  · rw [← List.append_assoc, ← List.append_assoc, ← List.append_assoc, ← List.append_assoc, ← List.append_assoc, ← List.append_assoc]; exact sub_mid (T ++ G ++ S ++ L ++ K ++ A ++ B) C _ (by simp; omega) (by omega)
  · rw [← List.append_assoc, ← List.append_assoc, ← List.append_assoc, ← List.append_assoc, ← List.append_assoc, ← List.append_assoc, ← List.append_assoc]; exact sub_mid (T ++ G ++ S ++ L ++ K ++ A ++ B ++ C) D _ (by simp; omega) (by omega)
  · rw [← List.append_assoc, ← List.append_assoc, ← List.append_assoc, ← List.append_assoc, ← List.append_assoc, ← List.append_assoc, ← List.append_assoc, ← List.append_assoc]; exact sub_mid (T ++ G ++ S ++ L ++ K ++ A ++ B ++ C ++ D) Z _ (by simp; omega) (by omega)
theorem sub_one (b : List Int) (i : Nat) {x : Int} (h : sub b i (i + 1) = [x]) : b.getD i 0 = x := by
  unfold sub at h
  rw [show i + 1 - i = 1 by omega] at h
  have h1 : (b.drop i)[0]? = some x := by
    have : ((b.drop i).take 1)[0]? = some x := by rw [h]; rfl
    rwa [List.getElem?_take, if_pos (by decide)] at this
  rw [List.getElem?_drop, Nat.add_zero] at h1
  rw [List.getD_eq_getElem?_getD, h1]; rfl
theorem bytesOf_one {n : Int} (h0 : 0 ≤ n) (h1 : n ≤ 255) : bytesOf n 1 = [n] := by
  unfold bytesOf bytesTo
  simp
  omega
/-- What was written is read as it was. -/
theorem parse_enc {l : Ln} (h : encE l = 0) : parseL (encB l) = l := by
  obtain ⟨hr, hk⟩ := encE_zero.1 h
  obtain ⟨r1, r2, r3, r4, r5, r6, r7⟩ := (rangeL_iff l).1 hr
  have hE : encB l = [83, 76] ++ (bytesOf l.g 4 ++ (bytesOf l.s 4 ++ (bytesOf (lastN l.last) 1 ++ (bytesOf l.r.k 1 ++ (bytesOf l.r.a 7 ++ (bytesOf l.r.b 7 ++ (bytesOf l.r.c 7 ++ (bytesOf l.r.d 7 ++ (bytesOf (l.r.key.size : Nat) 1 ++ (keyI l.r.key ++ List.replicate (19 - l.r.key.size) 0 ++ sumB (bodyL l))))))))))) := by
    unfold encB
    conv => lhs; arg 1; unfold bodyL frontL
    simp only [List.append_assoc]
  obtain ⟨c1, c2, c3, c4, c5, c6, c7, c8, c9⟩ := cut_pieces _ _ _ _ _ _ _ _ _ _ _ rfl (bytesOf_len _ _) (bytesOf_len _ _) (bytesOf_len _ _) (bytesOf_len _ _) (bytesOf_len _ _) (bytesOf_len _ _) (bytesOf_len _ _) (bytesOf_len _ _) (bytesOf_len _ _) (encB l) hE
  have hlast : lastN l.last = 0 ∨ lastN l.last = 1 := by unfold lastN; split <;> simp
  rw [bytesOf_one (by omega) (by omega)] at c3
  rw [bytesOf_one (by omega) (by omega)] at c9
  have g10 := sub_one _ _ c3
  have g40 := sub_one _ _ c9
  unfold parseL
  rw [c1, c2, c4, c5, c6, c7, c8, g10, g40, valOf_bytesOf _ _ r1.1 (by omega), valOf_bytesOf _ _ r2.1 (by omega), valOf_bytesOf _ _ r3.1 (by omega), valOf_bytesOf _ _ r4.1 (by omega), valOf_bytesOf _ _ r5.1 (by omega), valOf_bytesOf _ _ r6.1 (by omega), valOf_bytesOf _ _ r7.1 (by omega)]
  have hL : decide (lastN l.last = 1) = l.last := by unfold lastN; cases l.last <;> rfl
  have hK : (if ((l.r.key.size : Nat) : Int) = 16 then strOfNums (sub (encB l) 41 57) else ByteArray.empty) = l.r.key := by
    rcases hk with hk | hk
    · rw [if_neg (by omega)]
      have : keyI l.r.key = [] := List.eq_nil_of_length_eq_zero (by rw [keyI_len]; exact hk)
      rw [← str_keyI l.r.key, this]; rfl
    · rw [if_pos (by omega)]
      have e : encB l = frontL l ++ (keyI l.r.key ++ (List.replicate (19 - l.r.key.size) 0 ++ sumB (bodyL l))) := by
        unfold encB
        conv => lhs; arg 1; unfold bodyL
        simp only [List.append_assoc]
      rw [e, sub_mid (frontL l) (keyI l.r.key) _ (frontL_len l) (by rw [keyI_len, hk]), str_keyI]
  rw [hL, hK]
theorem dec_enc {l : Ln} (h : encE l = 0) : decR (encB l) = (0, l) := by
  unfold decR
  rw [parse_enc h, if_pos ⟨encB_len h, h, rfl⟩]
theorem dec_ok {b : List Int} (h : (decR b).1 = 0) : b.length = 64 ∧ encE (decR b).2 = 0 ∧ encB (decR b).2 = b := by
  unfold decR at h ⊢
  split
  · next h1 => exact h1
  · next h1 => rw [if_neg h1] at h; exact absurd h (by decide)
theorem dec_no {b : List Int} (h : (decR b).1 ≠ 0) : decR b = (2, zeroL) := by
  unfold decR at h ⊢
  split
  · next h1 => rw [if_pos h1] at h; exact absurd rfl h
  · rfl
theorem dec_cases (b : List Int) : ((decR b).1 = 0 ∧ b.length = 64 ∧ encE (decR b).2 = 0 ∧ encB (decR b).2 = b) ∨ decR b = (2, zeroL) := by
  by_cases h : (decR b).1 = 0
  · exact .inl ⟨h, dec_ok h⟩
  · exact .inr (dec_no h)
theorem enc_inj {l m : Ln} (hl : encE l = 0) (hm : encE m = 0) (h : encB l = encB m) : l = m := by
  rw [← parse_enc hl, ← parse_enc hm, h]

/-! ### Replay -/
def goodAt (secs : List (List Int)) (g : Int) (i : Nat) : Bool := decide ((decR (secs.getD i [])).1 = 0) && decide ((decR (secs.getD i [])).2.g = g) && decide ((decR (secs.getD i [])).2.s = (i : Int))
def recAt (secs : List (List Int)) (i : Nat) : Rc := (decR (secs.getD i [])).2.r
def lastAt (secs : List (List Int)) (i : Nat) : Bool := (decR (secs.getD i [])).2.last
def nowTo (secs : List (List Int)) : Nat → List Rc
  | 0 => []
  | k + 1 => if lastAt secs k = true then [] else nowTo secs k ++ [recAt secs k]
def outTo (secs : List (List Int)) : Nat → List (List Rc)
  | 0 => []
  | k + 1 => if lastAt secs k = true then outTo secs k ++ [nowTo secs k ++ [recAt secs k]] else outTo secs k
/-- How many sectors, from the first one on, belong to it. -/
def goodN (secs : List (List Int)) (g : Int) : Nat := ((List.range secs.length).takeWhile (goodAt secs g)).length
def replR (secs : List (List Int)) (g : Int) : List (List Rc) := outTo secs (goodN secs g)
theorem takeWhile_range (p : Nat → Bool) : ∀ (n m : Nat), (∀ i, i < n → p (m + i) = true) → ∀ r : List Nat, (∀ x, r.head? = some x → p x = false) → ((List.range' m n ++ r).takeWhile p).length = n
  | 0, m, _, r, hr => by
    cases r with
    | nil => rfl
    | cons x r => rw [show List.range' m 0 ++ x :: r = x :: r from rfl, List.takeWhile_cons, hr x rfl]; rfl
  | n + 1, m, h, r, hr => by
    rw [List.range'_succ, List.cons_append, List.takeWhile_cons, if_pos (show p m = true from h 0 (by omega)), List.length_cons, takeWhile_range p n (m + 1) (fun i hi => by have := h (i + 1) (by omega); rwa [show m + 1 + i = m + (i + 1) by omega]) r hr]
theorem goodN_eq {secs : List (List Int)} {g : Int} {k : Nat} (hk : k ≤ secs.length) (h : ∀ i, i < k → goodAt secs g i = true) (he : k < secs.length → goodAt secs g k = false) : goodN secs g = k := by
  unfold goodN
  obtain ⟨m, hm⟩ : ∃ m, secs.length = k + m := ⟨secs.length - k, by omega⟩
  rw [List.range_eq_range', hm, ← List.range'_append]
  refine takeWhile_range _ k 0 (fun i hi => by rw [Nat.zero_add]; exact h i hi) _ fun x hx => ?_
  cases m with
  | zero => simp at hx
  | succ m =>
    rw [List.range'_succ, List.head?_cons] at hx
    injection hx with hx
    rw [← hx, Nat.zero_add, Nat.one_mul]
    exact he (by omega)
theorem replR_eq {secs : List (List Int)} {g : Int} {k : Nat} (hk : k ≤ secs.length) (h : ∀ i, i < k → goodAt secs g i = true) (he : k < secs.length → goodAt secs g k = false) : replR secs g = outTo secs k := by
  unfold replR; rw [goodN_eq hk h he]
theorem nowTo_len (secs : List (List Int)) : ∀ k, (nowTo secs k).length ≤ k
  | 0 => Nat.le_refl _
  | k + 1 => by
    have := nowTo_len secs k
    unfold nowTo
    split
    · exact Nat.zero_le _
    · rw [List.length_append]; simp; omega
theorem outTo_len (secs : List (List Int)) : ∀ k, (outTo secs k).length ≤ k
  | 0 => Nat.le_refl _
  | k + 1 => by
    have := outTo_len secs k
    unfold outTo
    split
    · rw [List.length_append]; simp; omega
    · omega

end Go.Proofs.Ytbmgiekiildaaaa
