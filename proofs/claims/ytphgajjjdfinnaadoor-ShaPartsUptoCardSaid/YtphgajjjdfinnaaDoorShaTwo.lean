/-
  ShaTwo as a walk, from what is asked of the layer's calls.
-/
import Derived.Test.YtphgajjjdfinnaaDoorShaHash
import Derived.Deep.RegionLaw
namespace Go.Proofs.YtphgajjjdfinnaaDoor
open Go.RowKit

/-- Two hashes that share nothing, both made since w0. -/
structure Two (R : World → (Nat → Prop) → Addr → List Nat → Prop) (w0 w : World) (a b : Addr) (s t : List Nat) : Prop where
  bel : Below w0.heap.size w0 w
  both : ∃ F G : Nat → Prop, R w F a s ∧ R w G b t ∧ (∀ k, F k → w0.heap.size ≤ k ∧ k < w.heap.size) ∧ (∀ k, G k → w0.heap.size ≤ k ∧ k < w.heap.size) ∧ ∀ k, F k → ¬ G k
section
variable {R : World → (Nat → Prop) → Addr → List Nat → Prop} {w0 w : World} {a b : Addr} {s t : List Nat}
theorem Two.swap (h : Two R w0 w a b s t) : Two R w0 w b a t s := by
  obtain ⟨hb, F, G, h1, h2, h3, h4, h5⟩ := h
  exact ⟨hb, G, F, h2, h1, h4, h3, fun k hg hf => h5 k hf hg⟩
theorem Two.any (HH : HashSpec w0 R) (h : Two R w0 w a b s t) {w' : World} (hb : Below w.heap.size w w') : Two R w0 w' a b s t := by
  obtain ⟨hb0, F, G, h1, h2, h3, h4, h5⟩ := h
  exact ⟨chain hb0 hb, F, G, HH.keep _ _ _ _ _ h1 fun k hk => hb.block k (h3 k hk).2, HH.keep _ _ _ _ _ h2 fun k hk => hb.block k (h4 k hk).2,
    fun k hk => ⟨(h3 k hk).1, Nat.lt_of_lt_of_le (h3 k hk).2 hb.size⟩, fun k hk => ⟨(h4 k hk).1, Nat.lt_of_lt_of_le (h4 k hk).2 hb.size⟩, h5⟩
theorem Two.after (HH : HashSpec w0 R) {F G F' : Nat → Prop} {s' : List Nat} {w' : World} (hb : Below w0.heap.size w0 w) (h2 : R w G b t) (h3 : ∀ k, F k → w0.heap.size ≤ k ∧ k < w.heap.size) (h4 : ∀ k, G k → w0.heap.size ≤ k ∧ k < w.heap.size) (h5 : ∀ k, F k → ¬ G k)
    (r1 : R w' F' a s') (r2 : ∀ k, F' k → (F k ∨ w.heap.size ≤ k) ∧ k < w'.heap.size) (r3 : Off F w w') : Two R w0 w' a b s' t :=
  ⟨r3.below hb fun k hk => (h3 k hk).1, F', G, r1, HH.keep _ _ _ _ _ h2 fun k hk => r3.block k (h4 k hk).2 fun hf => h5 k hf hk,
    fun k hk => ⟨(r2 k hk).1.elim (fun h => (h3 k h).1) (Nat.le_trans hb.size), (r2 k hk).2⟩, fun k hk => ⟨(h4 k hk).1, Nat.lt_of_lt_of_le (h4 k hk).2 r3.size⟩,
    fun k hk hg => (r2 k hk).1.elim (fun h => h5 k h hg) fun h => by have := (h4 k hg).2; omega⟩
theorem Two.write (HH : HashSpec w0 R) (h : Two R w0 w a b s t) (A : Option Addr) (c : Nat) (l : List Nat) (hr : Ints w0 w0.heap.size .u8 A (up l)) (hA : A = none → c = 0) (hl : ∀ x ∈ l, x < 256) (hc : l.length ≤ c) (hm : s.length + l.length ≤ 140737488355000) :
    Calls Tryd.prog 11 #[.pointer (some a), .slice A l.length c] w fun e w' => e = .returned (.tuple #[]) ∧ Two R w0 w' a b (s ++ l) t := by
  obtain ⟨hb, F, G, h1, h2, h3, h4, h5⟩ := h
  refine Calls.mono (HH.write w F a s A c w0.heap.size l hb h1 h3 hb.size (hr.below hb) hA hl hc hm) ?_
  rintro e w' ⟨rfl, F', r1, r2, r3⟩
  exact ⟨rfl, Two.after HH hb h2 h3 h4 h5 r1 r2 r3⟩
theorem Two.sum (HH : HashSpec w0 R) (h : Two R w0 w a b s t) (hs : ∀ x ∈ s, x < 256) (hm : s.length ≤ 140737488355000) :
    Calls Tryd.prog 12 #[.pointer (some a)] w fun e w' => e = .returned (.agg (BA (digestN s))) ∧ Two R w0 w' a b s t := by
  obtain ⟨hb, F, G, h1, h2, h3, h4, h5⟩ := h
  refine Calls.mono (HH.sum w F a s hb h1 (fun k hk => (h3 k hk).2) hs hm) ?_
  rintro e w' ⟨rfl, F', r1, r2, r3⟩
  exact ⟨rfl, Two.after HH hb h2 h3 h4 h5 r1 r2 r3⟩
theorem Two.start (HH : HashSpec w0 R) {w1 w2 : World} {F G : Nat → Prop} (h1 : R w1 F a []) (f1 : ∀ k, F k → w0.heap.size ≤ k ∧ k < w1.heap.size) (b1 : Below w0.heap.size w0 w1) (h2 : R w2 G b []) (f2 : ∀ k, G k → w1.heap.size ≤ k ∧ k < w2.heap.size) (b2 : Below w1.heap.size w1 w2) : Two R w0 w2 a b [] [] :=
  ⟨chain b1 b2, F, G, HH.keep _ _ _ _ _ h1 fun k hk => b2.block k (f1 k hk).2, h2, fun k hk => ⟨(f1 k hk).1, Nat.lt_of_lt_of_le (f1 k hk).2 b2.size⟩, fun k hk => ⟨Nat.le_trans b1.size (f2 k hk).1, (f2 k hk).2⟩,
    fun k hf hg => by have := (f1 k hf).2; have := (f2 k hg).1; omega⟩
end


theorem shaTwo_go {R : World → (Nat → Prop) → Addr → List Nat → Prop} (A1 A2 : Option Addr) (c1 c2 : Nat) (xs ys : List Nat) (w : World) (HH : HashSpec w R) (HD : DigestSpec w) (hr1 : Ints w w.heap.size .u8 A1 (up xs)) (hr2 : Ints w w.heap.size .u8 A2 (up ys)) (hA1 : A1 = none → c1 = 0) (hA2 : A2 = none → c2 = 0)
    (hx : ∀ x ∈ xs, x < 256) (hy : ∀ x ∈ ys, x < 256) (hc1 : xs.length ≤ c1) (hc2 : ys.length ≤ c2) (hm1 : xs.length ≤ 1048576) (hm2 : ys.length ≤ 1048576) :
    Calls Tryd.prog 5 #[.slice A1 xs.length c1, .slice A2 ys.length c2] w fun e w' => e = .returned (.bool true) ∧ Below w.heap.size w w' := by
  obtain ⟨i0, hi, hz0, hz1, hz2⟩ := info_parts Tryd.infoU8'
  have HA := Lib.hid (shaAwake HD)
  have HN := Lib.hid HH.new
  have W1 := Lib.hid (fun (w1 : World) (a b : Addr) (s t : List Nat) (h : Two R w w1 a b s t) (hs : s.length ≤ 1048576) => h.write HH A1 c1 xs hr1 hA1 hx hc1 (by omega))
  have W2 := Lib.hid (fun (w1 : World) (a b : Addr) (s t : List Nat) (h : Two R w w1 a b s t) (hs : s.length ≤ 1048576) => h.write HH A2 c2 ys hr2 hA2 hy hc2 (by omega))
  have hxy : ∀ x ∈ xs ++ ys, x < 256 := fun x h => by rcases List.mem_append.1 h with h | h; exact hx x h; exact hy x h
  have hyx : ∀ x ∈ ys ++ xs, x < 256 := fun x h => by rcases List.mem_append.1 h with h | h; exact hy x h; exact hx x h
  have S1 := Lib.hid (fun (w1 : World) (a b : Addr) (t : List Nat) (h : Two R w w1 a b ([] ++ xs ++ ys) t) => h.sum HH (by simpa using hxy) (by simp; omega))
  have S2 := Lib.hid (fun (w1 : World) (a b : Addr) (t : List Nat) (h : Two R w w1 a b ([] ++ ys ++ xs) t) => h.sum HH (by simpa using hyx) (by simp; omega))
  simp only [List.nil_append] at S1 S2
  have D1 := Lib.hid (fun (w1 : World) (A : Option Addr) (c : Nat) (hb : Below w.heap.size w w1) (h : Ints w1 w1.heap.size .u8 A (up (xs ++ ys))) (hA : A = none → c = 0) (hc : (xs ++ ys).length ≤ c) => HD A c (xs ++ ys) w1 hb h hA hxy hc (by rw [List.length_append]; omega))
  have D2 := Lib.hid (fun (w1 : World) (A : Option Addr) (c : Nat) (hb : Below w.heap.size w w1) (h : Ints w1 w1.heap.size .u8 A (up (ys ++ xs))) (hA : A = none → c = 0) (hc : (ys ++ xs).length ≤ c) => HD A c (ys ++ xs) w1 hb h hA hyx hc (by rw [List.length_append]; omega))
  have HE : Hid (∀ (l : List Nat) (w : World), (Op.equalIn 10000 23 (.agg (BA (digestN l))) (.agg (BA (digestN l)))).run Tryd.prog w = .ok true w) := fun l w => by
    have := run_eqArrays (P := Tryd.prog) (t := 23) (e := 5) (n := 32) (i := i0) (by kernel_rfl) Tryd.underlying5 Tryd.underlying23 hi hz1 (digestN l) (digestN l) rfl rfl w
    rw [this, beq_self_eq_true]
  have heq1 := HE.out (xs ++ ys)
  have heq2 := HE.out (ys ++ xs)
  have HX := Lib.hid hr1
  have HY := Lib.hid hr2
  have HAX := Lib.hid hA1
  have HAY := Lib.hid hA2
  clear hr1 hr2 hA1 hA2 hx hy hxy hyx HE
  go_enter Tryd.func5, Tryd.ntmps5
  go_wp2_with (first
    | (go_at_call 10; with_reducible (refine Calls.mono (HN.out w1 hb1) ?_); rintro e w2 ⟨b, G, rfl, hR2, hG, hb2⟩; have t2 := Two.start HH hR hF hb1 hR2 hG hb2)
    | (go_at_call 10; with_reducible (refine Calls.mono (HN.out w (Below.refl _ _)) ?_); rintro e w1 ⟨a, F, rfl, hR, hF, hb1⟩)
    | (go_at_call 11; with_reducible (refine Calls.mono (W1.out _ _ _ _ _ t5.swap ?hs) ?_); (case hs => simp; omega); rintro e w6 ⟨rfl, t6⟩)
    | (go_at_call 11; with_reducible (refine Calls.mono (W2.out _ _ _ _ _ t4.swap ?hs) ?_); (case hs => simp; omega); rintro e w5 ⟨rfl, t5⟩)
    | (go_at_call 11; with_reducible (refine Calls.mono (W2.out _ _ _ _ _ t3.swap (by simp)) ?_); rintro e w4 ⟨rfl, t4⟩)
    | (go_at_call 11; with_reducible (refine Calls.mono (W1.out _ _ _ _ _ t2 (by simp)) ?_); rintro e w3 ⟨rfl, t3⟩)
    | (go_at_call 8; with_reducible (refine Calls.mono (HA.out _ t6.bel) ?_); rintro e w7 ⟨rfl, hb7⟩; have t7 := (t6.any HH hb7).swap; simp only [List.nil_append] at t7)
    | (go_at_call 12; with_reducible (refine Calls.mono (S1.out _ _ _ _ t7) ?_); rintro e w8 ⟨rfl, t8⟩)
    | (at_builtin; refine wpList_append_when _ rfl (.tmp 31) (.tmp 32) 22 rfl w8.heap.size 5 i0 (.int .u8 0) 1 Tryd.underlying22 hi hz0 hz1 hz2 rfl .u8 _ [] (up xs) w.heap.size c1 xs.length A1 (up_len xs) rfl rfl (World.ownsRow_made w8 #[] 0 (Nat.le_refl _) (Nat.zero_le _) rfl) ((HX.out.below t8.bel).alloc t8.bel.size _) HAX.out ?c1 ?c2 ?c3 ?_))
  case c1 => rw [List.length_nil, up_len]; unfold maxLen; omega
  case c2 => rw [List.length_nil, up_len]; omega
  case c3 => simp
  intro v9 w9 hown9 hg9 _
  have b9 : Below w8.heap.size w8 w9 := ((Below.refl _ _).alloc (Nat.le_refl _) _).grown hg9 (by simp) fun q hq => by simp [Value.ownBlock] at hq; omega
  have y9 := HY.out.below (chain t8.bel b9)
  have z9 := b9.size
  clear hg9
  go_wp2_with (at_builtin; refine wpList_append_when _ rfl (.tmp 33) (.tmp 34) 22 rfl w8.heap.size 5 i0 (.int .u8 0) 1 Tryd.underlying22 hi hz0 hz1 hz2 rfl .u8 _ (up xs) (up ys) w.heap.size c2 ys.length A2 (up_len ys) rfl rfl hown9 y9 HAY.out ?d1 ?d2 z9 ?_)
  case d1 => rw [up_len, up_len]; unfold maxLen; omega
  case d2 => rw [up_len, up_len]; omega
  intro v10 w10 hown10 hg10 _
  have b10 : Below w8.heap.size w8 w10 := b9.grown hg10 z9 fun q hq => (hown9.lt q hq).1
  have hw10 : w10.ownsRow w8.heap.size 5 1 v10 (xs ++ ys).length ((up (xs ++ ys)).map (Value.int .u8)) := by
    rw [up_append, List.map_append, List.length_append, ← up_len xs, ← up_len ys]; exact hown10
  clear hown10
  obtain ⟨A3, c3, hv⟩ := own_slice hw10
  subst hv
  have t10 := t8.any HH b10
  have E1 := Lib.hid (D1.out w10 A3 c3 t10.bel (Ints.of_own (c := c3) (n := (xs ++ ys).length) (by rw [up_len]; exact hw10)) (own_nil hw10) (own_le hw10))
  rw [List.length_append] at E1
  clear hg10 hown9 hw10 y9
  go_wp2_with (first
    | (go_at_call 7; with_reducible (refine Calls.mono E1.out ?_); rintro e w11 ⟨rfl, hb11⟩; have t11 := (t10.any HH hb11).swap)
    | (go_at_call 12; with_reducible (refine Calls.mono (S2.out _ _ _ _ t11) ?_); rintro e w12 ⟨rfl, t12⟩)
    | (at_builtin; refine wpList_append_when _ rfl (.tmp 42) (.tmp 43) 22 rfl w12.heap.size 5 i0 (.int .u8 0) 1 Tryd.underlying22 hi hz0 hz1 hz2 rfl .u8 _ [] (up ys) w.heap.size c2 ys.length A2 (up_len ys) rfl rfl (World.ownsRow_made w12 #[] 0 (Nat.le_refl _) (Nat.zero_le _) rfl) ((HY.out.below t12.bel).alloc t12.bel.size _) HAY.out ?c1 ?c2 ?c3 ?_))
  case c1 => rw [List.length_nil, up_len]; unfold maxLen; omega
  case c2 => rw [List.length_nil, up_len]; omega
  case c3 => simp
  intro v13 w13 hown13 hg13 _
  have b13 : Below w12.heap.size w12 w13 := ((Below.refl _ _).alloc (Nat.le_refl _) _).grown hg13 (by simp) fun q hq => by simp [Value.ownBlock] at hq; omega
  have x13 := HX.out.below (chain t12.bel b13)
  have z13 := b13.size
  clear hg13
  go_wp2_with (at_builtin; refine wpList_append_when _ rfl (.tmp 44) (.tmp 45) 22 rfl w12.heap.size 5 i0 (.int .u8 0) 1 Tryd.underlying22 hi hz0 hz1 hz2 rfl .u8 _ (up ys) (up xs) w.heap.size c1 xs.length A1 (up_len xs) rfl rfl hown13 x13 HAX.out ?d1 ?d2 z13 ?_)
  case d1 => rw [up_len, up_len]; unfold maxLen; omega
  case d2 => rw [up_len, up_len]; omega
  intro v14 w14 hown14 hg14 _
  have b14 : Below w12.heap.size w12 w14 := b13.grown hg14 z13 fun q hq => (hown13.lt q hq).1
  have hw14 : w14.ownsRow w12.heap.size 5 1 v14 (ys ++ xs).length ((up (ys ++ xs)).map (Value.int .u8)) := by
    rw [up_append, List.map_append, List.length_append, ← up_len xs, ← up_len ys]; exact hown14
  clear hown14
  obtain ⟨A4, c4, hv⟩ := own_slice hw14
  subst hv
  have t14 := t12.any HH b14
  have E2 := Lib.hid (D2.out w14 A4 c4 t14.bel (Ints.of_own (c := c4) (n := (ys ++ xs).length) (by rw [up_len]; exact hw14)) (own_nil hw14) (own_le hw14))
  rw [List.length_append] at E2
  clear hg14 hown13 hw14 x13
  go_wp2_with (go_at_call 7; with_reducible (refine Calls.mono E2.out ?_); rintro e w15 ⟨rfl, hb15⟩; have t15 := t14.any HH hb15)
  go_ret
  exact ⟨rfl, t15.bel⟩

end Go.Proofs.YtphgajjjdfinnaaDoor
