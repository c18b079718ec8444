/-
  Plain: tenants, volumes and slots, and changes of them. No program is spoken of here. Words for tables in memory: rows of tenants, of volumes, a table by value. The document's own Tenant, Volume, Owned (stowageref16).
-/
import Derived.Test.YtbmgiekiildaaaaWordsG
import Derived.Test.YtbmgiekiildaaaaChecked
import Derived.BigQuiet
namespace Go.Proofs.Ytbmgiekiildaaaa
open Go.RowKit

structure Ten where
  id : Int
  quota : Int
  rate : Int
  burst : Int
  key : ByteArray
  dying : Bool
structure Vol where
  id : Int
  ten : Int
  blocks : Int
  base : Int
structure Tab where
  ts : List Ten
  vs : List Vol
  os : List Int
def Tab.zero : Tab := ⟨[], [], []⟩

/-- How many slots a tenant has. -/
def ownN (os : List Int) (id : Int) : Nat := if 1 ≤ id ∧ id ≤ 7 then os.countP (fun o => decide (o = id)) else 0
def sumQ (ts : List Ten) : Int := (ts.map Ten.quota).sum
def tenAt (ts : List Ten) (id : Int) : Option Ten := ts.find? (fun x => decide (x.id = id))
def volAt (vs : List Vol) (id : Int) : Option Vol := vs.find? (fun x => decide (x.id = id))
structure Ten.plain (x : Ten) : Prop where
  id : 1 ≤ x.id ∧ x.id ≤ 7
  quota : 1 ≤ x.quota ∧ x.quota ≤ 64
  rate : 0 ≤ x.rate ∧ x.rate ≤ 4294967296
  burst : 1 ≤ x.burst ∧ x.burst ≤ 64
  key : x.key.size = 16
/-- A table is sound. -/
structure Tab.sound (t : Tab) : Prop where
  len : 1 ≤ t.os.length ∧ t.os.length ≤ 64
  ten : ∀ x ∈ t.ts, x.plain ∧ (ownN t.os x.id : Int) ≤ x.quota
  up : t.ts.Pairwise fun x y => x.id < y.id
  vol : ∀ v ∈ t.vs, (0 ≤ v.id ∧ v.id ≤ 7) ∧ (tenAt t.ts v.ten).isSome ∧ (0 ≤ v.blocks ∧ v.blocks ≤ 32) ∧ 0 ≤ v.base ∧ v.base ≤ 1099511627776
  vup : t.vs.Pairwise fun x y => x.id < y.id
  own : ∀ o ∈ t.os, o = 0 ∨ (tenAt t.ts o).isSome
  sum : sumQ t.ts ≤ t.os.length

/-! ### Finding -/
theorem tenAt_some {ts : List Ten} {id : Int} {x : Ten} (h : tenAt ts id = some x) : x ∈ ts ∧ x.id = id :=
  ⟨List.mem_of_find?_eq_some h, by simpa using List.find?_some h⟩
theorem tenAt_isSome {ts : List Ten} {id : Int} : (tenAt ts id).isSome ↔ ∃ x ∈ ts, x.id = id := by
  unfold tenAt
  rw [List.find?_isSome]
  simp
theorem volAt_some {vs : List Vol} {id : Int} {x : Vol} (h : volAt vs id = some x) : x ∈ vs ∧ x.id = id :=
  ⟨List.mem_of_find?_eq_some h, by simpa using List.find?_some h⟩
theorem volAt_isSome {vs : List Vol} {id : Int} : (volAt vs id).isSome ↔ ∃ x ∈ vs, x.id = id := by
  unfold volAt
  rw [List.find?_isSome]
  simp

/-! ### A list in order: a thing put in, one changed, one taken out -/
section
variable {α : Type} (k : α → Int)
def insK (x : α) : List α → List α
  | [] => [x]
  | y :: l => if k x < k y then x :: y :: l else y :: insK x l
theorem insK_mem {x y : α} : ∀ {l : List α}, y ∈ insK k x l ↔ y = x ∨ y ∈ l
  | [] => by simp [insK]
  | z :: l => by
    unfold insK
    split
    · simp
    · simp only [List.mem_cons, insK_mem (l := l)]
      constructor
      · rintro (h | h | h)
        · exact .inr (.inl h)
        · exact .inl h
        · exact .inr (.inr h)
      · rintro (h | h | h)
        · exact .inr (.inl h)
        · exact .inl h
        · exact .inr (.inr h)
theorem insK_sorted {x : α} : ∀ {l : List α}, l.Pairwise (fun a b => k a < k b) → (∀ y ∈ l, k y ≠ k x) → (insK k x l).Pairwise fun a b => k a < k b
  | [], _, _ => by simp [insK]
  | z :: l, h, hn => by
    obtain ⟨h1, h2⟩ := List.pairwise_cons.1 h
    unfold insK
    split
    · rename_i hlt
      refine List.pairwise_cons.2 ⟨fun y hy => ?_, h⟩
      rcases List.mem_cons.1 hy with rfl | hy
      · exact hlt
      · have := h1 y hy; omega
    · rename_i hlt
      refine List.pairwise_cons.2 ⟨fun y hy => ?_, insK_sorted h2 fun y hy => hn y (by simp [hy])⟩
      rcases (insK_mem k).1 hy with rfl | hy
      · have := hn z (by simp); omega
      · exact h1 y hy
theorem insK_sum {x : α} (f : α → Int) : ∀ {l : List α}, ((insK k x l).map f).sum = (l.map f).sum + f x
  | [] => by simp [insK]
  | z :: l => by
    unfold insK
    split
    · simp; omega
    · simp only [List.map_cons, List.sum_cons, insK_sum f (l := l)]; omega
/-- What comes last goes to the end. -/
theorem insK_last {x : α} : ∀ {l : List α}, (∀ y ∈ l, k y < k x) → insK k x l = l ++ [x]
  | [], _ => rfl
  | z :: l, h => by
    unfold insK
    rw [if_neg (by have := h z (by simp); omega), insK_last fun y hy => h y (by simp [hy])]
    rfl
def updK (id : Int) (f : α → α) (l : List α) : List α := l.map fun x => if k x = id then f x else x
theorem updK_mem {id : Int} {f : α → α} {l : List α} {y : α} (h : y ∈ updK k id f l) : (y ∈ l ∧ k y ≠ id) ∨ ∃ x ∈ l, k x = id ∧ y = f x := by
  obtain ⟨x, hx, he⟩ := List.mem_map.1 h
  by_cases hk : k x = id
  · rw [if_pos hk] at he; exact .inr ⟨x, hx, hk, he.symm⟩
  · rw [if_neg hk] at he; subst he; exact .inl ⟨hx, hk⟩
theorem updK_keys {id : Int} {f : α → α} {l : List α} (hf : ∀ x, k (f x) = k x) : (updK k id f l).map k = l.map k := by
  unfold updK
  rw [List.map_map]
  refine List.map_congr_left fun x _ => ?_
  show k (if k x = id then f x else x) = k x
  split
  · exact hf x
  · rfl
theorem updK_sorted {id : Int} {f : α → α} {l : List α} (hf : ∀ x, k (f x) = k x) (h : l.Pairwise fun a b => k a < k b) : (updK k id f l).Pairwise fun a b => k a < k b := by
  have h1 : (l.map k).Pairwise (· < ·) := List.pairwise_map.2 h
  rw [← updK_keys k hf (id := id)] at h1
  exact List.pairwise_map.1 h1
/-- In order, one has the key at most. -/
theorem sorted_one {l : List α} (h : l.Pairwise fun a b => k a < k b) {x y : α} (hx : x ∈ l) (hy : y ∈ l) (he : k x = k y) : x = y := by
  induction l with
  | nil => cases hx
  | cons z l ih =>
    obtain ⟨h1, h2⟩ := List.pairwise_cons.1 h
    rcases List.mem_cons.1 hx with rfl | hx' <;> rcases List.mem_cons.1 hy with rfl | hy'
    · rfl
    · have := h1 y hy'; omega
    · have := h1 x hx'; omega
    · exact ih h2 hx' hy'
theorem updK_sum {id : Int} {f : α → α} (g : α → Int) : ∀ {l : List α}, (l.Pairwise fun a b => k a < k b) → ∀ x ∈ l, k x = id → ((updK k id f l).map g).sum = (l.map g).sum - g x + g (f x)
  | z :: l, h, x, hx, hk => by
    obtain ⟨h1, h2⟩ := List.pairwise_cons.1 h
    unfold updK
    simp only [List.map_cons, List.sum_cons]
    rcases List.mem_cons.1 hx with rfl | hx'
    · rw [if_pos hk]
      have e : l.map (fun x => if k x = id then f x else x) = l := by
        conv => rhs; rw [← List.map_id l]
        refine List.map_congr_left fun y hy => ?_
        rw [if_neg (by have := h1 y hy; omega)]
        rfl
      rw [e]; omega
    · rw [if_neg (by have := h1 x hx'; omega)]
      have := updK_sum g h2 x hx' hk (f := f)
      unfold updK at this
      omega
theorem delK_sum {id : Int} (g : α → Int) : ∀ {l : List α}, (∀ x ∈ l, k x = id → 0 ≤ g x) → ((l.filter fun x => decide (k x ≠ id)).map g).sum ≤ (l.map g).sum
  | [], _ => by simp
  | z :: l, hg => by
    have := delK_sum g (l := l) fun x hx => hg x (by simp [hx])
    by_cases hz : k z = id
    · rw [List.filter_cons_of_neg (by simp [hz])]
      simp only [List.map_cons, List.sum_cons]
      have := hg z (by simp) hz
      omega
    · rw [List.filter_cons_of_pos (by simp [hz])]
      simp only [List.map_cons, List.sum_cons]
      omega
end

/-! ### Changes -/
def inR (n a b : Int) : Prop := a ≤ n ∧ n ≤ b
instance (n a b : Int) : Decidable (inR n a b) := by unfold inR; infer_instance
def plainT (r : Rc) : Prop := inR r.a 1 7 ∧ inR r.b 1 64 ∧ inR r.c 0 4294967296 ∧ inR r.d 1 64 ∧ r.key.size = 16
instance (r : Rc) : Decidable (plainT r) := by unfold plainT; infer_instance
/-- A change is formed. -/
def formR (r : Rc) : Prop :=
  if r.k = 1 then plainT r
  else if r.d ≠ 0 ∨ r.key.size ≠ 0 ∨ (r.c ≠ 0 ∧ r.k ≠ 5) then False
  else if r.k = 0 then r.a = 0 ∧ r.b = 0
  else if r.k = 2 then inR r.a 1 7 ∧ inR r.b 1 64
  else if r.k = 3 ∨ r.k = 4 then inR r.a 1 7 ∧ r.b = 0
  else if r.k = 5 then inR r.a 0 7 ∧ inR r.b 1 7 ∧ inR r.c 0 32
  else if r.k = 6 then inR r.a 0 7 ∧ inR r.b 0 32
  else if r.k = 7 then inR r.a 0 7 ∧ r.b = 0
  else if r.k = 8 then inR r.a 0 7 ∧ inR r.b 0 1099511627776
  else if r.k = 9 then inR r.a 0 63 ∧ inR r.b 0 7
  else False
instance (r : Rc) : Decidable (formR r) := by unfold formR; infer_instance
def hasV (vs : List Vol) (id : Int) : Prop := ∃ v ∈ vs, v.ten = id
instance (vs : List Vol) (id : Int) : Decidable (hasV vs id) := by unfold hasV; infer_instance

def one1 (t : Tab) (r : Rc) : Int × Tab :=
  if (tenAt t.ts r.a).isSome then (5, t) else if (t.os.length : Int) < sumQ t.ts + r.b then (6, t) else (0, { t with ts := insK Ten.id ⟨r.a, r.b, r.c, r.d, r.key, false⟩ t.ts })
def one2 (t : Tab) (r : Rc) : Int × Tab :=
  match tenAt t.ts r.a with
  | none => (4, t)
  | some x => if x.dying = true ∨ r.b < ownN t.os r.a then (10, t) else if (t.os.length : Int) < sumQ t.ts - x.quota + r.b then (6, t) else (0, { t with ts := updK Ten.id r.a (fun x => { x with quota := r.b }) t.ts })
def one3 (t : Tab) (r : Rc) : Int × Tab :=
  match tenAt t.ts r.a with
  | none => (4, t)
  | some x => if x.dying = true then (5, t) else (0, { t with ts := updK Ten.id r.a (fun x => { x with dying := true }) t.ts })
def one4 (t : Tab) (r : Rc) : Int × Tab :=
  match tenAt t.ts r.a with
  | none => (4, t)
  | some x => if x.dying = false ∨ 0 < ownN t.os r.a ∨ hasV t.vs r.a then (10, t) else (0, { t with ts := t.ts.filter fun x => decide (x.id ≠ r.a) })
def one5 (t : Tab) (r : Rc) : Int × Tab :=
  if (volAt t.vs r.a).isSome then (5, t) else
  match tenAt t.ts r.b with
  | none => (4, t)
  | some x => if x.dying = true then (10, t) else (0, { t with vs := insK Vol.id ⟨r.a, r.b, r.c, 0⟩ t.vs })
def one6 (t : Tab) (r : Rc) : Int × Tab :=
  match volAt t.vs r.a with
  | none => (4, t)
  | some _ => (0, { t with vs := updK Vol.id r.a (fun x => { x with blocks := r.b }) t.vs })
def one7 (t : Tab) (r : Rc) : Int × Tab :=
  match volAt t.vs r.a with
  | none => (4, t)
  | some _ => (0, { t with vs := t.vs.filter fun x => decide (x.id ≠ r.a) })
def one8 (t : Tab) (r : Rc) : Int × Tab :=
  match volAt t.vs r.a with
  | none => (4, t)
  | some v => if r.b < v.base then (7, t) else (0, { t with vs := updK Vol.id r.a (fun x => { x with base := r.b }) t.vs })
def one9 (t : Tab) (r : Rc) : Int × Tab :=
  if (t.os.length : Int) ≤ r.a then (7, t)
  else if r.b = 0 then if t.os.getD r.a.toNat 0 = 0 then (4, t) else (0, { t with os := t.os.set r.a.toNat 0 })
  else match tenAt t.ts r.b with
  | none => (4, t)
  | some x => if x.dying = true then (10, t) else if t.os.getD r.a.toNat 0 ≠ 0 then (5, t) else if x.quota ≤ ownN t.os r.b then (6, t) else (0, { t with os := t.os.set r.a.toNat r.b })
/-- One change of a sound table. -/
def oneR (t : Tab) (r : Rc) : Int × Tab :=
  if r.k = 1 then one1 t r else if r.k = 2 then one2 t r else if r.k = 3 then one3 t r else if r.k = 4 then one4 t r else if r.k = 5 then one5 t r
  else if r.k = 6 then one6 t r else if r.k = 7 then one7 t r else if r.k = 8 then one8 t r else if r.k = 9 then one9 t r else (0, t)
/-- Changes, one behind the other; the first error ends them. -/
def runR : Tab → List Rc → Int × Tab
  | t, [] => (0, t)
  | t, r :: l => if formR r then (if (oneR t r).1 = 0 then runR (oneR t r).2 l else ((oneR t r).1, Tab.zero)) else (1, Tab.zero)
open Classical in
noncomputable def applyR (t : Tab) (l : List Rc) : Int × Tab := if t.sound then runR t l else (2, Tab.zero)

/-! ### What comes of a sound table is sound -/
theorem ownN_le (os : List Int) (id : Int) : ownN os id ≤ os.length := by
  unfold ownN
  split
  · exact List.countP_le_length
  · omega
theorem ownN_set {os : List Int} {i : Nat} (hi : i < os.length) (v id : Int) (hid : 1 ≤ id ∧ id ≤ 7) :
    ownN (os.set i v) id = ownN os id - (if os.getD i 0 = id then 1 else 0) + (if v = id then 1 else 0) := by
  unfold ownN
  rw [if_pos hid, if_pos hid, List.countP_set hi]
  simp [List.getD, hi]
theorem tenAt_keys {ts ts' : List Ten} (h : ts'.map Ten.id = ts.map Ten.id) (id : Int) : (tenAt ts' id).isSome = (tenAt ts id).isSome := by
  rw [Bool.eq_iff_iff, tenAt_isSome, tenAt_isSome]
  have e : ∀ l : List Ten, (∃ x ∈ l, x.id = id) ↔ id ∈ l.map Ten.id := fun l => by simp
  rw [e, e, h]

theorem sound1 {t : Tab} {r : Rc} (hs : t.sound) (hf : plainT r) (h : (one1 t r).1 = 0) : (one1 t r).2.sound ∧ (one1 t r).2.os.length = t.os.length := by
  unfold one1 at h ⊢
  split at h
  · simp at h
  · rename_i hn
    split at h
    · simp at h
    · rename_i hq
      rw [if_neg hn, if_neg hq]
      rw [tenAt_isSome] at hn
      obtain ⟨f1, f2, f3, f4, f5⟩ := hf
      have hnew : ∀ y ∈ t.ts, y.id ≠ r.a := fun y hy he => hn ⟨y, hy, he⟩
      have hsub : ∀ id, (tenAt t.ts id).isSome → (tenAt (insK Ten.id ⟨r.a, r.b, r.c, r.d, r.key, false⟩ t.ts) id).isSome := fun id h => by
        obtain ⟨x, hx, he⟩ := tenAt_isSome.1 h
        exact tenAt_isSome.2 ⟨x, (insK_mem _).2 (.inr hx), he⟩
      refine ⟨⟨hs.len, fun x hx => ?_, insK_sorted _ hs.up hnew, fun v hv => ?_, hs.vup, fun o ho => ?_, ?_⟩, rfl⟩
      · rcases (insK_mem _).1 hx with rfl | hx
        · refine ⟨⟨f1, f2, f3, f4, f5⟩, ?_⟩
          have : ownN t.os r.a = 0 := by
            unfold ownN
            split
            · rw [List.countP_eq_zero]
              intro o ho he
              have he : o = r.a := by simpa using he
              rcases hs.own o ho with h0 | h0
              · unfold inR at f1; omega
              · exact hn (he ▸ tenAt_isSome.1 h0)
            · rfl
          show ((ownN t.os r.a : Nat) : Int) ≤ r.b
          rw [this]; unfold inR at f2; omega
        · exact hs.ten x hx
      · obtain ⟨a1, a2, a3, a4⟩ := hs.vol v hv
        exact ⟨a1, hsub _ a2, a3, a4⟩
      · exact (hs.own o ho).imp_right (hsub _)
      · show sumQ (insK Ten.id _ t.ts) ≤ _
        unfold sumQ at hq ⊢
        rw [insK_sum]
        show _ + r.b ≤ ((t.os.length : Nat) : Int)
        omega
theorem sound2 {t : Tab} {r : Rc} (hs : t.sound) (hf : inR r.b 1 64) (h : (one2 t r).1 = 0) : (one2 t r).2.sound ∧ (one2 t r).2.os.length = t.os.length := by
  unfold one2 at h ⊢
  split at h
  · simp at h
  · rename_i x hx
    obtain ⟨hm, hid⟩ := tenAt_some hx
    split at h
    · simp at h
    · rename_i hb
      split at h
      · simp at h
      · rename_i hq
        simp only [if_neg hb, if_neg hq]
        have hk := updK_keys Ten.id (id := r.a) (f := fun x : Ten => { x with quota := r.b }) (l := t.ts) (fun _ => rfl)
        refine ⟨⟨hs.len, fun y hy => ?_, updK_sorted _ (fun _ => rfl) hs.up, fun v hv => ?_, hs.vup, fun o ho => ?_, ?_⟩, trivial⟩
        · rcases updK_mem _ hy with ⟨hy, _⟩ | ⟨z, hz, hzk, rfl⟩
          · exact hs.ten y hy
          · obtain ⟨hp, _⟩ := hs.ten z hz
            refine ⟨⟨hp.id, hf, hp.rate, hp.burst, hp.key⟩, ?_⟩
            show ((ownN t.os z.id : Nat) : Int) ≤ r.b
            rw [hzk]; omega
        · obtain ⟨a1, a2, a3, a4⟩ := hs.vol v hv
          exact ⟨a1, by rw [tenAt_keys hk]; exact a2, a3, a4⟩
        · refine (hs.own o ho).imp_right fun h => ?_
          rw [tenAt_keys hk]; exact h
        · show sumQ (updK Ten.id r.a _ t.ts) ≤ _
          have := updK_sum Ten.id (id := r.a) (f := fun x : Ten => { x with quota := r.b }) Ten.quota hs.up x hm hid
          unfold sumQ at hq ⊢
          rw [this]
          show _ - x.quota + r.b ≤ ((t.os.length : Nat) : Int)
          omega
theorem sound3 {t : Tab} {r : Rc} (hs : t.sound) (h : (one3 t r).1 = 0) : (one3 t r).2.sound ∧ (one3 t r).2.os.length = t.os.length := by
  unfold one3 at h ⊢
  split at h
  · simp at h
  · rename_i x hx
    obtain ⟨hm, hid⟩ := tenAt_some hx
    split at h
    · simp at h
    · rename_i hb
      simp only [if_neg hb]
      have hk := updK_keys Ten.id (id := r.a) (f := fun x : Ten => { x with dying := true }) (l := t.ts) (fun _ => rfl)
      refine ⟨⟨hs.len, fun y hy => ?_, updK_sorted _ (fun _ => rfl) hs.up, fun v hv => ?_, hs.vup, fun o ho => ?_, ?_⟩, trivial⟩
      · rcases updK_mem _ hy with ⟨hy, _⟩ | ⟨z, hz, hzk, rfl⟩
        · exact hs.ten y hy
        · obtain ⟨hp, hq⟩ := hs.ten z hz
          exact ⟨⟨hp.id, hp.quota, hp.rate, hp.burst, hp.key⟩, hq⟩
      · obtain ⟨a1, a2, a3, a4⟩ := hs.vol v hv
        exact ⟨a1, by rw [tenAt_keys hk]; exact a2, a3, a4⟩
      · refine (hs.own o ho).imp_right fun h => ?_
        rw [tenAt_keys hk]; exact h
      · show sumQ (updK Ten.id r.a _ t.ts) ≤ _
        have := updK_sum Ten.id (id := r.a) (f := fun x : Ten => { x with dying := true }) Ten.quota hs.up x hm hid
        have h2 := hs.sum
        unfold sumQ at h2 ⊢
        rw [this]
        show _ - x.quota + x.quota ≤ ((t.os.length : Nat) : Int)
        omega
theorem sound4 {t : Tab} {r : Rc} (hs : t.sound) (hf : inR r.a 1 7) (h : (one4 t r).1 = 0) : (one4 t r).2.sound ∧ (one4 t r).2.os.length = t.os.length := by
  unfold one4 at h ⊢
  split at h
  · simp at h
  · rename_i x hx
    split at h
    · simp at h
    · rename_i hb
      simp only [if_neg hb]
      have hsub : ∀ id, id ≠ r.a → (tenAt t.ts id).isSome → (tenAt (t.ts.filter fun x => decide (x.id ≠ r.a)) id).isSome := fun id hne h => by
        obtain ⟨x, hx, he⟩ := tenAt_isSome.1 h
        exact tenAt_isSome.2 ⟨x, List.mem_filter.2 ⟨hx, by simp [he, hne]⟩, he⟩
      refine ⟨⟨hs.len, fun y hy => hs.ten y (List.mem_filter.1 hy).1, hs.up.filter _, fun v hv => ?_, hs.vup, fun o ho => ?_, ?_⟩, trivial⟩
      · obtain ⟨a1, a2, a3, a4⟩ := hs.vol v hv
        exact ⟨a1, hsub _ (fun he => hb (.inr (.inr ⟨v, hv, he⟩))) a2, a3, a4⟩
      · by_cases he : o = r.a
        · exfalso
          apply hb
          right; left
          unfold ownN
          rw [if_pos (show 1 ≤ r.a ∧ r.a ≤ 7 from hf), List.countP_pos_iff]
          exact ⟨o, ho, by simp [he]⟩
        · exact (hs.own o ho).imp_right (hsub _ he)
      · have h1 := delK_sum Ten.id (id := r.a) Ten.quota (l := t.ts) (fun x hx hk => by have := (hs.ten x hx).1.quota; omega)
        have h2 := hs.sum
        unfold sumQ at h2 ⊢
        exact Int.le_trans h1 h2
theorem sound5 {t : Tab} {r : Rc} (hs : t.sound) (hf : inR r.a 0 7 ∧ inR r.b 1 7 ∧ inR r.c 0 32) (h : (one5 t r).1 = 0) : (one5 t r).2.sound ∧ (one5 t r).2.os.length = t.os.length := by
  unfold one5 at h ⊢
  split at h
  · simp at h
  · rename_i hn
    rw [if_neg hn]
    rw [volAt_isSome] at hn
    split at h
    · simp at h
    · rename_i x hx
      split at h
      · simp at h
      · rename_i hb
        simp only [if_neg hb]
        refine ⟨⟨hs.len, hs.ten, hs.up, fun v hv => ?_, insK_sorted _ hs.vup (fun y hy he => hn ⟨y, hy, he⟩), hs.own, hs.sum⟩, trivial⟩
        rcases (insK_mem _).1 hv with rfl | hv
        · exact ⟨hf.1, by show (tenAt t.ts r.b).isSome = true; rw [hx]; rfl, hf.2.2, by show (0 : Int) ≤ 0 ∧ (0 : Int) ≤ 1099511627776; omega⟩
        · exact hs.vol v hv
theorem sound6 {t : Tab} {r : Rc} (hs : t.sound) (hf : inR r.b 0 32) (h : (one6 t r).1 = 0) : (one6 t r).2.sound ∧ (one6 t r).2.os.length = t.os.length := by
  unfold one6 at h ⊢
  split at h
  · simp at h
  · rename_i x hx
    refine ⟨⟨hs.len, hs.ten, hs.up, fun v hv => ?_, updK_sorted _ (fun _ => rfl) hs.vup, hs.own, hs.sum⟩, rfl⟩
    rcases updK_mem _ hv with ⟨hv, _⟩ | ⟨z, hz, hzk, rfl⟩
    · exact hs.vol v hv
    · obtain ⟨a1, a2, a3, a4⟩ := hs.vol z hz
      exact ⟨a1, a2, hf, a4⟩
theorem sound7 {t : Tab} {r : Rc} (hs : t.sound) (h : (one7 t r).1 = 0) : (one7 t r).2.sound ∧ (one7 t r).2.os.length = t.os.length := by
  unfold one7 at h ⊢
  split at h
  · simp at h
  · exact ⟨⟨hs.len, hs.ten, hs.up, fun v hv => hs.vol v (List.mem_filter.1 hv).1, hs.vup.filter _, hs.own, hs.sum⟩, rfl⟩
theorem sound8 {t : Tab} {r : Rc} (hs : t.sound) (hf : inR r.b 0 1099511627776) (h : (one8 t r).1 = 0) : (one8 t r).2.sound ∧ (one8 t r).2.os.length = t.os.length := by
  unfold one8 at h ⊢
  split at h
  · simp at h
  · rename_i x hx
    split at h
    · simp at h
    · rename_i hb
      simp only [if_neg hb]
      refine ⟨⟨hs.len, hs.ten, hs.up, fun v hv => ?_, updK_sorted _ (fun _ => rfl) hs.vup, hs.own, hs.sum⟩, trivial⟩
      rcases updK_mem _ hv with ⟨hv, _⟩ | ⟨z, hz, hzk, rfl⟩
      · exact hs.vol v hv
      · obtain ⟨a1, a2, a3, a4⟩ := hs.vol z hz
        exact ⟨a1, a2, a3, hf⟩
theorem set_mem {l : List Int} {i : Nat} {v o : Int} (h : o ∈ l.set i v) : o ∈ l ∨ o = v := List.mem_or_eq_of_mem_set h
theorem sound9 {t : Tab} {r : Rc} (hs : t.sound) (hf : inR r.a 0 63 ∧ inR r.b 0 7) (h : (one9 t r).1 = 0) : (one9 t r).2.sound ∧ (one9 t r).2.os.length = t.os.length := by
  unfold one9 at h ⊢
  split at h
  · simp at h
  · rename_i ha
    rw [if_neg ha]
    have hi : r.a.toNat < t.os.length := by have := hf.1; unfold inR at this; omega
    split at h
    · rename_i h0
      rw [if_pos h0]
      split at h
      · simp at h
      · rename_i hz
        rw [if_neg hz]
        refine ⟨⟨by simpa using hs.len, fun x hx => ?_, hs.up, hs.vol, hs.vup, fun o ho => ?_, by simpa using hs.sum⟩, by simp⟩
        · obtain ⟨p, q⟩ := hs.ten x hx
          refine ⟨p, ?_⟩
          show ((ownN (t.os.set r.a.toNat 0) x.id : Nat) : Int) ≤ _
          rw [ownN_set hi 0 x.id p.id, if_neg (show ¬ (0 : Int) = x.id from by have := p.id; omega)]
          omega
        · rcases set_mem ho with ho | rfl
          · exact hs.own o ho
          · exact .inl rfl
    · rename_i h0
      rw [if_neg h0]
      split at h
      · simp at h
      · rename_i x hx
        split at h
        · simp at h
        · rename_i hb
          split at h
          · simp at h
          · rename_i hz
            split at h
            · simp at h
            · rename_i hq
              simp only [if_neg hb, if_neg hz, if_neg hq]
              obtain ⟨hm, hid⟩ := tenAt_some hx
              refine ⟨⟨by simpa using hs.len, fun y hy => ?_, hs.up, hs.vol, hs.vup, fun o ho => ?_, by simpa using hs.sum⟩, by simp⟩
              · obtain ⟨p, q⟩ := hs.ten y hy
                refine ⟨p, ?_⟩
                show ((ownN (t.os.set r.a.toNat r.b) y.id : Nat) : Int) ≤ _
                rw [ownN_set hi r.b y.id p.id]
                by_cases he : r.b = y.id
                · have hxy : x = y := sorted_one Ten.id hs.up hm hy (by rw [hid]; exact he)
                  rw [if_pos he]
                  subst hxy
                  rw [he] at hq
                  omega
                · rw [if_neg he]; omega
              · rcases set_mem ho with ho | rfl
                · exact hs.own o ho
                · right
                  show (tenAt t.ts r.b).isSome = true
                  rw [hx]; rfl
/-- A change that is done leaves a sound table sound, with as many slots. -/
theorem sound_one {t : Tab} {r : Rc} (hs : t.sound) (hf : formR r) (h : (oneR t r).1 = 0) : (oneR t r).2.sound ∧ (oneR t r).2.os.length = t.os.length := by
  unfold oneR at h ⊢
  unfold formR at hf
  by_cases k1 : r.k = 1
  · rw [if_pos k1] at h hf ⊢; exact sound1 hs hf h
  rw [if_neg k1] at h hf ⊢
  split at hf
  · exact hf.elim
  by_cases k2 : r.k = 2
  · rw [if_pos k2] at h ⊢; rw [if_neg (by omega), if_pos k2] at hf; exact sound2 hs hf.2 h
  rw [if_neg k2] at h ⊢
  by_cases k3 : r.k = 3
  · rw [if_pos k3] at h ⊢; exact sound3 hs h
  rw [if_neg k3] at h ⊢
  by_cases k4 : r.k = 4
  · rw [if_pos k4] at h ⊢; rw [if_neg (by omega), if_neg k2, if_pos (.inr k4)] at hf; exact sound4 hs hf.1 h
  rw [if_neg k4] at h ⊢
  by_cases k5 : r.k = 5
  · rw [if_pos k5] at h ⊢; rw [if_neg (by omega), if_neg k2, if_neg (by omega), if_pos k5] at hf; exact sound5 hs hf h
  rw [if_neg k5] at h ⊢
  by_cases k6 : r.k = 6
  · rw [if_pos k6] at h ⊢; rw [if_neg (by omega), if_neg k2, if_neg (by omega), if_neg k5, if_pos k6] at hf; exact sound6 hs hf.2 h
  rw [if_neg k6] at h ⊢
  by_cases k7 : r.k = 7
  · rw [if_pos k7] at h ⊢; exact sound7 hs h
  rw [if_neg k7] at h ⊢
  by_cases k8 : r.k = 8
  · rw [if_pos k8] at h ⊢; rw [if_neg (by omega), if_neg k2, if_neg (by omega), if_neg k5, if_neg k6, if_neg k7, if_pos k8] at hf; exact sound8 hs hf.2 h
  rw [if_neg k8] at h ⊢
  by_cases k9 : r.k = 9
  · rw [if_pos k9] at h ⊢; rw [if_neg (by omega), if_neg k2, if_neg (by omega), if_neg k5, if_neg k6, if_neg k7, if_neg k8, if_pos k9] at hf; exact sound9 hs hf h
  rw [if_neg k9]
  exact ⟨hs, rfl⟩
theorem sound_run : ∀ {l : List Rc} {t : Tab}, t.sound → (runR t l).1 = 0 → (runR t l).2.sound ∧ (runR t l).2.os.length = t.os.length
  | [], t, hs, _ => ⟨hs, rfl⟩
  | r :: l, t, hs, h => by
    unfold runR at h ⊢
    by_cases hf : formR r
    · rw [if_pos hf] at h ⊢
      by_cases ho : (oneR t r).1 = 0
      · rw [if_pos ho] at h ⊢
        obtain ⟨h1, h2⟩ := sound_one hs hf ho
        obtain ⟨h3, h4⟩ := sound_run h1 h
        exact ⟨h3, h4.trans h2⟩
      · rw [if_neg ho] at h
        exact absurd h ho
    · rw [if_neg hf] at h
      exact absurd h (by decide)
/-- With an error there is no table. -/
theorem run_zero : ∀ {l : List Rc} {t : Tab}, (runR t l).1 ≠ 0 → (runR t l).2 = Tab.zero
  | [], t, h => absurd rfl h
  | r :: l, t, h => by
    unfold runR at h ⊢
    by_cases hf : formR r
    · rw [if_pos hf] at h ⊢
      by_cases ho : (oneR t r).1 = 0
      · rw [if_pos ho] at h ⊢
        exact run_zero h
      · rw [if_neg ho]
    · rw [if_neg hf]
theorem apply_zero {l : List Rc} {t : Tab} (h : (applyR t l).1 ≠ 0) : (applyR t l).2 = Tab.zero := by
  unfold applyR at h ⊢
  split at h
  · rename_i hs; rw [if_pos hs]; exact run_zero h
  · rename_i hs; rw [if_neg hs]
/-- Changes by and by are the changes at one time. -/
theorem run_append : ∀ {l : List Rc} {t : Tab} (m : List Rc), (runR t l).1 = 0 → runR t (l ++ m) = runR (runR t l).2 m
  | [], t, m, _ => rfl
  | r :: l, t, m, h => by
    rw [List.cons_append]
    unfold runR at h
    conv => lhs; unfold runR
    conv => rhs; arg 1; unfold runR
    by_cases hf : formR r
    · rw [if_pos hf] at h ⊢
      rw [if_pos hf]
      by_cases ho : (oneR t r).1 = 0
      · rw [if_pos ho] at h ⊢
        rw [if_pos ho]
        exact run_append m h
      · rw [if_neg ho] at h
        exact absurd h ho
    · rw [if_neg hf] at h
      exact absurd h (by decide)
/-- The first error ends them all. -/
theorem run_stop : ∀ {l : List Rc} {t : Tab} (m : List Rc), (runR t l).1 ≠ 0 → runR t (l ++ m) = runR t l
  | [], t, m, h => absurd rfl h
  | r :: l, t, m, h => by
    rw [List.cons_append]
    unfold runR at h ⊢
    by_cases hf : formR r
    · rw [if_pos hf] at h ⊢
      rw [if_pos hf]
      by_cases ho : (oneR t r).1 = 0
      · rw [if_pos ho] at h ⊢
        rw [if_pos ho]
        exact run_stop m h
      · rw [if_neg ho, if_neg ho]
    · rw [if_neg hf, if_neg hf]
theorem apply_one {t : Tab} {l : List Rc} (hs : t.sound) : applyR t l = runR t l := if_pos hs
/-- One more, ahead of which all went well. -/
theorem run_snoc {t : Tab} {l : List Rc} {r : Rc} (hs : t.sound) (h : (runR t l).1 = 0) : applyR (runR t l).2 [r] = runR t (l ++ [r]) := by
  rw [apply_one (sound_run hs h).1, run_append _ h]

end Go.Proofs.Ytbmgiekiildaaaa

namespace Go.Proofs.Ytbmgiekiildaaaa
open Go.RowKit

/-- A slice of tenants. -/
def TensAt (w : World) (B : Nat) (A : Option Addr) (ts : List Ten) : Prop :=
  ∀ k, (h : k < ts.length) → ∃ b off, A = some ⟨b, off, none⟩ ∧ b < B ∧ w.cell? ⟨b, off + k * 6, none⟩ = some (.int .i64 ts[k].id) ∧ w.cell? ⟨b, off + k * 6 + 1, none⟩ = some (.int .i64 ts[k].quota) ∧ w.cell? ⟨b, off + k * 6 + 2, none⟩ = some (.int .i64 ts[k].rate) ∧
    w.cell? ⟨b, off + k * 6 + 3, none⟩ = some (.int .i64 ts[k].burst) ∧ w.cell? ⟨b, off + k * 6 + 4, none⟩ = some (.string ts[k].key) ∧ w.cell? ⟨b, off + k * 6 + 5, none⟩ = some (.bool ts[k].dying)
/-- A slice of volumes. -/
def VolsAt (w : World) (B : Nat) (A : Option Addr) (vs : List Vol) : Prop :=
  ∀ k, (h : k < vs.length) → ∃ b off, A = some ⟨b, off, none⟩ ∧ b < B ∧ w.cell? ⟨b, off + k * 4, none⟩ = some (.int .i64 vs[k].id) ∧ w.cell? ⟨b, off + k * 4 + 1, none⟩ = some (.int .i64 vs[k].ten) ∧ w.cell? ⟨b, off + k * 4 + 2, none⟩ = some (.int .i64 vs[k].blocks) ∧ w.cell? ⟨b, off + k * 4 + 3, none⟩ = some (.int .i64 vs[k].base)
section
variable {w w' : World} {B B' : Nat} {A : Option Addr} {ts : List Ten} {vs : List Vol}
theorem TensAt.below (h : TensAt w B A ts) (hb : Below B w w') : TensAt w' B A ts := fun k hk => by
  obtain ⟨b, off, e, hl, c0, c1, c2, c3, c4, c5⟩ := h k hk
  exact ⟨b, off, e, hl, (hb.cell (p := ⟨b, _, none⟩) hl).trans c0, (hb.cell (p := ⟨b, _, none⟩) hl).trans c1, (hb.cell (p := ⟨b, _, none⟩) hl).trans c2, (hb.cell (p := ⟨b, _, none⟩) hl).trans c3, (hb.cell (p := ⟨b, _, none⟩) hl).trans c4, (hb.cell (p := ⟨b, _, none⟩) hl).trans c5⟩
theorem TensAt.more (h : TensAt w B A ts) (hB : B ≤ B') : TensAt w B' A ts := fun k hk => by
  obtain ⟨b, off, e, hl, h'⟩ := h k hk
  exact ⟨b, off, e, by omega, h'⟩
theorem TensAt.nil (w : World) (B : Nat) (A : Option Addr) : TensAt w B A [] := fun _ h => absurd h (Nat.not_lt_zero _)
theorem VolsAt.below (h : VolsAt w B A vs) (hb : Below B w w') : VolsAt w' B A vs := fun k hk => by
  obtain ⟨b, off, e, hl, c0, c1, c2, c3⟩ := h k hk
  exact ⟨b, off, e, hl, (hb.cell (p := ⟨b, _, none⟩) hl).trans c0, (hb.cell (p := ⟨b, _, none⟩) hl).trans c1, (hb.cell (p := ⟨b, _, none⟩) hl).trans c2, (hb.cell (p := ⟨b, _, none⟩) hl).trans c3⟩
theorem VolsAt.more (h : VolsAt w B A vs) (hB : B ≤ B') : VolsAt w B' A vs := fun k hk => by
  obtain ⟨b, off, e, hl, h'⟩ := h k hk
  exact ⟨b, off, e, by omega, h'⟩
theorem VolsAt.nil (w : World) (B : Nat) (A : Option Addr) : VolsAt w B A [] := fun _ h => absurd h (Nat.not_lt_zero _)
end
/-- Where a table's parts lie. -/
structure TabW where
  A1 : Option Addr
  c1 : Nat
  A2 : Option Addr
  c2 : Nat
  A3 : Option Addr
  c3 : Nat
/-- A table by value. -/
def tabV (V : TabW) (t : Tab) : Array Value := #[.slice V.A1 t.ts.length V.c1, .slice V.A2 t.vs.length V.c2, .slice V.A3 t.os.length V.c3]
structure Ten.ok (x : Ten) : Prop where
  id : I64n x.id
  quota : I64n x.quota
  rate : I64n x.rate
  burst : I64n x.burst
  key : x.key.size ≤ 9223372036854775807
structure Vol.ok (x : Vol) : Prop where
  id : I64n x.id
  ten : I64n x.ten
  blocks : I64n x.blocks
  base : I64n x.base
/-- A table that may be any: its numbers are numbers of 64 bits. -/
structure Tab.ok (t : Tab) : Prop where
  ts : ∀ x ∈ t.ts, x.ok
  vs : ∀ x ∈ t.vs, x.ok
  os : ∀ x ∈ t.os, I64n x
  nt : t.ts.length ≤ 9223372036854775807
  nv : t.vs.length ≤ 9223372036854775807
  no : t.os.length ≤ 9223372036854775807
structure TabAt (w : World) (B : Nat) (V : TabW) (t : Tab) : Prop where
  ts : TensAt w B V.A1 t.ts
  vs : VolsAt w B V.A2 t.vs
  os : Ints w B .i64 V.A3 t.os
  l1 : t.ts.length ≤ V.c1
  l2 : t.vs.length ≤ V.c2
  l3 : t.os.length ≤ V.c3
theorem TabAt.below {w w' : World} {B : Nat} {V : TabW} {t : Tab} (h : TabAt w B V t) (hb : Below B w w') : TabAt w' B V t := ⟨h.ts.below hb, h.vs.below hb, h.os.below hb, h.l1, h.l2, h.l3⟩
theorem TabAt.more {w : World} {B B' : Nat} {V : TabW} {t : Tab} (h : TabAt w B V t) (hB : B ≤ B') : TabAt w B' V t := ⟨h.ts.more hB, h.vs.more hB, h.os.more hB, h.l1, h.l2, h.l3⟩

/-- Where a tenant is, as an index; -1: nowhere. -/
def tenI (ts : List Ten) (id : Int) : Int := if ts.findIdx (fun x => decide (x.id = id)) < ts.length then (ts.findIdx fun x => decide (x.id = id) : Nat) else -1
def volI (vs : List Vol) (id : Int) : Int := if vs.findIdx (fun x => decide (x.id = id)) < vs.length then (vs.findIdx fun x => decide (x.id = id) : Nat) else -1
theorem findIdx_at {α : Type} {p : α → Bool} {l : List α} {k : Nat} (hk : k < l.length) (hp : p l[k] = true) (hlt : ∀ j, (h : j < k) → p (l[j]'(by omega)) = false) : l.findIdx p = k := by
  rw [List.findIdx_eq hk]
  exact ⟨hp, fun j hj => hlt j hj⟩
theorem findIdx_no {α : Type} {p : α → Bool} {l : List α} (h : ∀ j, (h : j < l.length) → p l[j] = false) : ¬ l.findIdx p < l.length := fun hlt => by
  have h1 := List.findIdx_getElem (w := hlt)
  rw [h _ hlt] at h1
  cases h1
theorem tenI_at {ts : List Ten} {id : Int} {k : Nat} (hk : k < ts.length) (he : ts[k].id = id) (hlt : ∀ j, (h : j < ts.length) → j < k → ts[j].id ≠ id) : tenI ts id = k := by
  have e := findIdx_at (p := fun x : Ten => decide (x.id = id)) hk (decide_eq_true he) fun j hj => decide_eq_false (hlt j (by omega) hj)
  unfold tenI
  rw [e, if_pos hk]
theorem tenI_no {ts : List Ten} {id : Int} (h : ∀ j, (h : j < ts.length) → ts[j].id ≠ id) : tenI ts id = -1 := by
  have e := findIdx_no (p := fun x : Ten => decide (x.id = id)) (l := ts) fun j hj => decide_eq_false (h j hj)
  unfold tenI
  rw [if_neg e]
theorem volI_at {ts : List Vol} {id : Int} {k : Nat} (hk : k < ts.length) (he : ts[k].id = id) (hlt : ∀ j, (h : j < ts.length) → j < k → ts[j].id ≠ id) : volI ts id = k := by
  have e := findIdx_at (p := fun x : Vol => decide (x.id = id)) hk (decide_eq_true he) fun j hj => decide_eq_false (hlt j (by omega) hj)
  unfold volI
  rw [e, if_pos hk]
theorem volI_no {ts : List Vol} {id : Int} (h : ∀ j, (h : j < ts.length) → ts[j].id ≠ id) : volI ts id = -1 := by
  have e := findIdx_no (p := fun x : Vol => decide (x.id = id)) (l := ts) fun j hj => decide_eq_false (h j hj)
  unfold volI
  rw [if_neg e]

end Go.Proofs.Ytbmgiekiildaaaa

namespace Go.Proofs.Ytbmgiekiildaaaa
open Go.RowKit

/-- A table laid in a box of its own, and what it holds. -/
theorem box_facts (w : World) (x y z : Value) (T : TypeId) : (w.alloc (.cells #[x, y, z] T)).cell? ⟨w.heap.size, 0, none⟩ = some x ∧ (w.alloc (.cells #[x, y, z] T)).cell? ⟨w.heap.size, 1, none⟩ = some y ∧ (w.alloc (.cells #[x, y, z] T)).cell? ⟨w.heap.size, 2, none⟩ = some z ∧ Below w.heap.size w (w.alloc (.cells #[x, y, z] T)) := by
  have h := heap_alloc_new w (.cells #[x, y, z] T)
  exact ⟨by rw [cell_of_row _ _ _ _ _ _ h]; rfl, by rw [cell_of_row _ _ _ _ _ _ h]; rfl, by rw [cell_of_row _ _ _ _ _ _ h]; rfl, (Below.refl _ _).alloc (Nat.le_refl _) _⟩

end Go.Proofs.Ytbmgiekiildaaaa
