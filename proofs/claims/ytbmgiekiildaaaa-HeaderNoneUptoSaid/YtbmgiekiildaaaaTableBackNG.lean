/-
  Plain: what a table's image makes; slots taken and given back; tenants in any order. No program is spoken of here. What is asked of the layer table, as properties of its calls.
-/
import Derived.Test.YtbmgiekiildaaaaTableNumsG
import Derived.Test.YtbmgiekiildaaaaHdR4G
namespace Go.Proofs.Ytbmgiekiildaaaa
open Go.RowKit

/-! ### Each slot has one owner -/
theorem ind_none {ts : List Ten} {o : Int} (h : ∀ x ∈ ts, x.id ≠ o) : (ts.map fun x => if o = x.id then (1 : Int) else 0).sum = 0 := by
  induction ts with
  | nil => rfl
  | cons x l ih =>
    simp only [List.map_cons, List.sum_cons]
    rw [if_neg (fun e => h x (by simp) e.symm), ih fun y hy => h y (by simp [hy])]; rfl
theorem ind_one {ts : List Ten} {o : Int} (hs : ts.Pairwise fun x y => x.id < y.id) (h : ∃ x ∈ ts, x.id = o) : (ts.map fun x => if o = x.id then (1 : Int) else 0).sum = 1 := by
  induction ts with
  | nil => obtain ⟨x, hx, _⟩ := h; cases hx
  | cons x l ih =>
    obtain ⟨h1, h2⟩ := List.pairwise_cons.1 hs
    simp only [List.map_cons, List.sum_cons]
    by_cases he : o = x.id
    · rw [if_pos he, ind_none fun y hy => by have := h1 y hy; omega]; rfl
    · rw [if_neg he, ih h2 ?_]; rfl
      obtain ⟨y, hy, e⟩ := h
      rcases List.mem_cons.1 hy with rfl | hy
      · exact absurd e.symm he
      · exact ⟨y, hy, e⟩
theorem own_all {ts : List Ten} (hs : ts.Pairwise fun x y => x.id < y.id) (hid : ∀ x ∈ ts, 1 ≤ x.id ∧ x.id ≤ 7) :
    ∀ {os : List Int}, (∀ o ∈ os, o = 0 ∨ (tenAt ts o).isSome) → (ts.map fun x => ((ownN os x.id : Nat) : Int)).sum = ((os.countP fun o => decide (o ≠ 0) : Nat) : Int)
  | [], _ => by
    have e : ts.map (fun x => ((ownN [] x.id : Nat) : Int)) = ts.map (fun _ => (0 : Int)) := List.map_congr_left fun x _ => by unfold ownN; split <;> rfl
    rw [e]
    clear e hs hid
    induction ts with
    | nil => rfl
    | cons x l ih => simp only [List.map_cons, List.sum_cons, Int.zero_add]; exact ih fun o ho => absurd ho (by simp)
  | o :: os, h => by
    have ih := own_all hs hid (os := os) fun o ho => h o (by simp [ho])
    have e : ts.map (fun x => ((ownN (o :: os) x.id : Nat) : Int)) = ts.map (fun x => ((ownN os x.id : Nat) : Int) + if o = x.id then (1 : Int) else 0) := List.map_congr_left fun x hx => by
      unfold ownN
      rw [if_pos (hid x hx), if_pos (hid x hx), List.countP_cons]
      by_cases he : o = x.id
      · simp [he]
      · simp [he]
    have add : ∀ (f g : Ten → Int) (l : List Ten), (l.map fun x => f x + g x).sum = (l.map f).sum + (l.map g).sum := fun f g l => by
      induction l with
      | nil => rfl
      | cons x l ih => simp only [List.map_cons, List.sum_cons, ih]; omega
    rw [e, add, ih, List.countP_cons]
    rcases h o (by simp) with rfl | ho
    · rw [ind_none fun x hx => by have := hid x hx; omega]; simp
    · have ho' := tenAt_isSome.1 ho
      rw [ind_one hs ho']
      obtain ⟨x, hx, hk⟩ := ho'
      have := hid x hx
      rw [if_pos (by simp; omega)]
      simp

/-! ### A slot that is taken, and given back -/
def ownRec (a b : Int) : Rc := ⟨9, a, b, 0, 0, ⟨#[]⟩⟩
theorem own_form {a b : Int} (ha : inR a 0 63) (hb : inR b 0 7) : formR (ownRec a b) := by
  unfold formR ownRec
  simp only []
  rw [if_neg (by decide), if_neg (by intro h; rcases h with h | h | h <;> first | exact h rfl | exact h.1 rfl | exact h.2 rfl), if_neg (by decide), if_neg (by decide), if_neg (by decide), if_neg (by decide), if_neg (by decide), if_neg (by decide), if_neg (by decide), if_pos trivial]
  exact ⟨ha, hb⟩
theorem oneR9 (t : Tab) (a b : Int) : oneR t (ownRec a b) = one9 t (ownRec a b) := by
  unfold oneR ownRec
  simp
theorem taken {t : Tab} {a b : Int} (ha : inR a 0 63) (hb : inR b 1 7) (h : (oneR t (ownRec a b)).1 = 0) :
    a.toNat < t.os.length ∧ t.os.getD a.toNat 0 = 0 ∧ (∃ x, tenAt t.ts b = some x ∧ x.dying = false) ∧ oneR t (ownRec a b) = (0, { t with os := t.os.set a.toNat b }) := by
  rw [oneR9] at h ⊢
  unfold one9 at h ⊢
  have e1 : (ownRec a b).a = a := rfl
  have e2 : (ownRec a b).b = b := rfl
  simp only [e1, e2] at h ⊢
  have hb0 : ¬ b = 0 := by unfold inR at hb; omega
  rw [if_neg hb0] at h ⊢
  split at h
  · simp at h
  · rename_i hlt
    rw [if_neg hlt]
    split at h
    · simp at h
    · rename_i x hx
      split at h
      · simp at h
      · rename_i hd
        split at h
        · simp at h
        · rename_i hz
          split at h
          · simp at h
          · rename_i hq
            refine ⟨by unfold inR at ha; omega, Decidable.not_not.1 hz, ⟨x, hx, by simpa using hd⟩, ?_⟩
            simp only [if_neg hd, if_neg hz, if_neg hq]
theorem set_back {l : List Int} {i : Nat} (h : l.getD i 0 = 0) (v : Int) : (l.set i v).set i 0 = l := by
  rw [List.set_set]
  apply List.ext_getElem?
  intro j
  rw [List.getElem?_set]
  split
  · rename_i he
    subst he
    split
    · rename_i hi
      simp only [List.getD, List.getElem?_eq_getElem hi, Option.getD_some] at h
      rw [List.getElem?_eq_getElem hi, h]
    · rename_i hi
      rw [List.getElem?_eq_none (by omega)]
  · rfl
theorem given {t : Tab} {a b : Int} (ha : inR a 0 63) (hb : inR b 1 7) (h : (oneR t (ownRec a b)).1 = 0) :
    oneR (oneR t (ownRec a b)).2 (ownRec a 0) = (0, t) ∧ (oneR (oneR t (ownRec a b)).2 (ownRec a b)).1 = 5 ∧ ownN (oneR t (ownRec a b)).2.os b = ownN t.os b + 1 := by
  obtain ⟨h1, h2, ⟨x, hx, hd⟩, h4⟩ := taken ha hb h
  have hb0 : ¬ b = 0 := by unfold inR at hb; omega
  have hlt : ¬ ((t.os.length : Int) ≤ a) := by unfold inR at ha; omega
  have hg : (t.os.set a.toNat b).getD a.toNat 0 = b := by simp [List.getD, h1]
  rw [h4]
  refine ⟨?_, ?_, ?_⟩
  · rw [oneR9]
    unfold one9
    have e1 : (ownRec a 0).a = a := rfl
    have e2 : (ownRec a 0).b = 0 := rfl
    simp only [e1, e2, List.length_set, hg]
    rw [if_neg hlt, if_pos trivial, if_neg hb0, set_back h2]
  · rw [oneR9]
    unfold one9
    have e1 : (ownRec a b).a = a := rfl
    have e2 : (ownRec a b).b = b := rfl
    simp only [e1, e2, List.length_set, hg]
    rw [if_neg hlt, if_neg hb0]
    simp only [hx]
    rw [if_neg (by simp [hd]), if_pos hb0]
  · show ownN (t.os.set a.toNat b) b = _
    rw [ownN_set h1 b b hb, h2, if_neg (fun e => hb0 e.symm), if_pos rfl]
    rfl

/-! ### The image -/
def imgT (x : Ten) : Rc := ⟨1, x.id, x.quota, x.rate, x.burst, x.key⟩
def imgV (v : Vol) : List Rc := ⟨5, v.id, v.ten, v.blocks, 0, ⟨#[]⟩⟩ :: if 0 < v.base then [⟨8, v.id, v.base, 0, 0, ⟨#[]⟩⟩] else []
def imgO (os : List Int) (i : Nat) : List Rc := if 0 < os.getD i 0 then [ownRec i (os.getD i 0)] else []
def imgD (x : Ten) : List Rc := if x.dying = true then [⟨3, x.id, 0, 0, 0, ⟨#[]⟩⟩] else []
/-- The changes that make a table. -/
def imageR (t : Tab) : List Rc := t.ts.map imgT ++ (t.vs.flatMap imgV ++ ((List.range t.os.length).flatMap (imgO t.os) ++ t.ts.flatMap imgD))
def newR (n : Nat) : Tab := ⟨[], [], List.replicate n 0⟩
def live (x : Ten) : Ten := { x with dying := false }
theorem run_cons {t t' : Tab} {r : Rc} {l : List Rc} (hf : formR r) (h : oneR t r = (0, t')) : runR t (r :: l) = runR t' l := by
  conv => lhs; unfold runR
  rw [if_pos hf, h, if_pos rfl]
theorem tenAt_none {ts : List Ten} {id : Int} (h : ∀ x ∈ ts, x.id ≠ id) : ¬ (tenAt ts id).isSome = true := fun h' => by
  obtain ⟨x, hx, e⟩ := tenAt_isSome.1 h'
  exact h x hx e
theorem volAt_none {vs : List Vol} {id : Int} (h : ∀ x ∈ vs, x.id ≠ id) : ¬ (volAt vs id).isSome = true := fun h' => by
  obtain ⟨x, hx, e⟩ := volAt_isSome.1 h'
  exact h x hx e
theorem sumQ_live (ts : List Ten) : sumQ (ts.map live) = sumQ ts := by
  unfold sumQ; rw [List.map_map]; rfl
theorem sumQ_app (a b : List Ten) : sumQ (a ++ b) = sumQ a + sumQ b := by
  unfold sumQ; rw [List.map_append, List.sum_append_int]
theorem sumQ_nonneg {ts : List Ten} (h : ∀ x ∈ ts, 0 ≤ x.quota) : 0 ≤ sumQ ts := by
  unfold sumQ
  induction ts with
  | nil => exact Int.le_refl _
  | cons x l ih =>
    simp only [List.map_cons, List.sum_cons]
    have := h x (by simp)
    have := ih fun y hy => h y (by simp [hy])
    omega
theorem image1 {t : Tab} (hs : t.sound) : ∀ (rest done : List Ten), t.ts = done ++ rest →
    runR ⟨done.map live, [], List.replicate t.os.length 0⟩ (rest.map imgT) = (0, ⟨t.ts.map live, [], List.replicate t.os.length 0⟩)
  | [], done, h => by rw [h, List.append_nil]; rfl
  | x :: rest, done, h => by
    have hx : x ∈ t.ts := by rw [h]; simp
    obtain ⟨hp, _⟩ := hs.ten x hx
    have hlt : ∀ y ∈ done, y.id < x.id := fun y hy => by
      have := hs.up
      rw [h] at this
      exact (List.pairwise_append.1 this).2.2 y hy x (by simp)
    rw [List.map_cons, run_cons (t' := ⟨(done ++ [x]).map live, [], List.replicate t.os.length 0⟩) (by unfold formR imgT; rw [if_pos rfl]; exact ⟨hp.id, hp.quota, hp.rate, hp.burst, hp.key⟩)]
    · exact image1 hs rest (done ++ [x]) (by rw [h]; simp)
    · unfold oneR
      rw [if_pos (by rfl)]
      unfold one1
      have e1 : (imgT x).a = x.id := rfl
      have e2 : (imgT x).b = x.quota := rfl
      simp only [e1, e2]
      rw [if_neg (tenAt_none fun y hy => by
        obtain ⟨z, hz, rfl⟩ := List.mem_map.1 hy
        have := hlt z hz
        show z.id ≠ x.id
        omega)]
      have hsum : sumQ done + x.quota ≤ t.os.length := by
        have h2 := hs.sum
        rw [h, sumQ_app] at h2
        have h3 : sumQ (x :: rest) = x.quota + sumQ rest := by unfold sumQ; simp
        have h4 := sumQ_nonneg (ts := rest) fun y hy => by have := (hs.ten y (by rw [h]; simp [hy])).1.quota; omega
        omega
      rw [if_neg (by rw [sumQ_live, List.length_replicate]; omega)]
      rw [insK_last _ fun y hy => by
        obtain ⟨z, hz, rfl⟩ := List.mem_map.1 hy
        exact hlt z hz]
      simp [live, imgT]
theorem tenAt_live {ts : List Ten} {id : Int} (h : (tenAt ts id).isSome = true) : ∃ x, tenAt (ts.map live) id = some x ∧ x.dying = false ∧ ∃ y ∈ ts, y.id = id ∧ x = live y := by
  have h2 : (tenAt (ts.map live) id).isSome = true := by rw [tenAt_keys (ts := ts) (by rw [List.map_map]; rfl)]; exact h
  obtain ⟨x, hx⟩ := Option.isSome_iff_exists.1 h2
  obtain ⟨hm, hid⟩ := tenAt_some hx
  obtain ⟨y, hy, rfl⟩ := List.mem_map.1 hm
  exact ⟨_, hx, rfl, y, hy, hid, rfl⟩
theorem form5 {a b c : Int} (ha : inR a 0 7) (hb : inR b 1 7) (hc : inR c 0 32) : formR ⟨5, a, b, c, 0, ⟨#[]⟩⟩ := by
  unfold formR
  simp only []
  rw [if_neg (by decide), if_neg (by intro h; rcases h with h | h | h <;> first | exact h rfl | exact h.1 rfl | exact h.2 rfl), if_neg (by decide), if_neg (by decide), if_neg (by decide), if_pos trivial]
  exact ⟨ha, hb, hc⟩
theorem form8 {a b : Int} (ha : inR a 0 7) (hb : inR b 0 1099511627776) : formR ⟨8, a, b, 0, 0, ⟨#[]⟩⟩ := by
  unfold formR
  simp only []
  rw [if_neg (by decide), if_neg (by intro h; rcases h with h | h | h <;> first | exact h rfl | exact h.1 rfl | exact h.2 rfl), if_neg (by decide), if_neg (by decide), if_neg (by decide), if_neg (by decide), if_neg (by decide), if_neg (by decide), if_pos trivial]
  exact ⟨ha, hb⟩
theorem form3 {a : Int} (ha : inR a 1 7) : formR ⟨3, a, 0, 0, 0, ⟨#[]⟩⟩ := by
  unfold formR
  simp only []
  rw [if_neg (by decide), if_neg (by intro h; rcases h with h | h | h <;> first | exact h rfl | exact h.1 rfl | exact h.2 rfl), if_neg (by decide), if_neg (by decide), if_pos (.inl trivial)]
  exact ⟨ha, trivial⟩
theorem volAt_last {l : List Vol} {v : Vol} (h : ∀ y ∈ l, y.id < v.id) : volAt (l ++ [v]) v.id = some v := by
  unfold volAt
  rw [List.find?_append, List.find?_eq_none.2 fun y hy => by have := h y hy; simp; omega]
  simp
theorem updK_last {α : Type} (k : α → Int) {l : List α} {v : α} {id : Int} (hv : k v = id) (f : α → α) (h : ∀ y ∈ l, k y < id) : updK k id f (l ++ [v]) = l ++ [f v] := by
  unfold updK
  rw [List.map_append]
  have e : l.map (fun x => if k x = id then f x else x) = l := by
    conv => rhs; rw [← List.map_id l]
    refine List.map_congr_left fun y hy => ?_
    rw [if_neg (by have := h y hy; omega)]
    rfl
  rw [e]
  simp [hv]
theorem image2 {t : Tab} (hs : t.sound) : ∀ (rest done : List Vol) (os : List Int), t.vs = done ++ rest →
    runR ⟨t.ts.map live, done, os⟩ (rest.flatMap imgV) = (0, ⟨t.ts.map live, t.vs, os⟩)
  | [], done, os, h => by rw [h, List.append_nil]; rfl
  | v :: rest, done, os, h => by
    obtain ⟨a1, a2, a3, a4⟩ := hs.vol v (by rw [h]; simp)
    obtain ⟨x, hx, hd, y, hy, hyk, rfl⟩ := tenAt_live a2
    have hid := (hs.ten y hy).1.id
    have hlt : ∀ y ∈ done, y.id < v.id := fun y hy => by
      have := hs.vup
      rw [h] at this
      exact (List.pairwise_append.1 this).2.2 y hy v (by simp)
    have ih := image2 hs rest (done ++ [v]) os (by rw [h]; simp)
    rw [List.flatMap_cons]
    conv => lhs; arg 2; arg 1; unfold imgV
    rw [List.cons_append, run_cons (t' := ⟨t.ts.map live, done ++ [⟨v.id, v.ten, v.blocks, 0⟩], os⟩) (form5 a1 (by rw [← hyk]; exact hid) a3)]
    · by_cases hb : 0 < v.base
      · rw [if_pos hb, List.cons_append, List.nil_append, run_cons (t' := ⟨t.ts.map live, done ++ [v], os⟩) (form8 a1 a4), ih]
        unfold oneR
        simp only []
        rw [if_neg (by decide), if_neg (by decide), if_neg (by decide), if_neg (by decide), if_neg (by decide), if_neg (by decide), if_neg (by decide), if_pos trivial]
        unfold one8
        have hv := volAt_last (l := done) (v := ⟨v.id, v.ten, v.blocks, 0⟩) hlt
        simp only at hv
        simp only [hv]
        rw [if_neg (by omega), updK_last Vol.id (by rfl) _ hlt]
      · rw [if_neg hb, List.nil_append]
        have e : (⟨v.id, v.ten, v.blocks, 0⟩ : Vol) = v := by
          obtain ⟨p, q, r, s⟩ := v
          simp only at hb a4 ⊢
          rw [show s = 0 by omega]
        rw [e]; exact ih
    · unfold oneR
      simp only []
      rw [if_neg (by decide), if_neg (by decide), if_neg (by decide), if_neg (by decide), if_pos trivial]
      unfold one5
      simp only []
      rw [if_neg (volAt_none fun y hy => by have := hlt y hy; omega)]
      simp only [hx, hd]
      rw [if_neg (by decide), insK_last Vol.id (x := ⟨v.id, v.ten, v.blocks, 0⟩) hlt]
theorem image3 {t : Tab} (hs : t.sound) : ∀ k, k ≤ t.os.length →
    runR ⟨t.ts.map live, t.vs, List.replicate t.os.length 0⟩ ((List.range k).flatMap (imgO t.os)) = (0, ⟨t.ts.map live, t.vs, t.os.take k ++ List.replicate (t.os.length - k) 0⟩)
  | 0, _ => by simp [runR]
  | k + 1, hk => by
    have ih := image3 hs k (by omega)
    rw [List.range_succ, List.flatMap_append, run_append _ (by rw [ih]), ih]
    simp only [List.flatMap_cons, List.flatMap_nil, List.append_nil]
    have hkl : k < t.os.length := by omega
    have hg : t.os.getD k 0 = t.os[k] := by simp [List.getD, hkl]
    have hrep : t.os.length - k = (t.os.length - (k + 1)) + 1 := by omega
    have htk : t.os.take (k + 1) = t.os.take k ++ [t.os[k]] := by rw [List.take_succ_eq_append_getElem hkl]
    have hl : (t.os.take k).length = k := by rw [List.length_take]; omega
    have hset : ∀ v : Int, (t.os.take k ++ List.replicate (t.os.length - k) 0).set k v = t.os.take k ++ (v :: List.replicate (t.os.length - (k + 1)) 0) := fun v => by
      rw [List.set_append_right (h := by omega), hl, Nat.sub_self, hrep, List.replicate_succ]; rfl
    unfold imgO
    rw [hg]
    rcases hs.own _ (List.getElem_mem hkl) with h0 | h0
    · rw [if_neg (by omega), runR, htk, h0, hrep, List.replicate_succ]; simp
    · obtain ⟨x, hx, hd, y, hy, hyk, rfl⟩ := tenAt_live h0
      obtain ⟨hp, hq⟩ := hs.ten y hy
      have hid := hp.id
      rw [if_pos (by rw [← hyk]; omega)]
      rw [run_cons (t' := ⟨t.ts.map live, t.vs, t.os.take (k + 1) ++ List.replicate (t.os.length - (k + 1)) 0⟩) (own_form (by have := hs.len; unfold inR; omega) (by rw [← hyk]; unfold inR; omega))]
      · rfl
      · rw [oneR9]
        unfold one9
        have e1 : (ownRec (k : Int) t.os[k]).a = (k : Int) := rfl
        have e2 : (ownRec (k : Int) t.os[k]).b = t.os[k] := rfl
        simp only [e1, e2]
        have hlen : (t.os.take k ++ List.replicate (t.os.length - k) 0).length = t.os.length := by simp; omega
        rw [if_neg (by rw [hlen]; omega), if_neg (by rw [← hyk]; omega)]
        simp only [hx, hd, Int.toNat_natCast]
        have hz : (t.os.take k ++ List.replicate (t.os.length - k) 0).getD k 0 = 0 := by
          simp only [List.getD]
          rw [List.getElem?_append_right (by omega), hl, Nat.sub_self, hrep, List.replicate_succ]; rfl
        have hcount : ownN (t.os.take k ++ List.replicate (t.os.length - k) 0) t.os[k] + 1 ≤ ownN t.os t.os[k] := by
          unfold ownN
          rw [if_pos (by rw [← hyk]; exact hid), if_pos (by rw [← hyk]; exact hid), List.countP_append, List.countP_replicate]
          rw [if_neg (by simp; omega)]
          have e : t.os = t.os.take k ++ t.os[k] :: t.os.drop (k + 1) := by rw [← List.drop_eq_getElem_cons hkl, List.take_append_drop]
          conv => rhs; arg 2; rw [e]
          rw [List.countP_append, List.countP_cons, if_pos (by simp)]
          omega
        rw [if_neg (by decide), if_neg (by rw [hz]; exact fun h => h rfl), if_neg (by show ¬ (live y).quota ≤ _; have e3 : (live y).quota = y.quota := rfl; rw [e3]; rw [hyk] at hq; omega), hset, htk, List.append_assoc]
        rfl
theorem tenAt_mid {a b : List Ten} {x : Ten} (h : ∀ y ∈ a, y.id ≠ x.id) : tenAt (a ++ x :: b) x.id = some x := by
  unfold tenAt
  rw [List.find?_append, List.find?_eq_none.2 fun y hy => by have := h y hy; simpa using this]
  simp
theorem updK_mid {α : Type} (k : α → Int) {a b : List α} {x : α} {id : Int} (hx : k x = id) (f : α → α) (h : ∀ y ∈ a, k y ≠ id) (h2 : ∀ y ∈ b, k y ≠ id) : updK k id f (a ++ x :: b) = a ++ f x :: b := by
  unfold updK
  rw [List.map_append, List.map_cons, if_pos hx]
  have e : ∀ l : List α, (∀ y ∈ l, k y ≠ id) → l.map (fun x => if k x = id then f x else x) = l := fun l hl => by
    conv => rhs; rw [← List.map_id l]
    refine List.map_congr_left fun y hy => ?_
    rw [if_neg (hl y hy)]
    rfl
  rw [e a h, e b h2]
theorem image4 {t : Tab} (hs : t.sound) : ∀ (rest done : List Ten), t.ts = done ++ rest →
    runR ⟨done ++ rest.map live, t.vs, t.os⟩ (rest.flatMap imgD) = (0, t)
  | [], done, h => by
    obtain ⟨ts, vs, os⟩ := t
    simp only at h ⊢
    rw [List.flatMap_nil, runR, List.map_nil, h]
  | x :: rest, done, h => by
    have ih := image4 hs rest (done ++ [x]) (by rw [h]; simp)
    rw [List.append_assoc, List.cons_append, List.nil_append] at ih
    rw [List.flatMap_cons, List.map_cons]
    conv => lhs; arg 2; arg 1; unfold imgD
    have hup := hs.up
    rw [h] at hup
    obtain ⟨u1, u2, u3⟩ := List.pairwise_append.1 hup
    have u4 := (List.pairwise_cons.1 u2).1
    by_cases hd : x.dying = true
    · rw [if_pos hd, List.cons_append, List.nil_append, run_cons (t' := ⟨done ++ x :: rest.map live, t.vs, t.os⟩) (form3 (hs.ten x (by rw [h]; simp)).1.id), ih]
      unfold oneR
      simp only []
      rw [if_neg (by decide), if_neg (by decide), if_pos trivial]
      unfold one3
      have hx := tenAt_mid (a := done) (b := rest.map live) (x := live x) fun y hy => by have := u3 y hy x (by simp); show y.id ≠ x.id; omega
      have e1 : (live x).id = x.id := rfl
      rw [e1] at hx
      simp only [hx]
      rw [if_neg (by simp [live]), updK_mid Ten.id e1 _ (fun y hy => by have := u3 y hy x (by simp); omega) (fun y hy => by
        obtain ⟨z, hz, rfl⟩ := List.mem_map.1 hy
        have := u4 z hz
        show z.id ≠ x.id
        omega)]
      obtain ⟨p1, p2, p3, p4, p5, p6⟩ := x
      simp only at hd
      subst hd
      rfl
    · rw [if_neg hd, List.nil_append]
      have e : live x = x := by
        obtain ⟨p1, p2, p3, p4, p5, p6⟩ := x
        simp only [Bool.not_eq_true] at hd
        subst hd
        rfl
      rw [e]; exact ih
/-- A table's image makes the table anew. -/
theorem image_back {t : Tab} (hs : t.sound) : runR (newR t.os.length) (imageR t) = (0, t) := by
  unfold imageR newR
  have h1 := image1 hs t.ts [] rfl
  have h2 := image2 hs t.vs [] (List.replicate t.os.length 0) rfl
  have h3 := image3 hs t.os.length (Nat.le_refl _)
  have h4 := image4 hs t.ts [] rfl
  rw [List.map_nil] at h1
  rw [List.nil_append] at h4
  rw [List.take_length, Nat.sub_self, List.replicate_zero, List.append_nil] at h3
  rw [run_append _ (by rw [h1]), h1, run_append _ (by rw [h2]), h2, run_append _ (by rw [h3]), h3, h4]

/-! ### Tenants in any order -/
def tenR (key : ByteArray) (id : Int) : Rc := ⟨1, id, 1, id, 1, key⟩
def tenOf (key : ByteArray) (id : Int) : Ten := ⟨id, 1, id, 1, key, false⟩
def putAll (key : ByteArray) (ts : List Ten) (ids : List Int) : List Ten := ids.foldl (fun ts id => insK Ten.id (tenOf key id) ts) ts
theorem insK_len {α : Type} (k : α → Int) (x : α) : ∀ l : List α, (insK k x l).length = l.length + 1
  | [] => rfl
  | z :: l => by
    unfold insK
    split
    · rfl
    · rw [List.length_cons, insK_len k x l, List.length_cons]
theorem puts {key : ByteArray} (hkey : key.size = 16) {n : Nat} : ∀ (ids : List Int) (ts : List Ten), ids.Nodup → (∀ i ∈ ids, 1 ≤ i ∧ i ≤ 7) → (∀ i ∈ ids, ∀ x ∈ ts, x.id ≠ i) → sumQ ts = ts.length →
    runR ⟨ts, [], List.replicate n 0⟩ (ids.map (tenR key)) = if ids = [] ∨ ts.length + ids.length ≤ n then (0, ⟨putAll key ts ids, [], List.replicate n 0⟩) else (6, Tab.zero)
  | [], ts, _, _, _, _ => by rw [if_pos (.inl rfl)]; rfl
  | i :: ids, ts, hn, hb, hne, hq => by
    obtain ⟨n1, n2⟩ := List.nodup_cons.1 hn
    have hi := hb i (by simp)
    have hf : formR (tenR key i) := by
      unfold formR tenR plainT inR
      rw [if_pos rfl]
      exact ⟨hi, by simp, by simp only []; omega, by simp, hkey⟩
    rw [List.map_cons]
    have e : oneR ⟨ts, [], List.replicate n 0⟩ (tenR key i) = one1 ⟨ts, [], List.replicate n 0⟩ (tenR key i) := if_pos rfl
    have e1 : (tenR key i).a = i := rfl
    have e2 : (tenR key i).b = 1 := rfl
    by_cases hlt : ts.length + 1 ≤ n
    · have ho : oneR ⟨ts, [], List.replicate n 0⟩ (tenR key i) = (0, ⟨insK Ten.id (tenOf key i) ts, [], List.replicate n 0⟩) := by
        rw [e]
        unfold one1
        simp only [e1, e2]
        rw [if_neg (tenAt_none fun x hx => hne i (by simp) x hx), if_neg (by rw [List.length_replicate, hq]; omega)]
        rfl
      rw [run_cons hf ho, puts hkey ids _ n2 (fun j hj => hb j (by simp [hj])) (fun j hj x hx => by
        rcases (insK_mem _).1 hx with rfl | hx
        · show i ≠ j; exact fun e => n1 (e ▸ hj)
        · exact hne j (by simp [hj]) x hx) (by
          unfold sumQ at hq ⊢
          rw [insK_sum, hq, insK_len]
          show _ + (1 : Int) = _
          omega)]
      rw [insK_len]
      by_cases hnil : ids = []
      · subst hnil
        rw [if_pos (.inl rfl), if_pos (.inr (by simpa using hlt))]
        rfl
      · have hpos : 0 < ids.length := List.length_pos_iff.2 hnil
        by_cases hfit : ts.length + 1 + ids.length ≤ n
        · rw [if_pos (.inr hfit), if_pos (.inr (by rw [List.length_cons]; omega))]; rfl
        · rw [if_neg (by rintro (h | h); exact hnil h; exact hfit h), if_neg (by rintro (h | h); exact absurd h (by simp); rw [List.length_cons] at h; omega)]
    · have ho : oneR ⟨ts, [], List.replicate n 0⟩ (tenR key i) = (6, ⟨ts, [], List.replicate n 0⟩) := by
        rw [e]
        unfold one1
        simp only [e1, e2]
        rw [if_neg (tenAt_none fun x hx => hne i (by simp) x hx), if_pos (by rw [List.length_replicate, hq]; omega)]
      conv => lhs; unfold runR
      rw [if_pos hf, ho, if_neg (by simp), if_neg (by rintro (h | h); exact absurd h (by simp); rw [List.length_cons] at h; omega)]
theorem sorted_ext {α : Type} (k : α → Int) : ∀ {a b : List α}, (a.Pairwise fun x y => k x < k y) → (b.Pairwise fun x y => k x < k y) → (∀ x, x ∈ a ↔ x ∈ b) → a = b
  | [], [], _, _, _ => rfl
  | [], y :: b, _, _, h => absurd ((h y).2 (by simp)) (by simp)
  | x :: a, [], _, _, h => absurd ((h x).1 (by simp)) (by simp)
  | x :: a, y :: b, ha, hb, h => by
    obtain ⟨a1, a2⟩ := List.pairwise_cons.1 ha
    obtain ⟨b1, b2⟩ := List.pairwise_cons.1 hb
    have hxy : x = y := by
      rcases List.mem_cons.1 ((h x).1 (by simp)) with e | h1
      · exact e
      · rcases List.mem_cons.1 ((h y).2 (by simp)) with e | h2
        · exact e.symm
        · have := b1 x h1; have := a1 y h2; omega
    subst hxy
    rw [sorted_ext k a2 b2 fun z => ?_]
    constructor
    · intro hz
      rcases List.mem_cons.1 ((h z).1 (by simp [hz])) with rfl | h1
      · have := a1 z hz; omega
      · exact h1
    · intro hz
      rcases List.mem_cons.1 ((h z).2 (by simp [hz])) with rfl | h1
      · have := b1 z hz; omega
      · exact h1
theorem putAll_mem {key : ByteArray} {x : Ten} : ∀ {ids : List Int} {ts : List Ten}, x ∈ putAll key ts ids ↔ x ∈ ts ∨ ∃ i ∈ ids, x = tenOf key i
  | [], ts => by simp [putAll]
  | i :: ids, ts => by
    have := putAll_mem (key := key) (x := x) (ids := ids) (ts := insK Ten.id (tenOf key i) ts)
    unfold putAll at this ⊢
    rw [List.foldl_cons, this, insK_mem]
    constructor
    · rintro ((h | h) | ⟨j, hj, h⟩)
      · exact .inr ⟨i, by simp, h⟩
      · exact .inl h
      · exact .inr ⟨j, by simp [hj], h⟩
    · rintro (h | ⟨j, hj, h⟩)
      · exact .inl (.inr h)
      · rcases List.mem_cons.1 hj with rfl | hj
        · exact .inl (.inl h)
        · exact .inr ⟨j, hj, h⟩
theorem putAll_sorted {key : ByteArray} : ∀ {ids : List Int} {ts : List Ten}, ids.Nodup → (ts.Pairwise fun x y => x.id < y.id) → (∀ i ∈ ids, ∀ x ∈ ts, x.id ≠ i) → (putAll key ts ids).Pairwise fun x y => x.id < y.id
  | [], ts, _, h, _ => h
  | i :: ids, ts, hn, h, hne => by
    obtain ⟨n1, n2⟩ := List.nodup_cons.1 hn
    unfold putAll
    rw [List.foldl_cons]
    refine putAll_sorted n2 (insK_sorted _ h fun y hy => hne i (by simp) y hy) fun j hj x hx => ?_
    rcases (insK_mem _).1 hx with rfl | hx
    · show i ≠ j; exact fun e => n1 (e ▸ hj)
    · exact hne j (by simp [hj]) x hx
theorem nodup_rev {l : List Int} (h : l.Nodup) : l.reverse.Nodup := List.pairwise_reverse.2 (List.Pairwise.imp (fun h => Ne.symm h) h)
theorem putAll_order {key : ByteArray} {ids : List Int} (hn : ids.Nodup) : putAll key [] ids = putAll key [] ids.reverse :=
  sorted_ext Ten.id (putAll_sorted hn List.Pairwise.nil (by simp)) (putAll_sorted (nodup_rev hn) List.Pairwise.nil (by simp)) fun x => by simp [putAll_mem]
/-- It does not matter in which order tenants come. -/
theorem order_same {key : ByteArray} (hkey : key.size = 16) {n : Nat} {ids : List Int} (hn : ids.Nodup) (hb : ∀ i ∈ ids, 1 ≤ i ∧ i ≤ 7) :
    runR (newR n) (ids.map (tenR key)) = (if ids.length ≤ n then (0, ⟨putAll key [] ids, [], List.replicate n 0⟩) else (6, Tab.zero)) ∧
    runR (newR n) (ids.reverse.map (tenR key)) = runR (newR n) (ids.map (tenR key)) := by
  have h1 := puts hkey (n := n) ids [] hn hb (by simp) rfl
  have h2 := puts hkey (n := n) ids.reverse [] (nodup_rev hn) (fun i hi => hb i (by simpa using hi)) (by simp) rfl
  have e : ∀ l : List Int, (l = [] ∨ ([] : List Ten).length + l.length ≤ n) ↔ l.length ≤ n := fun l => by
    constructor
    · rintro (rfl | h)
      · simp
      · simpa using h
    · intro h; exact .inr (by simpa using h)
  have h1' : runR (newR n) (ids.map (tenR key)) = if ids.length ≤ n then (0, ⟨putAll key [] ids, [], List.replicate n 0⟩) else (6, Tab.zero) := by
    unfold newR
    rw [h1]
    by_cases h : ids.length ≤ n
    · rw [if_pos ((e _).2 h), if_pos h]
    · rw [if_neg (fun h' => h ((e _).1 h')), if_neg h]
  refine ⟨h1', ?_⟩
  rw [h1']
  unfold newR
  rw [h2]
  by_cases h : ids.length ≤ n
  · rw [if_pos ((e _).2 (by simpa using h)), if_pos h, ← putAll_order hn]
  · rw [if_neg (fun h' => h (by simpa using (e _).1 h')), if_neg h]

end Go.Proofs.Ytbmgiekiildaaaa

namespace Go.Proofs.Ytbmgiekiildaaaa
open Go.RowKit

/-- All of it lies in blocks from here on. -/
def TabFrom (lo : Nat) (V : TabW) : Prop := ∀ a, V.A1 = some a ∨ V.A2 = some a ∨ V.A3 = some a → lo ≤ a.block
theorem cell_other {w W : World} {g b off : Nat} (hk : ∀ k, k ≠ g → W.heap[k]? = w.heap[k]?) (hb : b ≠ g) : W.cell? ⟨b, off, none⟩ = w.cell? ⟨b, off, none⟩ := by
  unfold World.cell?
  simp only [hk b hb]
/-- Another block is written. -/
theorem TabAt.other {w W : World} {B lo g : Nat} {V : TabW} {t : Tab} (h : TabAt w B V t) (hf : TabFrom lo V) (hg : g < lo) (hk : ∀ k, k ≠ g → W.heap[k]? = w.heap[k]?) : TabAt W B V t := by
  refine ⟨fun k hk' => ?_, fun k hk' => ?_, fun k hk' => ?_, h.l1, h.l2, h.l3⟩
  · obtain ⟨b, off, e, hl, c⟩ := h.ts k hk'
    have hne : b ≠ g := by have : lo ≤ b := hf ⟨b, off, none⟩ (.inl e); omega
    refine ⟨b, off, e, hl, ?_⟩
    simp only [cell_other hk hne]
    exact c
  · obtain ⟨b, off, e, hl, c⟩ := h.vs k hk'
    have hne : b ≠ g := by have : lo ≤ b := hf ⟨b, off, none⟩ (.inr (.inl e)); omega
    refine ⟨b, off, e, hl, ?_⟩
    simp only [cell_other hk hne]
    exact c
  · obtain ⟨b, off, e, hl, c⟩ := h.os k hk'
    have hne : b ≠ g := by have : lo ≤ b := hf ⟨b, off, none⟩ (.inr (.inr e)); omega
    refine ⟨b, off, e, hl, ?_⟩
    rw [cell_other hk hne]
    exact c
/-! ### What the simplest facts speak of -/
def key1 : ByteArray := ⟨#[48, 49, 50, 51, 52, 53, 54, 55, 56, 57, 97, 98, 99, 100, 101, 102]⟩
def recA : Rc := ⟨1, 1, 2, 0, 1, key1⟩
def recB : Rc := ⟨9, 3, 1, 0, 0, ⟨#[]⟩⟩
def tabAB : Tab := ⟨[⟨1, 2, 0, 1, key1, false⟩], [], [0, 0, 0, 1]⟩
theorem newR_sound {n : Nat} (h1 : 1 ≤ n) (h2 : n ≤ 64) : (newR n).sound :=
  ⟨by show 1 ≤ (List.replicate n (0 : Int)).length ∧ (List.replicate n (0 : Int)).length ≤ 64; rw [List.length_replicate]; omega, fun x hx => absurd hx (by simp [newR]), List.Pairwise.nil, fun x hx => absurd hx (by simp [newR]), List.Pairwise.nil,
    fun o ho => .inl (List.eq_of_mem_replicate ho), by show (0 : Int) ≤ _; omega⟩
theorem applyAB : applyR (newR 4) [recA, recB] = (0, tabAB) := by
  rw [apply_one (newR_sound (by decide) (by decide)), run_cons (t' := ⟨[⟨1, 2, 0, 1, key1, false⟩], [], [0, 0, 0, 0]⟩) (by decide +kernel), run_cons (t' := tabAB) (by decide +kernel)]
  · rfl
  · rfl
  · rfl
theorem soundAB : tabAB.sound := by
  have h := sound_run (l := [recA, recB]) (newR_sound (n := 4) (by decide) (by decide))
  have e := applyAB
  rw [apply_one (newR_sound (by decide) (by decide))] at e
  rw [e] at h
  exact (h rfl).1
theorem newR_ok {n : Nat} (h2 : n ≤ 64) : (newR n).ok := ⟨by simp [newR], by simp [newR], fun x hx => by rw [List.eq_of_mem_replicate hx]; exact ⟨by decide, by decide⟩, by simp [newR], by simp [newR], by show (List.replicate n (0 : Int)).length ≤ _; rw [List.length_replicate]; omega⟩
theorem okAB : tabAB.ok := ⟨by
    intro x hx
    have : x = ⟨1, 2, 0, 1, key1, false⟩ := by simpa [tabAB] using hx
    subst this
    exact ⟨⟨by decide, by decide⟩, ⟨by decide, by decide⟩, ⟨by decide, by decide⟩, ⟨by decide, by decide⟩, by decide +kernel⟩, by simp [tabAB], by
    intro x hx
    have : x = 0 ∨ x = 1 := by simpa [tabAB] using hx
    rcases this with rfl | rfl <;> exact ⟨by decide, by decide⟩, by decide +kernel, by decide +kernel, by decide +kernel⟩

end Go.Proofs.Ytbmgiekiildaaaa
