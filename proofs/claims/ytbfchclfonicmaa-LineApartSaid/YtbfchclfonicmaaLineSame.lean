/-
  The document's own Same (stowageref15).
-/
import Derived.Test.YtbfchclfonicmaaLineEq
namespace Go.Proofs.Ytbfchclfonicmaa
open Go.RowKit

theorem eq_of_at {α : Type} {a b : List α} (hl : a.length = b.length) (h : ∀ i, (h1 : i < a.length) → (h2 : i < b.length) → a[i] = b[i]) : a = b := List.ext_getElem hl fun i h1 h2 => h i h1 h2

set_option maxHeartbeats 1600000 in
set_option maxRecDepth 20000 in
/-- 'Same'. -/
theorem refSameT_any (A1 A2 : Option Addr) (c1 c2 : Nat) (X Y : List (List Rc)) (w : World) (B : Nat) (h1 : TransAt w B A1 X) (h2 : TransAt w B A2 Y) (hm : X.length ≤ 9223372036854775807) (hx : ∀ x ∈ X, x.length ≤ 9223372036854775807) :
    Calls Try.prog 15 #[.slice A1 X.length c1, .slice A2 Y.length c2] w fun e w' => e = .returned (.bool (decide (X = Y))) ∧ ∃ m, w' = w.drewN m := by
  by_cases hl : X.length = Y.length
  · have H1 := Lib.hid h1
    have H2 := Lib.hid h2
    have HX : Hid (∀ i, (h : i < X.length) → X[i].length ≤ 9223372036854775807) := fun i h => hx _ (List.getElem_mem h)
    have HL := Lib.hid hl
    have HEQ := Lib.hid (fun x y (w : World) => eqRec_all x y w)
    obtain ⟨N, hN⟩ : ∃ N, N = X.length := ⟨_, rfl⟩
    have HN := Lib.hid hN
    rw [← hl, ← hN]
    rw [← hN] at hm
    clear h1 h2 hx hl hN
    go_enter Try.func15, Try.ntmps15
    go_wp2
    go_loopw [5] (fun i wr => ∃ k m : Nat, k ≤ N ∧ i = .int .i64 k ∧ Hid (∀ j, (a : j < X.length) → (b : j < Y.length) → j < k → X[j] = Y[j]) ∧ wr = w.drewN m) (fun i _ => N - (intOf i).toNat)
    case atStart => exact ⟨0, 0, Nat.zero_le _, rfl, fun j _ _ hj => absurd hj (Nat.not_lt_zero j), rfl⟩
    case round =>
      obtain ⟨k, m, hk, rfl, hall, hwm⟩ := hrel
      by_cases hlt : k < N
      · have hkx : k < X.length := by have := HN.out; omega
        have hky : k < Y.length := by have := HN.out; have := HL.out; omega
        obtain ⟨b1, o1, B1, d1, rfl, hb1, hc1, hd1, hr1⟩ := H1.out k hkx
        obtain ⟨b2, o2, B2, d2, rfl, hb2, hc2, hd2, hr2⟩ := H2.out k hky
        have q1 : ∀ n, (w.drewN n).cell? ⟨b1, o1 + k, none⟩ = some (.slice B1 X[k].length d1) := fun n => hc1
        have q2 : ∀ n, (w.drewN n).cell? ⟨b2, o2 + k, none⟩ = some (.slice B2 Y[k].length d2) := fun n => hc2
        have hxk := HX.out k hkx
        have k1 : (k : Int) < (N : Int) := by omega
        have k0 : (0 : Int) ≤ (k : Int) := by omega
        have HWM := Lib.hid hwm
        have p1 := q1 m
        have p2 := q2 m
        rw [← hwm] at p1 p2
        have HQ := Lib.hid (And.intro q1 q2)
        have HR := Lib.hid (And.intro hr1 hr2)
        have HNE : Hid (X[k] ≠ Y[k] → decide (X = Y) = false) := fun hne => decide_eq_false fun e => hne (by subst e; rfl)
        have HYES : Hid (X[k] = Y[k] → ∀ j, (a : j < X.length) → (b : j < Y.length) → j < k + 1 → X[j] = Y[j]) := fun he j a b hj => by
          rcases Nat.lt_or_ge j k with g | g
          · exact hall.out j a b g
          · have hjk : j = k := by omega
            subst hjk; exact he
        obtain ⟨P, hP⟩ : ∃ P, P = X[k] := ⟨_, rfl⟩
        obtain ⟨Q, hQ⟩ : ∃ Q, Q = Y[k] := ⟨_, rfl⟩
        rw [← hP] at p1 hxk HR HNE HYES
        rw [← hQ] at p2 HR HNE HYES
        have hpl : ∃ n, n = P.length := ⟨_, rfl⟩
        clear hP hQ hpl hwm hall q1 q2 hc1 hc2 hd1 hd2 hr1 hr2 HQ
        by_cases hle : P.length = Q.length
        · have HLE := Lib.hid hle
          rw [← hle] at p2
          obtain ⟨M, hM⟩ : ∃ M, M = P.length := ⟨_, rfl⟩
          have HM := Lib.hid hM
          rw [← hM] at p1 p2 hxk
          clear hle hM
          obtain ⟨wo, hwo⟩ : ∃ x, x = wr := ⟨_, rfl⟩
          subst hwo
          go_wp2
          go_quiet (fail)
          go_wp2
          go_loopw [6] (fun i wi => ∃ j m' : Nat, j ≤ M ∧ i = .int .i64 j ∧ Hid (∀ r, (a : r < P.length) → (b : r < Q.length) → r < j → P[r] = Q[r]) ∧ wi = wo.drewN m') (fun i _ => M - (intOf i).toNat)
          case atStart => exact ⟨0, nq, Nat.zero_le _, rfl, fun j _ _ hj => absurd hj (Nat.not_lt_zero j), rfl⟩
          case round =>
            obtain ⟨j, m', hj, rfl, hall2, hwi⟩ := hrel
            have pp1 : wr.cell? ⟨b1, o1 + k, none⟩ = some (.slice B1 M d1) := by rw [hwi]; exact p1
            have pp2 : wr.cell? ⟨b2, o2 + k, none⟩ = some (.slice B2 M d2) := by rw [hwi]; exact p2
            have HWI := Lib.hid hwi
            by_cases hjl : j < M
            · have hjP : j < P.length := by have := HM.out; omega
              have hjQ : j < Q.length := by have := HM.out; have := HLE.out; omega
              obtain ⟨g1, e1, rfl, _, x0, x1, x2, x3, x4, x5⟩ := HR.out.1 j hjP
              obtain ⟨g2, e2, rfl, _, y0, y1, y2, y3, y4, y5⟩ := HR.out.2 j hjQ
              have HNE2 : Hid (P[j] ≠ Q[j] → decide (X = Y) = false) := fun hne => HNE.out fun e => hne (by subst e; rfl)
              have HYE2 : Hid (P[j] = Q[j] → ∀ r, (a : r < P.length) → (b : r < Q.length) → r < j + 1 → P[r] = Q[r]) := fun he r a b hr => by
                rcases Nat.lt_or_ge r j with g | g
                · exact hall2.out r a b g
                · have hrj : r = j := by omega
                  subst hrj; exact he
              have heq := fun W => HEQ.out P[j] Q[j] W
              obtain ⟨x, hx⟩ : ∃ x, x = P[j] := ⟨_, rfl⟩
              obtain ⟨y, hy⟩ : ∃ x, x = Q[j] := ⟨_, rfl⟩
              rw [← hx] at HNE2 HYE2 x0 x1 x2 x3 x4 x5
              rw [← hy] at HNE2 HYE2 y0 y1 y2 y3 y4 y5
              simp only [← hx, ← hy] at heq
              have hd : decide (x = y) = true ↔ x = y := decide_eq_true_iff
              obtain ⟨V, hV⟩ : ∃ V, V = decide (x = y) := ⟨_, rfl⟩
              simp only [← hV] at heq hd
              clear hx hy hV
              obtain ⟨xk, xa, xb, xc, xd, xs⟩ := x
              obtain ⟨yk, ya, yb, yc, yd, ys⟩ := y
              simp only [rcV] at heq
              simp only at x0 x1 x2 x3 x4 x5 y0 y1 y2 y3 y4 y5
              have HX6 : Hid (∀ n, (w.drewN n).cell? ⟨g1, e1 + 6 * j, none⟩ = some (.int .i64 xk)) := fun n => x0
              have t0 : wr.cell? ⟨g1, e1 + j * 6, none⟩ = some (.int .i64 xk) := by rw [hwi, HWM.out, Nat.mul_comm j 6]; exact x0
              have t1 : wr.cell? ⟨g1, e1 + j * 6 + 1, none⟩ = some (.int .i64 xa) := by rw [hwi, HWM.out, Nat.mul_comm j 6]; exact x1
              have t2 : wr.cell? ⟨g1, e1 + j * 6 + 2, none⟩ = some (.int .i64 xb) := by rw [hwi, HWM.out, Nat.mul_comm j 6]; exact x2
              have t3 : wr.cell? ⟨g1, e1 + j * 6 + 3, none⟩ = some (.int .i64 xc) := by rw [hwi, HWM.out, Nat.mul_comm j 6]; exact x3
              have t4 : wr.cell? ⟨g1, e1 + j * 6 + 4, none⟩ = some (.int .i64 xd) := by rw [hwi, HWM.out, Nat.mul_comm j 6]; exact x4
              have t5 : wr.cell? ⟨g1, e1 + j * 6 + 5, none⟩ = some (.string xs) := by rw [hwi, HWM.out, Nat.mul_comm j 6]; exact x5
              have u0 : wr.cell? ⟨g2, e2 + j * 6, none⟩ = some (.int .i64 yk) := by rw [hwi, HWM.out, Nat.mul_comm j 6]; exact y0
              have u1 : wr.cell? ⟨g2, e2 + j * 6 + 1, none⟩ = some (.int .i64 ya) := by rw [hwi, HWM.out, Nat.mul_comm j 6]; exact y1
              have u2 : wr.cell? ⟨g2, e2 + j * 6 + 2, none⟩ = some (.int .i64 yb) := by rw [hwi, HWM.out, Nat.mul_comm j 6]; exact y2
              have u3 : wr.cell? ⟨g2, e2 + j * 6 + 3, none⟩ = some (.int .i64 yc) := by rw [hwi, HWM.out, Nat.mul_comm j 6]; exact y3
              have u4 : wr.cell? ⟨g2, e2 + j * 6 + 4, none⟩ = some (.int .i64 yd) := by rw [hwi, HWM.out, Nat.mul_comm j 6]; exact y4
              have u5 : wr.cell? ⟨g2, e2 + j * 6 + 5, none⟩ = some (.string ys) := by rw [hwi, HWM.out, Nat.mul_comm j 6]; exact y5
              have j1 : (j : Int) < (M : Int) := by omega
              have j0 : (0 : Int) ≤ (j : Int) := by omega
              have HD := Lib.hid hd
              clear x0 x1 x2 x3 x4 x5 y0 y1 y2 y3 y4 y5 hwi hall2 hd HX6 p1 p2
              cases V
              · have hF := Lib.hid (HNE2.out fun e => by have := HD.out.2 e; cases this)
                clear HNE2 HYE2 HD HNE HYES
                go_wp2
                go_quiet (fail)
                go_wp2
                go_ret
                exact ⟨by rw [hF.out]; rfl, m + (m' + nq), by rw [HWI.out, HWM.out, World.drewN_drewN, World.drewN_drewN]⟩
              · have hT := Lib.hid (HYE2.out (HD.out.1 rfl))
                clear HNE2 HYE2 HD HNE
                go_wp2
                go_quiet (fail)
                go_wp2
                go_roundw
                case rel => first | exact ⟨j + 1, m' + nq, by omega, by go_num, hT, by rw [HWI.out, World.drewN_drewN]⟩ | ((repeat apply Exists.intro); exact ⟨⟨j + 1, m' + nq, by omega, by go_num, hT, by rw [HWI.out, World.drewN_drewN]⟩, rfl⟩)
                case measure => first | (simp [intOf]; done) | (simp [intOf]; omega)
            · have hjM : j = M := by omega
              have hPQ : P = Q := List.ext_getElem HLE.out fun r a b => hall2.out r a b (by have := HM.out; omega)
              have hT := Lib.hid (HYES.out hPQ)
              have j1 : ¬ (j : Int) < (M : Int) := by omega
              clear hall2 hwi hPQ HNE HYES
              go_wp2
              go_roundw
              case rel => first | exact ⟨k + 1, m + m', by omega, by go_num, hT, by rw [HWI.out, HWM.out, World.drewN_drewN]⟩ | ((repeat apply Exists.intro); exact ⟨⟨k + 1, m + m', by omega, by go_num, hT, by rw [HWI.out, HWM.out, World.drewN_drewN]⟩, rfl⟩)
              case measure => first | (simp [intOf]; done) | (simp [intOf]; omega)
        · have hF := Lib.hid (HNE.out fun e => hle (by rw [e]))
          have hn1 : ¬ (P.length : Int) = (Q.length : Int) := by omega
          have d1' : ((P.length : Int) != (Q.length : Int)) = true := by rw [bne_iff_ne]; exact hn1
          have d2' : ((P.length : Int) == (Q.length : Int)) = false := by rw [beq_eq_false_iff_ne]; exact hn1
          clear HNE HYES HR
          go_wp2
          go_quiet (fail)
          go_wp2
          go_ret
          exact ⟨by rw [hF.out]; rfl, m + nq, by rw [HWM.out, World.drewN_drewN]⟩
      · have hkN : k = N := by omega
        have hXY : X = Y := List.ext_getElem HL.out fun r a b => hall.out r a b (by have := HN.out; omega)
        have hT : Hid (decide (X = Y) = true) := decide_eq_true hXY
        have k1 : ¬ (k : Int) < (N : Int) := by omega
        have HWM := Lib.hid hwm
        clear hall hwm hXY
        go_wp2
        go_ret
        exact ⟨by rw [hT.out]; rfl, m, HWM.out⟩
  · have hF : decide (X = Y) = false := decide_eq_false fun e => hl (by rw [e])
    rw [hF]
    have hn1 : ¬ (X.length : Int) = (Y.length : Int) := by omega
    have d1 : ((X.length : Int) != (Y.length : Int)) = true := by rw [bne_iff_ne]; exact hn1
    have d2 : ((X.length : Int) == (Y.length : Int)) = false := by rw [beq_eq_false_iff_ne]; exact hn1
    clear h1 h2 hx hF hl
    go_enter Try.func15, Try.ntmps15
    go_wp2
    go_ret
    exact ⟨rfl, 0, rfl⟩

end Go.Proofs.Ytbfchclfonicmaa
