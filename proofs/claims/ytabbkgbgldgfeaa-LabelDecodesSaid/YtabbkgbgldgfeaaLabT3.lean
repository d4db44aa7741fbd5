import Derived.Test.YtabbkgbgldgfeaaLabT2
/-! Equal of labels, both sides. -/
namespace Go.Proofs.Ytabbkgbgldgfeaa
open Go.Lib Go.ChangeShapes Go.WideShapes Go.ChangeAt Go.RowKit

theorem str_ne {a b : ByteArray} (h : ¬ a = b) : (a.toList == b.toList) = false := by
  rw [beq_eq_false_iff_ne]
  intro e
  rw [ByteArray.toList_eq, ByteArray.toList_eq] at e
  exact h (ByteArray.ext (Array.toList_inj.1 e))
theorem str_eq (a : ByteArray) : (a.toList == a.toList) = true := beq_self_eq_true _
theorem eqL_no (a b : Lab) (h : ¬ eqL a b) : decide (eqL a b) = false := decide_eq_false h
set_option maxRecDepth 100000 in
set_option maxHeartbeats 1000000 in
theorem labEqual_any (a b : Lab) (v u : Value) (hn : a.ext.length ≤ 4000) (hm : b.ext.length ≤ 4000) (w : World) (ha : RunsAt w v a.ext) (hb : RunsAt w u b.ext) :
    Calls Try.prog 14 #[labV a v, labV b u] w (Answers (decide (eqL a b)) w) := by
  obtain ⟨i, n, s, t, l⟩ := a
  obtain ⟨j, m, p, q, k⟩ := b
  simp only at hn hm ha hb
  have hw : Below w.heap.size w ((w.alloc (.cells #[.int .i64 i, .int .i64 n, .string s, .string t, v] 24)).alloc (.cells #[.int .i64 j, .int .i64 m, .string p, .string q, u] 24)) := ((Below.refl _ _).alloc (Nat.le_refl _) _).alloc (by simp) _
  have HW := hid hw
  have HC := hid (equal_any v u l k hn hm _ (ha.below hw (Nat.le_refl _)) (hb.below hw (Nat.le_refl _)))
  clear hw hn hm ha hb
  by_cases hi : i = j
  rotate_left
  · rw [eqL_no _ _ (by unfold eqL; simp only; rintro ⟨g0, g1, g2, g3, _⟩; exact hi g0)]
    have di : (i == j) = false := beq_eq_false_iff_ne.2 hi
    clear HC
    go_enter Try.func14, Try.ntmps14
    go_wp2_with fail
    go_ret
    exact ⟨rfl, HW.out⟩
  subst hi
  have di : (i == i) = true := beq_self_eq_true _
  by_cases hn : n = m
  rotate_left
  · rw [eqL_no _ _ (by unfold eqL; simp only; rintro ⟨g0, g1, g2, g3, _⟩; exact hn g1)]
    have dn : (n == m) = false := beq_eq_false_iff_ne.2 hn
    clear HC
    go_enter Try.func14, Try.ntmps14
    go_wp2_with fail
    go_ret
    exact ⟨rfl, HW.out⟩
  subst hn
  have dn : (n == n) = true := beq_self_eq_true _
  by_cases hs : s = p
  rotate_left
  · rw [eqL_no _ _ (by unfold eqL; simp only; rintro ⟨g0, g1, g2, g3, _⟩; exact hs g2)]
    have ds : (s.toList == p.toList) = false := str_ne hs
    clear HC
    go_enter Try.func14, Try.ntmps14
    go_wp2_with fail
    go_ret
    exact ⟨rfl, HW.out⟩
  subst hs
  have ds : (s.toList == s.toList) = true := str_eq _
  by_cases ht : t = q
  rotate_left
  · rw [eqL_no _ _ (by unfold eqL; simp only; rintro ⟨g0, g1, g2, g3, _⟩; exact ht g3)]
    have dt : (t.toList == q.toList) = false := str_ne ht
    clear HC
    go_enter Try.func14, Try.ntmps14
    go_wp2_with fail
    go_ret
    exact ⟨rfl, HW.out⟩
  subst ht
  have dt : (t.toList == t.toList) = true := str_eq _
  have e : decide (eqL ⟨i, n, s, t, l⟩ ⟨i, n, s, t, k⟩) = decide (l = k) := decide_eq_decide.2 (by unfold eqL; simp)
  rw [e]
  obtain ⟨R, hR⟩ : ∃ R, R = decide (l = k) := ⟨_, rfl⟩
  rw [← hR] at HC ⊢
  clear hR e
  go_enter Try.func14, Try.ntmps14
  go_wp2_with fail
  refine HC.out.mono ?_
  rintro e w' ⟨rfl, hb⟩
  have HB := hid (HW.out.trans (hb.mono HW.out.size))
  clear hb
  go_wp2_with fail
  go_ret
  exact ⟨rfl, HB.out⟩
set_option maxRecDepth 100000 in
set_option maxHeartbeats 1000000 in
theorem refLabEqual_any (a b : Lab) (v u : Value) (hn : a.ext.length ≤ 4000) (hm : b.ext.length ≤ 4000) (w : World) (ha : RunsAt w v a.ext) (hb : RunsAt w u b.ext) :
    Calls Try.prog 15 #[labV a v, labV b u] w (Answers (decide (eqL a b)) w) := by
  obtain ⟨i, n, s, t, l⟩ := a
  obtain ⟨j, m, p, q, k⟩ := b
  simp only at hn hm ha hb
  have hw : Below w.heap.size w ((w.alloc (.cells #[.int .i64 i, .int .i64 n, .string s, .string t, v] 24)).alloc (.cells #[.int .i64 j, .int .i64 m, .string p, .string q, u] 24)) := ((Below.refl _ _).alloc (Nat.le_refl _) _).alloc (by simp) _
  have HW := hid hw
  have HC := hid (same_any v u l k hn hm _ (ha.below hw (Nat.le_refl _)) (hb.below hw (Nat.le_refl _)))
  clear hw hn hm ha hb
  by_cases hi : i = j
  rotate_left
  · rw [eqL_no _ _ (by unfold eqL; simp only; rintro ⟨g0, g1, g2, g3, _⟩; exact hi g0)]
    have di : (i == j) = false := beq_eq_false_iff_ne.2 hi
    clear HC
    go_enter Try.func15, Try.ntmps15
    go_wp2_with fail
    go_ret
    exact ⟨rfl, HW.out⟩
  subst hi
  have di : (i == i) = true := beq_self_eq_true _
  by_cases hn : n = m
  rotate_left
  · rw [eqL_no _ _ (by unfold eqL; simp only; rintro ⟨g0, g1, g2, g3, _⟩; exact hn g1)]
    have dn : (n == m) = false := beq_eq_false_iff_ne.2 hn
    clear HC
    go_enter Try.func15, Try.ntmps15
    go_wp2_with fail
    go_ret
    exact ⟨rfl, HW.out⟩
  subst hn
  have dn : (n == n) = true := beq_self_eq_true _
  by_cases hs : s = p
  rotate_left
  · rw [eqL_no _ _ (by unfold eqL; simp only; rintro ⟨g0, g1, g2, g3, _⟩; exact hs g2)]
    have ds : (s.toList == p.toList) = false := str_ne hs
    clear HC
    go_enter Try.func15, Try.ntmps15
    go_wp2_with fail
    go_ret
    exact ⟨rfl, HW.out⟩
  subst hs
  have ds : (s.toList == s.toList) = true := str_eq _
  by_cases ht : t = q
  rotate_left
  · rw [eqL_no _ _ (by unfold eqL; simp only; rintro ⟨g0, g1, g2, g3, _⟩; exact ht g3)]
    have dt : (t.toList == q.toList) = false := str_ne ht
    clear HC
    go_enter Try.func15, Try.ntmps15
    go_wp2_with fail
    go_ret
    exact ⟨rfl, HW.out⟩
  subst ht
  have dt : (t.toList == t.toList) = true := str_eq _
  have e : decide (eqL ⟨i, n, s, t, l⟩ ⟨i, n, s, t, k⟩) = decide (l = k) := decide_eq_decide.2 (by unfold eqL; simp)
  rw [e]
  obtain ⟨R, hR⟩ : ∃ R, R = decide (l = k) := ⟨_, rfl⟩
  rw [← hR] at HC ⊢
  clear hR e
  go_enter Try.func15, Try.ntmps15
  go_wp2_with fail
  refine HC.out.mono ?_
  rintro e w' ⟨rfl, hb⟩
  have HB := hid (HW.out.trans (hb.mono HW.out.size))
  clear hb
  go_wp2_with fail
  go_ret
  exact ⟨rfl, HB.out⟩
end Go.Proofs.Ytabbkgbgldgfeaa
