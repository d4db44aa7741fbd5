import Derived.Test.YtpcigmjbjcgdbaaExtA
/-! The chapter's example. -/
namespace Go.Proofs.Ytpcigmjbjcgdbaa
open Go.Lib Go.ChangeShapes Go.WideShapes Go.ChangeAt Go.RowKit

theorem lit_cells (w : World) (ps : List (Int × Int)) (t : TypeId) (cells : Array Value) (he : cells = (runCells ps).toArray) : ∀ i (h : i < ps.length), (w.alloc (.cells cells t)).cell? ⟨w.heap.size, i * 2, none⟩ = some (.int .i64 ps[i].1) ∧ (w.alloc (.cells cells t)).cell? ⟨w.heap.size, i * 2 + 1, none⟩ = some (.int .i64 ps[i].2) := by
  intro i h
  subst he
  have hr := Row.new w (runCells ps) t
  have hg := runCells_get ps i h
  exact ⟨hr.cell hg.1, hr.cell hg.2⟩
theorem bd_small (ps : List (Int × Int)) (h : ps.all (fun r => decide (-1000 ≤ r.1 ∧ r.1 ≤ 1000 ∧ -1000 ≤ r.2 ∧ r.2 ≤ 1000)) = true) : Bd ps := by
  intro r hr
  have := List.all_eq_true.1 h r hr
  simp only [decide_eq_true_eq] at this
  omega
/-- a list of runs that was made, and the world then -/
def Kept (w w' : World) (v : Value) (l : List (Int × Int)) : Prop := RunsAt w' v l ∧ Below w.heap.size w w'
theorem Made.kept {w w1 : World} {l : List (Int × Int)} (hbd : Bd l) (hb : Below w.heap.size w w1) {e : Ending} {w' : World} (h : Made w1 l e w') : ∃ v, e = .returned v ∧ Kept w w' v l ∧ Below w1.heap.size w1 w' := by
  obtain ⟨v, h1, h2, h3, h4⟩ := h
  exact ⟨v, h1, ⟨h2.at hbd, hb.trans (h4.mono hb.size)⟩, h4⟩
set_option maxRecDepth 100000 in
set_option maxHeartbeats 1000000 in
theorem awake_any (w : World) : Calls Try.prog 18 #[] w (Answers true w) := by
  go_enter Try.func18, Try.ntmps18
  go_wp2_with fail
  refine ((mk_runs [(5, 2), (7, 1), (3, 2)] w.heap.size 6 rfl (by decide) _ (by simp) (lit_cells w _ _ _ rfl)).mono fun e w' h => Made.kept (w := w) (bd_small _ (by decide)) ((Below.refl _ _).alloc (Nat.le_refl _) _) h).mono ?_
  rintro e w1 ⟨v1, rfl, h1, hb1⟩
  have H1 := hid h1
  clear h1 hb1
  go_wp2_with fail
  refine (at_any v1 _ (by decide) 3 (by omega) w1 H1.out.1).mono ?_
  rintro e w2 ⟨rfl, hb2⟩
  have B2 := hid (H1.out.2.trans (hb2.mono H1.out.2.size))
  clear hb2
  rw [show AtSeq (seqI [(5, 2), (7, 1), (3, 2)]) 3 = (3, true) from by decide +kernel]
  go_wp2_with fail
  refine ((mk_runs [(5, 2), (3, 2), (9, 1), (-1, 2)] w2.heap.size 8 rfl (by decide) _ (by simp) (lit_cells w2 _ _ _ rfl)).mono fun e w' h => Made.kept (w := w) (bd_small _ (by decide)) (B2.out.alloc B2.out.size _) h).mono ?_
  rintro e w3 ⟨v3, rfl, h1, hb1⟩
  have H3 := hid h1
  have L3 := hid (hb1)
  clear h1 hb1
  go_wp2_with fail
  refine ((normal_any v3 _ (by decide) w3 H3.out.1).mono fun e w' h => Made.kept (w := w) (norm_bd _) H3.out.2 h).mono ?_
  rintro e w4 ⟨v4, rfl, h1, hb1⟩
  rw [show norm (inB [(5, 2), (3, 2), (9, 1), (-1, 2)]) = [(0, 1), (3, 4), (9, 1)] from by decide +kernel] at h1
  have H4 := hid h1
  clear h1 hb1
  go_wp2_with fail
  refine ((mk_runs [(0, 1), (3, 4), (9, 1)] w4.heap.size 6 rfl (by decide) _ (by simp) (lit_cells w4 _ _ _ rfl)).mono fun e w' h => Made.kept (w := w) (bd_small _ (by decide)) (H4.out.2.alloc H4.out.2.size _) h).mono ?_
  rintro e w5 ⟨v5, rfl, h1, hb1⟩
  have H5 := hid h1
  have L5 := hid (hb1)
  clear h1 hb1
  go_wp2_with fail
  refine (same_any v4 v5 [(0, 1), (3, 4), (9, 1)] [(0, 1), (3, 4), (9, 1)] (by decide) (by decide) w5 (H4.out.1.below (((Below.refl _ _).alloc (Nat.le_refl _) _).trans (L5.out.mono (by simp))) (Nat.le_refl _)) H5.out.1).mono ?_
  rintro e w6 ⟨rfl, hb2⟩
  have B6 := hid (H5.out.2.trans (hb2.mono H5.out.2.size))
  clear hb2
  rw [show decide (([(0, 1), (3, 4), (9, 1)] : List (Int × Int)) = [(0, 1), (3, 4), (9, 1)]) = true from by decide]
  go_wp2_with fail
  refine ((mk_runs [(5, 2), (7, 1), (3, 2)] w6.heap.size 6 rfl (by decide) _ (by simp) (lit_cells w6 _ _ _ rfl)).mono fun e w' h => Made.kept (w := w) (bd_small _ (by decide)) (B6.out.alloc B6.out.size _) h).mono ?_
  rintro e w7 ⟨v7, rfl, h1, hb1⟩
  have H7 := hid h1
  have L7 := hid (hb1)
  clear h1 hb1
  go_wp2_with fail
  refine ((join_any v7 _ (by decide) w7 H7.out.1).mono fun e w' h => Made.kept (w := w) (Bd.up (fine_canon _ (seqI_lt _))) H7.out.2 h).mono ?_
  rintro e w8 ⟨v8, rfl, h1, hb1⟩
  rw [show up (canon (seqI [(5, 2), (7, 1), (3, 2)])) = [(5, 3), (3, 2)] from by decide +kernel] at h1
  have H8 := hid h1
  clear h1 hb1
  go_wp2_with fail
  refine ((mk_runs [(5, 3), (3, 2)] w8.heap.size 4 rfl (by decide) _ (by simp) (lit_cells w8 _ _ _ rfl)).mono fun e w' h => Made.kept (w := w) (bd_small _ (by decide)) (H8.out.2.alloc H8.out.2.size _) h).mono ?_
  rintro e w9 ⟨v9, rfl, h1, hb1⟩
  have H9 := hid h1
  have L9 := hid (hb1)
  clear h1 hb1
  go_wp2_with fail
  refine (same_any v8 v9 [(5, 3), (3, 2)] [(5, 3), (3, 2)] (by decide) (by decide) w9 (H8.out.1.below (((Below.refl _ _).alloc (Nat.le_refl _) _).trans (L9.out.mono (by simp))) (Nat.le_refl _)) H9.out.1).mono ?_
  rintro e w10 ⟨rfl, hb2⟩
  have B10 := hid (H9.out.2.trans (hb2.mono H9.out.2.size))
  clear hb2
  rw [show decide (([(5, 3), (3, 2)] : List (Int × Int)) = [(5, 3), (3, 2)]) = true from by decide]
  go_wp2_with fail
  go_ret
  exact ⟨rfl, B10.out⟩
end Go.Proofs.Ytpcigmjbjcgdbaa
