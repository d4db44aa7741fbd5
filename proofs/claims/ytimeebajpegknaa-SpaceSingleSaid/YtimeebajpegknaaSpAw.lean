import Derived.Test.YtimeebajpegknaaSpM
/-! The chapter's example. -/
namespace Go.Proofs.Ytimeebajpegknaa
open Go.Lib Go.ChangeShapes Go.WideShapes Go.ChangeAt Go.RowKit

theorem lit_runs (w : World) (l : List (Int × Int)) (cells : Array Value) (n : Nat) (he : cells = (runCells l).toArray) (hn : n = l.length) (h0 : 0 < n) (hb : Bd l) (h1 : n ≤ 1000) : RunsAt (w.alloc (.cells cells 47)) (.slice (some ⟨w.heap.size, 0, none⟩) n n) l := by
  subst he hn
  have hr := Row.new w (runCells l) 47
  refine OwnRuns.at (.inr ⟨w.heap.size, l.length, runCells l, rfl, hr, ?_, runCells_len l, Nat.le_refl _, by omega, by omega⟩) hb
  exact List.take_of_length_le (by rw [runCells_len]; omega)
/-- a list that was read off a literal -/
def LitMade (w : World) (l : List (Int × Int)) (e : Ending) (w' : World) : Prop := ∃ v, e = .returned v ∧ RunsAt w' v l ∧ Below w.heap.size w w'
theorem example_any (w : World) : Calls Try.prog 71 #[] w (LitMade w ex3) := by
  go_enter Try.func71, Try.ntmps71
  go_wp2_with fail
  go_ret
  exact ⟨_, rfl, lit_runs w ex3 _ 3 rfl rfl (by omega) (bd_small _ (by decide)) (by omega), (Below.refl _ _).alloc (Nat.le_refl _) _⟩
set_option maxRecDepth 100000 in
set_option maxHeartbeats 2000000 in
theorem awake6_any (w : World) : Calls Try.prog 41 #[] w (Answers true w) := by
  go_enter Try.func41, Try.ntmps41
  go_wp2_with fail
  refine (example_any w).mono ?_
  rintro e w1 ⟨v1, rfl, a1, hb⟩
  have H1 := hid a1
  have B1 := hid hb
  clear a1 hb
  go_wp2_with fail
  refine (best_any v1 ex3 (by decide) 3 (by omega) w1 H1.out).mono ?_
  rintro e w2 ⟨rfl, hb⟩
  rw [ex_best]
  have B2 := hid (B1.out.trans (hb.mono B1.out.size))
  clear hb
  simp only []
  go_upto_region 2 with fail
  obtain ⟨b1, hb1⟩ : ∃ b1, b1 = w2.heap.size := ⟨_, rfl⟩
  obtain ⟨w3, hw3⟩ : ∃ w3, w3 = w2.alloc (.cells #[.int .i64 30, .int .i64 3] 47) := ⟨_, rfl⟩
  have r1 : Row w3 b1 47 [.int .i64 30, .int .i64 3] := by rw [hw3, hb1]; exact Row.new w2 _ _
  have b3 : Below w.heap.size w w3 := by rw [hw3]; exact B2.out.alloc B2.out.size _
  rw [← hw3, ← hb1]
  have R3 := hid r1
  have B3 := hid b3
  clear r1 b3 hw3 hb1 H1
  go_wp2_with fail
  refine (example_any w3).mono ?_
  rintro e w4 ⟨v4, rfl, a1, hb⟩
  have H4 := hid a1
  have B4 := hid (B3.out.trans (hb.mono B3.out.size))
  have R4 := hid (R3.out.keep hb)
  clear a1 hb
  go_wp2_with fail
  refine (allocate_any v4 ex3 (by decide) 6 2 (by omega) (by omega) w4 H4.out).mono ?_
  rintro e w5 ⟨va, rfl, a1, a2, hb⟩
  rw [ex_alloc2] at a1 ⊢
  have HA5 := hid (a1.at (bd_small _ (by decide)))
  have B5 := hid (B4.out.trans (hb.mono B4.out.size))
  have R5 := hid (R4.out.keep hb)
  clear a1 a2 hb
  go_wp2_with fail
  refine (example_any w5).mono ?_
  rintro e w6 ⟨v6, rfl, a1, hb⟩
  have H6 := hid a1
  have B6 := hid (B5.out.trans (hb.mono B5.out.size))
  have R6 := hid (R5.out.keep hb)
  have HA6 := hid (HA5.out.below hb (Nat.le_refl _))
  clear a1 hb
  go_wp2_with fail
  refine (allocate_any v6 ex3 (by decide) 6 1 (by omega) (by omega) w6 H6.out).mono ?_
  rintro e w7 ⟨vb, rfl, a1, a2, hb⟩
  rw [ex_alloc1] at a1 ⊢
  have B7 := hid (B6.out.trans (hb.mono B6.out.size))
  have R7 := hid (R6.out.keep hb)
  have HA7 := hid (HA6.out.below hb (Nat.le_refl _))
  clear a1 a2 hb
  go_wp2_with fail
  obtain ⟨w8, hw8⟩ : ∃ w8, w8 = w7.alloc (.cells #[.int .i64 8, .int .i64 2] 47) := ⟨_, rfl⟩
  have b8 : Below w7.heap.size w7 w8 := by rw [hw8]; exact (Below.refl _ _).alloc (Nat.le_refl _) _
  have h8 : RunsAt w8 (.slice (some ⟨w7.heap.size, 0, none⟩) 1 1) [(8, 2)] := by rw [hw8]; exact nx_at w7 8 2 (by omega) (by omega)
  rw [← hw8]
  have B8 := hid (B7.out.trans (b8.mono B7.out.size))
  have R8 := hid (R7.out.keep b8)
  have HA8 := hid (HA7.out.below b8 (Nat.le_refl _))
  have HL8 := hid h8
  clear h8 b8 hw8
  go_wp2_with fail
  refine (example_any w8).mono ?_
  rintro e w9 ⟨v9, rfl, a1, hb⟩
  have H9 := hid a1
  have B9 := hid (B8.out.trans (hb.mono B8.out.size))
  have R9 := hid (R8.out.keep hb)
  have HA9 := hid (HA8.out.below hb (Nat.le_refl _))
  have HL9 := hid (HL8.out.below hb (Nat.le_refl _))
  clear a1 hb
  go_wp2_with fail
  refine (extend_any _ v9 [(8, 2)] ex3 (by decide) (by decide) 5 (by omega) w9 HL9.out H9.out).mono ?_
  rintro e w10 ⟨vx, rfl, a1, a2, hb⟩
  rw [ex_ext] at a1 ⊢
  have HX10 := hid (a1.at (bd_small _ (by decide)))
  have B10 := hid (B9.out.trans (hb.mono B9.out.size))
  have R10 := hid (R9.out.keep hb)
  have HA10 := hid (HA9.out.below hb (Nat.le_refl _))
  clear a1 a2 hb
  have e0 := R10.out.cell (i := 0) rfl
  have e1 := R10.out.cell (i := 1) rfl
  go_wp2_with fail
  refine (same_any va _ [(10, 4), (30, 2)] [(10, 4), (30, 2)] (by decide) (by decide) _ (HA10.out.below ((Below.refl _ _).alloc (Nat.le_refl _) _) (Nat.le_refl _)) (lit_runs w10 [(10, 4), (30, 2)] _ 2 rfl rfl (by omega) (bd_small _ (by decide)) (by omega))).mono ?_
  rintro e w11 ⟨rfl, hb⟩
  have hb' := ((Below.refl w10.heap.size w10).alloc (Nat.le_refl _) (.cells (runCells [(10, 4), (30, 2)]).toArray 47)).trans (hb.mono (by simp))
  rw [show decide (([(10, 4), (30, 2)] : List (Int × Int)) = [(10, 4), (30, 2)]) = true from by decide]
  have B11 := hid (B10.out.trans (hb'.mono B10.out.size))
  have HX11 := hid (HX10.out.below hb' (Nat.le_refl _))
  clear hb hb'
  go_wp2_with fail
  refine (same_any vx _ [(8, 6), (20, 1)] [(8, 6), (20, 1)] (by decide) (by decide) _ (HX11.out.below ((Below.refl _ _).alloc (Nat.le_refl _) _) (Nat.le_refl _)) (lit_runs w11 [(8, 6), (20, 1)] _ 2 rfl rfl (by omega) (bd_small _ (by decide)) (by omega))).mono ?_
  rintro e w12 ⟨rfl, hb⟩
  have hb' := ((Below.refl w11.heap.size w11).alloc (Nat.le_refl _) (.cells (runCells [(8, 6), (20, 1)]).toArray 47)).trans (hb.mono (by simp))
  rw [show decide (([(8, 6), (20, 1)] : List (Int × Int)) = [(8, 6), (20, 1)]) = true from by decide]
  have B12 := hid (B11.out.trans (hb'.mono B11.out.size))
  clear hb hb'
  go_wp2_with fail
  go_ret
  exact ⟨rfl, B12.out⟩
end Go.Proofs.Ytimeebajpegknaa
