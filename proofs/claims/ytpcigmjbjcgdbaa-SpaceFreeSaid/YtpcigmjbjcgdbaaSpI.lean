import Derived.Test.YtpcigmjbjcgdbaaSpH
/-! Fragments, and the specification's. -/
namespace Go.Proofs.Ytpcigmjbjcgdbaa
open Go.Lib Go.ChangeShapes Go.WideShapes Go.ChangeAt Go.RowKit

def FragAns (l : List (Int × Int)) : Int × Int :=
  if (seqI (norm (inB l))).length = 0 then (0, 0) else ((norm (inB l)).length, Int.tdiv (100 * (((seqI (norm (inB l))).length : Int) - LargestAns l)) ((seqI (norm (inB l))).length : Int))
theorem largest_norm (l : List (Int × Int)) : LargestAns (norm (inB l)) = LargestAns l := by unfold LargestAns; rw [norm_inB]
theorem largest_range (l : List (Int × Int)) : 0 ≤ LargestAns l ∧ LargestAns l ≤ 128 ∧ LargestAns l ≤ ((seqI (norm (inB l))).length : Int) := by
  unfold LargestAns
  have hm := srtDown_mem (norm (inB l))
  cases hS : srtDown (norm (inB l)) with
  | nil => simp
  | cons r T =>
    rw [hS] at hm
    have hr := norm_counts (inB l) r ((hm r).1 (by simp))
    have hp : (seqI (srtDown (norm (inB l)))).Perm (seqI (norm (inB l))) := seqI_perm (List.mergeSort_perm _ _)
    rw [← hp.length_eq, hS, seqI_cons, List.length_append, show r = (r.1, r.2) from rfl, ex_good _ _ hr.1 hr.2.1 hr.2.2]
    simp [tracks]
    omega
set_option maxRecDepth 100000 in
set_option maxHeartbeats 1000000 in
theorem fragments_any (v : Value) (l : List (Int × Int)) (hl : l.length ≤ 4000) (w : World) (hs : RunsAt w v l) :
    Calls Try.prog 42 #[v] w fun e w' => e = .returned (.tuple #[.int .i64 (FragAns l).1, .int .i64 (FragAns l).2]) ∧ Below w.heap.size w w' := by
  have HS := hid hs
  have hlr := largest_range l
  obtain ⟨R, hR⟩ : ∃ R, R = FragAns l := ⟨_, rfl⟩
  rw [← hR]
  unfold FragAns at hR
  have hln := largest_norm l
  obtain ⟨g, hg⟩ : ∃ g, g = LargestAns l := ⟨_, rfl⟩
  obtain ⟨N, hN⟩ : ∃ N, N = norm (inB l) := ⟨_, rfl⟩
  have hNl : N.length ≤ 128 := by rw [hN]; exact norm_small _
  have hNb : Bd N := by rw [hN]; exact norm_bd _
  obtain ⟨n, hn⟩ : ∃ n, n = (seqI N).length := ⟨_, rfl⟩
  obtain ⟨m, hm⟩ : ∃ m, m = N.length := ⟨_, rfl⟩
  rw [← hN] at hR hlr hln
  rw [← hg] at hR hlr hln
  rw [← hn] at hR hlr
  rw [← hm] at hR hNl
  have hn5 : n ≤ 16384 := by have := seqI_len_le N; omega
  obtain ⟨hg1, hg2, hg3⟩ := hlr
  have HR := hid hR
  have HN := hid hN
  have HM := hid hm
  have HNN := hid hn
  have HLN := hid hln
  have HNB := hid hNb
  have HNL : Hid (N.length ≤ 4000) := by show _ ≤ _; omega
  clear hs hR hg hN hn hm hln hNb
  go_enter Try.func42, Try.ntmps42
  go_wp2_with fail
  refine (normal_any v l hl w HS.out).mono ?_
  rintro e w1 ⟨v1, rfl, a1, a2, hb⟩
  rw [← HN.out] at a1
  obtain ⟨A, cap, rfl⟩ := OwnRuns.shape a1
  have ha := OwnRuns.at a1 HNB.out
  rw [← HM.out] at ha ⊢
  have HA := hid ha
  have B1 := hid hb
  clear a1 a2 hb ha
  go_wp2_with fail
  refine (size_any _ N HNL.out w1 HA.out).mono ?_
  rintro e w2 ⟨rfl, hb⟩
  rw [← HNN.out]
  have HA2 := hid (HA.out.below hb (Nat.le_refl _))
  have B2 := hid (B1.out.trans (hb.mono B1.out.size))
  clear hb
  by_cases h0 : n = 0
  · have h9 := HR.out
    rw [if_pos h0] at h9
    have H9 := hid h9
    have hd : ((n : Int) == 0) = true := by simp; omega
    clear h9 h0
    go_wp2_with fail
    go_ret2
    rw [H9.out]
    exact ⟨rfl, B2.out⟩
  · have h9 := HR.out
    rw [if_neg h0] at h9
    have hd : ((n : Int) == 0) = false := by simp; omega
    have hn0 : (n : Int) ≠ 0 := by omega
    have hp : 0 < (n : Int) := by omega
    obtain ⟨D, hD⟩ : ∃ D, D = Int.tdiv (100 * ((n : Int) - g)) n := ⟨_, rfl⟩
    rw [← hD] at h9
    have hD1 : 0 ≤ D := by rw [hD]; exact Int.tdiv_nonneg (by omega) (by omega)
    have hD2 : D ≤ 100 := by
      rw [hD, Int.tdiv_eq_ediv_of_nonneg (by omega)]
      exact Int.ediv_le_of_le_mul hp (by omega)
    have H9 := hid h9
    have HD := hid hD
    have hw1 : IntKind.i64.wrap ((n : Int) - g) = (n : Int) - g := IntWalk.i64_in _ (by omega)
    have hw2 : IntKind.i64.wrap (100 * ((n : Int) - g)) = 100 * ((n : Int) - g) := IntWalk.i64_in _ (by omega)
    have hw3 : IntKind.i64.wrap (Int.tdiv (100 * ((n : Int) - g)) n) = D := by rw [← hD]; exact IntWalk.i64_in _ (by omega)
    clear h9 hD
    go_upto_region 5 with fail
    have hbd : Below w2.heap.size w2 w2.drew := (Upds.drew (F := fun _ => False) w2).below (Nat.le_refl _) (fun _ h => h.elim)
    have HA3 := hid (HA2.out.below hbd (Nat.le_refl _))
    have B3 := hid (B2.out.trans (hbd.mono B2.out.size))
    clear hbd
    go_region_law (go_simp; go_at_call 46; refine (largest_any _ N HNL.out w2.drew HA3.out).mono ?_; rintro e w3 ⟨rfl, hb⟩; rw [HLN.out]; have B4 := hid (B3.out.trans (hb.mono B3.out.size)); clear hb; dsimp only)
    all_goals
      go_wp2_with fail
      go_ret2
      rw [H9.out]
      exact ⟨rfl, B4.out⟩
end Go.Proofs.Ytpcigmjbjcgdbaa
