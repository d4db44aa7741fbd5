import Derived.Test.YtimeebajpegknaaSpR
/-! Release and Consolidate, and the specification's. -/
namespace Go.Proofs.Ytimeebajpegknaa
open Go.Lib Go.ChangeShapes Go.WideShapes Go.ChangeAt Go.RowKit

def RelAns (l : List (Int × Int)) (n : Int) : (List (Int × Int) × List (Int × Int)) × Int :=
  if n < 1 ∨ ((seqI l).length : Int) < n then (([], []), 2) else ((up (canon ((seqI l).take n.toNat)), minusI (up (canon ((seqI l).drop n.toNat))) (up (canon ((seqI l).take n.toNat)))), 0)
def RelMade (w : World) (r : (List (Int × Int) × List (Int × Int)) × Int) (e : Ending) (w' : World) : Prop := ∃ v1 v2, e = .returned (.tuple #[v1, v2, .int .i64 r.2]) ∧ RunsAt w' v1 r.1.1 ∧ RunsAt w' v2 r.1.2 ∧ Below w.heap.size w w'
def ConAns (l l2 : List (Int × Int)) : (Int × Int) × Bool := if (joinI l).length < 2 then ((0, 0), false) else BestAns (minusI l2 l) (seqI l).length
set_option maxRecDepth 100000 in
theorem release_any (v : Value) (l : List (Int × Int)) (hl : l.length ≤ 4000) (n : Int) (hn : -9223372036854775808 ≤ n ∧ n ≤ 9223372036854775807) (w : World) (hs : RunsAt w v l) :
    Calls Try.prog 54 #[v, .int .i64 n] w (RelMade w (RelAns l n)) := by
  obtain ⟨hn1, hn2⟩ := hn
  have HS := hid hs
  clear hs
  obtain ⟨R, hR⟩ : ∃ R, R = RelAns l n := ⟨_, rfl⟩
  rw [← hR]
  unfold RelAns at hR
  have hq := seqI_len_le l
  obtain ⟨m, hm⟩ : ∃ m, m = (seqI l).length := ⟨_, rfl⟩
  rw [← hm] at hR hq
  have hm5 : m ≤ 512000 := by omega
  have HM := hid hm
  clear hm hq
  by_cases h1 : n < 1
  · rw [if_pos (.inl h1)] at hR
    have HR := hid hR
    clear hR
    go_enter Try.func54, Try.ntmps54
    go_wp2_with fail
    go_ret3
    rw [HR.out]
    exact ⟨_, _, rfl, RunsAt.nil _, RunsAt.nil _, Below.refl _ _⟩
  by_cases h2 : (m : Int) < n
  · rw [if_pos (.inr h2)] at hR
    have HR := hid hR
    clear hR
    go_enter Try.func54, Try.ntmps54
    go_wp2_with fail
    refine (size_any v l hl w HS.out).mono ?_
    rintro e w1 ⟨rfl, hb⟩
    rw [← HM.out]
    have B1 := hid hb
    clear hb
    go_wp2_with fail
    go_ret3
    rw [HR.out]
    exact ⟨_, _, rfl, RunsAt.nil _, RunsAt.nil _, B1.out⟩
  rw [if_neg (by omega)] at hR
  obtain ⟨a, b, ha, hb0, hab⟩ : ∃ a b, a = up (canon ((seqI l).take n.toNat)) ∧ b = up (canon ((seqI l).drop n.toNat)) ∧ R = ((a, minusI b a), 0) := ⟨_, _, rfl, rfl, hR⟩
  have hal : a.length ≤ 4000 := by have := (cut_len l n.toNat).1; rw [← ha] at this; omega
  have hbl : b.length ≤ 4000 := by have := (cut_len l n.toNat).2; rw [← hb0] at this; omega
  have HBA : Hid (Bd a) := by rw [ha]; exact seq_bd _ (fun t ht => seqI_lt l t (List.mem_of_mem_take ht))
  have HBB : Hid (Bd b) := by rw [hb0]; exact seq_bd _ (fun t ht => seqI_lt l t (List.mem_of_mem_drop ht))
  have HA0 := hid ha
  have HB0 := hid hb0
  have HR := hid hab
  clear hR ha hb0 hab
  go_enter Try.func54, Try.ntmps54
  go_wp2_with fail
  refine (size_any v l hl w HS.out).mono ?_
  rintro e w1 ⟨rfl, hb⟩
  rw [← HM.out]
  have B1 := hid hb
  clear hb
  go_wp2_with fail
  refine (cut_any v l hl n ⟨hn1, hn2⟩ _ (HS.out.below B1.out (Nat.le_refl _))).mono ?_
  rintro e w2 ⟨v1, v2, rfl, a1, a2, a3, a4, a5, hb⟩
  rw [← HA0.out] at a1
  rw [← HB0.out] at a2
  have V1 := hid (a1.at HBA.out)
  have V2 := hid (a2.at HBB.out)
  have B2 := hid (B1.out.trans (hb.mono B1.out.size))
  clear a1 a2 a3 a4 a5 hb
  go_wp2_with fail
  refine (minus_any v2 v1 b a hbl hal _ V2.out V1.out).mono ?_
  rintro e w3 ⟨v3, rfl, a1, a2, hb⟩
  have V3 : Hid (RunsAt w3 v3 (minusI b a)) := OwnRuns.at a1 (minusI_bd _ _)
  have V4 := hid (V1.out.below hb (Nat.le_refl _))
  have B3 := hid (B2.out.trans (hb.mono B2.out.size))
  clear a1 a2 hb
  go_wp2_with fail
  go_ret3
  rw [HR.out]
  exact ⟨_, _, rfl, V4.out, V3.out, B3.out⟩
set_option maxRecDepth 100000 in
theorem refRelease_any (v : Value) (l : List (Int × Int)) (hl : l.length ≤ 4000) (n : Int) (hn : -9223372036854775808 ≤ n ∧ n ≤ 9223372036854775807) (w : World) (hs : RunsAt w v l) :
    Calls Try.prog 55 #[v, .int .i64 n] w (RelMade w (RelAns l n)) := by
  obtain ⟨hn1, hn2⟩ := hn
  have HS := hid hs
  clear hs
  obtain ⟨R, hR⟩ : ∃ R, R = RelAns l n := ⟨_, rfl⟩
  rw [← hR]
  unfold RelAns at hR
  have hq := seqI_len_le l
  obtain ⟨m, hm⟩ : ∃ m, m = (seqI l).length := ⟨_, rfl⟩
  rw [← hm] at hR hq
  have hm5 : m ≤ 512000 := by omega
  have HM := hid hm
  clear hm hq
  by_cases h1 : n < 1
  · rw [if_pos (.inl h1)] at hR
    have HR := hid hR
    clear hR
    go_enter Try.func55, Try.ntmps55
    go_wp2_with fail
    go_ret3
    rw [HR.out]
    exact ⟨_, _, rfl, RunsAt.nil _, RunsAt.nil _, Below.refl _ _⟩
  by_cases h2 : (m : Int) < n
  · rw [if_pos (.inr h2)] at hR
    have HR := hid hR
    clear hR
    go_enter Try.func55, Try.ntmps55
    go_wp2_with fail
    refine (sequence_any v l hl w HS.out).mono ?_
    rintro e w1 ⟨u, rfl, h1, hb⟩
    obtain ⟨A, cap, rfl, _⟩ := h1.get
    rw [← HM.out]
    clear h1
    have B1 := hid hb
    clear hb
    go_wp2_with fail
    go_ret3
    rw [HR.out]
    exact ⟨_, _, rfl, RunsAt.nil _, RunsAt.nil _, B1.out⟩
  rw [if_neg (by omega)] at hR
  obtain ⟨a, b, ha, hb0, hab⟩ : ∃ a b, a = up (canon ((seqI l).take n.toNat)) ∧ b = up (canon ((seqI l).drop n.toNat)) ∧ R = ((a, minusI b a), 0) := ⟨_, _, rfl, rfl, hR⟩
  have hal : a.length ≤ 4000 := by have := (cut_len l n.toNat).1; rw [← ha] at this; omega
  have hbl : b.length ≤ 4000 := by have := (cut_len l n.toNat).2; rw [← hb0] at this; omega
  have HBA : Hid (Bd a) := by rw [ha]; exact seq_bd _ (fun t ht => seqI_lt l t (List.mem_of_mem_take ht))
  have HBB : Hid (Bd b) := by rw [hb0]; exact seq_bd _ (fun t ht => seqI_lt l t (List.mem_of_mem_drop ht))
  have HA0 := hid ha
  have HB0 := hid hb0
  have HR := hid hab
  clear hR ha hb0 hab
  go_enter Try.func55, Try.ntmps55
  go_wp2_with fail
  refine (sequence_any v l hl w HS.out).mono ?_
  rintro e w1 ⟨u, rfl, h1, hb⟩
  obtain ⟨A, cap, rfl, _⟩ := h1.get
  rw [← HM.out]
  clear h1
  have B1 := hid hb
  clear hb
  go_wp2_with fail
  refine (refCut_any v l hl n ⟨hn1, hn2⟩ _ (HS.out.below B1.out (Nat.le_refl _))).mono ?_
  rintro e w2 ⟨v1, v2, rfl, a1, a2, a3, a4, a5, hb⟩
  rw [← HA0.out] at a1
  rw [← HB0.out] at a2
  have V1 := hid (a1.at HBA.out)
  have V2 := hid (a2.at HBB.out)
  have B2 := hid (B1.out.trans (hb.mono B1.out.size))
  clear a1 a2 a3 a4 a5 hb
  go_wp2_with fail
  refine (refMinus_any v2 v1 b a hbl hal _ V2.out V1.out).mono ?_
  rintro e w3 ⟨v3, rfl, a1, a2, hb⟩
  have V3 : Hid (RunsAt w3 v3 (minusI b a)) := OwnRuns.at a1 (minusI_bd _ _)
  have V4 := hid (V1.out.below hb (Nat.le_refl _))
  have B3 := hid (B2.out.trans (hb.mono B2.out.size))
  clear a1 a2 hb
  go_wp2_with fail
  go_ret3
  rw [HR.out]
  exact ⟨_, _, rfl, V4.out, V3.out, B3.out⟩
set_option maxRecDepth 100000 in
theorem consolidate_any (v v2 : Value) (l l2 : List (Int × Int)) (hl : l.length ≤ 4000) (hl2 : l2.length ≤ 4000) (w : World) (hs : RunsAt w v l) (hs2 : RunsAt w v2 l2) :
    Calls Try.prog 56 #[v, v2] w fun e w' => e = .returned (.tuple #[.agg #[.int .i64 (ConAns l l2).1.1, .int .i64 (ConAns l l2).1.2], .bool (ConAns l l2).2]) ∧ Below w.heap.size w w' := by
  have HS := hid hs
  have HS2 := hid hs2
  clear hs hs2
  obtain ⟨R, hR⟩ : ∃ R, R = ConAns l l2 := ⟨_, rfl⟩
  rw [← hR]
  unfold ConAns at hR
  have hq := seqI_len_le l
  obtain ⟨m, hm⟩ : ∃ m, m = (seqI l).length := ⟨_, rfl⟩
  obtain ⟨j, hj⟩ : ∃ j, j = (joinI l).length := ⟨_, rfl⟩
  have hj4 : j ≤ 4000 := by have := joinI_len l; omega
  rw [← hm] at hR hq
  rw [← hj] at hR
  have hm5 : m ≤ 512000 := by omega
  have HM := hid hm
  have HJ := hid hj
  have HR := hid hR
  clear hm hq hj hR
  go_enter Try.func56, Try.ntmps56
  go_wp2_with fail
  obtain ⟨b4, hb4⟩ : ∃ b, b = w.heap.size := ⟨_, rfl⟩
  obtain ⟨w1, hw1⟩ : ∃ w1, w1 = w.alloc (.cells #[.int .i64 0, .int .i64 0] 47) := ⟨_, rfl⟩
  have r4 : Row w1 b4 47 [.int .i64 0, .int .i64 0] := by rw [hw1, hb4]; exact Row.new w _ _
  have b1 : Below w.heap.size w w1 := by rw [hw1]; exact (Below.refl _ _).alloc (Nat.le_refl _) _
  have HB4 : Hid (w.heap.size ≤ b4) := by rw [hb4]; exact Nat.le_refl _
  rw [← hw1, ← hb4]
  have R4 := hid r4
  have B1 := hid b1
  clear r4 b1 hw1 hb4
  refine (join_any v l hl w1 (HS.out.below B1.out (Nat.le_refl _))).mono ?_
  rintro e w2 ⟨vj, rfl, a1, a2, hb⟩
  replace a1 : OwnRuns w2 vj (joinI l) := a1
  obtain ⟨A, cap, rfl⟩ := a1.shape
  rw [← HJ.out]
  have R42 := hid (R4.out.keep hb)
  have B2 := hid (B1.out.trans (hb.mono B1.out.size))
  clear a1 a2 hb R4
  by_cases h2 : j < 2
  · have h3 := HR.out
    rw [if_pos h2] at h3
    have HR2 := hid h3
    clear h3
    have f0 := R42.out.cell (i := 0) rfl
    have f1 := R42.out.cell (i := 1) rfl
    have f2 := R42.out.frozen 0
    have f3 := R42.out.frozen 1
    go_wp2_with fail
    rw [HR2.out]
    refine bodyPost_ret (v := .tuple #[.agg #[.int .i64 0, .int .i64 0], .bool false]) ?_ rfl ⟨rfl, (B2.out.setCell HB4.out _).setCell HB4.out _⟩
    simp [results, Try.results56, go_sem, f0, f1]
  · have h3 := HR.out
    rw [if_neg h2] at h3
    have HR2 := hid h3
    clear h3
    go_wp2_with fail
    refine (minus_any v2 v l2 l hl2 hl _ (HS2.out.below B2.out (Nat.le_refl _)) (HS.out.below B2.out (Nat.le_refl _))).mono ?_
    rintro e w3 ⟨vm, rfl, a1, a2, hb⟩
    have M3 : Hid (RunsAt w3 vm (minusI l2 l)) := OwnRuns.at a1 (minusI_bd _ _)
    have R43 := hid (R42.out.keep hb)
    have B3 := hid (B2.out.trans (hb.mono B2.out.size))
    clear a1 a2 hb R42
    go_wp2_with fail
    refine (size_any v l hl _ (HS.out.below B3.out (Nat.le_refl _))).mono ?_
    rintro e w4 ⟨rfl, hb⟩
    rw [← HM.out]
    have M4 := hid (M3.out.below hb (Nat.le_refl _))
    have R44 := hid (R43.out.keep hb)
    have B4 := hid (B3.out.trans (hb.mono B3.out.size))
    clear hb M3 R43
    go_wp2_with fail
    refine (best_any vm (minusI l2 l) (minusI_len _ _) m (by omega) _ M4.out).mono ?_
    rintro e w5 ⟨rfl, hb⟩
    rw [← HR2.out]
    have R45 := hid (R44.out.keep hb)
    have B5 := hid (B4.out.trans (hb.mono B4.out.size))
    clear hb M4 R44
    have f0 := R45.out.cell (i := 0) rfl
    have f1 := R45.out.cell (i := 1) rfl
    have f2 := R45.out.frozen 0
    have f3 := R45.out.frozen 1
    obtain ⟨⟨x, y⟩, ok⟩ := R
    go_wp2_with fail
    refine bodyPost_ret (v := .tuple #[.agg #[.int .i64 x, .int .i64 y], .bool ok]) ?_ rfl ⟨rfl, (B5.out.setCell HB4.out _).setCell HB4.out _⟩
    simp [results, Try.results56, go_sem, f0, f1]
set_option maxRecDepth 100000 in
theorem refConsolidate_any (v v2 : Value) (l l2 : List (Int × Int)) (hl : l.length ≤ 4000) (hl2 : l2.length ≤ 4000) (w : World) (hs : RunsAt w v l) (hs2 : RunsAt w v2 l2) :
    Calls Try.prog 57 #[v, v2] w fun e w' => e = .returned (.tuple #[.agg #[.int .i64 (ConAns l l2).1.1, .int .i64 (ConAns l l2).1.2], .bool (ConAns l l2).2]) ∧ Below w.heap.size w w' := by
  have HS := hid hs
  have HS2 := hid hs2
  clear hs hs2
  obtain ⟨R, hR⟩ : ∃ R, R = ConAns l l2 := ⟨_, rfl⟩
  rw [← hR]
  unfold ConAns at hR
  have hq := seqI_len_le l
  obtain ⟨m, hm⟩ : ∃ m, m = (seqI l).length := ⟨_, rfl⟩
  obtain ⟨j, hj⟩ : ∃ j, j = (joinI l).length := ⟨_, rfl⟩
  have hj4 : j ≤ 4000 := by have := joinI_len l; omega
  rw [← hm] at hR hq
  rw [← hj] at hR
  have hm5 : m ≤ 512000 := by omega
  have HM := hid hm
  have HJ := hid hj
  have HR := hid hR
  clear hm hq hj hR
  go_enter Try.func57, Try.ntmps57
  go_wp2_with fail
  obtain ⟨b4, hb4⟩ : ∃ b, b = w.heap.size := ⟨_, rfl⟩
  obtain ⟨w1, hw1⟩ : ∃ w1, w1 = w.alloc (.cells #[.int .i64 0, .int .i64 0] 47) := ⟨_, rfl⟩
  have r4 : Row w1 b4 47 [.int .i64 0, .int .i64 0] := by rw [hw1, hb4]; exact Row.new w _ _
  have b1 : Below w.heap.size w w1 := by rw [hw1]; exact (Below.refl _ _).alloc (Nat.le_refl _) _
  have HB4 : Hid (w.heap.size ≤ b4) := by rw [hb4]; exact Nat.le_refl _
  rw [← hw1, ← hb4]
  have R4 := hid r4
  have B1 := hid b1
  clear r4 b1 hw1 hb4
  refine (refJoin_any v l hl w1 (HS.out.below B1.out (Nat.le_refl _))).mono ?_
  rintro e w2 ⟨vj, rfl, a1, a2, hb⟩
  replace a1 : OwnRuns w2 vj (joinI l) := a1
  obtain ⟨A, cap, rfl⟩ := a1.shape
  rw [← HJ.out]
  have R42 := hid (R4.out.keep hb)
  have B2 := hid (B1.out.trans (hb.mono B1.out.size))
  clear a1 a2 hb R4
  by_cases h2 : j < 2
  · have h3 := HR.out
    rw [if_pos h2] at h3
    have HR2 := hid h3
    clear h3
    have f0 := R42.out.cell (i := 0) rfl
    have f1 := R42.out.cell (i := 1) rfl
    have f2 := R42.out.frozen 0
    have f3 := R42.out.frozen 1
    go_wp2_with fail
    rw [HR2.out]
    refine bodyPost_ret (v := .tuple #[.agg #[.int .i64 0, .int .i64 0], .bool false]) ?_ rfl ⟨rfl, (B2.out.setCell HB4.out _).setCell HB4.out _⟩
    simp [results, Try.results57, go_sem, f0, f1]
  · have h3 := HR.out
    rw [if_neg h2] at h3
    have HR2 := hid h3
    clear h3
    go_wp2_with fail
    refine (refMinus_any v2 v l2 l hl2 hl _ (HS2.out.below B2.out (Nat.le_refl _)) (HS.out.below B2.out (Nat.le_refl _))).mono ?_
    rintro e w3 ⟨vm, rfl, a1, a2, hb⟩
    have M3 : Hid (RunsAt w3 vm (minusI l2 l)) := OwnRuns.at a1 (minusI_bd _ _)
    have R43 := hid (R42.out.keep hb)
    have B3 := hid (B2.out.trans (hb.mono B2.out.size))
    clear a1 a2 hb R42
    go_wp2_with fail
    refine (sequence_any v l hl _ (HS.out.below B3.out (Nat.le_refl _))).mono ?_
    rintro e w4 ⟨u, rfl, h1, hb⟩
    obtain ⟨A4, cap4, rfl, _⟩ := h1.get
    rw [← HM.out]
    clear h1
    have M4 := hid (M3.out.below hb (Nat.le_refl _))
    have R44 := hid (R43.out.keep hb)
    have B4 := hid (B3.out.trans (hb.mono B3.out.size))
    clear hb M3 R43
    go_wp2_with fail
    refine (refBest_any vm (minusI l2 l) (minusI_len _ _) m (by omega) _ M4.out).mono ?_
    rintro e w5 ⟨rfl, hb⟩
    rw [← HR2.out]
    have R45 := hid (R44.out.keep hb)
    have B5 := hid (B4.out.trans (hb.mono B4.out.size))
    clear hb M4 R44
    have f0 := R45.out.cell (i := 0) rfl
    have f1 := R45.out.cell (i := 1) rfl
    have f2 := R45.out.frozen 0
    have f3 := R45.out.frozen 1
    obtain ⟨⟨x, y⟩, ok⟩ := R
    go_wp2_with fail
    refine bodyPost_ret (v := .tuple #[.agg #[.int .i64 x, .int .i64 y], .bool ok]) ?_ rfl ⟨rfl, (B5.out.setCell HB4.out _).setCell HB4.out _⟩
    simp [results, Try.results57, go_sem, f0, f1]
end Go.Proofs.Ytimeebajpegknaa
