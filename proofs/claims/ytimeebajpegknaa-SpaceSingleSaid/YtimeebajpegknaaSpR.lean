import Derived.Test.YtimeebajpegknaaSpN
/-! The specification: minus, Best. -/
namespace Go.Proofs.Ytimeebajpegknaa
open Go.Lib Go.ChangeShapes Go.WideShapes Go.ChangeAt Go.RowKit

set_option maxRecDepth 100000 in
theorem refMinus_any (v v2 : Value) (l l2 : List (Int × Int)) (hl : l.length ≤ 4000) (hl2 : l2.length ≤ 4000) (w : World) (hs : RunsAt w v l) (hs2 : RunsAt w v2 l2) :
    Calls Try.prog 74 #[v, v2] w (Made w (minusI l l2)) := by
  have HS := hid hs
  have HS2 := hid hs2
  clear hs hs2
  have HN := hid (wish_minus l l2)
  go_enter Try.func74, Try.ntmps74
  go_wp2_with (go_at_call 24; refine (setOf_any true false false (.inr (.inr ⟨rfl, rfl, rfl⟩)) v v2 l l2 hl hl2 w HS.out HS2.out).mono ?_; rintro e w4 ⟨v4, rfl, h1, h2, h3⟩)
  go_ret
  exact ⟨v4, rfl, by unfold minusI; rw [← HN.out]; exact h1, h2, h3⟩
set_option maxRecDepth 100000 in
set_option maxHeartbeats 2000000 in
theorem refBest_any (v : Value) (l : List (Int × Int)) (hl : l.length ≤ 4000) (n : Int) (hn : -9223372036854775808 ≤ n ∧ n ≤ 9223372036854775807) (w : World) (hs : RunsAt w v l) :
    Calls Try.prog 49 #[v, .int .i64 n] w fun e w' => e = .returned (.tuple #[.agg #[.int .i64 (BestAns l n).1.1, .int .i64 (BestAns l n).1.2], .bool (BestAns l n).2]) ∧ Below w.heap.size w w' := by
  obtain ⟨hn1, hn2⟩ := hn
  have HS := hid hs
  obtain ⟨R, hR⟩ : ∃ R, R = BestAns l n := ⟨_, rfl⟩
  rw [← hR]
  have HR := hid hR
  clear hs hR
  go_enter Try.func49, Try.ntmps49
  go_wp2_with fail
  obtain ⟨b4, hb4⟩ : ∃ b, b = w.heap.size := ⟨_, rfl⟩
  obtain ⟨w1, hw1⟩ : ∃ w1, w1 = w.alloc (.cells #[.int .i64 0, .int .i64 0] 47) := ⟨_, rfl⟩
  have r4 : Row w1 b4 47 [.int .i64 0, .int .i64 0] := by rw [hw1, hb4]; exact Row.new w _ _
  have b1 : Below w.heap.size w w1 := by rw [hw1]; exact (Below.refl _ _).alloc (Nat.le_refl _) _
  have HB4 : Hid (w.heap.size ≤ b4) := by rw [hb4]; exact Nat.le_refl _
  rw [← hw1, ← hb4]
  have R4 := hid r4
  have B1 := hid b1
  clear r4 b1 hw1 hb4
  refine (refNormal_any v l hl w1 (HS.out.below B1.out (Nat.le_refl _))).mono ?_
  rintro e w2 ⟨v2, rfl, a1, a2, hb⟩
  obtain ⟨N, hN⟩ : ∃ N, N = norm (inB l) := ⟨_, rfl⟩
  rw [← hN] at a1
  have hNl : N.length ≤ 4000 := by rw [hN]; exact norm_len _
  have hNb : Bd N := by rw [hN]; exact norm_bd _
  have hNf : N.Pairwise (fun p q => p.1 < q.1) := by rw [hN]; exact norm_froms _
  have hNp : ∀ r ∈ N, 0 < r.2 := by rw [hN]; exact fun r hr => (norm_counts _ r hr).2.1
  have HN2 := a1.at hNb
  obtain ⟨A, cap, rfl, hcap, hcap2⟩ := HN2.shape
  obtain ⟨m, hm⟩ : ∃ m, m = N.length := ⟨_, rfl⟩
  rw [← hm] at HN2 hcap hNl ⊢
  have HM := hid hm
  have HNN := hid hN
  have HNF := hid hNf
  have HNP := hid hNp
  have HA := hid HN2
  have R42 := hid (R4.out.keep hb)
  have B2 := hid (B1.out.trans (hb.mono B1.out.size))
  clear a1 a2 hb hm hN hNb hNf hNp HN2 R4 B1
  go_wp2_with fail
  obtain ⟨b7, hb7⟩ : ∃ b, b = w2.heap.size := ⟨_, rfl⟩
  obtain ⟨w3, hw3⟩ : ∃ w3, w3 = w2.alloc (.cells #[.int .i64 0, .int .i64 0] 47) := ⟨_, rfl⟩
  have r7 : Row w3 b7 47 [.int .i64 0, .int .i64 0] := by rw [hw3, hb7]; exact Row.new w2 _ _
  have r4 : Row w3 b4 47 [.int .i64 0, .int .i64 0] := by rw [hw3]; exact R42.out.alloc _
  have b3 : Below w2.heap.size w2 w3 := by rw [hw3]; exact (Below.refl _ _).alloc (Nat.le_refl _) _
  have HB7 : Hid (w2.heap.size ≤ b7) := by rw [hb7]; exact Nat.le_refl _
  have H47 : Hid (b4 ≠ b7) := by rw [hb7]; have := R42.out.lt; show _ ≠ _; omega
  rw [← hw3, ← hb7]
  have R7 := hid r7
  have R43 := hid r4
  have B3 := hid b3
  clear r7 r4 b3 hw3 hb7
  go_loopw [8] (fun i wr => ∃ (k : Nat) (x y : Int), k ≤ m ∧ i = .int .i64 k ∧ (n < 1 ∧ k = 0 ∧ y = 0 ∨ 1 ≤ n) ∧ Scan N n k (x, y) ∧ Row wr b7 47 [.int .i64 x, .int .i64 y] ∧ Row wr b4 47 [.int .i64 0, .int .i64 0] ∧ Below w2.heap.size w2 wr) (fun i _ => m - (intOf i).toNat)
  case atStart => exact ⟨0, 0, 0, by omega, rfl, by omega, scan_zero N n, R7.out, R43.out, B3.out⟩
  case round =>
    clear R7 R43 B3
    obtain ⟨k, x, y, hk, rfl, hnk, hsc, hr7, hr4, hb⟩ := hrel
    have HB := hid hb
    have HSC := hid hsc
    have HR7 := hid hr7
    have HR4 := hid hr4
    have HNK := hid hnk
    have d0 := hr7.cell (i := 0) rfl
    have d1 := hr7.cell (i := 1) rfl
    have d2 := hr7.frozen 0
    have d3 := hr7.frozen 1
    have f0 := hr4.cell (i := 0) rfl
    have f1 := hr4.cell (i := 1) rfl
    have f2 := hr4.frozen 0
    have f3 := hr4.frozen 1
    by_cases hlt : k < m ∧ 1 ≤ n
    · obtain ⟨hlt, hn3⟩ := hlt
      have hk2 : k < N.length := by rw [← HM.out]; exact hlt
      obtain ⟨g, og, rfl, hlg, c1, c2, hbd⟩ := (HA.out.below hb (Nat.le_refl _)).round hk2
      have hpos := HNP.out _ (List.getElem_mem hk2)
      have hno := fun h => scan_no hsc hk2 h
      have hfi := fun h1 h2 => scan_first hsc h1 hk2 h2 hpos
      have hle := fun h1 h2 h3 => scan_less hsc h1 hk2 h2 hpos h3
      have hke := fun h1 h3 => scan_keep HNF.out hsc h1 hk2 h3
      obtain ⟨r, hrr⟩ : ∃ r, r = N[k] := ⟨_, rfl⟩
      rw [← hrr] at c1 c2 hbd hno hfi hle hke
      obtain ⟨f, c⟩ := r
      simp only at c1 c2 hbd hno hfi hle hke
      have HBD := hid hbd
      clear hb hsc hr7 hr4 hnk hrr hpos hbd
      by_cases hA : n ≤ c
      · by_cases hB : y = 0
        · have hs2 := hid (hfi hB hA)
          have hd : (y == 0) = true := by simpa using hB
          have hdA : decide (n ≤ c) = true := by simpa using hA
          clear hno hfi hle hke hB
          go_wp2_with fail
          go_quiet (fail)
          go_wp2_with fail
          go_roundw
          case rel => exact ⟨k + 1, f, c, by omega, by go_num, .inr hn3, hs2.out, ((HR7.out.upd (F := fun _ => False) (Upds.drewN _ _) (fun h => h)).set 0 _).set 1 _, ((HR4.out.upd (F := fun _ => False) (Upds.drewN _ _) (fun h => h)).setOther H47.out _).setOther H47.out _, ((below_drewN HB.out _).setCell HB7.out _).setCell HB7.out _⟩
          case measure => simp [intOf]; omega
        · have hd : (y == 0) = false := by simpa using hB
          by_cases hC : c < y
          · have hs2 := hid (hle hB hA hC)
            have hdA : decide (n ≤ c) = true := by simpa using hA
            have hdC : decide (c < y) = true := by simpa using hC
            clear hno hfi hle hke hB
            go_wp2_with fail
            go_quiet (fail)
            go_wp2_with fail
            go_roundw
            case rel => exact ⟨k + 1, f, c, by omega, by go_num, .inr hn3, hs2.out, ((HR7.out.upd (F := fun _ => False) (Upds.drewN _ _) (fun h => h)).set 0 _).set 1 _, ((HR4.out.upd (F := fun _ => False) (Upds.drewN _ _) (fun h => h)).setOther H47.out _).setOther H47.out _, ((below_drewN HB.out _).setCell HB7.out _).setCell HB7.out _⟩
            case measure => simp [intOf]; omega
          · have hs2 := hid (hke hB hC)
            have hdA : decide (n ≤ c) = true := by simpa using hA
            have hdC : decide (c < y) = false := by simpa using hC
            clear hno hfi hle hke hB
            go_wp2_with fail
            go_quiet (fail)
            go_wp2_with fail
            go_roundw
            case rel => exact ⟨k + 1, x, y, by omega, by go_num, .inr hn3, hs2.out, HR7.out.upd (F := fun _ => False) (Upds.drewN _ _) (fun h => h), HR4.out.upd (F := fun _ => False) (Upds.drewN _ _) (fun h => h), below_drewN HB.out _⟩
            case measure => simp [intOf]; omega
      · have hs2 := hid (hno hA)
        have hdA : decide (n ≤ c) = false := by simpa using hA
        clear hno hfi hle hke
        go_wp2_with fail
        go_quiet (fail)
        go_wp2_with fail
        go_roundw
        case rel => exact ⟨k + 1, x, y, by omega, by go_num, .inr hn3, hs2.out, HR7.out.upd (F := fun _ => False) (Upds.drewN _ _) (fun h => h), HR4.out.upd (F := fun _ => False) (Upds.drewN _ _) (fun h => h), below_drewN HB.out _⟩
        case measure => simp [intOf]; omega
    · have hans : R = if y = 0 then ((0, 0), false) else ((x, n), true) := by
        by_cases hn3 : 1 ≤ n
        · have hkm : k = N.length := by have := HM.out; omega
          rw [HR.out]
          rw [hkm, HNN.out] at hsc
          exact scan_end hn3 hsc
        · have hy : y = 0 := by omega
          rw [if_pos hy, HR.out]
          unfold BestAns
          rw [if_pos (by omega)]
      have hlt2 : ¬ k < m ∨ ¬ 1 ≤ n := by omega
      have HBW : Hid (Below w.heap.size w wr) := B2.out.trans (HB.out.mono B2.out.size)
      by_cases hy : y = 0
      · rw [if_pos hy] at hans
        have HANS := hid hans
        have hd : (y == 0) = true := by simpa using hy
        clear hb hsc hr7 hr4 hnk hans hy hlt
        rcases hlt2 with h | h
        · go_wp2_with fail
          rw [HANS.out]
          refine bodyPost_ret (v := .tuple #[.agg #[.int .i64 0, .int .i64 0], .bool false]) ?_ rfl ⟨rfl, (HBW.out.setCell HB4.out _).setCell HB4.out _⟩
          simp [results, Try.results49, go_sem, f0, f1]
        · by_cases h3 : k < m
          all_goals
            go_wp2_with fail
            rw [HANS.out]
            refine bodyPost_ret (v := .tuple #[.agg #[.int .i64 0, .int .i64 0], .bool false]) ?_ rfl ⟨rfl, (HBW.out.setCell HB4.out _).setCell HB4.out _⟩
            simp [results, Try.results49, go_sem, f0, f1]
      · rw [if_neg hy] at hans
        have HANS := hid hans
        have hd : (y == 0) = false := by simpa using hy
        have hn3 : 1 ≤ n := by omega
        have h : ¬ k < m := by omega
        clear hb hsc hr7 hr4 hnk hans hy hlt hlt2
        go_wp2_with fail
        rw [HANS.out]
        refine bodyPost_ret (v := .tuple #[.agg #[.int .i64 x, .int .i64 n], .bool true]) ?_ rfl ⟨rfl, (HBW.out.setCell HB4.out _).setCell HB4.out _⟩
        simp [results, Try.results49, go_sem, f0, f1]
end Go.Proofs.Ytimeebajpegknaa
