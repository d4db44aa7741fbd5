import Derived.Test.YtimeebajpegknaaSpA
/-! behind, Extend. -/
namespace Go.Proofs.Ytimeebajpegknaa
open Go.Lib Go.ChangeShapes Go.WideShapes Go.ChangeAt Go.RowKit

/-- the free tracks behind a track -/
def behindAns (fr : Int) (F : List (Int × Int)) (n : Int) : Int × Int :=
  match F.find? (fun r => decide (r.1 = fr)) with | some r => (fr, min r.2 n) | none => (0, 0)
set_option maxRecDepth 100000 in
set_option maxHeartbeats 1000000 in
theorem behind_any (v v2 : Value) (J F : List (Int × Int)) (p1 p2 : Nat) (n : Int) (hp : p1 + p2 ≤ 128) (hJ : J.length ≤ 4000) (hF : F.length ≤ 4000) (hn : -9223372036854775808 ≤ n ∧ n ≤ 9223372036854775807) (w : World) (hs : RunsAt w v (J ++ [((p1 : Int), (p2 : Int))])) (hs2 : RunsAt w v2 F) :
    Calls Try.prog 79 #[v, v2, .int .i64 n] w fun e w' => e = .returned (.agg #[.int .i64 (behindAns ((p1 : Int) + p2) F n).1, .int .i64 (behindAns ((p1 : Int) + p2) F n).2]) ∧ Below w.heap.size w w' := by
  obtain ⟨hn1, hn2⟩ := hn
  obtain ⟨A, cap, rfl, hcap, hcap2⟩ := hs.shape
  obtain ⟨A2, capf, rfl, hcapf, hcapf2⟩ := hs2.shape
  obtain ⟨j, hj⟩ : ∃ j, j = J.length := ⟨_, rfl⟩
  have hjl : (J ++ [((p1 : Int), (p2 : Int))]).length = j + 1 := by simp [hj]
  rw [hjl] at hs hcap ⊢
  obtain ⟨b, off, rfl, hlb, c1, c2, hbd0⟩ := hs.round (k := j) (by rw [hjl]; omega)
  clear hbd0
  have hx : (J ++ [((p1 : Int), (p2 : Int))])[j]'(by rw [hjl]; omega) = ((p1 : Int), (p2 : Int)) := by subst hj; simp
  rw [hx] at c1 c2
  simp only at c1 c2
  obtain ⟨m, hm⟩ : ∃ m, m = F.length := ⟨_, rfl⟩
  rw [← hm] at hs2 hcapf hF ⊢
  have HF := hid hs2
  have HM := hid hm
  have hj4 : j ≤ 4000 := by omega
  obtain ⟨R, hR⟩ : ∃ R, R = behindAns ((p1 : Int) + p2) F n := ⟨_, rfl⟩
  rw [← hR]
  unfold behindAns at hR
  have HR := hid hR
  clear hs hs2 hm hx hj hjl hR
  go_enter Try.func79, Try.ntmps79
  go_wp2_with fail
  obtain ⟨b6, hb6⟩ : ∃ b, b = w.heap.size := ⟨_, rfl⟩
  obtain ⟨w1, hw1⟩ : ∃ w1, w1 = (w.alloc (.cells #[.int .i64 0, .int .i64 0] 47)).alloc (.cells #[.int .i64 p1, .int .i64 p2] 47) := ⟨_, rfl⟩
  have r6 : Row w1 b6 47 [.int .i64 0, .int .i64 0] := by rw [hw1, hb6]; exact (Row.new w [.int .i64 0, .int .i64 0] 47).alloc _
  have hb1 : Below w.heap.size w w1 := by rw [hw1]; exact ((Below.refl _ _).alloc (Nat.le_refl _) _).alloc (by simp) _
  have HB6 : Hid (w.heap.size ≤ b6) := by rw [hb6]; exact Nat.le_refl _
  rw [← hw1, ← hb6]
  have R6 := hid r6
  have HB1 := hid hb1
  clear r6 hb1 hw1 hb6 c1 c2
  go_loopw [24] (fun i wr => ∃ k : Nat, k ≤ m ∧ i = .int .i64 k ∧ (∀ r ∈ F.take k, decide (r.1 = (p1 : Int) + p2) = false) ∧ Row wr b6 47 [.int .i64 0, .int .i64 0] ∧ Below w.heap.size w wr) (fun i _ => m - (intOf i).toNat)
  case atStart => exact ⟨0, by omega, rfl, (fun r hr => by cases hr), R6.out, HB1.out⟩
  case round =>
    clear R6 HB1
    obtain ⟨k, hk, rfl, hno, hr, hb⟩ := hrel
    have HB := hid hb
    have HNO := hid hno
    have HRW := hid hr
    have d4 := hr.frozen 0
    have d5 := hr.frozen 1
    have d6 := hr.cell (i := 0) rfl
    have d7 := hr.cell (i := 1) rfl
    have hlt4 := hr.lt
    by_cases hlt : k < m
    · have hk2 : k < F.length := by rw [← HM.out]; exact hlt
      obtain ⟨g, og, rfl, hlg, c1, c2, hbd⟩ := (HF.out.below hb (Nat.le_refl _)).round hk2
      obtain ⟨r, hrr⟩ : ∃ r, r = F[k] := ⟨_, rfl⟩
      rw [← hrr] at c1 c2 hbd
      obtain ⟨f, c⟩ := r
      simp only at c1 c2 hbd
      by_cases hnc : f = (p1 : Int) + p2
      · have hans : R = ((p1 : Int) + p2, min c n) := by
          rw [HR.out, find_at k hk2 hno (by rw [← hrr]; simpa using hnc), ← hrr]
        have HANS := hid hans
        have hd : (f == (p1 : Int) + p2) = true := by simpa using hnc
        clear hno hr hb hrr hans hbd hnc
        go_wp2_with fail
        all_goals
          rw [HANS.out]
          refine bodyPost_ret (v := .agg #[.int .i64 ((p1 : Int) + p2), .int .i64 (min c n)]) ?_ rfl ⟨rfl, ?_⟩
          · simp [results, Try.results79, go_sem, d6, d7, hlt4]
            try omega
          · first
            | exact ((HB.out.setCell HB6.out _).setCell HB6.out _).alloc (by simpa [World.setCell] using HB.out.size) _
            | exact ((HB.out.alloc HB.out.size _).setCell HB6.out _).setCell HB6.out _
      · have hnew : ∀ r ∈ F.take (k + 1), decide (r.1 = (p1 : Int) + p2) = false := by
          rw [List.take_succ_eq_append_getElem hk2, ← hrr]
          intro r hx
          rw [List.mem_append, List.mem_singleton] at hx
          rcases hx with hx | rfl
          · exact hno r hx
          · simpa using hnc
        have HNEW := hid hnew
        have hd : (f == (p1 : Int) + p2) = false := by simpa using hnc
        clear hno hr hb hrr hnew hbd hnc
        go_wp2_with fail
        go_roundw
        case rel => exact ⟨k + 1, by omega, by go_num, HNEW.out, HRW.out.alloc _, HB.out.alloc HB.out.size _⟩
        case measure => simp [intOf]; omega
    · obtain rfl : k = m := by omega
      have hans : R = (0, 0) := by
        rw [HR.out, find_none (by have := hno; rw [HM.out, List.take_length] at this; exact this)]
      have HANS := hid hans
      clear hno hr hb hans
      go_wp2_with fail
      rw [HANS.out]
      refine bodyPost_ret (v := .agg #[.int .i64 0, .int .i64 0]) ?_ rfl ⟨rfl, (HB.out.setCell HB6.out _).setCell HB6.out _⟩
      simp [results, Try.results79, go_sem, d6, d7]
end Go.Proofs.Ytimeebajpegknaa
