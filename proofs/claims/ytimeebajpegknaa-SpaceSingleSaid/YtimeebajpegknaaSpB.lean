import Derived.Test.YtimeebajpegknaaSpV
/-! Best. -/
namespace Go.Proofs.Ytimeebajpegknaa
open Go.Lib Go.ChangeShapes Go.WideShapes Go.ChangeAt Go.RowKit

/-- what Best answers -/
def BestAns (l : List (Int × Int)) (n : Int) : (Int × Int) × Bool :=
  if n < 1 then ((0, 0), false) else match (srtUp (norm (inB l))).find? (fun r => decide (n ≤ r.2)) with | some r => ((r.1, n), true) | none => ((0, 0), false)
theorem srt_len (l : List (Int × Int)) : (srtUp l).length = l.length := (List.mergeSort_perm _ _).length_eq
theorem find_at {S : List (Int × Int)} {p : Int × Int → Bool} (k : Nat) (h : k < S.length) (hno : ∀ r ∈ S.take k, p r = false) (hp : p S[k] = true) : S.find? p = some S[k] := by
  rw [List.find?_eq_some_iff_append]
  refine ⟨hp, S.take k, S.drop (k + 1), ?_, fun a ha => by rw [hno a ha]; rfl⟩
  rw [List.getElem_cons_drop, List.take_append_drop]
theorem find_none {S : List (Int × Int)} {p : Int × Int → Bool} (hno : ∀ r ∈ S, p r = false) : S.find? p = none := by
  rw [List.find?_eq_none]; intro r hr; rw [hno r hr]; simp
def tupRB (r : Int × Int) (b : Bool) : Value := .tuple #[.agg #[.int .i64 r.1, .int .i64 r.2], .bool b]
set_option maxRecDepth 100000 in
set_option maxHeartbeats 1000000 in
theorem best_any (v : Value) (l : List (Int × Int)) (hl : l.length ≤ 4000) (n : Int) (hn : -9223372036854775808 ≤ n ∧ n ≤ 9223372036854775807) (w : World) (hs : RunsAt w v l) :
    Calls Try.prog 48 #[v, .int .i64 n] w fun e w' => e = .returned (.tuple #[.agg #[.int .i64 (BestAns l n).1.1, .int .i64 (BestAns l n).1.2], .bool (BestAns l n).2]) ∧ Below w.heap.size w w' := by
  obtain ⟨hn1, hn2⟩ := hn
  by_cases h1 : n < 1
  · have e : BestAns l n = ((0, 0), false) := by unfold BestAns; rw [if_pos h1]
    rw [e]
    clear hs
    go_enter Try.func48, Try.ntmps48
    go_wp2_with fail
    refine bodyPost_ret (v := .tuple #[.agg #[.int .i64 0, .int .i64 0], .bool false]) ?_ rfl ⟨rfl, ?_⟩
    · simp [results, Try.results48, go_sem]
    · first | exact (Below.refl _ _).alloc (Nat.le_refl _) _ | exact (((Below.refl _ _).alloc (Nat.le_refl _) _).setCell (Nat.le_refl _) _).setCell (Nat.le_refl _) _
  · have HS := hid hs
    obtain ⟨R, hR⟩ : ∃ R, R = BestAns l n := ⟨_, rfl⟩
    rw [← hR]
    unfold BestAns at hR
    rw [if_neg h1] at hR
    obtain ⟨S, hS⟩ : ∃ S, S = srtUp (norm (inB l)) := ⟨_, rfl⟩
    rw [← hS] at hR
    have hSl : S.length ≤ 4000 := by rw [hS, srt_len]; exact norm_len _
    have HR := hid hR
    have HSS := hid hS
    clear hs hR hS
    go_enter Try.func48, Try.ntmps48
    go_wp2_with fail
    obtain ⟨b4, hb4⟩ : ∃ b, b = w.heap.size := ⟨_, rfl⟩
    obtain ⟨w1, hw1⟩ : ∃ w1, w1 = (w.alloc (.cells #[.int .i64 0, .int .i64 0] 47)).alloc (.cells #[.func (.func 76) #[] #[], .func (.func 77) #[] #[]] 72) := ⟨_, rfl⟩
    have r4 := (Row.new w [.int .i64 0, .int .i64 0] 47).alloc (.cells #[.func (.func 76) #[] #[], .func (.func 77) #[] #[]] 72)
    have r5 := Row.new (w.alloc (.cells #[.int .i64 0, .int .i64 0] 47)) [.func (.func 76) #[] #[], .func (.func 77) #[] #[]] 72
    rw [World.size_alloc] at r5
    have hb1 : Below w.heap.size w w1 := by rw [hw1]; exact ((Below.refl _ _).alloc (Nat.le_refl _) _).alloc (by simp) _
    rw [← hb4] at r4 r5
    have HB4 : Hid (w.heap.size ≤ b4) := by rw [hb4]; exact Nat.le_refl _
    rw [← hw1, ← hb4]
    have hr4 : Row w1 b4 47 [.int .i64 0, .int .i64 0] := by rw [hw1]; exact r4
    have hr5 : Row w1 (b4 + 1) 72 [.func (.func 76) #[] #[], .func (.func 77) #[] #[]] := by rw [hw1]; exact r5
    have HR4 := hid hr4
    have HB1 := hid hb1
    clear r4 r5 hr4 hb1 hw1 hb4
    refine (sortedUp_any v l hl (b4 + 1) w1 (HS.out.below HB1.out (Nat.le_refl _)) hr5.lt (hr5.cell (i := 0) rfl) (hr5.cell (i := 1) rfl)).mono ?_
    rintro e w2 ⟨v2, rfl, a1, a2⟩
    rw [← HSS.out] at a1
    obtain ⟨A, cap, rfl, hcap, hcap2⟩ := a1.shape
    obtain ⟨m, hm⟩ : ∃ m, m = S.length := ⟨_, rfl⟩
    rw [← hm] at a1 hcap hSl
    have HA := hid a1
    have HM := hid hm
    have HB2 := hid (HB1.out.trans (a2.mono HB1.out.size))
    have HR42 := hid (HR4.out.keep a2)
    rw [← hm]
    clear a1 a2 hm hr5 HR4 HB1
    go_wp2_with fail
    go_loopw [15] (fun i wr => ∃ k : Nat, k ≤ m ∧ i = .int .i64 k ∧ (∀ r ∈ S.take k, decide (n ≤ r.2) = false) ∧ RunsAt wr (.slice A m cap) S ∧ Row wr b4 47 [.int .i64 0, .int .i64 0] ∧ Below w.heap.size w wr) (fun i _ => m - (intOf i).toNat)
    case atStart => exact ⟨0, by omega, rfl, (fun r hr => by cases hr), HA.out, HR42.out, HB2.out⟩
    case round =>
      clear HA HR42 HB2
      obtain ⟨k, hk, rfl, hno, ha, hr, hb⟩ := hrel
      have HB := hid hb
      have HNO := hid hno
      have HA := hid ha
      have HRW := hid hr
      by_cases hlt : k < m
      · have hk2 : k < S.length := by rw [← HM.out]; exact hlt
        obtain ⟨b, off, rfl, hlb, c1, c2, hbd⟩ := ha.round hk2
        obtain ⟨r, hrr⟩ : ∃ r, r = S[k] := ⟨_, rfl⟩
        rw [← hrr] at c1 c2 hbd
        obtain ⟨f, c⟩ := r
        simp only at c1 c2 hbd
        have d4 := hr.frozen 0
        have d5 := hr.frozen 1
        have d6 := hr.cell (i := 0) rfl
        have d7 := hr.cell (i := 1) rfl
        have hlt4 := hr.lt
        by_cases hnc : n ≤ c
        · have hans : R = ((f, n), true) := by
            rw [HR.out, find_at k hk2 hno (by rw [← hrr]; simpa using hnc), ← hrr]
          have HANS := hid hans
          clear hno ha hr hb hrr hans hbd
          go_wp2_with fail
          rw [HANS.out]
          refine bodyPost_ret (v := .tuple #[.agg #[.int .i64 f, .int .i64 n], .bool true]) ?_ rfl ⟨rfl, (((HB.out.setCell HB4.out _).setCell HB4.out _).alloc (by simpa [World.setCell] using HB.out.size) _)⟩
          simp [results, Try.results48, go_sem, d6, d7, hlt4]
        · have hnew : ∀ r ∈ S.take (k + 1), decide (n ≤ r.2) = false := by
            rw [List.take_succ_eq_append_getElem hk2, ← hrr]
            intro r hx
            rw [List.mem_append, List.mem_singleton] at hx
            rcases hx with hx | rfl
            · exact hno r hx
            · simpa using hnc
          have HNEW := hid hnew
          clear hno ha hr hb hrr hnew hbd
          go_wp2_with fail
          go_roundw
          case rel => exact ⟨k + 1, by omega, by go_num, HNEW.out, HA.out.below ((Below.refl _ _).alloc (Nat.le_refl _) _) (Nat.le_refl _), HRW.out.alloc _, HB.out.alloc HB.out.size _⟩
          case measure => simp [intOf]; omega
      · obtain rfl : k = m := by omega
        have hans : R = ((0, 0), false) := by
          rw [HR.out, find_none (by have := hno; rw [HM.out, List.take_length] at this; exact this)]
        have HANS := hid hans
        have d4 := hr.frozen 0
        have d5 := hr.frozen 1
        have d6 := hr.cell (i := 0) rfl
        have d7 := hr.cell (i := 1) rfl
        clear hno ha hr hb hans
        go_wp2_with fail
        rw [HANS.out]
        refine bodyPost_ret (v := .tuple #[.agg #[.int .i64 0, .int .i64 0], .bool false]) ?_ rfl ⟨rfl, ((HB.out.setCell HB4.out _).setCell HB4.out _)⟩
        simp [results, Try.results48, go_sem, d6, d7]
end Go.Proofs.Ytimeebajpegknaa
