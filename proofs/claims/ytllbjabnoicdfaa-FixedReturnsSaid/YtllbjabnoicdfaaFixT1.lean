import Derived.Test.YtllbjabnoicdfaaFixM
/-! Valid and Most of both; lists of texts in memory; Few and Same. -/
namespace Go.Proofs.Ytllbjabnoicdfaa
open Go.Lib Go.ChangeShapes Go.WideShapes Go.ChangeAt Go.RowKit

/-- what a call that only answers leaves -/
def Is (v : Value) (w : World) (e : Ending) (w' : World) : Prop := e = .returned v ∧ w' = w
/-- what a call that may make memory leaves -/
def Gives (v : Value) (w : World) (e : Ending) (w' : World) : Prop := e = .returned v ∧ Below w.heap.size w w'

set_option maxRecDepth 100000 in
theorem valid_any (L B : Int) (w : World) : Calls Try.prog 14 #[.int .i64 L, .int .i64 B] w (Is (.bool (decide (fits L B))) w) := by
  by_cases h1 : 1 ≤ L
  · by_cases h2 : L ≤ 1000
    · by_cases h3 : L ≤ B
      · by_cases h4 : B ≤ 1024
        · go_enter Try.func14, Try.ntmps14
          go_wp2_with fail
          go_ret
          exact ⟨by first | (rw [decide_eq_true (show fits L B from ⟨by omega, by omega, by omega, by omega⟩)]; rfl) | (rw [decide_eq_false (fun h : fits L B => by obtain ⟨a, b, c, d⟩ := h; omega)]; rfl), rfl⟩
        · go_enter Try.func14, Try.ntmps14
          go_wp2_with fail
          go_ret
          exact ⟨by first | (rw [decide_eq_true (show fits L B from ⟨by omega, by omega, by omega, by omega⟩)]; rfl) | (rw [decide_eq_false (fun h : fits L B => by obtain ⟨a, b, c, d⟩ := h; omega)]; rfl), rfl⟩
      · go_enter Try.func14, Try.ntmps14
        go_wp2_with fail
        go_ret
        exact ⟨by first | (rw [decide_eq_true (show fits L B from ⟨by omega, by omega, by omega, by omega⟩)]; rfl) | (rw [decide_eq_false (fun h : fits L B => by obtain ⟨a, b, c, d⟩ := h; omega)]; rfl), rfl⟩
    · go_enter Try.func14, Try.ntmps14
      go_wp2_with fail
      go_ret
      exact ⟨by first | (rw [decide_eq_true (show fits L B from ⟨by omega, by omega, by omega, by omega⟩)]; rfl) | (rw [decide_eq_false (fun h : fits L B => by obtain ⟨a, b, c, d⟩ := h; omega)]; rfl), rfl⟩
  · go_enter Try.func14, Try.ntmps14
    go_wp2_with fail
    go_ret
    exact ⟨by first | (rw [decide_eq_true (show fits L B from ⟨by omega, by omega, by omega, by omega⟩)]; rfl) | (rw [decide_eq_false (fun h : fits L B => by obtain ⟨a, b, c, d⟩ := h; omega)]; rfl), rfl⟩
set_option maxRecDepth 100000 in
theorem refValid_any (L B : Int) (w : World) : Calls Try.prog 15 #[.int .i64 L, .int .i64 B] w (Is (.bool (decide (fits L B))) w) := by
  by_cases h1 : 1 ≤ L
  · by_cases h2 : L ≤ 1000
    · by_cases h3 : L ≤ B
      · by_cases h4 : B ≤ 1024
        · go_enter Try.func15, Try.ntmps15
          go_wp2_with fail
          go_ret
          exact ⟨by first | (rw [decide_eq_true (show fits L B from ⟨by omega, by omega, by omega, by omega⟩)]; rfl) | (rw [decide_eq_false (fun h : fits L B => by obtain ⟨a, b, c, d⟩ := h; omega)]; rfl), rfl⟩
        · go_enter Try.func15, Try.ntmps15
          go_wp2_with fail
          go_ret
          exact ⟨by first | (rw [decide_eq_true (show fits L B from ⟨by omega, by omega, by omega, by omega⟩)]; rfl) | (rw [decide_eq_false (fun h : fits L B => by obtain ⟨a, b, c, d⟩ := h; omega)]; rfl), rfl⟩
      · go_enter Try.func15, Try.ntmps15
        go_wp2_with fail
        go_ret
        exact ⟨by first | (rw [decide_eq_true (show fits L B from ⟨by omega, by omega, by omega, by omega⟩)]; rfl) | (rw [decide_eq_false (fun h : fits L B => by obtain ⟨a, b, c, d⟩ := h; omega)]; rfl), rfl⟩
    · go_enter Try.func15, Try.ntmps15
      go_wp2_with fail
      go_ret
      exact ⟨by first | (rw [decide_eq_true (show fits L B from ⟨by omega, by omega, by omega, by omega⟩)]; rfl) | (rw [decide_eq_false (fun h : fits L B => by obtain ⟨a, b, c, d⟩ := h; omega)]; rfl), rfl⟩
  · go_enter Try.func15, Try.ntmps15
    go_wp2_with fail
    go_ret
    exact ⟨by first | (rw [decide_eq_true (show fits L B from ⟨by omega, by omega, by omega, by omega⟩)]; rfl) | (rw [decide_eq_false (fun h : fits L B => by obtain ⟨a, b, c, d⟩ := h; omega)]; rfl), rfl⟩

/-- the greatest number of records of a block -/
def mostI (L B : Int) : Int := if fits L B then ((B.toNat / L.toNat : Nat) : Int) else 0
theorem mostI_nat {l b : Nat} (h : fits (l : Int) (b : Int)) : mostI l b = ((b / l : Nat) : Int) := by unfold mostI; rw [if_pos h]; simp
theorem mostI_no {L B : Int} (h : ¬ fits L B) : mostI L B = 0 := by unfold mostI; rw [if_neg h]
theorem quo_wrap (b l : Nat) (h : b / l ≤ 1024) : wrap64 ((b : Int) / (l : Int)) = ((b / l : Nat) : Int) := by
  rw [← Int.natCast_ediv]
  obtain ⟨q, hq⟩ : ∃ q, q = b / l := ⟨_, rfl⟩
  rw [← hq] at h ⊢
  unfold wrap64; omega
set_option maxRecDepth 100000 in
theorem most_any (L B : Int) (w : World) : Calls Try.prog 16 #[.int .i64 L, .int .i64 B] w (Is (.int .i64 (mostI L B)) w) := by
  have HV := hid (valid_any L B w)
  by_cases hf : fits L B
  · rw [decide_eq_true hf] at HV
    obtain ⟨l, b, rfl, rfl, h1, h2, h3, h4⟩ := hf.nat
    rw [mostI_nat hf]
    have hq2 : b / l ≤ 1024 := most_le h4
    have hq := quo_wrap b l hq2
    have hl0 : (l : Int) ≠ 0 := by omega
    have HQ := hid hq
    clear hf hq
    go_enter Try.func16, Try.ntmps16
    go_wp2_with fail
    refine HV.out.mono ?_
    rintro e w' ⟨rfl, rfl⟩
    go_wp2_with fail
    go_ret
    exact ⟨by rw [← HQ.out]; rfl, rfl⟩
  · rw [decide_eq_false hf] at HV
    rw [mostI_no hf]
    clear hf
    go_enter Try.func16, Try.ntmps16
    go_wp2_with fail
    refine HV.out.mono ?_
    rintro e w' ⟨rfl, rfl⟩
    go_wp2_with fail
    go_ret
    exact ⟨rfl, rfl⟩
set_option maxRecDepth 100000 in
theorem refMost_any (L B : Int) (w : World) : Calls Try.prog 17 #[.int .i64 L, .int .i64 B] w (Is (.int .i64 (mostI L B)) w) := by
  have HV := hid (refValid_any L B w)
  by_cases hf : fits L B
  · rw [decide_eq_true hf] at HV
    obtain ⟨l, b, rfl, rfl, h1, h2, h3, h4⟩ := hf.nat
    rw [mostI_nat hf]
    have hq2 : b / l ≤ 1024 := most_le h4
    have hq := quo_wrap b l hq2
    have hl0 : (l : Int) ≠ 0 := by omega
    have HQ := hid hq
    clear hf hq
    go_enter Try.func17, Try.ntmps17
    go_wp2_with fail
    refine HV.out.mono ?_
    rintro e w' ⟨rfl, rfl⟩
    go_wp2_with fail
    go_ret
    exact ⟨by rw [← HQ.out]; rfl, rfl⟩
  · rw [decide_eq_false hf] at HV
    rw [mostI_no hf]
    clear hf
    go_enter Try.func17, Try.ntmps17
    go_wp2_with fail
    refine HV.out.mono ?_
    rintro e w' ⟨rfl, rfl⟩
    go_wp2_with fail
    go_ret
    exact ⟨rfl, rfl⟩
end Go.Proofs.Ytllbjabnoicdfaa
