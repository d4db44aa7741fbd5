import Derived.Test.YtllbjabnoicdfaaFixT10
/-! Add of both. -/
namespace Go.Proofs.Ytllbjabnoicdfaa
open Go.Lib Go.ChangeShapes Go.WideShapes Go.ChangeAt Go.RowKit
set_option linter.unusedVariables false

/-- a block that takes a further record -/
def takes (L m : Nat) (d r : ByteArray) : Prop := r.size = L ∧ ∃ n, d.size = n * L ∧ n < m
/-- what a call answers that adds a record -/
def addA (d r : ByteArray) (ok : Prop) [Decidable ok] : Value := if ok then .tuple #[.string (d ++ r), .bool true] else .tuple #[.string ⟨#[]⟩, .bool false]
theorem takes_not {L m : Nat} {d r : ByteArray} (hL : 1 ≤ L) (h : ¬ takes L m d r) (hr : r.size = L) (hd : d.size % L = 0) : m ≤ d.size / L := by
  rcases Nat.lt_or_ge (d.size / L) m with h' | h'
  · exact absurd ⟨hr, d.size / L, by have := Nat.div_add_mod d.size L; rw [hd, Nat.mul_comm] at this; omega, h'⟩ h
  · exact h'
set_option maxRecDepth 100000 in
set_option maxHeartbeats 2000000 in
theorem add_yes (L b : Nat) (hf : fits (L : Int) (b : Int)) (d r : ByteArray) (hd : d.size ≤ 100000) (ht : takes L (b / L) d r) (w : World) :
    Calls Try.prog 23 #[.int .i64 L, .int .i64 b, .string d, .string r] w (Gives (.tuple #[.string (d ++ r), .bool true]) w) := by
  have HV := fun W => hid (valid_any L b W)
  rw [decide_eq_true hf] at HV
  have HM := fun W => hid (most_any L b W)
  rw [mostI_nat hf] at HM
  have hL : 1 ≤ L := by have := hf.1; omega
  have hL2 : L ≤ 1000 := by have := hf.2.1; omega
  have hm2 : b / L ≤ 1024 := most_le (by have := hf.2.2.2; omega)
  obtain ⟨m, hmm⟩ : ∃ m, m = b / L := ⟨_, rfl⟩
  rw [← hmm] at HM hm2 ht
  obtain ⟨hr, n, h1, h2⟩ := ht
  have hq1 : wrap64 ((d.size : Int) / (L : Int)) = (n : Int) := by
    rw [quo_i64 d.size L (by omega), h1, Nat.mul_div_cancel _ hL]
  have hd0 : ((r.size : Int) != (L : Int)) = false := by simp [hr]
  have hd3 : (((d.size : Int) % (L : Int)) != 0) = false := by rw [← Int.natCast_emod, h1, Nat.mul_mod_left]; rfl
  have hd4 : decide ((m : Int) ≤ wrap64 ((d.size : Int) / (L : Int))) = false := by rw [hq1]; simp; omega
  have hl0 : (L : Int) ≠ 0 := by omega
  have hrs : r.size ≤ 100000 := by omega
  clear hf hmm hq1 h1 h2 hr
  go_enter Try.func23, Try.ntmps23
  go_wp2_with fail
  go_quiet (first | (go_at_call 14; refine Calls.quiet_of_same (v := .bool true) ((HV _).out.mono ?_); rintro e w' ⟨rfl, rfl⟩; exact ⟨rfl, rfl⟩) | (go_at_call 16; refine Calls.quiet_of_same (v := .int .i64 m) ((HM _).out.mono ?_); rintro e w' ⟨rfl, rfl⟩; exact ⟨rfl, rfl⟩))
  go_wp2_with fail
  go_ret2
  exact ⟨rfl, below_drewN (Below.refl _ _) _⟩
set_option maxRecDepth 100000 in
set_option maxHeartbeats 4000000 in
theorem add_no (L B : Int) (d r : ByteArray) (hd : d.size ≤ 100000) (hr : r.size ≤ 100000) (hn : ∀ l b : Nat, L = l → B = b → fits L B → ¬ takes l (b / l) d r) (w : World) :
    Calls Try.prog 23 #[.int .i64 L, .int .i64 B, .string d, .string r] w (Gives (.tuple #[.string ⟨#[]⟩, .bool false]) w) := by
  have HV := fun W => hid (valid_any L B W)
  have HM := fun W => hid (most_any L B W)
  by_cases hf : fits L B
  · rw [decide_eq_true hf] at HV
    obtain ⟨x, b, rfl, rfl, hx1, hx2, hx3, hx4⟩ := hf.nat
    rw [mostI_nat hf] at HM
    have hn2 := hn x b rfl rfl hf
    have hm2 : b / x ≤ 1024 := most_le hx4
    obtain ⟨m, hmm⟩ : ∃ m, m = b / x := ⟨_, rfl⟩
    rw [← hmm] at HM hm2 hn2
    have hl0 : (x : Int) ≠ 0 := by omega
    by_cases h0 : r.size = x
    · have hd0 : ((r.size : Int) != (x : Int)) = false := by simp [h0]
      by_cases h1 : d.size % x = 0
      · have hd3 : (((d.size : Int) % (x : Int)) != 0) = false := by rw [← Int.natCast_emod, h1]; rfl
        have h2 := takes_not hx1 hn2 h0 h1
        have hd4 : decide ((m : Int) ≤ wrap64 ((d.size : Int) / (x : Int))) = true := by
          rw [quo_i64 d.size x (by omega)]
          exact decide_eq_true (Int.ofNat_le.2 h2)
        clear hf hmm hn hn2 h0 h1 h2
        go_enter Try.func23, Try.ntmps23
        go_wp2_with fail
        go_quiet (first | (go_at_call 14; refine Calls.quiet_of_same (v := .bool true) ((HV _).out.mono ?_); rintro e w' ⟨rfl, rfl⟩; exact ⟨rfl, rfl⟩) | (go_at_call 16; refine Calls.quiet_of_same (v := .int .i64 m) ((HM _).out.mono ?_); rintro e w' ⟨rfl, rfl⟩; exact ⟨rfl, rfl⟩))
        go_wp2_with fail
        go_ret2
        exact ⟨rfl, below_drewN (Below.refl _ _) _⟩
      · have hd3 : (((d.size : Int) % (x : Int)) != 0) = true := by rw [← Int.natCast_emod]; simp; omega
        clear hf hmm hn hn2 h0 h1
        go_enter Try.func23, Try.ntmps23
        go_wp2_with fail
        go_quiet (first | (go_at_call 14; refine Calls.quiet_of_same (v := .bool true) ((HV _).out.mono ?_); rintro e w' ⟨rfl, rfl⟩; exact ⟨rfl, rfl⟩) | (go_at_call 16; refine Calls.quiet_of_same (v := .int .i64 m) ((HM _).out.mono ?_); rintro e w' ⟨rfl, rfl⟩; exact ⟨rfl, rfl⟩))
        go_wp2_with fail
        go_ret2
        exact ⟨rfl, below_drewN (Below.refl _ _) _⟩
    · have hd0 : ((r.size : Int) != (x : Int)) = true := by simp; omega
      clear hf hmm hn hn2 h0
      go_enter Try.func23, Try.ntmps23
      go_wp2_with fail
      go_quiet (first | (go_at_call 14; refine Calls.quiet_of_same (v := .bool true) ((HV _).out.mono ?_); rintro e w' ⟨rfl, rfl⟩; exact ⟨rfl, rfl⟩) | (go_at_call 16; refine Calls.quiet_of_same (v := .int .i64 m) ((HM _).out.mono ?_); rintro e w' ⟨rfl, rfl⟩; exact ⟨rfl, rfl⟩))
      go_wp2_with fail
      go_ret2
      exact ⟨rfl, below_drewN (Below.refl _ _) _⟩
  · rw [decide_eq_false hf] at HV
    rw [mostI_no hf] at HM
    clear hf hn
    go_enter Try.func23, Try.ntmps23
    go_wp2_with fail
    go_quiet (first | (go_at_call 14; refine Calls.quiet_of_same (v := .bool false) ((HV _).out.mono ?_); rintro e w' ⟨rfl, rfl⟩; exact ⟨rfl, rfl⟩) | (go_at_call 16; refine Calls.quiet_of_same (v := .int .i64 0) ((HM _).out.mono ?_); rintro e w' ⟨rfl, rfl⟩; exact ⟨rfl, rfl⟩))
    go_wp2_with fail
    go_ret2
    exact ⟨rfl, below_drewN (Below.refl _ _) _⟩
end Go.Proofs.Ytllbjabnoicdfaa
