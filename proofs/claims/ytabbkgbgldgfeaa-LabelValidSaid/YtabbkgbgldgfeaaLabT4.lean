import Derived.Test.YtabbkgbgldgfeaaLabT3
/-! The conditions of Valid together; Valid. -/
namespace Go.Proofs.Ytabbkgbgldgfeaa
open Go.Lib Go.ChangeShapes Go.WideShapes Go.ChangeAt Go.RowKit

/-- a function value that answers R, in all worlds that keep what there was -/
def Cond (w : World) (v : Value) (R : Bool) : Prop := ∃ (g : Nat) (lb : Array Value), v = .func (.func g) #[] lb ∧ (∀ args w, (callFunc g args).run Try.prog w = .ok (.enter g args) w) ∧
  ∀ W, Below w.heap.size w W → Calls Try.prog g lb W (Answers R W)
set_option maxRecDepth 100000 in
theorem cond_any (g : Nat) (lb : Array Value) (eg : ∀ args w, (callFunc g args).run Try.prog w = .ok (.enter g args) w) (R : Bool) (w : World) (hc : Calls Try.prog g lb w (Answers R w)) :
    Calls Try.prog 46 (#[.func (.func g) #[] lb] ++ #[]) w (Answers (!R) w) := by
  have HC := hid hc
  clear hc
  go_enter Try.func46, Try.ntmps46
  go_wp2_with fail
  refine HC.out.mono ?_
  rintro e w' ⟨rfl, hb⟩
  go_wp2_with fail
  go_ret
  exact ⟨rfl, hb⟩
set_option maxRecDepth 100000 in
theorem condIdx_any (g n : Nat) (hn : n ≤ 100) (V : Nat → Value) (R : Nat → Bool) (m : Nat) (hm : m ≤ n) (hb : ∀ k, k < m → R k = true) (hs : m < n → R m = false) (w : World) (hlt : g < w.heap.size) (hc : ∀ i, i < n → w.cell? ⟨g, i, none⟩ = some (V i)) (hV : ∀ i, i < n → i ≤ m → Cond w (V i) (R i)) :
    Calls Try.prog 72 #[.slice (some ⟨g, 0, none⟩) n n, .func (.func 46) #[] #[]] w fun e w' => e = .returned (.int .i64 (if m < n then (m : Int) else -1)) ∧ Below w.heap.size w w' := by
  have HS := hid hs
  have HB := hid hb
  have HC := hid hc
  have HV := hid hV
  clear hs hb hc hV
  go_enter Try.func72, Try.ntmps72
  go_wp2_with fail
  go_loopw [8] (fun i wr => ∃ k : Nat, k ≤ m ∧ i = .int .i64 k ∧ Below w.heap.size w wr) (fun i _ => n - (intOf i).toNat)
  case atStart => exact ⟨0, by omega, rfl, Below.refl _ _⟩
  case round =>
    obtain ⟨k, hk, rfl, hu⟩ := hrel
    have HU := hid hu
    by_cases hkn : k < n
    · have c0 := (hu.cell (p := ⟨g, k, none⟩) hlt).trans (HC.out k hkn)
      have hlt2 : g < wr.heap.size := Nat.lt_of_lt_of_le hlt hu.size
      obtain ⟨f, lb, hv, eg, hcall⟩ := HV.out k hkn hk
      rw [hv] at c0
      have HCALL := hid (cond_any f lb eg (R k) wr (hcall wr hu))
      clear hv hu hcall eg
      by_cases hkm : k < m
      · have hr := HB.out k hkm
        rw [hr] at HCALL
        clear hr
        go_wp2_with fail
        refine HCALL.out.mono ?_
        rintro e w1 ⟨rfl, hb⟩
        have HB1 := hid (HU.out.trans (hb.mono HU.out.size))
        clear hb
        go_wp2_with fail
        go_roundw
        case rel => exact ⟨k + 1, by omega, by go_num, HB1.out⟩
        case measure => simp [intOf]; omega
      · obtain rfl : k = m := by omega
        have hr := HS.out hkn
        rw [hr] at HCALL
        clear hr
        go_wp2_with fail
        refine HCALL.out.mono ?_
        rintro e w1 ⟨rfl, hb⟩
        have HB1 := hid (HU.out.trans (hb.mono HU.out.size))
        clear hb
        go_wp2_with fail
        go_ret
        exact ⟨rfl, HB1.out⟩
    · have hkm : ¬ m < n := by omega
      clear hu
      go_wp2_with fail
      go_ret
      exact ⟨rfl, HU.out⟩
/-- the first that fails -/
theorem first_false (R : Nat → Bool) (n : Nat) : ∃ m, m ≤ n ∧ (∀ k, k < m → R k = true) ∧ (m < n → R m = false) := by
  induction n with
  | zero => exact ⟨0, Nat.le_refl _, fun k h => absurd h (Nat.not_lt_zero _), fun h => absurd h (Nat.lt_irrefl _)⟩
  | succ n ih =>
    obtain ⟨m, h1, h2, h3⟩ := ih
    by_cases hm : m < n
    · exact ⟨m, by omega, h2, fun _ => h3 hm⟩
    · obtain rfl : m = n := by omega
      by_cases hr : R m = true
      · exact ⟨m + 1, Nat.le_refl _, fun k hk => by
          by_cases e : k = m
          · rw [e]; exact hr
          · exact h2 k (by omega), fun h => by omega⟩
      · exact ⟨m, by omega, h2, fun _ => by simpa using hr⟩
def allR (R : Nat → Bool) (n : Nat) : Bool := (List.range n).all R
theorem allR_first (R : Nat → Bool) (n m : Nat) (hm : m ≤ n) (h2 : ∀ k, k < m → R k = true) (h3 : m < n → R m = false) : allR R n = decide (¬ m < n) := by
  unfold allR
  rw [Bool.eq_iff_iff, List.all_eq_true, decide_eq_true_iff]
  constructor
  · intro h hmn
    have := h m (List.mem_range.2 hmn)
    rw [h3 hmn] at this
    cases this
  · intro h k hk
    exact h2 k (by have := List.mem_range.1 hk; omega)
set_option maxRecDepth 100000 in
theorem condContains_any (g n : Nat) (hn : n ≤ 100) (V : Nat → Value) (R : Nat → Bool) (w : World) (hlt : g < w.heap.size) (hc : ∀ i, i < n → w.cell? ⟨g, i, none⟩ = some (V i)) (hV : ∀ i, i < n → (∀ k, k < i → R k = true) → Cond w (V i) (R i)) :
    Calls Try.prog 45 #[.slice (some ⟨g, 0, none⟩) n n, .func (.func 46) #[] #[]] w (Answers (!allR R n) w) := by
  obtain ⟨m, h1, h2, h3⟩ := first_false R n
  have HI := hid (condIdx_any g n hn V R m h1 h2 h3 w hlt hc (fun i hi him => hV i hi (fun k hk => h2 k (by omega))))
  rw [allR_first R n m h1 h2 h3]
  clear hc hV h2 h3
  go_enter Try.func45, Try.ntmps45
  go_wp2_with fail
  refine HI.out.mono ?_
  rintro e w' ⟨rfl, hb⟩
  by_cases hmn : m < n
  · rw [if_pos hmn]
    have hd : decide ((0 : Int) ≤ (m : Int)) = true := by simp
    go_wp2_with fail
    go_ret
    exact ⟨by simp [hmn], hb⟩
  · rw [if_neg hmn]
    go_wp2_with fail
    go_ret
    exact ⟨by simp [hmn], hb⟩
end Go.Proofs.Ytabbkgbgldgfeaa
