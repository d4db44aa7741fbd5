import Derived.Test.YtfcaodaaklngmaaDevT1
/-! Small functions of the device: a valid writer, the closures that choose writes and numbers. -/
namespace Go.Proofs.Ytfcaodaaklngmaa
open Go.Lib Go.ChangeShapes Go.WideShapes Go.ChangeAt Go.RowKit

set_option maxRecDepth 100000 in
theorem valid_true (s e : Int) (h : validW s e) (w : World) :
    Calls Try.prog 52 #[.agg #[.int .i64 s, .int .i64 e]] w fun x w' => x = .returned (.bool true) ∧ w' = w.alloc (.cells #[.int .i64 s, .int .i64 e] 42) := by
  obtain ⟨h1, h2, h3, h4⟩ := h
  go_enter Try.func52, Try.ntmps52
  go_wp2_with fail
  go_ret
  exact ⟨rfl, rfl⟩
set_option maxRecDepth 100000 in
theorem valid_false (s e : Int) (h : ¬ validW s e) (w : World) :
    Calls Try.prog 52 #[.agg #[.int .i64 s, .int .i64 e]] w fun x w' => x = .returned (.bool false) ∧ w' = w.alloc (.cells #[.int .i64 s, .int .i64 e] 42) := by
  have hv : s < 1 ∨ (1 ≤ s ∧ 4 < s) ∨ (1 ≤ s ∧ s ≤ 4 ∧ e < 0) ∨ (1 ≤ s ∧ s ≤ 4 ∧ 0 ≤ e ∧ 1099511627776 < e) := by unfold validW at h; omega
  clear h
  rcases hv with h1 | ⟨h1, h2⟩ | ⟨h1, h2, h3⟩ | ⟨h1, h2, h3, h4⟩
  rotate_right
  · have h5 : decide (e ≤ 1099511627776) = false := by simp; omega
    go_enter Try.func52, Try.ntmps52
    go_wp2_with fail
    go_ret
    exact ⟨by rw [← h5]; rfl, rfl⟩
  all_goals
    go_enter Try.func52, Try.ntmps52
    go_wp2_with fail
    go_ret
    exact ⟨rfl, rfl⟩
set_option maxRecDepth 100000 in
theorem of_any (s : Int) (w : World) : Calls Try.prog 50 #[.int .i64 s] w fun x w' => x = .returned (.func (.func 71) #[] #[.pointer (some ⟨w.heap.size, 0, none⟩)]) ∧ w' = w.alloc (.cells #[.int .i64 s] 3) := by
  go_enter Try.func50, Try.ntmps50
  go_wp2_with fail
  go_ret
  exact ⟨rfl, rfl⟩
set_option maxRecDepth 100000 in
theorem listed_any (a : Option Addr) (n c : Nat) (w : World) : Calls Try.prog 51 #[.slice a n c] w fun x w' => x = .returned (.func (.func 72) #[] #[.pointer (some ⟨w.heap.size, 0, none⟩)]) ∧ w' = w.alloc (.cells #[.slice a n c] 30) := by
  go_enter Try.func51, Try.ntmps51
  go_wp2_with fail
  go_ret
  exact ⟨rfl, rfl⟩
set_option maxRecDepth 100000 in
theorem of1_any (s : Int) (p : PW) (b : Nat) (w : World) (hc : w.cell? ⟨b, 0, none⟩ = some (.int .i64 s)) :
    Calls Try.prog 71 (#[.agg #[.int .i64 p.sys, .int .i64 p.sec, .string p.dat]] ++ #[.pointer (some ⟨b, 0, none⟩)]) w fun x w' => x = .returned (.bool (decide (p.sys = s))) ∧ Upds (fun _ => False) w w' := by
  by_cases h : p.sys = s
  · have hb : (p.sys == s) = true := beq_iff_eq.2 h
    have HD : Hid (decide (p.sys = s) = true) := decide_eq_true h
    have hlt := World.block_lt_of_cell? w ⟨b, 0, none⟩ hc
    clear h
    go_enter Try.func71, Try.ntmps71
    go_wp2_with fail
    go_ret
    rw [HD.out]
    exact ⟨rfl, Upds.alloc _ _⟩
  · have hb : (p.sys == s) = false := beq_eq_false_iff_ne.2 h
    have HD : Hid (decide (p.sys = s) = false) := decide_eq_false h
    have hlt := World.block_lt_of_cell? w ⟨b, 0, none⟩ hc
    clear h
    go_enter Try.func71, Try.ntmps71
    go_wp2_with fail
    go_ret
    rw [HD.out]
    exact ⟨rfl, Upds.alloc _ _⟩
set_option maxRecDepth 100000 in
theorem fail1_any (p : PW) (w : World) :
    Calls Try.prog 81 (#[.agg #[.int .i64 p.sys, .int .i64 p.sec, .string p.dat]] ++ #[]) w fun x w' => x = .returned (.bool true) ∧ Upds (fun _ => False) w w' := by
  go_enter Try.func81, Try.ntmps81
  go_wp2_with fail
  go_ret
  exact ⟨rfl, Upds.alloc _ _⟩
set_option maxRecDepth 100000 in
theorem sync1_any (i : Nat) (w : World) :
    Calls Try.prog 55 (#[.int .i64 i] ++ #[]) w fun x w' => x = .returned (.int .i64 140) ∧ w = w' := by
  go_enter Try.func55, Try.ntmps55
  go_wp2_with fail
  go_ret
  exact ⟨rfl, rfl⟩

/-- a slice of integers, as it can be read -/
def IntsAt (w : World) (a : Option Addr) (l : List Int) : Prop := 0 < l.length → ∃ b off, a = some ⟨b, off, none⟩ ∧ ∀ i (h : i < l.length), w.cell? ⟨b, off + i, none⟩ = some (.int .i64 l[i])
theorem IntsAt.upd {w w' : World} {a : Option Addr} {l : List Int} (h : IntsAt w a l) {F : Nat → Prop} (hu : Upds F w w') (hF : ∀ x, a = some x → 0 < l.length → ¬ F x.block) : IntsAt w' a l := fun h0 => by
  obtain ⟨b, off, rfl, hc⟩ := h h0
  exact ⟨b, off, rfl, fun i hi => hu.cell (hF _ rfl h0) (hc i hi)⟩
set_option maxRecDepth 100000 in
theorem listed1_any (l : List Int) (hl : l.length ≤ 9223372036854775807) (a : Option Addr) (c : Nat) (i b : Nat) (hi : i ≤ 9223372036854775807) (w : World) (hc : w.cell? ⟨b, 0, none⟩ = some (.slice a l.length c)) (h : IntsAt w a l) :
    Calls Try.prog 72 (#[.int .i64 i] ++ #[.pointer (some ⟨b, 0, none⟩)]) w fun x w' => x = .returned (.int .i64 (svOf l i)) ∧ w = w' := by
  by_cases hlt : i < l.length
  · obtain ⟨g, off, rfl, hcs⟩ := h (by omega)
    have hx := hcs i hlt
    have HD : Hid (svOf l i = l[i]) := by show svOf l i = l[i]; unfold svOf; rw [List.getD_eq_getElem?_getD, List.getElem?_eq_getElem hlt]; rfl
    clear h hcs
    generalize l[i] = x at hx HD
    go_enter Try.func72, Try.ntmps72
    go_wp2_with fail
    go_ret
    rw [HD.out]
    exact ⟨rfl, rfl⟩
  · have HD : Hid (svOf l i = 0) := by show svOf l i = 0; unfold svOf; rw [List.getD_eq_getElem?_getD, List.getElem?_eq_none (by omega)]; rfl
    clear h
    go_enter Try.func72, Try.ntmps72
    go_wp2_with fail
    go_ret
    rw [HD.out]
    exact ⟨rfl, rfl⟩
end Go.Proofs.Ytfcaodaaklngmaa
