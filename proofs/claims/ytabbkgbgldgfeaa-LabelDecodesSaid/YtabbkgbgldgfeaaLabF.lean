import Derived.Test.YtabbkgbgldgfeaaLabAw
import Derived.Test.YtabbkgbgldgfeaaLabR3
/-! Few; one or two labels in boxes. -/
namespace Go.Proofs.Ytabbkgbgldgfeaa
open Go.Lib Go.ChangeShapes Go.WideShapes Go.ChangeAt Go.RowKit

def fewL (l : Lab) : Prop := (l.name.size : Int) ≤ 100 ∧ (l.note.size : Int) ≤ 500 ∧ (l.ext.length : Int) ≤ 30
instance (l : Lab) : Decidable (fewL l) := inferInstanceAs (Decidable (_ ∧ _))
set_option maxRecDepth 100000 in
theorem few_lab (l : Lab) (v : Value) (w : World) (hv : RunsAt w v l.ext) :
    Calls Try.prog 11 #[labV l v] w (Answers (decide (fewL l)) w) := by
  obtain ⟨A, cap, rfl, _⟩ := hv
  obtain ⟨i, m, s, t, e⟩ := l
  obtain ⟨n, hn⟩ : ∃ n, n = e.length := ⟨_, rfl⟩
  rw [show decide (fewL ⟨i, m, s, t, e⟩) = decide ((s.size : Int) ≤ 100 ∧ (t.size : Int) ≤ 500 ∧ (e.length : Int) ≤ 30) from rfl]
  simp only
  rw [← hn]
  clear hn
  have HB : Hid (Below w.heap.size w (w.alloc (.cells #[.int .i64 i, .int .i64 m, .string s, .string t, .slice A n cap] 24))) := (Below.refl _ _).alloc (Nat.le_refl _) _
  by_cases h1 : (s.size : Int) ≤ 100
  rotate_left
  · rw [dec_and_no _ _ h1]
    go_enter Try.func11, Try.ntmps11
    go_wp2_with fail
    go_ret
    exact ⟨rfl, HB.out⟩
  rw [dec_and _ _ h1]
  by_cases h2 : (t.size : Int) ≤ 500
  rotate_left
  · rw [dec_and_no _ _ h2]
    go_enter Try.func11, Try.ntmps11
    go_wp2_with fail
    go_ret
    exact ⟨rfl, HB.out⟩
  rw [dec_and _ _ h2]
  go_enter Try.func11, Try.ntmps11
  go_wp2_with fail
  go_ret
  exact ⟨rfl, HB.out⟩
/-- two labels in their boxes -/
def Two (w0 : World) (b : Nat) (l : Lab) (v : Value) (c : Nat) (k : Lab) (u : Value) (W : World) : Prop := HeldB w0 b l v W ∧ HeldB w0 c k u W
namespace Two
variable {w0 W W' : World} {b c : Nat} {l k : Lab} {v u : Value}
theorem drew (h : Two w0 b l v c k u W) : Two w0 b l v c k u W.drew := ⟨h.1.drew, h.2.drew⟩
theorem below (h : Two w0 b l v c k u W) (hb : Below W.heap.size W W') : Two w0 b l v c k u W' := ⟨h.1.below hb, h.2.below hb⟩
theorem cells (h : Two w0 b l v c k u W) : W.cell? ⟨b, 0, none⟩ = some (.int .i64 l.id) ∧ W.cell? ⟨b, 1, none⟩ = some (.int .i64 l.unit) ∧ W.cell? ⟨b, 2, none⟩ = some (.string l.name) ∧ W.cell? ⟨b, 3, none⟩ = some (.string l.note) ∧ W.cell? ⟨b, 4, none⟩ = some (v) ∧ W.cell? ⟨c, 0, none⟩ = some (.int .i64 k.id) ∧ W.cell? ⟨c, 1, none⟩ = some (.int .i64 k.unit) ∧ W.cell? ⟨c, 2, none⟩ = some (.string k.name) ∧ W.cell? ⟨c, 3, none⟩ = some (.string k.note) ∧ W.cell? ⟨c, 4, none⟩ = some (u) ∧ Two w0 b l v c k u W :=
  ⟨h.1.1.cell (i := 0) rfl, h.1.1.cell (i := 1) rfl, h.1.1.cell (i := 2) rfl, h.1.1.cell (i := 3) rfl, h.1.1.cell (i := 4) rfl, h.2.1.cell (i := 0) rfl, h.2.1.cell (i := 1) rfl, h.2.1.cell (i := 2) rfl, h.2.1.cell (i := 3) rfl, h.2.1.cell (i := 4) rfl, h⟩
theorem step (h : W.cell? ⟨b, 0, none⟩ = some (.int .i64 l.id) ∧ W.cell? ⟨b, 1, none⟩ = some (.int .i64 l.unit) ∧ W.cell? ⟨b, 2, none⟩ = some (.string l.name) ∧ W.cell? ⟨b, 3, none⟩ = some (.string l.note) ∧ W.cell? ⟨b, 4, none⟩ = some (v) ∧ W.cell? ⟨c, 0, none⟩ = some (.int .i64 k.id) ∧ W.cell? ⟨c, 1, none⟩ = some (.int .i64 k.unit) ∧ W.cell? ⟨c, 2, none⟩ = some (.string k.name) ∧ W.cell? ⟨c, 3, none⟩ = some (.string k.note) ∧ W.cell? ⟨c, 4, none⟩ = some (u) ∧ Two w0 b l v c k u W) (hb : Below W.heap.size W W') : W'.cell? ⟨b, 0, none⟩ = some (.int .i64 l.id) ∧ W'.cell? ⟨b, 1, none⟩ = some (.int .i64 l.unit) ∧ W'.cell? ⟨b, 2, none⟩ = some (.string l.name) ∧ W'.cell? ⟨b, 3, none⟩ = some (.string l.note) ∧ W'.cell? ⟨b, 4, none⟩ = some (v) ∧ W'.cell? ⟨c, 0, none⟩ = some (.int .i64 k.id) ∧ W'.cell? ⟨c, 1, none⟩ = some (.int .i64 k.unit) ∧ W'.cell? ⟨c, 2, none⟩ = some (.string k.name) ∧ W'.cell? ⟨c, 3, none⟩ = some (.string k.note) ∧ W'.cell? ⟨c, 4, none⟩ = some (u) ∧ Two w0 b l v c k u W' := (h.2.2.2.2.2.2.2.2.2.2.below hb).cells
theorem of (h : W.cell? ⟨b, 0, none⟩ = some (.int .i64 l.id) ∧ W.cell? ⟨b, 1, none⟩ = some (.int .i64 l.unit) ∧ W.cell? ⟨b, 2, none⟩ = some (.string l.name) ∧ W.cell? ⟨b, 3, none⟩ = some (.string l.note) ∧ W.cell? ⟨b, 4, none⟩ = some (v) ∧ W.cell? ⟨c, 0, none⟩ = some (.int .i64 k.id) ∧ W.cell? ⟨c, 1, none⟩ = some (.int .i64 k.unit) ∧ W.cell? ⟨c, 2, none⟩ = some (.string k.name) ∧ W.cell? ⟨c, 3, none⟩ = some (.string k.note) ∧ W.cell? ⟨c, 4, none⟩ = some (u) ∧ Two w0 b l v c k u W) : Two w0 b l v c k u W := h.2.2.2.2.2.2.2.2.2.2
theorem runs1 (hr : RunsAt w0 v l.ext) (h : W.cell? ⟨b, 0, none⟩ = some (.int .i64 l.id) ∧ W.cell? ⟨b, 1, none⟩ = some (.int .i64 l.unit) ∧ W.cell? ⟨b, 2, none⟩ = some (.string l.name) ∧ W.cell? ⟨b, 3, none⟩ = some (.string l.note) ∧ W.cell? ⟨b, 4, none⟩ = some (v) ∧ W.cell? ⟨c, 0, none⟩ = some (.int .i64 k.id) ∧ W.cell? ⟨c, 1, none⟩ = some (.int .i64 k.unit) ∧ W.cell? ⟨c, 2, none⟩ = some (.string k.name) ∧ W.cell? ⟨c, 3, none⟩ = some (.string k.note) ∧ W.cell? ⟨c, 4, none⟩ = some (u) ∧ Two w0 b l v c k u W) : RunsAt W v l.ext := hr.below h.2.2.2.2.2.2.2.2.2.2.1.2 (Nat.le_refl _)
theorem runs2 (hr : RunsAt w0 u k.ext) (h : W.cell? ⟨b, 0, none⟩ = some (.int .i64 l.id) ∧ W.cell? ⟨b, 1, none⟩ = some (.int .i64 l.unit) ∧ W.cell? ⟨b, 2, none⟩ = some (.string l.name) ∧ W.cell? ⟨b, 3, none⟩ = some (.string l.note) ∧ W.cell? ⟨b, 4, none⟩ = some (v) ∧ W.cell? ⟨c, 0, none⟩ = some (.int .i64 k.id) ∧ W.cell? ⟨c, 1, none⟩ = some (.int .i64 k.unit) ∧ W.cell? ⟨c, 2, none⟩ = some (.string k.name) ∧ W.cell? ⟨c, 3, none⟩ = some (.string k.note) ∧ W.cell? ⟨c, 4, none⟩ = some (u) ∧ Two w0 b l v c k u W) : RunsAt W u k.ext := hr.below h.2.2.2.2.2.2.2.2.2.2.1.2 (Nat.le_refl _)
end Two
/-- the boxes of two labels -/
theorem Two.boxes (w : World) (l k : Lab) (v u : Value) : Two w w.heap.size l v (w.heap.size + 1) k u ((w.alloc (.cells #[.int .i64 l.id, .int .i64 l.unit, .string l.name, .string l.note, v] 24)).alloc (.cells #[.int .i64 k.id, .int .i64 k.unit, .string k.name, .string k.note, u] 24)) := by
  have hb : Below w.heap.size w ((w.alloc (.cells #[.int .i64 l.id, .int .i64 l.unit, .string l.name, .string l.note, v] 24)).alloc (.cells #[.int .i64 k.id, .int .i64 k.unit, .string k.name, .string k.note, u] 24)) := ((Below.refl _ _).alloc (Nat.le_refl _) _).alloc (by simp) _
  have h2 := Row.new (w.alloc (.cells #[.int .i64 l.id, .int .i64 l.unit, .string l.name, .string l.note, v] 24)) (labCells k u) 24
  rw [World.size_alloc] at h2
  exact ⟨⟨(Row.new w (labCells l v) _).alloc _, hb⟩, ⟨h2, hb⟩⟩
end Go.Proofs.Ytabbkgbgldgfeaa
