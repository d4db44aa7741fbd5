import Derived.Test.YtklbckonlbpbgabSpnC2
import Derived.Test.YtklbckonlbpbgabFixT7
/-! The segments of a text; slices of segments. -/
namespace Go.Proofs.Ytklbckonlbpbgab
open Go.Lib Go.ChangeShapes Go.WideShapes Go.ChangeAt Go.RowKit
set_option linter.unusedVariables false

/-- whether the segment at the head of a text may stand there: behind nothing, or behind others; in a block that is full or not -/
def segMay (L : Nat) (full first : Bool) (t : ByteArray) : Prop := segOk t ∧ (segOf t).data.size ≤ L ∧ ((segOf t).before = true → first = true) ∧ ((segOf t).after = true → (segRest t).size = 0 ∧ full = true)
instance (L : Nat) (full first : Bool) (t : ByteArray) : Decidable (segMay L full first t) := inferInstanceAs (Decidable (_ ∧ _ ∧ (_ → _) ∧ (_ → _ ∧ _)))
/-- the segments of a text -/
def rdSegs (L : Nat) (full : Bool) : Nat → Bool → ByteArray → Option (List Seg)
  | 0, _, _ => none
  | f + 1, first, t => if t.size = 0 then some [] else if segMay L full first t then (rdSegs L full f false (segRest t)).map (segOf t :: ·) else none
theorem segRest_lt {t : ByteArray} (h : segOk t) : (segRest t).size < t.size := by
  have h1 := h.2.2.1
  have h2 := h.1
  rw [segRest_size]; omega
theorem rdSegs_fuel (L : Nat) (full : Bool) (f g : Nat) (first : Bool) (t : ByteArray) (hf : t.size < f) (hg : t.size < g) : rdSegs L full f first t = rdSegs L full g first t := by
  induction f generalizing g first t with
  | zero => omega
  | succ f ih =>
    cases g with
    | zero => omega
    | succ g =>
      unfold rdSegs
      split
      · rfl
      · split
        · rename_i h
          have := segRest_lt h.1
          rw [ih g false (segRest t) (by omega) (by omega)]
        · rfl
def rd (L : Nat) (full first : Bool) (t : ByteArray) : Option (List Seg) := rdSegs L full (t.size + 1) first t
theorem rd_nil (L : Nat) (full first : Bool) (t : ByteArray) (h : t.size = 0) : rd L full first t = some [] := by unfold rd rdSegs; rw [if_pos h]
theorem rd_no (L : Nat) (full first : Bool) (t : ByteArray) (h : t.size ≠ 0) (hm : ¬ segMay L full first t) : rd L full first t = none := by unfold rd rdSegs; rw [if_neg h, if_neg hm]
theorem rd_yes (L : Nat) (full first : Bool) (t : ByteArray) (h : t.size ≠ 0) (hm : segMay L full first t) : rd L full first t = (rd L full false (segRest t)).map (segOf t :: ·) := by
  have := segRest_lt hm.1
  unfold rd
  rw [show rdSegs L full (t.size + 1) first t = _ from by unfold rdSegs; rw [if_neg h, if_pos hm]]
  rw [rdSegs_fuel L full t.size ((segRest t).size + 1) false (segRest t) this (by omega)]

/-- the cells of a list of segments -/
def segCells (l : List Seg) : List Value := l.flatMap fun s => [.bool s.before, .bool s.after, .string s.data]
theorem segCells_append (a b : List Seg) : segCells (a ++ b) = segCells a ++ segCells b := by unfold segCells; simp
theorem segCells_len (l : List Seg) : (segCells l).length = l.length * 3 := by
  induction l with
  | nil => rfl
  | cons x l ih => show (_ :: _ :: _ :: segCells l).length = _; simp only [List.length_cons, ih]; omega
theorem segCells_get (l : List Seg) (i : Nat) (h : i < l.length) : (segCells l)[i * 3]? = some (.bool l[i].before) ∧ (segCells l)[i * 3 + 1]? = some (.bool l[i].after) ∧ (segCells l)[i * 3 + 2]? = some (.string l[i].data) := by
  induction l generalizing i with
  | nil => simp at h
  | cons x l ih =>
    cases i with
    | zero => exact ⟨rfl, rfl, rfl⟩
    | succ i =>
      have h1 := ih i (by simpa using h)
      have e1 : (i + 1) * 3 = i * 3 + 1 + 1 + 1 := by omega
      have e2 : (i + 1) * 3 + 1 = i * 3 + 1 + 1 + 1 + 1 := by omega
      have e3 : (i + 1) * 3 + 2 = i * 3 + 2 + 1 + 1 + 1 := by omega
      rw [e2, e3, e1]
      exact h1
/-- a slice that reads as a list of segments -/
def SegsAt (w : World) (v : Value) (l : List Seg) : Prop :=
  ∃ A cap, v = .slice A l.length cap ∧ l.length ≤ cap ∧ cap ≤ 9223372036854775807 ∧
    (0 < l.length → ∃ b off, A = some ⟨b, off, none⟩ ∧ b < w.heap.size ∧ ∀ i (h : i < l.length), w.cell? ⟨b, off + i * 3, none⟩ = some (.bool l[i].before) ∧ w.cell? ⟨b, off + i * 3 + 1, none⟩ = some (.bool l[i].after) ∧ w.cell? ⟨b, off + i * 3 + 2, none⟩ = some (.string l[i].data))
theorem SegsAt.below {w w' : World} {v : Value} {l : List Seg} (h : SegsAt w v l) {B : Nat} (hb : Below B w w') (hB : w.heap.size ≤ B) : SegsAt w' v l := by
  obtain ⟨A, cap, e, h1, h2, h4⟩ := h
  refine ⟨A, cap, e, h1, h2, fun h0 => ?_⟩
  obtain ⟨b, off, e, hlt, hc⟩ := h4 h0
  exact ⟨b, off, e, Nat.lt_of_lt_of_le hlt hb.size, fun i hi => ⟨(hb.cell (p := ⟨b, off + i * 3, none⟩) (by simp; omega)).trans (hc i hi).1, (hb.cell (p := ⟨b, off + i * 3 + 1, none⟩) (by simp; omega)).trans (hc i hi).2.1, (hb.cell (p := ⟨b, off + i * 3 + 2, none⟩) (by simp; omega)).trans (hc i hi).2.2⟩⟩
/-- a slice of segments at the head of a row that it has for itself -/
def OwnSegs (t : TypeId) (w : World) (v : Value) (l : List Seg) : Prop := SliceIs w t 3 v l.length (segCells l)
theorem OwnSegs.nil (t : TypeId) (w : World) : OwnSegs t w (.slice none 0 0) [] := SliceIs.nil _ _ _
theorem OwnSegs.shape {t : TypeId} {w : World} {v : Value} {l : List Seg} (h : OwnSegs t w v l) : ∃ A cap, v = .slice A l.length cap := by
  rcases h with ⟨a, e, h0, _⟩ | ⟨g, cap, cur, e, _⟩
  · rw [h0]; exact ⟨a, 0, e⟩
  · exact ⟨_, cap, e⟩
theorem OwnSegs.at {t : TypeId} {w : World} {v : Value} {l : List Seg} (h : OwnSegs t w v l) : SegsAt w v l := by
  rcases h with ⟨a, e, h1, _⟩ | ⟨g, cap, cur, e, hr, ht, hl, h4, h5, _⟩
  · exact ⟨a, 0, by rw [h1]; exact e, by omega, by omega, fun h => by omega⟩
  · refine ⟨_, cap, e, h4, h5, fun _ => ⟨g, 0, rfl, hr.lt, fun i hi => ?_⟩⟩
    have hg := segCells_get l i hi
    rw [← ht, List.getElem?_take, List.getElem?_take, List.getElem?_take, if_pos (by omega), if_pos (by omega), if_pos (by omega)] at hg
    rw [Nat.zero_add]
    exact ⟨hr.cell hg.1, hr.cell hg.2.1, hr.cell hg.2.2⟩
theorem OwnSegs.below {t : TypeId} {w w' : World} {v : Value} {l : List Seg} (h : OwnSegs t w v l) {B : Nat} (hb : Below B w w') (hB : w.heap.size ≤ B) : OwnSegs t w' v l :=
  SliceIs.upd h (Upds.of_below hb hB) (F := fun _ => False) (fun _ _ h => h)
theorem OwnSegs.more {t : TypeId} {w : World} {v : Value} {l : List Seg} {n : Nat} {cs : List Value} {s : Seg} (hn : l.length = n) (hcs : cs = segCells l) (h : SliceIs w t 3 v (n + 1) (cs ++ [.bool s.before, .bool s.after, .string s.data])) : OwnSegs t w v (l ++ [s]) := by
  unfold OwnSegs
  rw [List.length_append, List.length_singleton, hn, segCells_append, ← hcs]
  exact h
theorem news3 (w : World) (x y z : Value) (t : TypeId) (g : Nat) (hg : g = w.heap.size) : ∀ j u, [x, y, z][j]? = some u → (w.alloc (.cells #[x, y, z] t)).cell? ((⟨g, 0, none⟩ : Addr).add j) = some u := by
  intro j u hj
  subst hg
  rw [Go.WideShapes.add_plain, Nat.zero_add]
  exact (Row.new w [x, y, z] t).cell hj
end Go.Proofs.Ytklbckonlbpbgab
