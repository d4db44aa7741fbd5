import Derived.Test.YtklbckonlbpbgabFixT3
/-! The reference's Pack. -/
namespace Go.Proofs.Ytklbckonlbpbgab
open Go.Lib Go.ChangeShapes Go.WideShapes Go.ChangeAt Go.RowKit
set_option linter.unusedVariables false

/-- a slice of texts at the head of a row that it has for itself -/
def OwnStrs (w : World) (v : Value) (l : List ByteArray) : Prop := SliceIs w 9 1 v l.length (l.map .string)
/-- a slice that lies behind what there was -/
def Fresh (w : World) (v : Value) : Prop := ∀ k, Value.home v k → w.heap.size ≤ k
theorem Fresh.nil (w : World) : Fresh w (.slice none 0 0) := by rintro k ⟨a, n, c, e, _⟩; cases e
theorem OwnStrs.shape {w : World} {v : Value} {l : List ByteArray} (h : OwnStrs w v l) : ∃ A cap, v = .slice A l.length cap := by
  rcases h with ⟨a, e, h0, _⟩ | ⟨g, cap, cur, e, _⟩
  · rw [h0]; exact ⟨a, 0, e⟩
  · exact ⟨_, cap, e⟩
theorem OwnStrs.at {w : World} {v : Value} {l : List ByteArray} (h : OwnStrs w v l) : StrsAt w v l := by
  rcases h with ⟨a, e, h1, _⟩ | ⟨g, cap, cur, e, hr, ht, hl, h4, h5, _⟩
  · exact ⟨a, 0, by rw [h1]; exact e, by omega, by omega, fun h => by omega⟩
  · refine ⟨_, cap, e, h4, h5, fun _ => ⟨g, 0, rfl, hr.lt, fun i hi => hr.cell ?_⟩⟩
    have h3 : (l.map Value.string)[i]? = some (.string l[i]) := by simp [hi]
    rw [← ht, Nat.mul_one, List.getElem?_take, if_pos hi] at h3
    rw [Nat.zero_add]; exact h3
theorem OwnStrs.below {w w' : World} {v : Value} {l : List ByteArray} (h : OwnStrs w v l) {B : Nat} (hb : Below B w w') (hB : w.heap.size ≤ B) : OwnStrs w' v l :=
  SliceIs.upd h (Upds.of_below hb hB) (F := fun _ => False) (fun _ _ h => h)
theorem OwnStrs.nil (w : World) (a : Option Addr) : OwnStrs w (.slice a 0 0) [] := .inl ⟨a, rfl, rfl, rfl⟩
theorem OwnStrs.more {w : World} {v : Value} {l : List ByteArray} {n : Nat} {cs : List Value} {x : ByteArray} (hn : l.length = n) (hcs : cs = l.map .string) (h : SliceIs w 9 1 v (n + 1) (cs ++ [.string x])) : OwnStrs w v (l ++ [x]) := by
  unfold OwnStrs
  rw [List.length_append, List.length_singleton, hn, List.map_append, ← hcs]
  exact h
theorem news1 (w : World) (x : Value) (t : TypeId) (g : Nat) (hg : g = w.heap.size) : ∀ j u, [x][j]? = some u → (w.alloc (.cells #[x] t)).cell? ((⟨g, 0, none⟩ : Addr).add j) = some u := by
  intro j u hj
  subst hg
  rw [Go.WideShapes.add_plain, Nat.zero_add]
  exact (Row.new w [x] t).cell hj
/-- the last text of a slice, which can be written -/
theorem OwnStrs.last {w : World} {v : Value} {l : List ByteArray} {y : ByteArray} (h : OwnStrs w v (l ++ [y])) : ∃ g cap, v = .slice (some ⟨g, 0, none⟩) (l.length + 1) cap ∧ g < w.heap.size ∧ Value.home v g ∧
    w.cell? ⟨g, l.length, none⟩ = some (.string y) ∧ w.frozen? ⟨g, l.length, none⟩ = false ∧ ∀ z, OwnStrs (w.setCell ⟨g, l.length, none⟩ (.string z)) v (l ++ [z]) := by
  rcases h with ⟨a, e, h1, _⟩ | ⟨g, cap, cur, e, hr, ht, hl, h4, h5, h6⟩
  · simp at h1
  · rw [List.length_append, List.length_singleton] at e h4 ht
    have hx : cur[l.length]? = some (.string y) := by
      have h3 : ((l ++ [y]).map Value.string)[l.length]? = some (.string y) := by simp
      rw [← ht, Nat.mul_one, List.getElem?_take, if_pos (by omega)] at h3
      exact h3
    refine ⟨g, cap, e, hr.lt, ⟨_, _, _, e, h6, rfl⟩, hr.cell hx, hr.frozen _, fun z => .inr ⟨g, cap, cur.set l.length (.string z), ?_, hr.set _ _, ?_, by rw [List.length_set, hl], ?_, h5, h6⟩⟩
    · rw [List.length_append, List.length_singleton]; exact e
    · rw [List.length_append, List.length_singleton, List.take_set, ht]
      simp
    · rw [List.length_append, List.length_singleton]; exact h4
/-- what the reference answers, when the first record of another length (if any) has the number s -/
def RefPacked (m s : Nat) (l : List ByteArray) (w : World) (e : Ending) (w' : World) : Prop :=
  (if s < l.length then e = .returned (.tuple #[.slice none 0 0, .int .i64 2]) else ∃ v, e = .returned (.tuple #[v, .int .i64 0]) ∧ StrsAt w' v (blocks m l)) ∧ Below w.heap.size w w'
end Go.Proofs.Ytklbckonlbpbgab
