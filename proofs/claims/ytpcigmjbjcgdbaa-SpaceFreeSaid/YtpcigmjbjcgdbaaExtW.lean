import Derived.Test.YtpcigmjbjcgdbaaExtM
import Derived.Test.YtpcigmjbjcgdbaaApp
import Derived.Test.YtpcigmjbjcgdbaaSlices
import Derived.Test.YtpcigmjbjcgdbaaRows
import Derived.ProofKit
import Derived.BigQuiet
import Derived.Deep.QuietTactic
import Derived.Deep.RegionHeld3
import Derived.Deep.LoopGhost
/-! Slices of runs in memory. -/
namespace Go.Proofs.Ytpcigmjbjcgdbaa
open Go.Lib Go.ChangeShapes Go.WideShapes Go.ChangeAt Go.RowKit

/-- the cells of a list of runs -/
def runCells (l : List (Int × Int)) : List Value := l.flatMap fun r => [.int .i64 r.1, .int .i64 r.2]
theorem runCells_append (a b : List (Int × Int)) : runCells (a ++ b) = runCells a ++ runCells b := by unfold runCells; simp
theorem runCells_len (l : List (Int × Int)) : (runCells l).length = l.length * 2 := by
  induction l with
  | nil => rfl
  | cons x l ih => show (_ :: _ :: runCells l).length = _; simp only [List.length_cons, ih]; omega
theorem runCells_get (l : List (Int × Int)) (i : Nat) (h : i < l.length) : (runCells l)[i * 2]? = some (.int .i64 l[i].1) ∧ (runCells l)[i * 2 + 1]? = some (.int .i64 l[i].2) := by
  induction l generalizing i with
  | nil => simp at h
  | cons x l ih =>
    cases i with
    | zero => exact ⟨rfl, rfl⟩
    | succ i =>
      have h1 := ih i (by simpa using h)
      have e1 : (i + 1) * 2 = i * 2 + 1 + 1 := by omega
      have e2 : (i + 1) * 2 + 1 = i * 2 + 1 + 1 + 1 := by omega
      rw [e2, e1]
      exact h1
def Bd (l : List (Int × Int)) : Prop := ∀ r ∈ l, -9223372036854775808 ≤ r.1 ∧ r.1 ≤ 9223372036854775807 ∧ -9223372036854775808 ≤ r.2 ∧ r.2 ≤ 9223372036854775807
theorem Bd.up {l : List (Nat × Nat)} (h : Fine l) : Bd (up l) := by
  intro r hr
  unfold Proofs.Ytpcigmjbjcgdbaa.up at hr
  rw [List.mem_map] at hr
  obtain ⟨x, hx, rfl⟩ := hr
  have := h x hx
  simp only; omega
/-- a slice that reads as a list of runs -/
def RunsAt (w : World) (v : Value) (l : List (Int × Int)) : Prop :=
  ∃ A cap, v = .slice A l.length cap ∧ l.length ≤ cap ∧ cap ≤ 9223372036854775807 ∧ Bd l ∧
    (0 < l.length → ∃ b off, A = some ⟨b, off, none⟩ ∧ b < w.heap.size ∧ ∀ i (h : i < l.length), w.cell? ⟨b, off + i * 2, none⟩ = some (.int .i64 l[i].1) ∧ w.cell? ⟨b, off + i * 2 + 1, none⟩ = some (.int .i64 l[i].2))
theorem RunsAt.below {w w' : World} {v : Value} {l : List (Int × Int)} (h : RunsAt w v l) {B : Nat} (hb : Below B w w') (hB : w.heap.size ≤ B) : RunsAt w' v l := by
  obtain ⟨A, cap, e, h1, h2, h3, h4⟩ := h
  refine ⟨A, cap, e, h1, h2, h3, fun h0 => ?_⟩
  obtain ⟨b, off, e, hlt, hc⟩ := h4 h0
  exact ⟨b, off, e, Nat.lt_of_lt_of_le hlt hb.size, fun i hi => ⟨(hb.cell (p := ⟨b, off + i * 2, none⟩) (by simp; omega)).trans (hc i hi).1, (hb.cell (p := ⟨b, off + i * 2 + 1, none⟩) (by simp; omega)).trans (hc i hi).2⟩⟩
/-- a slice of runs at the head of a row that it has for itself -/
def OwnRuns (w : World) (v : Value) (l : List (Int × Int)) : Prop := SliceIs w 47 2 v l.length (runCells l)
/-- a slice that lies behind what there was -/
def Fresh (w : World) (v : Value) : Prop := ∀ k, Value.home v k → w.heap.size ≤ k
theorem Fresh.nil (w : World) : Fresh w (.slice none 0 0) := by rintro k ⟨a, n, c, e, _⟩; cases e
theorem OwnRuns.nil (w : World) : OwnRuns w (.slice none 0 0) [] := SliceIs.nil _ _ _
theorem OwnRuns.shape {w : World} {v : Value} {l : List (Int × Int)} (h : OwnRuns w v l) : ∃ A cap, v = .slice A l.length cap := by
  rcases h with ⟨a, e, h0, _⟩ | ⟨g, cap, cur, e, _⟩
  · rw [h0]; exact ⟨a, 0, e⟩
  · exact ⟨_, cap, e⟩
theorem OwnRuns.row {w : World} {v : Value} {l : List (Int × Int)} (h : OwnRuns w v l) (h0 : 0 < l.length) : ∃ g cap cur, v = .slice (some ⟨g, 0, none⟩) l.length cap ∧ Row w g 47 cur ∧ cur.take (l.length * 2) = runCells l ∧ cur.length = cap * 2 ∧ l.length ≤ cap ∧ cap ≤ 9223372036854775807 := by
  rcases h with ⟨a, e, h1, _⟩ | ⟨g, cap, cur, e, h1, h2, h3, h4, h5, _⟩
  · omega
  · exact ⟨g, cap, cur, e, h1, h2, h3, h4, h5⟩
theorem OwnRuns.at {w : World} {v : Value} {l : List (Int × Int)} (h : OwnRuns w v l) (hb : Bd l) : RunsAt w v l := by
  rcases Nat.eq_zero_or_pos l.length with h0 | h0
  · rcases h with ⟨a, e, h1, _⟩ | ⟨g, cap, cur, e, _, _, _, h4, h5, _⟩
    · exact ⟨a, 0, by rw [h0]; exact e, by omega, by omega, hb, fun h => by omega⟩
    · exact ⟨_, cap, e, h4, h5, hb, fun h => by omega⟩
  · obtain ⟨g, cap, cur, e, hr, ht, hl, h4, h5⟩ := h.row h0
    refine ⟨_, cap, e, h4, h5, hb, fun _ => ⟨g, 0, rfl, hr.lt, fun i hi => ?_⟩⟩
    have hg := runCells_get l i hi
    rw [← ht, List.getElem?_take, List.getElem?_take, if_pos (by omega), if_pos (by omega)] at hg
    exact ⟨hr.cell (by rw [Nat.zero_add]; exact hg.1), hr.cell (by rw [Nat.zero_add]; exact hg.2)⟩
theorem OwnRuns.below {w w' : World} {v : Value} {l : List (Int × Int)} (h : OwnRuns w v l) {B : Nat} (hb : Below B w w') (hB : w.heap.size ≤ B) : OwnRuns w' v l :=
  SliceIs.upd h (Upds.of_below hb hB) (F := fun _ => False) (fun _ _ h => h)
theorem OwnRuns.upd {w w' : World} {v : Value} {l : List (Int × Int)} (h : OwnRuns w v l) {F : Nat → Prop} (hu : Upds F w w') (hF : ∀ b, Value.home v b → ¬ F b) : OwnRuns w' v l := SliceIs.upd h hu hF
/-- what a call that makes a list of runs leaves -/
def Made (w : World) (l : List (Int × Int)) (e : Ending) (w' : World) : Prop := ∃ v, e = .returned v ∧ OwnRuns w' v l ∧ Fresh w v ∧ Below w.heap.size w w'

theorem ints_below {w w' : World} (hb : Below w.heap.size w w') : (∀ b o, b < w.heap.size → w'.cell? ⟨b, o, none⟩ = w.cell? ⟨b, o, none⟩) ∧ (∀ b o, b < w.heap.size → w'.frozen? ⟨b, o, none⟩ = w.frozen? ⟨b, o, none⟩) :=
  ⟨fun b o h => hb.cell (p := ⟨b, o, none⟩) h, fun b o h => hb.frozen (p := ⟨b, o, none⟩) h⟩

theorem agg2 {a b c d : Int} (h : a = c) (h' : b = d) : Ending.returned (.agg #[.int .i64 a, .int .i64 b]) = .returned (.agg #[.int .i64 c, .int .i64 d]) := by rw [h, h']
set_option maxRecDepth 100000 in
theorem existing_any (f c : Int) (w : World) (h1 : -9223372036854775808 ≤ f ∧ f ≤ 9223372036854775807 ∧ -9223372036854775808 ≤ c ∧ c ≤ 9223372036854775807) :
    Calls Try.prog 69 #[.agg #[.int .i64 f, .int .i64 c]] w fun e w' => e = .returned (.agg #[.int .i64 (ex (f, c)).1, .int .i64 (ex (f, c)).2]) ∧ Below w.heap.size w w' := by
  obtain ⟨h1, h2, h3, h4⟩ := h1
  obtain ⟨F, C, hF, hX⟩ : ∃ F C : Int, (F = (ex (f, c)).1 ∧ C = (ex (f, c)).2) ∧ (min (max c 0 + min f 0) (128 - max f 0) < 1 ∧ F = 0 ∧ C = 0 ∨ 1 ≤ min (max c 0 + min f 0) (128 - max f 0) ∧ F = max f 0 ∧ C = min (max c 0 + min f 0) (128 - max f 0)) := by
    refine ⟨_, _, ⟨rfl, rfl⟩, ?_⟩
    unfold ex
    by_cases hz : min (max c 0 + min f 0) (128 - max f 0) < 1
    · rw [if_pos (by simp only; omega)]; exact .inl ⟨hz, rfl, rfl⟩
    · rw [if_neg (by simp only; omega)]; exact .inr ⟨by omega, by simp only; omega, by simp only; omega⟩
  rw [← hF.1, ← hF.2]
  have HX := hid hX
  clear hX hF
  go_enter Try.func69, Try.ntmps69
  go_wp2_with fail
  all_goals
    have hX := HX.out
    first
    | (exfalso; omega)
    | (refine bodyPost_ret (v := .agg #[.int .i64 F, .int .i64 C]) ?_ rfl ⟨rfl, ((Below.refl _ _).alloc (Nat.le_refl _) _).alloc (by simp) _⟩
       simp [results, Try.results69, go_sem]
       omega)
    | (refine bodyPost_ret (v := .agg #[.int .i64 F, .int .i64 C]) ?_ rfl ⟨rfl, ((((Below.refl _ _).alloc (Nat.le_refl _) _).alloc (by simp) _).setCell (by simp) _).setCell (by simp) _⟩
       simp [results, Try.results69, go_sem]
       omega)
end Go.Proofs.Ytpcigmjbjcgdbaa
