import Derived.Lib.Hide
import Derived.Test.YtimeebajpegknaaApp
import Derived.Test.YtimeebajpegknaaSlices
import Derived.Test.YtimeebajpegknaaRows
import Derived.ProofKit
import Derived.BigQuiet
import Derived.Deep.QuietTactic
import Derived.Deep.RegionHeld3
import Derived.Deep.LoopGhost
import Derived.Laws.Rows
import Derived.Laws.Tables
import Derived.Deep.WholeRow
import Derived.Deep.Cut
import Derived.WalkSmall
import Derived.Laws.StructEq
import Derived.Deep.RegionLaw
import Derived.IntWalk
/-! Runs of tracks as plain mathematics: a list of runs is known by its sequence. -/
namespace Go.Proofs.Ytimeebajpegknaa

/-- the run of the existing tracks of a run -/
def ex (r : Int × Int) : Nat × Nat :=
  if min (max r.2 0 + min r.1 0) (128 - max r.1 0) < 1 then (0, 0) else ((max r.1 0).toNat, (min (max r.2 0 + min r.1 0) (128 - max r.1 0)).toNat)
theorem ex_le (r : Int × Int) : (ex r).1 + (ex r).2 ≤ 128 ∧ (ex r).1 ≤ 127 := by
  unfold ex; split
  · simp
  · constructor
    · show _ + _ ≤ _; omega
    · show (_ : Nat) ≤ _; omega
theorem ex_zero (r : Int × Int) (h : (ex r).2 = 0) : ex r = (0, 0) := by
  unfold ex at h ⊢; split
  · rfl
  · rw [if_neg ‹_›] at h; simp only at h; omega
/-- a run into a joined list -/
def addR (l : List (Nat × Nat)) (r : Nat × Nat) : List (Nat × Nat) :=
  if r.2 = 0 then l else match l.getLast? with
    | none => [r]
    | some p => if p.1 + p.2 = r.1 then l.dropLast ++ [(p.1, p.2 + r.2)] else l ++ [r]
theorem addR_zero (l : List (Nat × Nat)) (r : Nat × Nat) (h : r.2 = 0) : addR l r = l := by unfold addR; rw [if_pos h]
theorem addR_nil (r : Nat × Nat) (h : r.2 ≠ 0) : addR [] r = [r] := by unfold addR; rw [if_neg h]; rfl
theorem addR_yes (l : List (Nat × Nat)) (p r : Nat × Nat) (h : r.2 ≠ 0) (e : p.1 + p.2 = r.1) : addR (l ++ [p]) r = l ++ [(p.1, p.2 + r.2)] := by
  unfold addR; rw [if_neg h]; simp [e]
theorem addR_no (l : List (Nat × Nat)) (p r : Nat × Nat) (h : r.2 ≠ 0) (e : p.1 + p.2 ≠ r.1) : addR (l ++ [p]) r = l ++ [p] ++ [r] := by
  unfold addR; rw [if_neg h]; simp [e]
theorem snoc_or (l : List (Nat × Nat)) : l = [] ∨ ∃ l' p, l = l' ++ [p] := by
  rcases List.eq_nil_or_concat l with h | ⟨l', p, h⟩
  · exact .inl h
  · exact .inr ⟨l', p, by simpa using h⟩
def tracks (r : Nat × Nat) : List Nat := List.range' r.1 r.2
def add1 (l : List (Nat × Nat)) (t : Nat) : List (Nat × Nat) := addR l (t, 1)
def canon (s : List Nat) : List (Nat × Nat) := s.foldl add1 []
def seqOf (l : List (Nat × Nat)) : List Nat := l.flatMap tracks
theorem add_run (l : List (Nat × Nat)) (f c : Nat) : addR l (f, c) = (tracks (f, c)).foldl add1 l := by
  induction c with
  | zero => rw [addR_zero _ _ rfl]; rfl
  | succ c ih =>
    have e : tracks (f, c + 1) = tracks (f, c) ++ [f + c] := by unfold tracks; rw [List.range'_concat]; simp
    rw [e, List.foldl_append, ← ih]
    show _ = addR (addR l (f, c)) (f + c, 1)
    rcases Nat.eq_zero_or_pos c with h0 | h0
    · subst h0; rw [addR_zero l (f, 0) rfl]; rfl
    · rcases snoc_or l with rfl | ⟨l', p, rfl⟩
      · rw [addR_nil _ (by simp), addR_nil (f, c) (by simp; omega)]
        exact (addR_yes [] (f, c) (f + c, 1) (by simp) rfl).symm
      · by_cases hp : p.1 + p.2 = f
        · rw [addR_yes _ _ _ (by simp) hp, addR_yes l' p (f, c) (by simp; omega) hp, addR_yes _ _ _ (by simp) (by simp; omega)]
          simp; omega
        · rw [addR_no _ _ _ (by simp) hp, addR_no l' p (f, c) (by simp; omega) hp, addR_yes _ _ _ (by simp) (by simp)]
theorem canon_add (s : List Nat) (r : Nat × Nat) : addR (canon s) r = canon (s ++ tracks r) := by
  unfold canon; rw [List.foldl_append, ← add_run]
theorem canon_snoc (s : List Nat) (t : Nat) : canon (s ++ [t]) = addR (canon s) (t, 1) := by unfold canon; rw [List.foldl_append]; rfl
theorem canon_nil : canon [] = [] := rfl
theorem seqOf_append (a b : List (Nat × Nat)) : seqOf (a ++ b) = seqOf a ++ seqOf b := by unfold seqOf; simp
theorem seqOf_one (p : Nat × Nat) : seqOf [p] = tracks p := by unfold seqOf; simp
theorem tracks_more (f c d : Nat) : tracks (f, c + d) = tracks (f, c) ++ tracks (f + c, d) := by unfold tracks; simp [List.range'_append_1]
theorem seqOf_add (l : List (Nat × Nat)) (r : Nat × Nat) : seqOf (addR l r) = seqOf l ++ tracks r := by
  by_cases h : r.2 = 0
  · rw [addR_zero _ _ h]; unfold tracks; rw [h]; simp
  · rcases snoc_or l with rfl | ⟨l', p, rfl⟩
    · rw [addR_nil _ h, seqOf_one]; rfl
    · by_cases hp : p.1 + p.2 = r.1
      · rw [addR_yes _ _ _ h hp, seqOf_append, seqOf_append, seqOf_one, seqOf_one, tracks_more, hp, List.append_assoc]
      · rw [addR_no _ _ _ h hp, seqOf_append _ [r], seqOf_one]
theorem seqOf_canon (s : List Nat) : seqOf (canon s) = s := by
  have key : ∀ (s : List Nat) (l : List (Nat × Nat)), seqOf (s.foldl add1 l) = seqOf l ++ s := by
    intro s
    induction s with
    | nil => intro l; simp
    | cons t s ih => intro l; rw [List.foldl_cons, ih]; unfold add1; rw [seqOf_add]; simp [tracks]
  have := key s []
  simpa [canon, seqOf] using this
/-- the runs of a joined list exist, and none is empty -/
def Fine (l : List (Nat × Nat)) : Prop := ∀ r ∈ l, 0 < r.2 ∧ r.1 + r.2 ≤ 128
theorem fine_nil : Fine [] := fun _ h => by cases h
theorem fine_add {l : List (Nat × Nat)} (hl : Fine l) (r : Nat × Nat) (hr : r.1 + r.2 ≤ 128) : Fine (addR l r) := by
  by_cases h : r.2 = 0
  · rw [addR_zero _ _ h]; exact hl
  · rcases snoc_or l with rfl | ⟨l', p, rfl⟩
    · rw [addR_nil _ h]; intro x hx; simp at hx; subst hx; omega
    · have hp := hl p (by simp)
      by_cases e : p.1 + p.2 = r.1
      · rw [addR_yes _ _ _ h e]
        intro x hx
        simp only [List.mem_append, List.mem_singleton] at hx
        rcases hx with hx | rfl
        · exact hl x (by simp [hx])
        · simp only; omega
      · rw [addR_no _ _ _ h e]
        intro x hx
        rw [List.mem_append, List.mem_singleton] at hx
        rcases hx with hx | rfl
        · exact hl x hx
        · omega
theorem fine_canon (s : List Nat) (h : ∀ t ∈ s, t < 128) : Fine (canon s) := by
  have key : ∀ (s : List Nat) (l : List (Nat × Nat)), (∀ t ∈ s, t < 128) → Fine l → Fine (s.foldl add1 l) := by
    intro s
    induction s with
    | nil => intro l _ hl; exact hl
    | cons t s ih => intro l hs hl; rw [List.foldl_cons]; exact ih _ (fun x hx => hs x (by simp [hx])) (fine_add hl _ (by have := hs t (by simp); simp; omega))
  exact key s [] h fine_nil
def up (l : List (Nat × Nat)) : List (Int × Int) := l.map fun r => ((r.1 : Int), (r.2 : Int))
theorem up_len (l : List (Nat × Nat)) : (up l).length = l.length := by unfold up; simp
theorem up_inj {a b : List (Nat × Nat)} (h : up a = up b) : a = b := by
  induction a generalizing b with
  | nil => cases b with | nil => rfl | cons y b => simp [up] at h
  | cons x a ih => cases b with
    | nil => simp [up] at h
    | cons y b =>
      simp only [up, List.map_cons, List.cons.injEq, Prod.mk.injEq] at h
      obtain ⟨⟨h1, h2⟩, h3⟩ := h
      rw [ih (b := b) h3, Prod.ext (by omega : x.1 = y.1) (by omega : x.2 = y.2)]
/-- the sequence of a list of any runs -/
def seqI (l : List (Int × Int)) : List Nat := seqOf (l.map ex)
theorem seqI_nil : seqI [] = [] := rfl
theorem seqI_append (a b : List (Int × Int)) : seqI (a ++ b) = seqI a ++ seqI b := by unfold seqI; rw [List.map_append, seqOf_append]
theorem seqI_one (r : Int × Int) : seqI [r] = tracks (ex r) := by unfold seqI; exact seqOf_one _
theorem tracks_lt (f c : Nat) (h : f + c ≤ 128) : ∀ t ∈ tracks (f, c), t < 128 := by
  intro t ht; unfold tracks at ht; rw [List.mem_range'_1] at ht; omega
theorem seqI_lt (l : List (Int × Int)) : ∀ t ∈ seqI l, t < 128 := by
  intro t ht
  unfold seqI seqOf at ht
  rw [List.mem_flatMap] at ht
  obtain ⟨r, hr, ht⟩ := ht
  rw [List.mem_map] at hr
  obtain ⟨x, _, rfl⟩ := hr
  exact tracks_lt _ _ (ex_le x).1 t ht
theorem ex_nat (f c : Nat) (h : f + c ≤ 128) : tracks (ex ((f : Int), (c : Int))) = tracks (f, c) := by
  unfold ex
  split
  · have h0 : c = 0 := by simp only at *; omega
    subst h0; rfl
  · have e : ((max (f : Int) 0).toNat, (min (max (c : Int) 0 + min (f : Int) 0) (128 - max (f : Int) 0)).toNat) = (f, c) := by
      rw [Prod.mk.injEq]; constructor <;> omega
    show tracks (_, _) = _
    rw [e]
theorem ex_fine (r : Nat × Nat) (h : 0 < r.2 ∧ r.1 + r.2 ≤ 128) : ex ((r.1 : Int), (r.2 : Int)) = r := by
  unfold ex
  rw [if_neg (by simp only; omega)]
  apply Prod.ext <;> simp only <;> omega
theorem seqI_up (l : List (Nat × Nat)) (h : Fine l) : seqI (up l) = seqOf l := by
  unfold seqI up
  rw [List.map_map]
  have e : l.map (ex ∘ fun r => ((r.1 : Int), (r.2 : Int))) = l := by
    conv => rhs; rw [← List.map_id l]
    exact List.map_congr_left fun r hr => ex_fine r (h r hr)
  rw [e]
theorem seqI_canon (s : List Nat) (h : ∀ t ∈ s, t < 128) : seqI (up (canon s)) = s := by rw [seqI_up _ (fine_canon s h), seqOf_canon]
theorem canon_inj {a b : List Nat} (h : canon a = canon b) : a = b := by rw [← seqOf_canon a, ← seqOf_canon b, h]
/-- the tracks of a set in order -/
def ofB (B : Nat → Bool) : List Nat := (List.range 128).filter B
theorem ofB_lt (B : Nat → Bool) : ∀ t ∈ ofB B, t < 128 := fun t ht => by unfold ofB at ht; rw [List.mem_filter, List.mem_range] at ht; exact ht.1
theorem mem_ofB (B : Nat → Bool) (t : Nat) : t ∈ ofB B ↔ t < 128 ∧ B t = true := by unfold ofB; rw [List.mem_filter, List.mem_range]
theorem ofB_congr {A B : Nat → Bool} (h : ∀ t, t < 128 → A t = B t) : ofB A = ofB B := by
  unfold ofB; exact List.filter_congr fun t ht => h t (List.mem_range.1 ht)
theorem ofB_inj {A B : Nat → Bool} (h : ofB A = ofB B) (t : Nat) (ht : t < 128) : A t = B t := by
  have h1 := mem_ofB A t
  have h2 := mem_ofB B t
  rw [h] at h1
  have h3 : A t = true ↔ B t = true := ⟨fun ha => (h2.1 (h1.2 ⟨ht, ha⟩)).2, fun hb => (h1.1 (h2.2 ⟨ht, hb⟩)).2⟩
  exact Bool.eq_iff_iff.2 h3
def inB (l : List (Int × Int)) (t : Nat) : Bool := (seqI l).contains t
theorem inB_canon (B : Nat → Bool) (t : Nat) (ht : t < 128) : inB (up (canon (ofB B))) t = B t := by
  unfold inB
  rw [seqI_canon _ (ofB_lt B), Bool.eq_iff_iff, List.contains_iff_mem, mem_ofB]
  simp [ht]
/-- the set in its normal form -/
def norm (B : Nat → Bool) : List (Int × Int) := up (canon (ofB B))
/-- the first tracks of a set, up to a track -/
def upto (B : Nat → Bool) (n : Nat) : List Nat := (List.range n).filter B
theorem upto_succ (B : Nat → Bool) (n : Nat) : upto B (n + 1) = if B n then upto B n ++ [n] else upto B n := by
  unfold upto; rw [List.range_succ, List.filter_append]
  by_cases h : B n <;> simp [h]
theorem upto_all (B : Nat → Bool) : upto B 128 = ofB B := rfl
theorem canon_len (s : List Nat) : (canon s).length ≤ s.length := by
  have key : ∀ (s : List Nat) (l : List (Nat × Nat)), (s.foldl add1 l).length ≤ l.length + s.length := by
    intro s
    induction s with
    | nil => intro l; simp
    | cons t s ih =>
      intro l
      rw [List.foldl_cons]
      have h1 := ih (add1 l t)
      have h2 : (add1 l t).length ≤ l.length + 1 := by
        unfold add1
        rcases snoc_or l with rfl | ⟨l', p, rfl⟩
        · rw [addR_nil _ (by simp)]; simp
        · by_cases e : p.1 + p.2 = t
          · rw [addR_yes _ _ _ (by simp) e]; simp
          · rw [addR_no _ _ _ (by simp) e]; simp
      simp only [List.length_cons]; omega
  simpa [canon] using key s []
theorem addR_len (l : List (Nat × Nat)) (r : Nat × Nat) : (addR l r).length ≤ l.length + 1 := by
  by_cases h : r.2 = 0
  · rw [addR_zero _ _ h]; omega
  · rcases snoc_or l with rfl | ⟨l', p, rfl⟩
    · rw [addR_nil _ h]; simp
    · by_cases e : p.1 + p.2 = r.1
      · rw [addR_yes _ _ _ h e]; simp
      · rw [addR_no _ _ _ h e]; simp
end Go.Proofs.Ytimeebajpegknaa
/-! Slices of runs in memory. -/
namespace Go.Proofs.Ytimeebajpegknaa
open Go.Lib Go.ChangeShapes Go.WideShapes Go.ChangeAt Go.RowKit

/-- the cells of a list of runs -/
def runCells (l : List (Int × Int)) : List Value := l.flatMap fun r => [.int .i64 r.1, .int .i64 r.2]
theorem runCells_append (a b : List (Int × Int)) : runCells (a ++ b) = runCells a ++ runCells b := by unfold runCells; simp
theorem runCells_len (l : List (Int × Int)) : (runCells l).length = l.length * 2 := by
  induction l with
  | nil => rfl
  | cons x l ih => show (_ :: _ :: runCells l).length = _; simp only [List.length_cons, ih]; omega
theorem runCells_get (l : List (Int × Int)) (i : Nat) (h : i < l.length) : (runCells l)[i * 2]? = some (.int .i64 l[i].1) ∧ (runCells l)[i * 2 + 1]? = some (.int .i64 l[i].2) := by
  induction l generalizing i with
  | nil => simp at h
  | cons x l ih =>
    cases i with
    | zero => exact ⟨rfl, rfl⟩
    | succ i =>
      have h1 := ih i (by simpa using h)
      have e1 : (i + 1) * 2 = i * 2 + 1 + 1 := by omega
      have e2 : (i + 1) * 2 + 1 = i * 2 + 1 + 1 + 1 := by omega
      rw [e2, e1]
      exact h1
def Bd (l : List (Int × Int)) : Prop := ∀ r ∈ l, -9223372036854775808 ≤ r.1 ∧ r.1 ≤ 9223372036854775807 ∧ -9223372036854775808 ≤ r.2 ∧ r.2 ≤ 9223372036854775807
theorem Bd.up {l : List (Nat × Nat)} (h : Fine l) : Bd (up l) := by
  intro r hr
  unfold Proofs.Ytimeebajpegknaa.up at hr
  rw [List.mem_map] at hr
  obtain ⟨x, hx, rfl⟩ := hr
  have := h x hx
  simp only; omega
/-- a slice that reads as a list of runs -/
def RunsAt (w : World) (v : Value) (l : List (Int × Int)) : Prop :=
  ∃ A cap, v = .slice A l.length cap ∧ l.length ≤ cap ∧ cap ≤ 9223372036854775807 ∧ Bd l ∧
    (0 < l.length → ∃ b off, A = some ⟨b, off, none⟩ ∧ b < w.heap.size ∧ ∀ i (h : i < l.length), w.cell? ⟨b, off + i * 2, none⟩ = some (.int .i64 l[i].1) ∧ w.cell? ⟨b, off + i * 2 + 1, none⟩ = some (.int .i64 l[i].2))
theorem RunsAt.below {w w' : World} {v : Value} {l : List (Int × Int)} (h : RunsAt w v l) {B : Nat} (hb : Below B w w') (hB : w.heap.size ≤ B) : RunsAt w' v l := by
  obtain ⟨A, cap, e, h1, h2, h3, h4⟩ := h
  refine ⟨A, cap, e, h1, h2, h3, fun h0 => ?_⟩
  obtain ⟨b, off, e, hlt, hc⟩ := h4 h0
  exact ⟨b, off, e, Nat.lt_of_lt_of_le hlt hb.size, fun i hi => ⟨(hb.cell (p := ⟨b, off + i * 2, none⟩) (by simp; omega)).trans (hc i hi).1, (hb.cell (p := ⟨b, off + i * 2 + 1, none⟩) (by simp; omega)).trans (hc i hi).2⟩⟩
/-- a slice of runs at the head of a row that it has for itself -/
def OwnRuns (w : World) (v : Value) (l : List (Int × Int)) : Prop := SliceIs w 47 2 v l.length (runCells l)
/-- a slice that lies behind what there was -/
def Fresh (w : World) (v : Value) : Prop := ∀ k, Value.home v k → w.heap.size ≤ k
theorem Fresh.nil (w : World) : Fresh w (.slice none 0 0) := by rintro k ⟨a, n, c, e, _⟩; cases e
theorem OwnRuns.nil (w : World) : OwnRuns w (.slice none 0 0) [] := SliceIs.nil _ _ _
theorem OwnRuns.shape {w : World} {v : Value} {l : List (Int × Int)} (h : OwnRuns w v l) : ∃ A cap, v = .slice A l.length cap := by
  rcases h with ⟨a, e, h0, _⟩ | ⟨g, cap, cur, e, _⟩
  · rw [h0]; exact ⟨a, 0, e⟩
  · exact ⟨_, cap, e⟩
theorem OwnRuns.row {w : World} {v : Value} {l : List (Int × Int)} (h : OwnRuns w v l) (h0 : 0 < l.length) : ∃ g cap cur, v = .slice (some ⟨g, 0, none⟩) l.length cap ∧ Row w g 47 cur ∧ cur.take (l.length * 2) = runCells l ∧ cur.length = cap * 2 ∧ l.length ≤ cap ∧ cap ≤ 9223372036854775807 := by
  rcases h with ⟨a, e, h1, _⟩ | ⟨g, cap, cur, e, h1, h2, h3, h4, h5, _⟩
  · omega
  · exact ⟨g, cap, cur, e, h1, h2, h3, h4, h5⟩
theorem OwnRuns.at {w : World} {v : Value} {l : List (Int × Int)} (h : OwnRuns w v l) (hb : Bd l) : RunsAt w v l := by
  rcases Nat.eq_zero_or_pos l.length with h0 | h0
  · rcases h with ⟨a, e, h1, _⟩ | ⟨g, cap, cur, e, _, _, _, h4, h5, _⟩
    · exact ⟨a, 0, by rw [h0]; exact e, by omega, by omega, hb, fun h => by omega⟩
    · exact ⟨_, cap, e, h4, h5, hb, fun h => by omega⟩
  · obtain ⟨g, cap, cur, e, hr, ht, hl, h4, h5⟩ := h.row h0
    refine ⟨_, cap, e, h4, h5, hb, fun _ => ⟨g, 0, rfl, hr.lt, fun i hi => ?_⟩⟩
    have hg := runCells_get l i hi
    rw [← ht, List.getElem?_take, List.getElem?_take, if_pos (by omega), if_pos (by omega)] at hg
    exact ⟨hr.cell (by rw [Nat.zero_add]; exact hg.1), hr.cell (by rw [Nat.zero_add]; exact hg.2)⟩
theorem OwnRuns.below {w w' : World} {v : Value} {l : List (Int × Int)} (h : OwnRuns w v l) {B : Nat} (hb : Below B w w') (hB : w.heap.size ≤ B) : OwnRuns w' v l :=
  SliceIs.upd h (Upds.of_below hb hB) (F := fun _ => False) (fun _ _ h => h)
theorem OwnRuns.upd {w w' : World} {v : Value} {l : List (Int × Int)} (h : OwnRuns w v l) {F : Nat → Prop} (hu : Upds F w w') (hF : ∀ b, Value.home v b → ¬ F b) : OwnRuns w' v l := SliceIs.upd h hu hF
/-- what a call that makes a list of runs leaves -/
def Made (w : World) (l : List (Int × Int)) (e : Ending) (w' : World) : Prop := ∃ v, e = .returned v ∧ OwnRuns w' v l ∧ Fresh w v ∧ Below w.heap.size w w'

theorem ints_below {w w' : World} (hb : Below w.heap.size w w') : (∀ b o, b < w.heap.size → w'.cell? ⟨b, o, none⟩ = w.cell? ⟨b, o, none⟩) ∧ (∀ b o, b < w.heap.size → w'.frozen? ⟨b, o, none⟩ = w.frozen? ⟨b, o, none⟩) :=
  ⟨fun b o h => hb.cell (p := ⟨b, o, none⟩) h, fun b o h => hb.frozen (p := ⟨b, o, none⟩) h⟩

theorem agg2 {a b c d : Int} (h : a = c) (h' : b = d) : Ending.returned (.agg #[.int .i64 a, .int .i64 b]) = .returned (.agg #[.int .i64 c, .int .i64 d]) := by rw [h, h']
set_option maxRecDepth 100000 in
theorem existing_any (f c : Int) (w : World) (h1 : -9223372036854775808 ≤ f ∧ f ≤ 9223372036854775807 ∧ -9223372036854775808 ≤ c ∧ c ≤ 9223372036854775807) :
    Calls Try.prog 69 #[.agg #[.int .i64 f, .int .i64 c]] w fun e w' => e = .returned (.agg #[.int .i64 (ex (f, c)).1, .int .i64 (ex (f, c)).2]) ∧ Below w.heap.size w w' := by
  obtain ⟨h1, h2, h3, h4⟩ := h1
  obtain ⟨F, C, hF, hX⟩ : ∃ F C : Int, (F = (ex (f, c)).1 ∧ C = (ex (f, c)).2) ∧ (min (max c 0 + min f 0) (128 - max f 0) < 1 ∧ F = 0 ∧ C = 0 ∨ 1 ≤ min (max c 0 + min f 0) (128 - max f 0) ∧ F = max f 0 ∧ C = min (max c 0 + min f 0) (128 - max f 0)) := by
    refine ⟨_, _, ⟨rfl, rfl⟩, ?_⟩
    unfold ex
    by_cases hz : min (max c 0 + min f 0) (128 - max f 0) < 1
    · rw [if_pos (by simp only; omega)]; exact .inl ⟨hz, rfl, rfl⟩
    · rw [if_neg (by simp only; omega)]; exact .inr ⟨by omega, by simp only; omega, by simp only; omega⟩
  rw [← hF.1, ← hF.2]
  have HX := hid hX
  clear hX hF
  go_enter Try.func69, Try.ntmps69
  go_wp2_with fail
  all_goals
    have hX := HX.out
    first
    | (exfalso; omega)
    | (refine bodyPost_ret (v := .agg #[.int .i64 F, .int .i64 C]) ?_ rfl ⟨rfl, ((Below.refl _ _).alloc (Nat.le_refl _) _).alloc (by simp) _⟩
       simp [results, Try.results69, go_sem]
       omega)
    | (refine bodyPost_ret (v := .agg #[.int .i64 F, .int .i64 C]) ?_ rfl ⟨rfl, ((((Below.refl _ _).alloc (Nat.le_refl _) _).alloc (by simp) _).setCell (by simp) _).setCell (by simp) _⟩
       simp [results, Try.results69, go_sem]
       omega)
end Go.Proofs.Ytimeebajpegknaa
/-! Appending a list of runs, also an empty one, also under a guard. -/
namespace Go.Proofs.Ytimeebajpegknaa
open Go.Lib Go.ChangeShapes Go.WideShapes Go.ChangeAt Go.RowKit

theorem run_append_zero {P : Program} {w : World} (t ty e : TypeId) (i : TypeInfo) (ht : P.underlying t = some (.slice e)) (hi : P.info? e = some i)
    (A : Option Addr) (n cap : Nat) (hn : n ≤ cap) (B : Option Addr) (c : Nat) : (Builtin.append_ #[t, t] ty #[.slice A n cap, .slice B 0 c]).run P w = .ok (.slice A n cap) w := by
  cases A <;> cases B <;> simp [Builtin.append_, run_underlying ht, sizeOf, typeInfo, hi, Builtin.lenOf, Builtin.firstCells, loadCells, loadCellsFrom, storeCells, hn]
theorem step_append_runs {ops : Array Oper} {o : Oper} {a : Act} {w : World} {K : Act → World → Prop} {Q : Exit → Act → World → Prop} {E : Prop} (hw : Region.wanted o (yielded ops a.tmps) = true) (s x : Operand)
    (ho : o.op = .call { callee := .builtin .append, args := #[s, x], argTypes := #[22, 22] })
    (v : Value) (l : List (Int × Int)) (hs : a.eval s = v) (hp : OwnRuns w v l) (u : Value) (l2 : List (Int × Int)) (hx : a.eval x = u) (hr : RunsAt w u l2) (hl : l.length ≤ 100000) (hl2 : l2.length ≤ 100000)
    (h : ∀ v' w', Hid (OwnRuns w' v' (l ++ l2)) → Hid (Upds (Value.home v) w w') → Hid (∀ k, Value.home v' k → Value.home v k ∨ w.heap.size ≤ k) → K (a.put o.dst v') w') :
    if Region.wanted o (yielded ops a.tmps) = true then Oper.wp Try.prog o a w K Q else E := by
  rw [if_pos hw]
  have hinfo : (Try.prog.info? 47).map (fun i => (i.zero, i.size, i.bytes)) = some (some (.agg #[.int .i64 0, .int .i64 0]), 2, 16) := by kernel_rfl
  obtain ⟨i, hi, hzz⟩ := Option.map_eq_some_iff.1 hinfo
  simp only [Prod.mk.injEq] at hzz
  obtain ⟨hz, hsz, hb⟩ := hzz
  obtain ⟨B, c, rfl, hc1, hc2, hbd, hcell⟩ := hr
  rcases Nat.eq_zero_or_pos l2.length with h0 | h0
  · have e0 : l2 = [] := List.eq_nil_of_length_eq_zero h0
    subst e0
    obtain ⟨A, cap, rfl⟩ := hp.shape
    have hcap : l.length ≤ cap := by
      rcases hp with ⟨a', e, h1, _⟩ | ⟨g, cap', cur, e, _, _, _, h4, _⟩
      · omega
      · simp only [Value.slice.injEq] at e; omega
    have hrun := run_append_zero (P := Try.prog) (w := w) 22 o.type 47 i Try.underlying22 hi A l.length cap hcap B c
    unfold Oper.wp execOp
    simp only [ho, resolve, invoke, builtin, Sem.run_bind, Sem.run_pure, Result.andThen_ok, List.map_toArray, List.map_cons, List.map_nil, hs, hx, List.length_nil, hrun]
    exact h _ _ (by rw [List.append_nil]; exact hp) (Upds.refl _ _) (fun k hk => .inl hk)
  · obtain ⟨b, off, rfl, hlt, hcells⟩ := hcell h0
    have hnews : ∀ j u, (runCells l2)[j]? = some u → w.cell? ((⟨b, off, none⟩ : Addr).add j) = some u := by
      intro j u hj
      rw [Go.WideShapes.add_plain]
      have hjl : j < l2.length * 2 := by
        rw [← runCells_len]
        rcases Nat.lt_or_ge j (runCells l2).length with h | h
        · exact h
        · rw [List.getElem?_eq_none h] at hj; cases hj
      have hk : j / 2 < l2.length := by omega
      have hg := runCells_get l2 (j / 2) hk
      have hcc := hcells (j / 2) hk
      rcases Nat.mod_two_eq_zero_or_one j with hm | hm
      · have e : j / 2 * 2 = j := by omega
        rw [e] at hg hcc
        rw [hg.1] at hj
        cases hj
        exact hcc.1
      · have e : j / 2 * 2 + 1 = j := by omega
        rw [Nat.add_assoc, e] at hcc
        rw [e] at hg
        rw [hg.2] at hj
        cases hj
        exact hcc.2
    have hone : ∀ u ∈ runCells l2, u.oneCell' = true := by
      intro u hu
      unfold runCells at hu
      rw [List.mem_flatMap] at hu
      obtain ⟨r, _, hu⟩ := hu
      simp only [List.mem_cons, List.not_mem_nil, or_false] at hu
      rcases hu with rfl | rfl <;> rfl
    obtain ⟨g, cap, w', hrun, h2, h3, h4⟩ := run_append_slice (P := Try.prog) 22 o.type 47 i _ 2 16 Try.underlying22 hi hz hsz hb (by rfl) v l.length (runCells l) hp ⟨b, off, none⟩ l2.length c (runCells l2) (runCells_len l2) hnews hone h0 (by omega) (by omega)
    unfold Oper.wp execOp
    simp only [ho, resolve, invoke, builtin, Sem.run_bind, Sem.run_pure, Result.andThen_ok, List.map_toArray, List.map_cons, List.map_nil, hs, hx, hrun]
    refine h _ _ ?_ h3 h4
    show SliceIs _ _ _ _ _ _
    rw [List.length_append, runCells_append]
    exact h2
set_option linter.unusedVariables false in
theorem wpList_append_runs {ops : Array Oper} {rest : List Oper} {o : Oper} {a : Act} {w : World} {Q : Exit → Act → World → Prop} (hw : Region.wanted o (yielded ops a.tmps) = true) (s x : Operand)
    (ho : o.op = .call { callee := .builtin .append, args := #[s, x], argTypes := #[22, 22] })
    (v : Value) (l : List (Int × Int)) (hs : a.eval s = v) (hp : OwnRuns w v l) (u : Value) (l2 : List (Int × Int)) (hx : a.eval x = u) (hr : RunsAt w u l2) (hl : l.length ≤ 100000) (hl2 : l2.length ≤ 100000)
    (h : ∀ v' w', Hid (OwnRuns w' v' (l ++ l2)) → Hid (Upds (Value.home v) w w') → Hid (∀ k, Value.home v' k → Value.home v k ∨ w.heap.size ≤ k) → wpList Try.prog ops Q rest (a.put o.dst v') w') :
    wpList Try.prog ops Q (o :: rest) a w :=
  wpList_step fun K hK => step_append_runs hw s x ho v l hs hp u l2 hx hr hl hl2 (fun v' w' h1 h2 h3 => hK _ _ (h v' w' h1 h2 h3))
end Go.Proofs.Ytimeebajpegknaa
namespace Go.Proofs.Ytimeebajpegknaa
open Go.Lib Go.ChangeShapes Go.WideShapes Go.ChangeAt Go.RowKit

/-- what 'add' answers -/
def AddPost (v : Value) (l : List (Int × Int)) (w : World) (e : Ending) (w' : World) : Prop :=
  ∃ v', e = .returned v' ∧ OwnRuns w' v' l ∧ Upds (Value.home v) w w' ∧ (∀ k, Value.home v' k → Value.home v k ∨ w.heap.size ≤ k)
theorem up_append (a b : List (Nat × Nat)) : up (a ++ b) = up a ++ up b := by unfold up; simp
theorem news2 (w : World) (x y : Value) (t : TypeId) (g : Nat) (hg : g = w.heap.size) : ∀ j u, [x, y][j]? = some u → (w.alloc (.cells #[x, y] t)).cell? ((⟨g, 0, none⟩ : Addr).add j) = some u := by
  intro j u hj
  subst hg
  rw [Go.WideShapes.add_plain, Nat.zero_add]
  exact (Row.new w [x, y] t).cell hj
theorem one2 (a b : Int) : ∀ u ∈ [Value.int .i64 a, Value.int .i64 b], u.oneCell' = true := by simp [Value.oneCell']
set_option maxRecDepth 100000 in
theorem add_zero (v : Value) (l : List (Nat × Nat)) (f : Nat) (w : World) (hs : OwnRuns w v (up l)) :
    Calls Try.prog 70 #[v, .agg #[.int .i64 f, .int .i64 (0 : Nat)]] w (AddPost v (up l) w) := by
  have HS := hid hs
  clear hs
  go_enter Try.func70, Try.ntmps70
  go_wp2_with fail
  go_ret
  exact ⟨v, rfl, SliceIs.alloc HS.out _, Upds.alloc _ _, fun k hk => .inl hk⟩
set_option maxRecDepth 100000 in
theorem add_first (v : Value) (f c : Nat) (h0 : 0 < c) (w : World) (hs : OwnRuns w v []) (_hr : f + c ≤ 128) :
    Calls Try.prog 70 #[v, .agg #[.int .i64 f, .int .i64 c]] w (AddPost v [((f : Int), (c : Int))] w) := by
  obtain ⟨A, cap, rfl⟩ : ∃ A cap, v = .slice A 0 cap := hs.shape
  have HS := hid hs
  clear hs
  have hc : ((c : Int) == 0) = false := by simp; omega
  go_enter Try.func70, Try.ntmps70
  go_wp2_with fail
  go_quiet (fail)
  go_wp2_with (with_reducible refine wpList_append_slice rfl (.tmp 42) (.tmp 44) 22 rfl 47 (.agg #[.int .i64 0, .int .i64 0]) 2 16 Try.underlying22 (by kernel_rfl) (by kernel_rfl) (.slice A 0 cap) 0 [] rfl ?_ ⟨w.heap.size + 1, 0, none⟩ 1 1 [.int .i64 f, .int .i64 c] rfl rfl ?_ (one2 _ _) (by omega) (by omega) (by omega) ?_)
  case refine_1 => exact SliceIs.alloc (SliceIs.upd (F := fun _ => False) (SliceIs.alloc HS.out _) (Upds.drewN _ _) (fun _ _ h => h)) _
  case refine_2 => exact news2 _ _ _ _ _ (by simp)
  case refine_3 =>
    intro g cap2 w2 hs2 hu2 hh2
    go_wp2_with fail
    go_ret
    exact ⟨_, rfl, hs2.out, (((Upds.alloc _ _).trans (Upds.drewN _ _)).trans (Upds.alloc _ _)).trans hu2.out, fun k hk => (hh2.out k hk).imp id (by omega)⟩
set_option maxRecDepth 100000 in
theorem add_more (v : Value) (l : List (Int × Int)) (p1 p2 f c : Nat) (h0 : 0 < c) (w : World) (hs : OwnRuns w v (l ++ [((p1 : Int), (p2 : Int))])) (hp : p1 + p2 ≤ 128) (_hr : f + c ≤ 128) (hl : l.length ≤ 4000) (hne : p1 + p2 ≠ f) :
    Calls Try.prog 70 #[v, .agg #[.int .i64 f, .int .i64 c]] w (AddPost v (l ++ [((p1 : Int), (p2 : Int))] ++ [((f : Int), (c : Int))]) w) := by
  obtain ⟨g, cap, cur, e, hrow, htk, hcl, hnc, hcm⟩ := hs.row (by simp)
  obtain ⟨n, hn⟩ : ∃ n, n = l.length := ⟨_, rfl⟩
  have hn1 : (l ++ [((p1 : Int), (p2 : Int))]).length = n + 1 := by simp [hn]
  have hg := runCells_get (l ++ [((p1 : Int), (p2 : Int))]) n (by simp [hn])
  rw [← htk, List.getElem?_take, List.getElem?_take, if_pos (by simp; omega), if_pos (by simp; omega)] at hg
  have hx : (l ++ [((p1 : Int), (p2 : Int))])[n]'(by simp [hn]) = ((p1 : Int), (p2 : Int)) := by subst hn; simp
  rw [hx] at hg
  have c1 := hrow.cell hg.1
  have c2 := hrow.cell hg.2
  have HRow := hid hrow
  unfold OwnRuns at hs
  rw [hn1] at hs e
  have HS := hid hs
  have hlt := hrow.lt
  have hn4 : n ≤ 4000 := by omega
  have hnl : (l ++ [((p1 : Int), (p2 : Int))]).length = n + 1 := hn1
  clear hs htk hcl hg hx hn1 hrow hn
  subst e
  have hc : ((c : Int) == 0) = false := by simp; omega
  have hq : ((p1 : Int) + p2 == f) = false := by simp; omega
  obtain ⟨L2, hL2⟩ : ∃ L2, L2 = l ++ [((p1 : Int), (p2 : Int))] ++ [((f : Int), (c : Int))] := ⟨_, rfl⟩
  obtain ⟨cs, hcs⟩ : ∃ cs, cs = runCells (l ++ [((p1 : Int), (p2 : Int))]) := ⟨_, rfl⟩
  rw [← hL2]
  rw [← hcs] at HS
  have hL3 : runCells L2 = cs ++ [.int .i64 f, .int .i64 c] := by rw [hL2, runCells_append, ← hcs]; rfl
  have hL4 : L2.length = n + 1 + 1 := by rw [hL2, List.length_append, hnl]; rfl
  have HL3 := hid hL3
  have HL4 := hid hL4
  clear hL2 hcs hL3 hL4 hnl
  go_enter Try.func70, Try.ntmps70
  go_wp2_with fail
  go_quiet (fail)
  go_wp2_with (with_reducible refine wpList_append_slice rfl (.tmp 42) (.tmp 44) 22 rfl 47 (.agg #[.int .i64 0, .int .i64 0]) 2 16 Try.underlying22 (by kernel_rfl) (by kernel_rfl) (.slice (some ⟨g, 0, none⟩) (n + 1) cap) (n + 1) cs rfl ?_ ⟨w.heap.size + 1, 0, none⟩ 1 1 [.int .i64 f, .int .i64 c] rfl rfl ?_ (one2 _ _) (by omega) (by omega) (by omega) ?_)
  case refine_1 => exact SliceIs.alloc (SliceIs.upd (F := fun _ => False) (SliceIs.alloc HS.out _) (Upds.drewN _ _) (fun _ _ h => h)) _
  case refine_2 => exact news2 _ _ _ _ _ (by simp)
  case refine_3 =>
    intro g2 cap2 w2 hs2 hu2 hh2
    go_wp2_with fail
    go_ret
    refine ⟨_, rfl, ?_, (((Upds.alloc _ _).trans (Upds.drewN _ _)).trans (Upds.alloc _ _)).trans hu2.out, fun k hk => (hh2.out k hk).imp id (by omega)⟩
    unfold OwnRuns
    rw [HL3.out, HL4.out]
    exact hs2.out
set_option maxRecDepth 100000 in
theorem add_on (v : Value) (l : List (Int × Int)) (p1 p2 f c : Nat) (h0 : 0 < c) (w : World) (hs : OwnRuns w v (l ++ [((p1 : Int), (p2 : Int))])) (hp : p1 + p2 ≤ 128) (hr : f + c ≤ 128) (hl : l.length ≤ 4000) (hne : p1 + p2 = f) :
    Calls Try.prog 70 #[v, .agg #[.int .i64 f, .int .i64 c]] w (AddPost v (l ++ [((p1 : Int), ((p2 + c : Nat) : Int))]) w) := by
  obtain ⟨g, cap, cur, e, hrow, htk, hcl, hnc, hcm⟩ := hs.row (by simp)
  obtain ⟨n, hn⟩ : ∃ n, n = l.length := ⟨_, rfl⟩
  have hn1 : (l ++ [((p1 : Int), (p2 : Int))]).length = n + 1 := by simp [hn]
  have hg := runCells_get (l ++ [((p1 : Int), (p2 : Int))]) n (by simp [hn])
  rw [← htk, List.getElem?_take, List.getElem?_take, if_pos (by simp; omega), if_pos (by simp; omega)] at hg
  have hx : (l ++ [((p1 : Int), (p2 : Int))])[n]'(by simp [hn]) = ((p1 : Int), (p2 : Int)) := by subst hn; simp
  rw [hx] at hg
  have c1 := hrow.cell hg.1
  have c2 := hrow.cell hg.2
  have hfr := hrow.frozen (n * 2 + 1)
  have hlt := hrow.lt
  have hn4 : n ≤ 4000 := by omega
  have hown : ∀ w2, Row w2 g 47 (cur.set (n * 2 + 1) (.int .i64 ((p2 : Int) + c))) → SliceIs w2 47 2 (.slice (some ⟨g, 0, none⟩) (n + 1) cap) (n + 1) (runCells (l ++ [((p1 : Int), ((p2 + c : Nat) : Int))])) := by
    intro w2 hr2
    rw [hn1] at hnc htk
    refine .inr ⟨g, cap, _, rfl, hr2, ?_, by rw [List.length_set]; exact hcl, hnc, hcm, by omega⟩
    rw [List.take_set, htk, runCells_append, List.set_append_right _ _ (by rw [runCells_len]; omega), runCells_len, runCells_append]
    have e9 : n * 2 + 1 - l.length * 2 = 1 := by omega
    rw [e9]
    simp [runCells]
  have HO := hid hown
  have HRow := hid hrow
  have hpos : 0 < cap := by rw [hn1] at hnc; omega
  rw [hn1] at e
  clear hs htk hcl hg hx hn1 hrow hown
  subst e
  have hc : ((c : Int) == 0) = false := by simp; omega
  have hq : ((p1 : Int) + p2 == f) = true := by simp; omega
  obtain ⟨L2, hL2⟩ : ∃ L2, L2 = l ++ [((p1 : Int), ((p2 + c : Nat) : Int))] := ⟨_, rfl⟩
  rw [← hL2] at HO ⊢
  have hL4 : L2.length = n + 1 := by rw [hL2, List.length_append, hn]; rfl
  have HL4 := hid hL4
  clear hL2 hL4 hn
  go_enter Try.func70, Try.ntmps70
  go_wp2_with fail
  go_quiet (fail)
  go_wp2_with fail
  obtain ⟨w1, hw1⟩ : ∃ w1, w1 = (w.alloc (.cells #[.int .i64 f, .int .i64 c] 47)).drewN nq := ⟨_, rfl⟩
  have hu1 : Upds (fun _ => False) w w1 := by rw [hw1]; exact (Upds.alloc _ _).trans (Upds.drewN _ _)
  obtain ⟨bx, hbx⟩ : ∃ bx, bx = w.heap.size := ⟨_, rfl⟩
  have k1 : w1.cell? ⟨bx, 1, none⟩ = some (.int .i64 c) := by rw [hw1, hbx]; simp
  have d1 := hu1.cell (fun h => h) c1
  have d2 := hu1.cell (fun h => h) c2
  have hrow1 := HRow.out.upd hu1 (fun h => h)
  have hfr1 := hrow1.frozen (n * 2 + 1)
  have HU1 := hid hu1
  have HR1 := hid hrow1
  rw [← hw1, ← hbx]
  have HBX := hid hbx
  clear hw1 hu1 hrow1 c1 c2 hfr hbx HRow
  go_region
  go_wp2_with fail
  go_ret
  refine ⟨.slice (some ⟨g, 0, none⟩) (n + 1) cap, rfl, ?_, ((HU1.out.mono (fun _ h => h.elim)).trans (Upds.set w1 _ _ ⟨_, _, _, rfl, hpos, rfl⟩)).trans (Upds.drew _), fun k hk => .inl hk⟩
  unfold OwnRuns
  rw [HL4.out]
  exact HO.out _ (HR1.out.set (n * 2 + 1) (.int .i64 ((p2 : Int) + c)))
theorem add_any (v : Value) (l : List (Nat × Nat)) (f c : Nat) (w : World) (hs : OwnRuns w v (up l)) (hf : Fine l) (hr : f + c ≤ 128) (hl : l.length ≤ 4000) :
    Calls Try.prog 70 #[v, .agg #[.int .i64 f, .int .i64 c]] w (AddPost v (up (addR l (f, c))) w) := by
  rcases Nat.eq_zero_or_pos c with h0 | h0
  · subst h0
    rw [addR_zero _ _ rfl]
    exact add_zero v l f w hs
  · rcases snoc_or l with rfl | ⟨l', p, rfl⟩
    · rw [addR_nil _ (by simp; omega)]
      exact add_first v f c h0 w hs hr
    · have hp := hf p (by simp)
      rw [up_append] at hs
      have hl' : (up l').length ≤ 4000 := by rw [up_len]; simp at hl; omega
      by_cases e : p.1 + p.2 = f
      · rw [addR_yes _ _ _ (by simp; omega) e, up_append]
        exact add_on v (up l') p.1 p.2 f c h0 w hs hp.2 hr hl' e
      · rw [addR_no _ _ _ (by simp; omega) e, up_append, up_append]
        exact add_more v (up l') p.1 p.2 f c h0 w hs hp.2 hr hl' e
/-- the same for a list that is told by its sequence, of a slice that lies behind what there was -/
def AddMade (W : World) (s : List Nat) (w : World) (e : Ending) (w' : World) : Prop := ∃ v, e = .returned v ∧ OwnRuns w' v (up (canon s)) ∧ Fresh W v ∧ Below W.heap.size w w'
theorem add_made (W : World) (v : Value) (s : List Nat) (f c : Nat) (w : World) (hs : OwnRuns w v (up (canon s))) (hfr : Fresh W v) (h : ∀ t ∈ s, t < 128) (hr : f + c ≤ 128) (hl : (canon s).length ≤ 4000) (hW : W.heap.size ≤ w.heap.size) :
    Calls Try.prog 70 #[v, .agg #[.int .i64 f, .int .i64 c]] w (AddMade W (s ++ tracks (f, c)) w) := by
  refine (add_any v (canon s) f c w hs (fine_canon s h) hr hl).mono ?_
  rintro e w' ⟨v', rfl, h1, h2, h3⟩
  rw [canon_add] at h1
  exact ⟨v', rfl, h1, fun k hk => (h3 k hk).elim (hfr k) (by omega), h2.below hW hfr⟩
theorem add_seq (v : Value) (s : List Nat) (f c : Nat) (w : World) (hs : OwnRuns w v (up (canon s))) (h : ∀ t ∈ s, t < 128) (hr : f + c ≤ 128) (hl : (canon s).length ≤ 4000) :
    Calls Try.prog 70 #[v, .agg #[.int .i64 f, .int .i64 c]] w (AddPost v (up (canon (s ++ tracks (f, c)))) w) := by
  rw [← canon_add]
  exact add_any v (canon s) f c w hs (fine_canon s h) hr hl
end Go.Proofs.Ytimeebajpegknaa
namespace Go.Proofs.Ytimeebajpegknaa
theorem seqI_take_succ (l : List (Int × Int)) (k : Nat) (h : k < l.length) : seqI (l.take (k + 1)) = seqI (l.take k) ++ tracks (ex l[k]) := by
  rw [List.take_succ_eq_append_getElem h, seqI_append, seqI_one]
theorem tracks_len (r : Nat × Nat) : (tracks r).length = r.2 := by unfold tracks; simp
theorem seqI_len_take (l : List (Int × Int)) (k : Nat) (h : k < l.length) : (seqI (l.take (k + 1))).length = (seqI (l.take k)).length + (ex l[k]).2 := by
  rw [seqI_take_succ l k h, List.length_append, tracks_len]
theorem seqI_len_le (l : List (Int × Int)) : (seqI l).length ≤ l.length * 128 := by
  induction l with
  | nil => simp [seqI_nil]
  | cons x l ih =>
    have e : seqI (x :: l) = tracks (ex x) ++ seqI l := by unfold seqI seqOf; simp
    have := (ex_le x).1
    rw [e, List.length_append, tracks_len]
    simp only [List.length_cons]; omega
theorem seqI_split (l : List (Int × Int)) (k : Nat) (h : k < l.length) : seqI l = seqI (l.take k) ++ (tracks (ex l[k]) ++ seqI (l.drop (k + 1))) := by
  conv => lhs; rw [← List.take_append_drop (k + 1) l]
  rw [seqI_append, seqI_take_succ l k h, List.append_assoc]
theorem canon_take_succ (l : List (Int × Int)) (k : Nat) (h : k < l.length) : canon (seqI (l.take (k + 1))) = addR (canon (seqI (l.take k))) (ex l[k]) := by
  rw [seqI_take_succ l k h, canon_add]
theorem canon_seqI_len (l : List (Int × Int)) : ∀ k, k ≤ l.length → (canon (seqI (l.take k))).length ≤ k := by
  intro k
  induction k with
  | zero => intro _; simp [seqI_nil, canon_nil]
  | succ k ih =>
    intro h
    rw [canon_take_succ l k (by omega)]
    have h1 := addR_len (canon (seqI (l.take k))) (ex l[k])
    have h2 := ih (by omega)
    omega
theorem cut_step (S : List Nat) (F C N K : Nat) (hK : K = min C (N - S.length)) : (S ++ tracks (F, C)).take N = S.take N ++ tracks (F, K) ∧ (S ++ tracks (F, C)).drop N = S.drop N ++ tracks (F + K, C - K) := by
  have e : tracks (F, C) = tracks (F, K) ++ tracks (F + K, C - K) := by rw [← tracks_more]; congr 2; omega
  have h1 : (tracks (F, K)).length = K := tracks_len _
  have h2 : (tracks (F + K, C - K)).length = C - K := tracks_len _
  rw [List.take_append, List.drop_append, e]
  by_cases hc : N - S.length ≤ C
  · have hK2 : K = N - S.length := by omega
    constructor
    · congr 1
      exact List.take_left' (by omega)
    · congr 1
      exact List.drop_left' (by omega)
  · have hK2 : K = C := by omega
    have e3 : tracks (F + K, C - K) = [] := by unfold tracks; simp; omega
    rw [e3, List.append_nil]
    constructor
    · congr 1
      exact List.take_of_length_le (by omega)
    · congr 1
      rw [List.drop_eq_nil_iff]; omega
/-- the least index of a track in a sequence -/
def FirstAt (s : List Nat) (t : Int) : Int × Bool := match s.findIdx? (fun x : Nat => (x : Int) == t) with | some i => ((i : Int), true) | none => (0, false)
theorem firstAt_no (s : List Nat) (t : Int) (h : ∀ x ∈ s, (x : Int) ≠ t) : FirstAt s t = (0, false) := by
  unfold FirstAt
  have : s.findIdx? (fun x : Nat => (x : Int) == t) = none := by rw [List.findIdx?_eq_none_iff]; intro x hx; simp [h x hx]
  rw [this]
theorem range'_find (f c : Nat) (t : Int) (h1 : (f : Int) ≤ t) (h2 : t < f + c) : (List.range' f c).findIdx? (fun x : Nat => (x : Int) == t) = some (t - f).toNat := by
  induction c generalizing f with
  | zero => omega
  | succ c ih =>
    rw [List.range'_succ, List.findIdx?_cons]
    by_cases e : (f : Int) = t
    · rw [if_pos (by simpa using e)]; congr 1; omega
    · rw [if_neg (by simpa using e), ih (f + 1) (by omega) (by omega)]
      simp only [Option.map_some, Option.some.injEq]; omega
theorem firstAt_yes (a b : List Nat) (f c : Nat) (t : Int) (h : ∀ x ∈ a, (x : Int) ≠ t) (h1 : (f : Int) ≤ t) (h2 : t < f + c) : FirstAt (a ++ (tracks (f, c) ++ b)) t = ((a.length : Int) + (t - f), true) := by
  unfold FirstAt
  have e1 : a.findIdx? (fun x : Nat => (x : Int) == t) = none := by rw [List.findIdx?_eq_none_iff]; intro x hx; simp [h x hx]
  rw [List.findIdx?_append, List.findIdx?_append, e1]
  unfold tracks
  rw [range'_find f c t h1 h2]
  simp only [Option.none_or, Option.some_or, Option.map_some]
  rw [Prod.mk.injEq]
  exact ⟨by simp; omega, rfl⟩
theorem firstAt_snd (s : List Nat) (t : Int) : (FirstAt s t).2 = s.any (fun x : Nat => (x : Int) == t) := by
  unfold FirstAt
  cases h : s.findIdx? (fun x : Nat => (x : Int) == t) with
  | none => rw [List.findIdx?_eq_none_iff] at h; symm; simp only [List.any_eq_false]; intro x hx; simp [h x hx]
  | some i =>
    rw [List.findIdx?_eq_some_iff_getElem] at h
    obtain ⟨hi, hp, _⟩ := h
    symm; simp only [List.any_eq_true]; exact ⟨_, List.getElem_mem hi, hp⟩
theorem tracks_no (f c : Nat) (t : Int) (h : ¬ ((f : Int) ≤ t ∧ t < f + c)) : ∀ x ∈ tracks (f, c), (x : Int) ≠ t := by
  intro x hx e
  unfold tracks at hx
  rw [List.mem_range'_1] at hx
  exact h (by omega)
theorem firstAt_le (s : List Nat) (t : Int) : 0 ≤ (FirstAt s t).1 ∧ (FirstAt s t).1 ≤ s.length := by
  unfold FirstAt
  cases h : s.findIdx? (fun x : Nat => (x : Int) == t) with
  | none => simp only; omega
  | some i =>
    rw [List.findIdx?_eq_some_iff_getElem] at h
    obtain ⟨hi, _⟩ := h
    simp only; omega
/-- the track with an index -/
def AtSeq (s : List Nat) (i : Int) : Int × Bool := if i < 0 then (0, false) else match s[i.toNat]? with | some t => ((t : Int), true) | none => (0, false)
theorem atSeq_neg (s : List Nat) (i : Int) (h : i < 0) : AtSeq s i = (0, false) := by unfold AtSeq; rw [if_pos h]
theorem atSeq_no (s : List Nat) (i : Int) (h : (s.length : Int) ≤ i) : AtSeq s i = (0, false) := by
  unfold AtSeq; rw [if_neg (by omega), List.getElem?_eq_none (by omega)]
theorem atSeq_yes (a b : List Nat) (f c : Nat) (i : Int) (h1 : (a.length : Int) ≤ i) (h2 : i < a.length + c) : AtSeq (a ++ (tracks (f, c) ++ b)) i = ((f : Int) + (i - a.length), true) := by
  unfold AtSeq
  rw [if_neg (by omega), List.getElem?_append_right (by omega), List.getElem?_append_left (by rw [tracks_len]; simp only; omega)]
  unfold tracks
  rw [List.getElem?_range' (by simp only; omega)]
  simp only [Prod.mk.injEq, and_true]; omega
theorem addR_end (l : List (Nat × Nat)) (f c : Nat) (h : c ≠ 0) : ∃ l' p, addR l (f, c) = l' ++ [p] ∧ p.1 + p.2 = f + c := by
  rcases snoc_or l with rfl | ⟨l', p, rfl⟩
  · exact ⟨[], (f, c), by rw [addR_nil _ h]; rfl, rfl⟩
  · by_cases e : p.1 + p.2 = f
    · exact ⟨l', (p.1, p.2 + c), addR_yes _ _ _ h e, by simp only; omega⟩
    · exact ⟨l' ++ [p], (f, c), addR_no _ _ _ h e, rfl⟩
theorem upto_prev (B : Nat → Bool) (k : Nat) (h : B k = true) : ∃ l' p, canon (upto B (k + 1)) = l' ++ [p] ∧ p.1 + p.2 = k + 1 := by
  rw [upto_succ, if_pos h, canon_snoc]
  exact addR_end _ k 1 (by simp)
theorem upto_new (B : Nat → Bool) (k : Nat) (hk : k ≤ 128) (h : ∀ j, j + 1 = k → B j = false) (l' : List (Nat × Nat)) (p : Nat × Nat) (e : canon (upto B k) = l' ++ [p]) : p.1 + p.2 ≠ k := by
  have hlt : ∀ t ∈ upto B k, t < 128 := fun t ht => by unfold upto at ht; rw [List.mem_filter, List.mem_range] at ht; omega
  have hf := fine_canon (upto B k) hlt p (by rw [e]; simp)
  have hs := seqOf_canon (upto B k)
  rw [e, seqOf_append, seqOf_one] at hs
  have hm : p.1 + p.2 - 1 ∈ upto B k := by
    rw [← hs, List.mem_append]; right; unfold tracks; rw [List.mem_range'_1]; omega
  unfold upto at hm
  rw [List.mem_filter, List.mem_range] at hm
  intro h2
  have := h (p.1 + p.2 - 1) (by omega)
  rw [hm.2] at this
  cases this
end Go.Proofs.Ytimeebajpegknaa
/-! Size, Index, At, Contains. -/
namespace Go.Proofs.Ytimeebajpegknaa
open Go.Lib Go.ChangeShapes Go.WideShapes Go.ChangeAt Go.RowKit

theorem field0 (a b : Int) (w : World) : (Instr.field 47 (.agg #[.int .i64 a, .int .i64 b]) 0).run Try.prog w = .ok (.int .i64 a) w := by kernel_rfl
theorem field1 (a b : Int) (w : World) : (Instr.field 47 (.agg #[.int .i64 a, .int .i64 b]) 1).run Try.prog w = .ok (.int .i64 b) w := by kernel_rfl
theorem ret_int {a b : Int} (h : a = b) : Ending.returned (.int .i64 a) = .returned (.int .i64 b) := by rw [h]
theorem box_keep {wr w2 : World} {x y : Value} {t : TypeId} (hb : Below (wr.alloc (.cells #[x, y] t)).heap.size (wr.alloc (.cells #[x, y] t)) w2) :
    w2.cell? ⟨wr.heap.size, 0, none⟩ = some x ∧ w2.cell? ⟨wr.heap.size, 1, none⟩ = some y ∧ w2.frozen? ⟨wr.heap.size, 0, none⟩ = false ∧ w2.frozen? ⟨wr.heap.size, 1, none⟩ = false ∧ wr.heap.size < w2.heap.size := by
  have h : Row (wr.alloc (.cells #[x, y] t)) wr.heap.size t [x, y] := Row.new wr [x, y] t
  have h2 : Row w2 wr.heap.size t [x, y] := h.upd (F := fun _ => False) (Upds.of_below hb (Nat.le_refl _)) (fun h => h)
  exact ⟨h2.cell rfl, h2.cell rfl, h2.frozen 0, h2.frozen 1, h2.lt⟩
/-- what a round finds of its run -/
theorem RunsAt.round {w : World} {A : Option Addr} {n cap : Nat} {l : List (Int × Int)} (h : RunsAt w (.slice A n cap) l) {k : Nat} (hk : k < l.length) :
    ∃ b off, A = some ⟨b, off, none⟩ ∧ b < w.heap.size ∧ w.cell? ⟨b, off + k * 2, none⟩ = some (.int .i64 l[k].1) ∧ w.cell? ⟨b, off + k * 2 + 1, none⟩ = some (.int .i64 l[k].2) ∧
      (-9223372036854775808 ≤ l[k].1 ∧ l[k].1 ≤ 9223372036854775807 ∧ -9223372036854775808 ≤ l[k].2 ∧ l[k].2 ≤ 9223372036854775807) := by
  obtain ⟨A', cap', e, h1, h2, h3, h4⟩ := h
  simp only [Value.slice.injEq] at e
  obtain ⟨rfl, rfl, rfl⟩ := e
  obtain ⟨b, off, rfl, hlt, hc⟩ := h4 (by omega)
  exact ⟨b, off, rfl, hlt, (hc k hk).1, (hc k hk).2, h3 _ (List.getElem_mem _)⟩
theorem RunsAt.shape {w : World} {v : Value} {l : List (Int × Int)} (h : RunsAt w v l) : ∃ A cap, v = .slice A l.length cap ∧ l.length ≤ cap ∧ cap ≤ 9223372036854775807 := by
  obtain ⟨A', cap', e, h1, h2, h3, h4⟩ := h
  exact ⟨_, _, e, h1, h2⟩
set_option maxRecDepth 100000 in
theorem size_any (v : Value) (l : List (Int × Int)) (hl : l.length ≤ 4000) (w : World) (hs : RunsAt w v l) :
    Calls Try.prog 33 #[v] w fun e w' => e = .returned (.int .i64 (seqI l).length) ∧ Below w.heap.size w w' := by
  obtain ⟨A, cap, rfl, hcap, hcap2⟩ := hs.shape
  obtain ⟨n, hn⟩ : ∃ n, n = l.length := ⟨_, rfl⟩
  rw [← hn] at hs hcap hl ⊢
  have HS := hid hs
  have HN := hid hn
  clear hs hn
  go_enter Try.func33, Try.ntmps33
  go_wp2_with fail
  go_loopw [3, 8] (fun s i wr => ∃ k : Nat, k ≤ n ∧ i = .int .i64 k ∧ s = .int .i64 (seqI (l.take k)).length ∧ Below w.heap.size w wr) (fun _ i _ => n - (intOf i).toNat)
  case atStart => exact ⟨0, by omega, rfl, rfl, Below.refl _ _⟩
  case round =>
    obtain ⟨k, hk, rfl, rfl, hb⟩ := hrel
    have HB := hid hb
    by_cases hlt : k < n
    · have hk2 : k < l.length := by rw [← HN.out]; exact hlt
      obtain ⟨b, off, rfl, hlb, c1, c2, hbd⟩ := (HS.out.below hb (Nat.le_refl _)).round hk2
      obtain ⟨r, hr⟩ : ∃ r, r = l[k] := ⟨_, rfl⟩
      rw [← hr] at c1 c2 hbd
      obtain ⟨f, c⟩ := r
      simp only at c1 c2 hbd
      have hx := ex_le (f, c)
      have hstep := seqI_len_take l k hk2
      rw [← hr] at hstep
      have hle := seqI_len_le (l.take k)
      have hle2 : (l.take k).length ≤ 4000 := by simp; omega
      obtain ⟨m, hm⟩ : ∃ m, m = (seqI (l.take k)).length := ⟨_, rfl⟩
      obtain ⟨x, hxx⟩ : ∃ x, x = ex (f, c) := ⟨_, rfl⟩
      rw [← hm] at hstep hle ⊢
      rw [← hxx] at hstep hx
      have HST := hid hstep
      have HXX := hid hxx
      have HBD := hid hbd
      have hm5 : m ≤ 512000 := by omega
      clear hstep hxx hr hm hle hle2 hbd hb
      go_wp2_with (go_at_call 69; refine (existing_any f c _ HBD.out).mono ?_; rintro e w2 ⟨rfl, hb2⟩; rw [← HXX.out]; have hfd := field1 x.1 x.2 w2)
      go_roundw
      case rel => exact ⟨k + 1, by omega, by go_num, by rw [HST.out]; go_num, HB.out.trans ((((Below.refl _ wr).alloc (Nat.le_refl _) _).trans (hb2.mono (by simp))).mono HB.out.size)⟩
      case measure => simp [intOf]; omega
    · obtain rfl : k = n := by omega
      have hlen : (seqI (l.take k)).length = (seqI l).length := by rw [HN.out, List.take_length]
      have HL := hid hlen
      clear hlen
      go_wp2_with fail
      go_ret
      exact ⟨ret_int (by rw [HL.out]), hb⟩
set_option maxRecDepth 100000 in
theorem index_any (v : Value) (l : List (Int × Int)) (hl : l.length ≤ 4000) (t : Int) (ht : -9223372036854775808 ≤ t ∧ t ≤ 9223372036854775807) (w : World) (hs : RunsAt w v l) :
    Calls Try.prog 31 #[v, .int .i64 t] w fun e w' => e = .returned (.tuple #[.int .i64 (FirstAt (seqI l) t).1, .bool (FirstAt (seqI l) t).2]) ∧ Below w.heap.size w w' := by
  obtain ⟨A, cap, rfl, hcap, hcap2⟩ := hs.shape
  obtain ⟨n, hn⟩ : ∃ n, n = l.length := ⟨_, rfl⟩
  rw [← hn] at hs hcap hl ⊢
  have HS := hid hs
  have HN := hid hn
  obtain ⟨ht1, ht2⟩ := ht
  clear hs hn
  obtain ⟨R1, R2, hR⟩ : ∃ R1 R2, (R1, R2) = FirstAt (seqI l) t := ⟨_, _, rfl⟩
  rw [← hR]
  have HR := hid hR
  clear hR
  go_enter Try.func31, Try.ntmps31
  go_wp2_with fail
  go_loopw [6, 11] (fun s i wr => ∃ k : Nat, k ≤ n ∧ i = .int .i64 k ∧ s = .int .i64 (seqI (l.take k)).length ∧ (∀ x ∈ seqI (l.take k), (x : Int) ≠ t) ∧ Below w.heap.size w wr) (fun _ i _ => n - (intOf i).toNat)
  case atStart => exact ⟨0, by omega, rfl, rfl, (fun x hx => by cases hx), Below.refl _ _⟩
  case round =>
    obtain ⟨k, hk, rfl, rfl, hno, hb⟩ := hrel
    have HB := hid hb
    have HNO := hid hno
    clear hno
    by_cases hlt : k < n
    · have hk2 : k < l.length := by rw [← HN.out]; exact hlt
      obtain ⟨b, off, rfl, hlb, c1, c2, hbd⟩ := (HS.out.below hb (Nat.le_refl _)).round hk2
      obtain ⟨r, hr⟩ : ∃ r, r = l[k] := ⟨_, rfl⟩
      rw [← hr] at c1 c2 hbd
      obtain ⟨f, c⟩ := r
      simp only at c1 c2 hbd
      have hx := ex_le (f, c)
      have hstep := seqI_take_succ l k hk2
      have hstepn := seqI_len_take l k hk2
      have hsplit := seqI_split l k hk2
      rw [← hr] at hstep hsplit hstepn
      have hle := seqI_len_le (l.take k)
      have hle2 : (l.take k).length ≤ 4000 := by simp; omega
      obtain ⟨m, hm⟩ : ∃ m, m = (seqI (l.take k)).length := ⟨_, rfl⟩
      obtain ⟨x, hxx⟩ : ∃ x, x = ex (f, c) := ⟨_, rfl⟩
      rw [← hm] at hle hstepn ⊢
      rw [← hxx] at hstep hx hsplit hstepn
      obtain ⟨F, C⟩ := x
      have HST := hid hstep
      have HSN := hid hstepn
      have HSP := hid hsplit
      have HXX := hid hxx
      have HBD := hid hbd
      have HM := hid hm
      have hm5 : m ≤ 512000 := by omega
      simp only at hx
      clear hstep hxx hr hm hle hle2 hbd hb hsplit hstepn
      by_cases h1 : (F : Int) ≤ t
      · by_cases h2 : t < (F : Int) + C
        · have hans : R1 = (m : Int) + t - F ∧ R2 = true := by
            have := HR.out
            rw [HSP.out, firstAt_yes _ _ F C t HNO.out h1 h2, ← HM.out] at this
            simp only [Prod.mk.injEq] at this
            exact ⟨by omega, this.2⟩
          have HANS := hid hans
          clear hans
          go_wp2_with (go_at_call 69; refine (existing_any f c _ HBD.out).mono ?_; rintro e w2 ⟨rfl, hb2⟩; rw [← HXX.out]; obtain ⟨y0, y1, y2, y3, y4⟩ := box_keep hb2)
          go_ret2
          rw [HANS.out.1, HANS.out.2]
          exact ⟨rfl, HB.out.trans (((((Below.refl _ wr).alloc (Nat.le_refl _) _).trans (hb2.mono (by simp)) |>.setCell (by simp) _) |>.setCell (by simp) _).mono HB.out.size)⟩
        · have hnew : ∀ x ∈ seqI (l.take (k + 1)), (x : Int) ≠ t := by
            rw [HST.out]
            intro x hx2
            rw [List.mem_append] at hx2
            exact hx2.elim (HNO.out x) (tracks_no F C t (fun h => by omega) x)
          have HNEW := hid hnew
          clear hnew
          go_wp2_with (go_at_call 69; refine (existing_any f c _ HBD.out).mono ?_; rintro e w2 ⟨rfl, hb2⟩; rw [← HXX.out]; obtain ⟨y0, y1, y2, y3, y4⟩ := box_keep hb2)
          go_roundw
          case rel => exact ⟨k + 1, by omega, by go_num, by rw [HSN.out]; go_num, HNEW.out, HB.out.trans (((((Below.refl _ wr).alloc (Nat.le_refl _) _).trans (hb2.mono (by simp)) |>.setCell (by simp) _) |>.setCell (by simp) _).mono HB.out.size)⟩
          case measure => simp [intOf]; omega
      · have hnew : ∀ x ∈ seqI (l.take (k + 1)), (x : Int) ≠ t := by
          rw [HST.out]
          intro x hx2
          rw [List.mem_append] at hx2
          exact hx2.elim (HNO.out x) (tracks_no F C t (fun h => by omega) x)
        have HNEW := hid hnew
        clear hnew
        go_wp2_with (go_at_call 69; refine (existing_any f c _ HBD.out).mono ?_; rintro e w2 ⟨rfl, hb2⟩; rw [← HXX.out]; obtain ⟨y0, y1, y2, y3, y4⟩ := box_keep hb2)
        go_roundw
        case rel => exact ⟨k + 1, by omega, by go_num, by rw [HSN.out]; go_num, HNEW.out, HB.out.trans (((((Below.refl _ wr).alloc (Nat.le_refl _) _).trans (hb2.mono (by simp)) |>.setCell (by simp) _) |>.setCell (by simp) _).mono HB.out.size)⟩
        case measure => simp [intOf]; omega
    · obtain rfl : k = n := by omega
      have hans : R1 = 0 ∧ R2 = false := by
        have := HR.out
        rw [firstAt_no _ _ (by have := HNO.out; rw [HN.out, List.take_length] at this; exact this)] at this
        simpa using this
      have HANS := hid hans
      clear hans hb
      go_wp2_with fail
      go_ret2
      rw [HANS.out.1, HANS.out.2]
      exact ⟨rfl, HB.out⟩
set_option maxRecDepth 100000 in
theorem at_any (v : Value) (l : List (Int × Int)) (hl : l.length ≤ 4000) (t : Int) (ht : -9223372036854775808 ≤ t ∧ t ≤ 9223372036854775807) (w : World) (hs : RunsAt w v l) :
    Calls Try.prog 29 #[v, .int .i64 t] w fun e w' => e = .returned (.tuple #[.int .i64 (AtSeq (seqI l) t).1, .bool (AtSeq (seqI l) t).2]) ∧ Below w.heap.size w w' := by
  obtain ⟨A, cap, rfl, hcap, hcap2⟩ := hs.shape
  obtain ⟨n, hn⟩ : ∃ n, n = l.length := ⟨_, rfl⟩
  rw [← hn] at hs hcap hl ⊢
  have HS := hid hs
  have HN := hid hn
  obtain ⟨ht1, ht2⟩ := ht
  clear hs hn
  by_cases h0 : t < 0
  · rw [atSeq_neg _ _ h0]
    go_enter Try.func29, Try.ntmps29
    go_wp2_with fail
    go_ret2
    exact ⟨rfl, Below.refl _ _⟩
  obtain ⟨R1, R2, hR⟩ : ∃ R1 R2, (R1, R2) = AtSeq (seqI l) t := ⟨_, _, rfl⟩
  rw [← hR]
  have HR := hid hR
  clear hR
  go_enter Try.func29, Try.ntmps29
  go_wp2_with fail
  go_loopw [1, 12] (fun s i wr => ∃ (k : Nat) (z : Int), k ≤ n ∧ i = .int .i64 k ∧ s = .int .i64 z ∧ z = t - (seqI (l.take k)).length ∧ 0 ≤ z ∧ Below w.heap.size w wr) (fun _ i _ => n - (intOf i).toNat)
  case atStart => exact ⟨0, t, by omega, rfl, rfl, by simp [seqI_nil], by omega, Below.refl _ _⟩
  case round =>
    obtain ⟨k, z, hk, rfl, rfl, hz, hz0, hb⟩ := hrel
    have HB := hid hb
    by_cases hlt : k < n
    · have hk2 : k < l.length := by rw [← HN.out]; exact hlt
      obtain ⟨b, off, rfl, hlb, c1, c2, hbd⟩ := (HS.out.below hb (Nat.le_refl _)).round hk2
      obtain ⟨r, hr⟩ : ∃ r, r = l[k] := ⟨_, rfl⟩
      rw [← hr] at c1 c2 hbd
      obtain ⟨f, c⟩ := r
      simp only at c1 c2 hbd
      have hx := ex_le (f, c)
      have hstepn := seqI_len_take l k hk2
      have hsplit := seqI_split l k hk2
      rw [← hr] at hsplit hstepn
      have hle := seqI_len_le (l.take k)
      have hle2 : (l.take k).length ≤ 4000 := by simp; omega
      obtain ⟨m, hm⟩ : ∃ m, m = (seqI (l.take k)).length := ⟨_, rfl⟩
      obtain ⟨x, hxx⟩ : ∃ x, x = ex (f, c) := ⟨_, rfl⟩
      rw [← hm] at hle hstepn hz
      rw [← hxx] at hx hsplit hstepn
      obtain ⟨F, C⟩ := x
      have HSN := hid hstepn
      have HSP := hid hsplit
      have HXX := hid hxx
      have HBD := hid hbd
      have HM := hid hm
      have HZ := hid hz
      have hm5 : m ≤ 512000 := by omega
      have hzt : z ≤ t := by omega
      simp only at hx
      clear hxx hr hm hle hle2 hbd hb hsplit hstepn hz
      by_cases h1 : z < (C : Int)
      · have hans : R1 = (F : Int) + z ∧ R2 = true := by
          have := HR.out
          have hz := HZ.out
          have hm := HM.out
          rw [HSP.out, atSeq_yes _ _ F C t (by omega) (by omega), ← HM.out] at this
          simp only [Prod.mk.injEq] at this
          exact ⟨by omega, this.2⟩
        have HANS := hid hans
        clear hans
        go_wp2_with (go_at_call 69; refine (existing_any f c _ HBD.out).mono ?_; rintro e w2 ⟨rfl, hb2⟩; rw [← HXX.out]; obtain ⟨y0, y1, y2, y3, y4⟩ := box_keep hb2)
        go_ret2
        rw [HANS.out.1, HANS.out.2]
        exact ⟨rfl, HB.out.trans (((((Below.refl _ wr).alloc (Nat.le_refl _) _).trans (hb2.mono (by simp)) |>.setCell (by simp) _) |>.setCell (by simp) _).mono HB.out.size)⟩
      · go_wp2_with (go_at_call 69; refine (existing_any f c _ HBD.out).mono ?_; rintro e w2 ⟨rfl, hb2⟩; rw [← HXX.out]; obtain ⟨y0, y1, y2, y3, y4⟩ := box_keep hb2)
        go_roundw
        case rel => exact ⟨k + 1, z - C, by omega, by go_num, rfl, by rw [HSN.out]; have := HZ.out; omega, by omega, HB.out.trans (((((Below.refl _ wr).alloc (Nat.le_refl _) _).trans (hb2.mono (by simp)) |>.setCell (by simp) _) |>.setCell (by simp) _).mono HB.out.size)⟩
        case measure => simp [intOf]; omega
    · obtain rfl : k = n := by omega
      have hans : R1 = 0 ∧ R2 = false := by
        have := HR.out
        rw [HN.out, List.take_length] at hz
        rw [atSeq_no _ _ (by omega)] at this
        simpa using this
      have HANS := hid hans
      clear hans hb hz
      go_wp2_with fail
      go_ret2
      rw [HANS.out.1, HANS.out.2]
      exact ⟨rfl, HB.out⟩
set_option maxRecDepth 100000 in
theorem contains_any (v : Value) (l : List (Int × Int)) (hl : l.length ≤ 4000) (t : Int) (ht : -9223372036854775808 ≤ t ∧ t ≤ 9223372036854775807) (w : World) (hs : RunsAt w v l) :
    Calls Try.prog 27 #[v, .int .i64 t] w fun e w' => e = .returned (.bool (FirstAt (seqI l) t).2) ∧ Below w.heap.size w w' := by
  obtain ⟨A, cap, rfl, hcap, hcap2⟩ := hs.shape
  have HS := hid hs
  clear hs
  obtain ⟨R1, R2, hR⟩ : ∃ R1 R2, (R1, R2) = FirstAt (seqI l) t := ⟨_, _, rfl⟩
  rw [← hR]
  have HR := hid hR
  clear hR
  go_enter Try.func27, Try.ntmps27
  go_wp2_with fail
  refine (index_any _ l hl t ht _ HS.out).mono ?_
  rintro e w2 ⟨rfl, hb2⟩
  rw [← HR.out]
  go_wp2_with fail
  go_ret
  exact ⟨rfl, hb2⟩
end Go.Proofs.Ytimeebajpegknaa
/-! Sets in arrays: newSet, runs, combine. -/
namespace Go.Proofs.Ytimeebajpegknaa
open Go.Lib Go.ChangeShapes Go.WideShapes Go.ChangeAt Go.RowKit

/-- the cells of a set -/
def bits (B : Nat → Bool) : List Value := (List.range 128).map fun i => .bool (B i)
theorem bits_len (B : Nat → Bool) : (bits B).length = 128 := by unfold bits; simp
theorem bits_get (B : Nat → Bool) (i : Nat) (h : i < 128) : (bits B)[i]? = some (.bool (B i)) := by unfold bits; simp [h]
theorem bits_set (B : Nat → Bool) (i : Nat) (b : Bool) : (bits B).set i (.bool b) = bits (fun t => if t = i then b else B t) := by
  apply List.ext_getElem?
  intro j
  rw [List.getElem?_set]
  unfold bits
  simp only [List.length_map, List.length_range, List.getElem?_map]
  by_cases hj : j < 128
  · rw [List.getElem?_range hj]
    by_cases e : i = j
    · subst e; simp [hj]
    · rw [if_neg e]; simp [Ne.symm e]
  · rw [List.getElem?_eq_none (by simp; omega)]
    by_cases e : i = j
    · subst e; simp; omega
    · rw [if_neg e]; rfl
theorem bits_congr {A B : Nat → Bool} (h : ∀ t, t < 128 → A t = B t) : bits A = bits B := by
  unfold bits; exact List.map_congr_left fun t ht => by rw [h t (List.mem_range.1 ht)]
theorem bits_one (B : Nat → Bool) : (bits B).toArray.all (·.oneCell') = true := by
  rw [Array.all_eq_true_iff_forall_mem]
  intro x hx
  simp only [List.mem_toArray] at hx
  unfold bits at hx
  rw [List.mem_map] at hx
  obtain ⟨i, _, rfl⟩ := hx
  rfl
theorem zeroSet : (∀ w, (zeroValue 61).run Try.prog w = .ok (.agg (bits fun _ => false).toArray) w) ∧ (Try.prog.info? 61).map (·.size) = some 128 := zero_of_info (by kernel_rfl)
attribute [local irreducible] bits
theorem load_bits {w : World} {b : Nat} {B : Nat → Bool} (h : Row w b 61 (bits B)) : (loadCellsFrom ⟨b, 0, none⟩ 0 128 #[]).run Try.prog w = .ok (bits B).toArray w := by
  have := run_loadCells_list (P := Try.prog) w ⟨b, 0, none⟩ (bits B) (fun j v hv => by
    have hadd : (⟨b, 0, none⟩ : Addr).add j = ⟨b, j, none⟩ := by rw [Go.WideShapes.add_plain, Nat.zero_add]
    rw [hadd]
    exact h.cell hv)
  rw [bits_len] at this
  simpa [loadCells] using this
theorem store_bits {w : World} {b : Nat} {B C : Nat → Bool} (h : Row w b 61 (bits C)) : (storeCells ⟨b, 0, none⟩ (bits B) 0).run Try.prog w = .ok () (w.setRow b (bits B).toArray) :=
  run_storeCells_from (P := Try.prog) b 61 (bits B) 0 (bits C).toArray w h (by rw [bits_len, List.size_toArray, bits_len]) (fun v hv => (Array.all_eq_true_iff_forall_mem.1 (bits_one B)) v (by simpa using hv))
theorem box_row {wr w2 : World} {x y : Value} {t : TypeId} (hb : Below (wr.alloc (.cells #[x, y] t)).heap.size (wr.alloc (.cells #[x, y] t)) w2) (p q : Value) :
    Row ((w2.setCell ⟨wr.heap.size, 0, none⟩ p).setCell ⟨wr.heap.size, 1, none⟩ q) wr.heap.size t [p, q] := by
  have h : Row (wr.alloc (.cells #[x, y] t)) wr.heap.size t [x, y] := Row.new wr [x, y] t
  have h2 : Row w2 wr.heap.size t [x, y] := h.upd (F := fun _ => False) (Upds.of_below hb (Nat.le_refl _)) (fun h => h)
  exact (h2.set 0 p).set 1 q
theorem box_other {wr w2 : World} {x y : Value} {t : TypeId} (hb : Below (wr.alloc (.cells #[x, y] t)).heap.size (wr.alloc (.cells #[x, y] t)) w2) (p q : Value) {b : Nat} {t' : TypeId} {cur : List Value} (h : Row wr b t' cur) :
    Row ((w2.setCell ⟨wr.heap.size, 0, none⟩ p).setCell ⟨wr.heap.size, 1, none⟩ q) b t' cur := by
  have hlt := h.lt
  have h2 : Row w2 b t' cur := (h.alloc _).upd (F := fun _ => False) (Upds.of_below hb (Nat.le_refl _)) (fun h => h)
  exact (h2.setOther (by simp; omega) p).setOther (by simp; omega) q
theorem inB_step (l : List (Int × Int)) (k F C : Nat) (h : seqI (l.take (k + 1)) = seqI (l.take k) ++ tracks (F, C)) (t : Nat) : inB (l.take (k + 1)) t = (inB (l.take k) t || decide (F ≤ t ∧ t < F + C)) := by
  unfold inB
  rw [h, Bool.eq_iff_iff, List.contains_iff_mem, List.mem_append, Bool.or_eq_true, List.contains_iff_mem, decide_eq_true_eq]
  unfold tracks
  rw [List.mem_range'_1]
set_option maxRecDepth 100000 in
theorem newSet_any (v : Value) (l : List (Int × Int)) (hl : l.length ≤ 4000) (w : World) (hs : RunsAt w v l) :
    Calls Try.prog 61 #[v] w fun e w' => e = .returned (.agg (bits (inB l)).toArray) ∧ Below w.heap.size w w' := by
  obtain ⟨A, cap, rfl, hcap, hcap2⟩ := hs.shape
  obtain ⟨n, hn⟩ : ∃ n, n = l.length := ⟨_, rfl⟩
  rw [← hn] at hs hcap hl ⊢
  have HS := hid hs
  have HN := hid hn
  clear hs hn
  have hz := zeroSet.1
  go_enter Try.func61, Try.ntmps61
  go_wp2_with fail
  have r2 : Row (w.alloc (.cells (bits fun _ => false).toArray 61)) w.heap.size 61 (bits fun _ => false) := Row.new w _ _
  have r3 : Row ((w.alloc (.cells (bits fun _ => false).toArray 61)).alloc (.cells (bits fun _ => false).toArray 61)) (w.heap.size + 1) 61 (bits fun _ => false) := by
    have := Row.new (w.alloc (.cells (bits fun _ => false).toArray 61)) (bits fun _ => false) 61
    simpa using this
  have R2 := hid (r2.alloc (.cells (bits fun _ => false).toArray 61))
  have R3 := hid r3
  have HB0 : Hid (Below w.heap.size w ((w.alloc (.cells (bits fun _ => false).toArray 61)).alloc (.cells (bits fun _ => false).toArray 61))) := (((Below.refl _ _).alloc (Nat.le_refl _) _).alloc (by simp) _)
  clear r2 r3 hz
  obtain ⟨b2, hb2⟩ : ∃ b, b = w.heap.size := ⟨_, rfl⟩
  obtain ⟨b3, hb3⟩ : ∃ b, b = b2 + 1 := ⟨_, rfl⟩
  rw [← hb2, ← hb3] at R3
  rw [← hb2] at R2
  rw [← hb2, ← hb3]
  have HBB : Hid (w.heap.size ≤ b2 ∧ w.heap.size ≤ b3 ∧ b2 ≠ b3) := hid (by omega)
  clear hb2 hb3
  go_loopw [9] (fun i wr => ∃ k : Nat, k ≤ n ∧ i = .int .i64 k ∧ Row wr b2 61 (bits fun _ => false) ∧ Row wr b3 61 (bits (inB (l.take k))) ∧ Below w.heap.size w wr) (fun i _ => n - (intOf i).toNat)
  case atStart => exact ⟨0, by omega, rfl, R2.out, R3.out, HB0.out⟩
  case round =>
    clear R2 R3 HB0
    obtain ⟨k, hk, rfl, hr2, hr3, hb⟩ := hrel
    have HB := hid hb
    have R2 := hid hr2
    have R3 := hid hr3
    clear hr2 hr3
    by_cases hlt : k < n
    · have hk2 : k < l.length := by rw [← HN.out]; exact hlt
      obtain ⟨b, off, rfl, hlb, c1, c2, hbd⟩ := (HS.out.below hb (Nat.le_refl _)).round hk2
      obtain ⟨r, hr⟩ : ∃ r, r = l[k] := ⟨_, rfl⟩
      rw [← hr] at c1 c2 hbd
      obtain ⟨f, c⟩ := r
      simp only at c1 c2 hbd
      have hx := ex_le (f, c)
      have hstep := seqI_take_succ l k hk2
      rw [← hr] at hstep
      obtain ⟨x, hxx⟩ : ∃ x, x = ex (f, c) := ⟨_, rfl⟩
      rw [← hxx] at hstep hx
      obtain ⟨F, C⟩ := x
      have HST := hid hstep
      have HXX := hid hxx
      have HBD := hid hbd
      simp only at hx
      clear hstep hxx hr hbd hb
      go_wp2_with (go_at_call 69; refine (existing_any f c _ HBD.out).mono ?_; rintro e w2 ⟨rfl, hb2⟩; rw [← HXX.out]; obtain ⟨y0, y1, y2, y3, y4⟩ := box_keep hb2)
      have hbw : Below w.heap.size w ((w2.setCell ⟨wr.heap.size, 0, none⟩ (.int .i64 F)).setCell ⟨wr.heap.size, 1, none⟩ (.int .i64 C)) := HB.out.trans ((((Below.refl _ wr).alloc (Nat.le_refl _) _).trans (hb2.mono (by simp)) |>.setCell (by simp) _ |>.setCell (by simp) _).mono HB.out.size)
      have q2 := hid (box_other hb2 (.int .i64 F) (.int .i64 C) R2.out)
      have q3 := hid (box_other hb2 (.int .i64 F) (.int .i64 C) R3.out)
      have q4 := hid (box_row hb2 (.int .i64 F) (.int .i64 C))
      have QB := hid hbw
      have hbv3 : wr.heap.size ≠ b3 := by have := R3.out.lt; omega
      obtain ⟨bv, hbv⟩ : ∃ bv, bv = wr.heap.size := ⟨_, rfl⟩
      have HV := hid hbv
      rw [← hbv]
      rw [← hbv] at q2 q3 q4 QB hbv3
      clear hbv hb2 y0 y1 y2 y3 y4 c1 c2 hlb hbw
      go_loopw [17] (fun j wq => ∃ z : Nat, z ≤ C ∧ j = .int .i64 z ∧ Row wq b2 61 (bits fun _ => false) ∧ Row wq b3 61 (bits (fun t => inB (l.take k) t || decide (F ≤ t ∧ t < F + z))) ∧ Row wq bv 47 [.int .i64 F, .int .i64 C] ∧ Below w.heap.size w wq) (fun j _ => C - (intOf j).toNat)
      case atStart => exact ⟨0, by omega, rfl, q2.out, by rw [bits_congr (B := inB (l.take k)) (fun t _ => by simp; omega)]; exact q3.out, q4.out, QB.out⟩
      case round =>
        clear q2 q3 q4 QB R2 R3 HB
        obtain ⟨z, hz, rfl, hr2, hr3, hr4, hb⟩ := hrel
        have HB := hid hb
        have R2 := hid hr2
        have R3 := hid hr3
        have R4 := hid hr4
        by_cases hlz : z < C
        · have c1 := hr4.cell (i := 0) rfl
          have f3 := hr3.frozen (F + z)
          have c3 := hr3.cell (bits_get (fun t => inB (l.take k) t || decide (F ≤ t ∧ t < F + z)) (F + z) (by omega))
          clear hr2 hr3 hr4 hb
          go_wp2_with fail
          go_roundw
          case rel =>
            refine ⟨z + 1, by omega, by go_num, R2.out.setOther (by have := HBB.out; simp; omega) _, ?_, R4.out.setOther (by simp; omega) _, HB.out.setCell (by have := HBB.out; simp; omega) _⟩
            have h := R3.out.set (F + z) (.bool true)
            rw [bits_set] at h
            rw [bits_congr (B := fun t => if t = F + z then true else inB (l.take k) t || decide (F ≤ t ∧ t < F + z))]
            · exact h
            · intro t _
              by_cases e : t = F + z
              · rw [if_pos e]; simp; right; omega
              · rw [if_neg e]
                have e2 : decide (F ≤ t ∧ t < F + (z + 1)) = decide (F ≤ t ∧ t < F + z) := by rw [decide_eq_decide]; omega
                rw [e2]
          case measure => simp [intOf]; omega
        · obtain rfl : z = C := by omega
          clear hb hr2 hr3 hr4
          go_wp2_with fail
          go_roundw
          case rel => exact ⟨k + 1, by omega, by go_num, R2.out, by rw [bits_congr (fun t _ => inB_step l k F z HST.out t)]; exact R3.out, HB.out⟩
          case measure => simp [intOf]; omega
    · obtain rfl : k = n := by omega
      have hr3 := R3.out
      rw [HN.out, List.take_length] at hr3
      have R4 := hid hr3
      have hz1 := zeroSet.2
      clear hb hr3
      have hld := load_bits R4.out
      have hst := store_bits (B := inB l) R2.out
      have hbl := bits_len (inB l)
      clear hld hst hbl
      go_upto_region 12 with fail
      apply wp_region_lit
      refine wpList_load_row rfl 61 (.tmp 3) rfl b3 rfl 61 (bits (inB l)).toArray (0, 0) _ R4.out Try.underlying61 rfl ?_ ?_
      · rw [hz1, List.size_toArray, bits_len]
      refine wpList_store_row rfl 61 (.tmp 2) (.tmp 27) rfl b2 (bits (inB l)).toArray rfl rfl 61 (bits fun _ => false).toArray R2.out ?_ ?_ ?_ ?_
      · rw [hz1, List.size_toArray, bits_len]
      · rw [List.size_toArray, List.size_toArray, bits_len, bits_len]
      · exact bits_one _
      have R5 := hid (Row.setRow R2.out (bits (inB l)))
      go_wp2_with fail
      refine bodyPost_ret (v := .agg (bits (inB l)).toArray) (results_cell_row rfl _ _ b2 61 _ (0, 0) _ rfl R5.out Try.underlying61 rfl (by rw [hz1, List.size_toArray, bits_len])) rfl ⟨rfl, ?_⟩
      exact HB.out.trans (Upds.below (Upds.row (F := fun k => k = b2) wr b2 _ rfl) HB.out.size (fun k e => by have := HBB.out; omega))
end Go.Proofs.Ytimeebajpegknaa
namespace Go.Proofs.Ytimeebajpegknaa
open Go.Lib Go.ChangeShapes Go.WideShapes Go.ChangeAt Go.RowKit
attribute [local irreducible] bits
theorem bits_sz (B : Nat → Bool) : (Try.prog.info? 61).map (·.size) = some (bits B).toArray.size := by rw [zeroSet.2, List.size_toArray, bits_len]
theorem bits_eq (A B : Nat → Bool) : (bits A).toArray.size = (bits B).toArray.size := by rw [List.size_toArray, List.size_toArray, bits_len, bits_len]
theorem Made.below {w w2 : World} {l : List (Int × Int)} {e : Ending} {w' : World} (hb : Below w.heap.size w w2) (h : Made w2 l e w') : Made w l e w' := by
  obtain ⟨v, h1, h2, h3, h4⟩ := h
  exact ⟨v, h1, h2, fun k hk => Nat.le_trans hb.size (h3 k hk), hb.trans (h4.mono hb.size)⟩

theorem add_one (W : World) (v : Value) (s : List Nat) (f : Nat) (w : World) (hs : OwnRuns w v (up (canon s))) (hfr : Fresh W v) (h : ∀ t ∈ s, t < 128) (hr : f + 1 ≤ 128) (hl : s.length ≤ 4000) (hW : W.heap.size ≤ w.heap.size) :
    Calls Try.prog 70 #[v, .agg #[.int .i64 f, .int .i64 1]] w (AddMade W (s ++ [f]) w) := add_made W v s f 1 w hs hfr h hr (Nat.le_trans (canon_len s) hl) hW
theorem upto_lt (B : Nat → Bool) (k : Nat) (hk : k ≤ 128) : ∀ t ∈ upto B k, t < 128 := fun t ht => by unfold upto at ht; rw [List.mem_filter, List.mem_range] at ht; omega
theorem upto_len (B : Nat → Bool) (k : Nat) : (upto B k).length ≤ k := by unfold upto; exact Nat.le_trans (List.length_filter_le _ _) (by simp)
set_option maxRecDepth 100000 in
theorem runs_any (b : Nat) (B : Nat → Bool) (w : World) (hr : Row w b 61 (bits B)) :
    Calls Try.prog 62 #[.pointer (some ⟨b, 0, none⟩)] w (Made w (norm B)) := by
  have HR := hid hr
  clear hr
  go_enter Try.func62, Try.ntmps62
  go_wp2_with fail
  go_loopw [3, 7] (fun o i wr => ∃ (k : Nat) (v : Value), k ≤ 128 ∧ i = .int .i64 k ∧ o = v ∧ OwnRuns wr v (up (canon (upto B k))) ∧ Fresh w v ∧ Below w.heap.size w wr) (fun _ i _ => 128 - (intOf i).toNat)
  case atStart => exact ⟨0, _, by omega, rfl, rfl, OwnRuns.nil w, Fresh.nil w, Below.refl _ _⟩
  case round =>
    obtain ⟨k, v, hk, rfl, rfl, ho, hf, hb⟩ := hrel
    have HO := hid ho
    have HF := hid hf
    have HB := hid hb
    have hrow := HR.out.upd (F := fun _ => False) (Upds.of_below hb (Nat.le_refl _)) (fun h => h)
    clear ho hf hb
    by_cases hlt : k < 128
    · have hc := hrow.cell (bits_get B k hlt)
      have hus := upto_succ B k
      cases hB : B k with
      | true =>
        rw [hB] at hc hus
        rw [if_pos rfl] at hus
        have HU := hid hus
        clear hus hrow hB
        go_wp2_with fail
        go_quiet (fail)
        have HO2 := hid (HO.out.upd (F := fun _ => False) (Upds.drewN wr nq) (fun _ _ h => h))
        have hsz : w.heap.size ≤ (wr.drewN nq).heap.size := HB.out.size
        go_wp2_with (go_at_call 70; refine (add_one w _ (upto B k) k _ HO2.out HF.out (upto_lt B k (by omega)) (by omega) (by have := upto_len B k; omega) hsz).mono ?_; rintro e w2 ⟨v2, rfl, h1, h2, h3⟩; rw [← HU.out] at h1)
        go_roundw
        case rel => exact ⟨k + 1, v2, by omega, by go_num, rfl, h1, h2, (below_drewN HB.out nq).trans h3⟩
        case measure => simp [intOf]; omega
      | false =>
        rw [hB] at hc hus
        rw [if_neg (by simp)] at hus
        have HU := hid hus
        clear hus hrow hB
        go_wp2_with fail
        go_quiet (fail)
        have HO2 := hid (HO.out.upd (F := fun _ => False) (Upds.drewN wr nq) (fun _ _ h => h))
        go_wp2_with fail
        go_roundw
        case rel => exact ⟨k + 1, _, by omega, by go_num, rfl, by rw [HU.out]; exact HO2.out, HF.out, below_drewN HB.out nq⟩
        case measure => simp [intOf]; omega
    · obtain rfl : k = 128 := by omega
      clear hrow
      go_wp2_with fail
      go_ret
      exact ⟨_, rfl, HO.out, HF.out, HB.out⟩
theorem union_f (x y : Bool) (w : World) : Calls Try.prog 64 #[.bool x, .bool y] w fun e w' => e = .returned (.bool (x || y)) ∧ w = w' := by
  cases x <;> cases y
  all_goals
    go_enter Try.func64, Try.ntmps64
    go_wp2_with fail
    go_ret
    exact ⟨rfl, rfl⟩
theorem common_f (x y : Bool) (w : World) : Calls Try.prog 66 #[.bool x, .bool y] w fun e w' => e = .returned (.bool (x && y)) ∧ w = w' := by
  cases x <;> cases y
  all_goals
    go_enter Try.func66, Try.ntmps66
    go_wp2_with fail
    go_ret
    exact ⟨rfl, rfl⟩
theorem minus_f (x y : Bool) (w : World) : Calls Try.prog 67 #[.bool x, .bool y] w fun e w' => e = .returned (.bool (x && !y)) ∧ w = w' := by
  cases x <;> cases y
  all_goals
    go_enter Try.func67, Try.ntmps67
    go_wp2_with fail
    go_ret
    exact ⟨rfl, rfl⟩
set_option maxRecDepth 100000 in
theorem normal_any (v : Value) (l : List (Int × Int)) (hl : l.length ≤ 4000) (w : World) (hs : RunsAt w v l) :
    Calls Try.prog 22 #[v] w (Made w (norm (inB l))) := by
  have HS := hid hs
  clear hs
  have hz := zeroSet.1
  go_enter Try.func22, Try.ntmps22
  go_wp2_with fail
  refine (newSet_any v l hl _ HS.out).mono ?_
  rintro e w2 ⟨rfl, hb2⟩
  simp only []
  go_step
  go_step
  go_step
  go_step
  have hr0 := Row.new w2 (bits fun _ => false) 61
  have hr1 := hid (Row.setRow hr0 (bits (inB l)))
  have hbb : Below w.heap.size w ((w2.alloc (.cells (bits fun _ => false).toArray 61)).setRow w2.heap.size (bits (inB l)).toArray) :=
    (hb2.alloc hb2.size _).trans (Upds.below (Upds.row (F := fun k => k = w2.heap.size) _ w2.heap.size _ rfl) (by have := hb2.size; simp; omega) (fun k e => by have := hb2.size; omega))
  refine wpList_store_row rfl 61 (.tmp 3) (.tmp 5) rfl w2.heap.size (bits (inB l)).toArray rfl rfl 61 (bits fun _ => false).toArray hr0 (bits_sz _) (bits_eq _ _) (bits_one _) ?_
  have HBB := hid hbb
  clear hbb hr0 hz hb2
  obtain ⟨b, hb⟩ : ∃ b, b = w2.heap.size := ⟨_, rfl⟩
  rw [← hb] at HBB hr1 ⊢
  obtain ⟨w3, hw3⟩ : ∃ w3, w3 = (w2.alloc (.cells (bits fun _ => false).toArray 61)).setRow b (bits (inB l)).toArray := ⟨_, rfl⟩
  rw [← hw3] at HBB hr1 ⊢
  clear hw3 hb
  go_wp2_with (go_at_call 62; refine ((runs_any b (inB l) w3 hr1.out).mono fun e w' h => Made.below HBB.out h).mono ?_; rintro e w4 ⟨v4, rfl, h1, h2, h3⟩)
  go_ret
  exact ⟨v4, rfl, h1, h2, h3⟩
set_option maxRecDepth 100000 in
theorem combine_union (G : Bool → Bool → Bool) (hG : G = fun x y => x || y) (v v2 : Value) (l l2 : List (Int × Int)) (hl : l.length ≤ 4000) (hl2 : l2.length ≤ 4000) (w : World) (hs : RunsAt w v l) (hs2 : RunsAt w v2 l2) :
    Calls Try.prog 63 #[v, v2, .func (.func 64) #[] #[]] w (Made w (norm fun t => G (inB l t) (inB l2 t))) := by
  have HS := hid hs
  have HS2 := hid hs2
  have HG := hid hG
  clear hs hs2 hG
  have hz := zeroSet.1
  go_enter Try.func63, Try.ntmps63
  go_wp2_with fail
  refine (newSet_any v l hl _ HS.out).mono ?_
  rintro e w2 ⟨rfl, hb2⟩
  go_wp2_with fail
  refine (newSet_any v2 l2 hl2 w2 (HS2.out.below hb2 (Nat.le_refl _))).mono ?_
  rintro e w3 ⟨rfl, hb3⟩
  simp only []
  go_step
  go_step
  go_step
  go_step
  go_step
  go_step
  go_step
  have HBW := hid (hb2.trans (hb3.mono hb2.size))
  clear hb2 hb3
  have r7 := (Row.new w3 (bits fun _ => false) 61)
  have r8 := (Row.new (w3.alloc (.cells (bits fun _ => false).toArray 61)) (bits fun _ => false) 61)
  rw [World.size_alloc] at r8
  have r7' := r7.alloc (.cells (bits fun _ => false).toArray 61)
  have hbx := (HBW.out.alloc HBW.out.size (.cells (bits fun _ => false).toArray 61)).alloc (by have := HBW.out.size; simp; omega) (.cells (bits fun _ => false).toArray 61)
  have hb78 : w.heap.size ≤ w3.heap.size := HBW.out.size
  obtain ⟨W1, hW1⟩ : ∃ W1, W1 = (w3.alloc (.cells (bits fun _ => false).toArray 61)).alloc (.cells (bits fun _ => false).toArray 61) := ⟨_, rfl⟩
  obtain ⟨b7, hb7⟩ : ∃ b, b = w3.heap.size := ⟨_, rfl⟩
  obtain ⟨b8, hb8⟩ : ∃ b, b = b7 + 1 := ⟨_, rfl⟩
  have h78 : b7 ≠ b8 := by omega
  rw [← hW1] at r7' r8 hbx ⊢
  rw [← hb7, ← hb8] at r8
  rw [← hb7] at r7' hb78
  rw [← hb7, ← hb8]
  have hb88 : w.heap.size ≤ b8 := by omega
  clear hW1 hb7 hb8 r7
  refine wpList_store_row rfl 61 (.tmp 7) (.tmp 12) rfl b7 (bits (inB l)).toArray rfl rfl 61 (bits fun _ => false).toArray r7' (bits_sz _) (bits_eq _ _) (bits_one _) ?_
  have s7 := Row.setRow r7' (bits (inB l))
  have s8 := r8.upd (Upds.row (F := fun k => k = b7) W1 b7 (bits (inB l)).toArray rfl) (fun e => h78 e.symm)
  have hby := hbx.trans (Upds.below (Upds.row (F := fun k => k = b7) W1 b7 (bits (inB l)).toArray rfl) hbx.size (fun k e => by omega))
  obtain ⟨W2, hW2⟩ : ∃ W2, W2 = W1.setRow b7 (bits (inB l)).toArray := ⟨_, rfl⟩
  rw [← hW2] at s7 s8 hby ⊢
  clear hW2 r7' r8 hbx
  refine wpList_store_row rfl 61 (.tmp 8) (.tmp 14) rfl b8 (bits (inB l2)).toArray rfl rfl 61 (bits fun _ => false).toArray s8 (bits_sz _) (bits_eq _ _) (bits_one _) ?_
  have t8 := Row.setRow s8 (bits (inB l2))
  have t7 := s7.upd (Upds.row (F := fun k => k = b8) W2 b8 (bits (inB l2)).toArray rfl) h78
  have hbz := hby.trans (Upds.below (Upds.row (F := fun k => k = b8) W2 b8 (bits (inB l2)).toArray rfl) hby.size (fun k e => by omega))
  obtain ⟨W3, hW3⟩ : ∃ W3, W3 = W2.setRow b8 (bits (inB l2)).toArray := ⟨_, rfl⟩
  rw [← hW3] at t7 t8 hbz ⊢
  clear hW3 s7 s8 hby
  have t9 := Row.new W3 (bits fun _ => false) 61
  have T7 := hid (t7.alloc (.cells (bits fun _ => false).toArray 61))
  have T8 := hid (t8.alloc (.cells (bits fun _ => false).toArray 61))
  have HB0 := hid (hbz.alloc hbz.size (.cells (bits fun _ => false).toArray 61))
  have h79 : b7 ≠ W3.heap.size := by have := t7.lt; omega
  have h89 : b8 ≠ W3.heap.size := by have := t8.lt; omega
  have hb99 : w.heap.size ≤ W3.heap.size := hbz.size
  have T9 := hid t9
  clear t7 t8 t9 hbz HBW
  go_wp2_with fail
  obtain ⟨b9, hb9⟩ : ∃ b, b = W3.heap.size := ⟨_, rfl⟩
  rw [← hb9] at T9 h79 h89 hb99
  rw [← hb9]
  obtain ⟨W4, hW4⟩ : ∃ W4, W4 = W3.alloc (.cells (bits fun _ => false).toArray 61) := ⟨_, rfl⟩
  rw [← hW4] at T7 T8 T9 HB0 ⊢
  clear hW4 hb9 hz
  go_loopw [15] (fun i wr => ∃ k : Nat, k ≤ 128 ∧ i = .int .i64 k ∧ Row wr b7 61 (bits (inB l)) ∧ Row wr b8 61 (bits (inB l2)) ∧ Row wr b9 61 (bits fun t => decide (t < k) && G (inB l t) (inB l2 t)) ∧ Below w.heap.size w wr) (fun i _ => 128 - (intOf i).toNat)
  case atStart => exact ⟨0, by omega, rfl, T7.out, T8.out, by rw [bits_congr (B := fun _ => false) (fun t _ => by simp)]; exact T9.out, HB0.out⟩
  case round =>
    clear T7 T8 T9 HB0
    obtain ⟨k, hk, rfl, h7, h8, h9, hb⟩ := hrel
    have T7 := hid h7
    have T8 := hid h8
    have T9 := hid h9
    have HB := hid hb
    by_cases hlt : k < 128
    · have c7 := h7.cell (bits_get (inB l) k hlt)
      have c8 := h8.cell (bits_get (inB l2) k hlt)
      have c9 := h9.cell (bits_get (fun t => decide (t < k) && G (inB l t) (inB l2 t)) k hlt)
      have f9 := h9.frozen k
      clear h7 h8 h9 hb
      obtain ⟨x, hx⟩ : ∃ x, x = inB l k := ⟨_, rfl⟩
      obtain ⟨y, hy⟩ : ∃ y, y = inB l2 k := ⟨_, rfl⟩
      rw [← hx] at c7
      rw [← hy] at c8
      have HX := hid hx
      have HY := hid hy
      clear hx hy
      go_wp2_with fail
      go_region_with (go_at_call 64; refine (union_f _ _ _).mono ?_; rintro e w5 ⟨rfl, rfl⟩)
      all_goals
        go_wp2_with fail
        go_roundw
        case rel =>
          refine ⟨k + 1, by omega, by go_num, (T7.out.setOther (by simp; omega) _).upd (F := fun _ => False) (Upds.drew _) (fun h => h), (T8.out.setOther (by simp; omega) _).upd (F := fun _ => False) (Upds.drew _) (fun h => h), ?_, (HB.out.setCell (by simp; omega) _).drew⟩
          have h := (T9.out.set k (.bool (x || y))).upd (F := fun _ => False) (Upds.drew _) (fun h => h)
          rw [bits_set] at h
          rw [bits_congr (B := fun t => if t = k then (x || y) else (decide (t < k) && G (inB l t) (inB l2 t)))]
          · exact h
          · intro t _
            by_cases e : t = k
            · subst e; rw [if_pos rfl, HX.out, HY.out, HG.out]; simp
            · rw [if_neg e]
              have e2 : decide (t < k + 1) = decide (t < k) := by rw [decide_eq_decide]; omega
              rw [e2]
        case measure => simp [intOf]; omega
    · obtain rfl : k = 128 := by omega
      clear h7 h8 h9 hb
      go_wp2_with (go_at_call 62; refine ((runs_any b9 _ wr T9.out).mono fun e w' h => Made.below HB.out h).mono ?_; rintro e w4 ⟨v4, rfl, h1, h2, h3⟩)
      go_ret
      have hn : norm (fun t => decide (t < 128) && G (inB l t) (inB l2 t)) = norm fun t => G (inB l t) (inB l2 t) := by
        unfold norm; rw [ofB_congr (B := fun t => G (inB l t) (inB l2 t)) (fun t ht => by simp [ht])]
      rw [hn] at h1
      exact ⟨v4, rfl, h1, h2, h3⟩
set_option maxRecDepth 100000 in
theorem union_any (v v2 : Value) (l l2 : List (Int × Int)) (hl : l.length ≤ 4000) (hl2 : l2.length ≤ 4000) (w : World) (hs : RunsAt w v l) (hs2 : RunsAt w v2 l2) :
    Calls Try.prog 23 #[v, v2] w (Made w (norm fun t => inB l t || inB l2 t)) := by
  have HS := hid hs
  have HS2 := hid hs2
  clear hs hs2
  go_enter Try.func23, Try.ntmps23
  go_wp2_with (go_at_call 63; refine (combine_union (fun x y => x || y) rfl v v2 l l2 hl hl2 w HS.out HS2.out).mono ?_; rintro e w4 ⟨v4, rfl, h1, h2, h3⟩)
  go_ret
  exact ⟨v4, rfl, h1, h2, h3⟩
set_option maxRecDepth 100000 in
theorem combine_common (G : Bool → Bool → Bool) (hG : G = fun x y => x && y) (v v2 : Value) (l l2 : List (Int × Int)) (hl : l.length ≤ 4000) (hl2 : l2.length ≤ 4000) (w : World) (hs : RunsAt w v l) (hs2 : RunsAt w v2 l2) :
    Calls Try.prog 63 #[v, v2, .func (.func 66) #[] #[]] w (Made w (norm fun t => G (inB l t) (inB l2 t))) := by
  have HS := hid hs
  have HS2 := hid hs2
  have HG := hid hG
  clear hs hs2 hG
  have hz := zeroSet.1
  go_enter Try.func63, Try.ntmps63
  go_wp2_with fail
  refine (newSet_any v l hl _ HS.out).mono ?_
  rintro e w2 ⟨rfl, hb2⟩
  go_wp2_with fail
  refine (newSet_any v2 l2 hl2 w2 (HS2.out.below hb2 (Nat.le_refl _))).mono ?_
  rintro e w3 ⟨rfl, hb3⟩
  simp only []
  go_step
  go_step
  go_step
  go_step
  go_step
  go_step
  go_step
  have HBW := hid (hb2.trans (hb3.mono hb2.size))
  clear hb2 hb3
  have r7 := (Row.new w3 (bits fun _ => false) 61)
  have r8 := (Row.new (w3.alloc (.cells (bits fun _ => false).toArray 61)) (bits fun _ => false) 61)
  rw [World.size_alloc] at r8
  have r7' := r7.alloc (.cells (bits fun _ => false).toArray 61)
  have hbx := (HBW.out.alloc HBW.out.size (.cells (bits fun _ => false).toArray 61)).alloc (by have := HBW.out.size; simp; omega) (.cells (bits fun _ => false).toArray 61)
  have hb78 : w.heap.size ≤ w3.heap.size := HBW.out.size
  obtain ⟨W1, hW1⟩ : ∃ W1, W1 = (w3.alloc (.cells (bits fun _ => false).toArray 61)).alloc (.cells (bits fun _ => false).toArray 61) := ⟨_, rfl⟩
  obtain ⟨b7, hb7⟩ : ∃ b, b = w3.heap.size := ⟨_, rfl⟩
  obtain ⟨b8, hb8⟩ : ∃ b, b = b7 + 1 := ⟨_, rfl⟩
  have h78 : b7 ≠ b8 := by omega
  rw [← hW1] at r7' r8 hbx ⊢
  rw [← hb7, ← hb8] at r8
  rw [← hb7] at r7' hb78
  rw [← hb7, ← hb8]
  have hb88 : w.heap.size ≤ b8 := by omega
  clear hW1 hb7 hb8 r7
  refine wpList_store_row rfl 61 (.tmp 7) (.tmp 12) rfl b7 (bits (inB l)).toArray rfl rfl 61 (bits fun _ => false).toArray r7' (bits_sz _) (bits_eq _ _) (bits_one _) ?_
  have s7 := Row.setRow r7' (bits (inB l))
  have s8 := r8.upd (Upds.row (F := fun k => k = b7) W1 b7 (bits (inB l)).toArray rfl) (fun e => h78 e.symm)
  have hby := hbx.trans (Upds.below (Upds.row (F := fun k => k = b7) W1 b7 (bits (inB l)).toArray rfl) hbx.size (fun k e => by omega))
  obtain ⟨W2, hW2⟩ : ∃ W2, W2 = W1.setRow b7 (bits (inB l)).toArray := ⟨_, rfl⟩
  rw [← hW2] at s7 s8 hby ⊢
  clear hW2 r7' r8 hbx
  refine wpList_store_row rfl 61 (.tmp 8) (.tmp 14) rfl b8 (bits (inB l2)).toArray rfl rfl 61 (bits fun _ => false).toArray s8 (bits_sz _) (bits_eq _ _) (bits_one _) ?_
  have t8 := Row.setRow s8 (bits (inB l2))
  have t7 := s7.upd (Upds.row (F := fun k => k = b8) W2 b8 (bits (inB l2)).toArray rfl) h78
  have hbz := hby.trans (Upds.below (Upds.row (F := fun k => k = b8) W2 b8 (bits (inB l2)).toArray rfl) hby.size (fun k e => by omega))
  obtain ⟨W3, hW3⟩ : ∃ W3, W3 = W2.setRow b8 (bits (inB l2)).toArray := ⟨_, rfl⟩
  rw [← hW3] at t7 t8 hbz ⊢
  clear hW3 s7 s8 hby
  have t9 := Row.new W3 (bits fun _ => false) 61
  have T7 := hid (t7.alloc (.cells (bits fun _ => false).toArray 61))
  have T8 := hid (t8.alloc (.cells (bits fun _ => false).toArray 61))
  have HB0 := hid (hbz.alloc hbz.size (.cells (bits fun _ => false).toArray 61))
  have h79 : b7 ≠ W3.heap.size := by have := t7.lt; omega
  have h89 : b8 ≠ W3.heap.size := by have := t8.lt; omega
  have hb99 : w.heap.size ≤ W3.heap.size := hbz.size
  have T9 := hid t9
  clear t7 t8 t9 hbz HBW
  go_wp2_with fail
  obtain ⟨b9, hb9⟩ : ∃ b, b = W3.heap.size := ⟨_, rfl⟩
  rw [← hb9] at T9 h79 h89 hb99
  rw [← hb9]
  obtain ⟨W4, hW4⟩ : ∃ W4, W4 = W3.alloc (.cells (bits fun _ => false).toArray 61) := ⟨_, rfl⟩
  rw [← hW4] at T7 T8 T9 HB0 ⊢
  clear hW4 hb9 hz
  go_loopw [15] (fun i wr => ∃ k : Nat, k ≤ 128 ∧ i = .int .i64 k ∧ Row wr b7 61 (bits (inB l)) ∧ Row wr b8 61 (bits (inB l2)) ∧ Row wr b9 61 (bits fun t => decide (t < k) && G (inB l t) (inB l2 t)) ∧ Below w.heap.size w wr) (fun i _ => 128 - (intOf i).toNat)
  case atStart => exact ⟨0, by omega, rfl, T7.out, T8.out, by rw [bits_congr (B := fun _ => false) (fun t _ => by simp)]; exact T9.out, HB0.out⟩
  case round =>
    clear T7 T8 T9 HB0
    obtain ⟨k, hk, rfl, h7, h8, h9, hb⟩ := hrel
    have T7 := hid h7
    have T8 := hid h8
    have T9 := hid h9
    have HB := hid hb
    by_cases hlt : k < 128
    · have c7 := h7.cell (bits_get (inB l) k hlt)
      have c8 := h8.cell (bits_get (inB l2) k hlt)
      have c9 := h9.cell (bits_get (fun t => decide (t < k) && G (inB l t) (inB l2 t)) k hlt)
      have f9 := h9.frozen k
      clear h7 h8 h9 hb
      obtain ⟨x, hx⟩ : ∃ x, x = inB l k := ⟨_, rfl⟩
      obtain ⟨y, hy⟩ : ∃ y, y = inB l2 k := ⟨_, rfl⟩
      rw [← hx] at c7
      rw [← hy] at c8
      have HX := hid hx
      have HY := hid hy
      clear hx hy
      go_wp2_with fail
      go_region_with (go_at_call 66; refine (common_f _ _ _).mono ?_; rintro e w5 ⟨rfl, rfl⟩)
      all_goals
        go_wp2_with fail
        go_roundw
        case rel =>
          refine ⟨k + 1, by omega, by go_num, (T7.out.setOther (by simp; omega) _).upd (F := fun _ => False) (Upds.drew _) (fun h => h), (T8.out.setOther (by simp; omega) _).upd (F := fun _ => False) (Upds.drew _) (fun h => h), ?_, (HB.out.setCell (by simp; omega) _).drew⟩
          have h := (T9.out.set k (.bool (x && y))).upd (F := fun _ => False) (Upds.drew _) (fun h => h)
          rw [bits_set] at h
          rw [bits_congr (B := fun t => if t = k then (x && y) else (decide (t < k) && G (inB l t) (inB l2 t)))]
          · exact h
          · intro t _
            by_cases e : t = k
            · subst e; rw [if_pos rfl, HX.out, HY.out, HG.out]; simp
            · rw [if_neg e]
              have e2 : decide (t < k + 1) = decide (t < k) := by rw [decide_eq_decide]; omega
              rw [e2]
        case measure => simp [intOf]; omega
    · obtain rfl : k = 128 := by omega
      clear h7 h8 h9 hb
      go_wp2_with (go_at_call 62; refine ((runs_any b9 _ wr T9.out).mono fun e w' h => Made.below HB.out h).mono ?_; rintro e w4 ⟨v4, rfl, h1, h2, h3⟩)
      go_ret
      have hn : norm (fun t => decide (t < 128) && G (inB l t) (inB l2 t)) = norm fun t => G (inB l t) (inB l2 t) := by
        unfold norm; rw [ofB_congr (B := fun t => G (inB l t) (inB l2 t)) (fun t ht => by simp [ht])]
      rw [hn] at h1
      exact ⟨v4, rfl, h1, h2, h3⟩
set_option maxRecDepth 100000 in
theorem common_any (v v2 : Value) (l l2 : List (Int × Int)) (hl : l.length ≤ 4000) (hl2 : l2.length ≤ 4000) (w : World) (hs : RunsAt w v l) (hs2 : RunsAt w v2 l2) :
    Calls Try.prog 25 #[v, v2] w (Made w (norm fun t => inB l t && inB l2 t)) := by
  have HS := hid hs
  have HS2 := hid hs2
  clear hs hs2
  go_enter Try.func25, Try.ntmps25
  go_wp2_with (go_at_call 63; refine (combine_common (fun x y => x && y) rfl v v2 l l2 hl hl2 w HS.out HS2.out).mono ?_; rintro e w4 ⟨v4, rfl, h1, h2, h3⟩)
  go_ret
  exact ⟨v4, rfl, h1, h2, h3⟩
set_option maxRecDepth 100000 in
theorem combine_minus (G : Bool → Bool → Bool) (hG : G = fun x y => x && !y) (v v2 : Value) (l l2 : List (Int × Int)) (hl : l.length ≤ 4000) (hl2 : l2.length ≤ 4000) (w : World) (hs : RunsAt w v l) (hs2 : RunsAt w v2 l2) :
    Calls Try.prog 63 #[v, v2, .func (.func 67) #[] #[]] w (Made w (norm fun t => G (inB l t) (inB l2 t))) := by
  have HS := hid hs
  have HS2 := hid hs2
  have HG := hid hG
  clear hs hs2 hG
  have hz := zeroSet.1
  go_enter Try.func63, Try.ntmps63
  go_wp2_with fail
  refine (newSet_any v l hl _ HS.out).mono ?_
  rintro e w2 ⟨rfl, hb2⟩
  go_wp2_with fail
  refine (newSet_any v2 l2 hl2 w2 (HS2.out.below hb2 (Nat.le_refl _))).mono ?_
  rintro e w3 ⟨rfl, hb3⟩
  simp only []
  go_step
  go_step
  go_step
  go_step
  go_step
  go_step
  go_step
  have HBW := hid (hb2.trans (hb3.mono hb2.size))
  clear hb2 hb3
  have r7 := (Row.new w3 (bits fun _ => false) 61)
  have r8 := (Row.new (w3.alloc (.cells (bits fun _ => false).toArray 61)) (bits fun _ => false) 61)
  rw [World.size_alloc] at r8
  have r7' := r7.alloc (.cells (bits fun _ => false).toArray 61)
  have hbx := (HBW.out.alloc HBW.out.size (.cells (bits fun _ => false).toArray 61)).alloc (by have := HBW.out.size; simp; omega) (.cells (bits fun _ => false).toArray 61)
  have hb78 : w.heap.size ≤ w3.heap.size := HBW.out.size
  obtain ⟨W1, hW1⟩ : ∃ W1, W1 = (w3.alloc (.cells (bits fun _ => false).toArray 61)).alloc (.cells (bits fun _ => false).toArray 61) := ⟨_, rfl⟩
  obtain ⟨b7, hb7⟩ : ∃ b, b = w3.heap.size := ⟨_, rfl⟩
  obtain ⟨b8, hb8⟩ : ∃ b, b = b7 + 1 := ⟨_, rfl⟩
  have h78 : b7 ≠ b8 := by omega
  rw [← hW1] at r7' r8 hbx ⊢
  rw [← hb7, ← hb8] at r8
  rw [← hb7] at r7' hb78
  rw [← hb7, ← hb8]
  have hb88 : w.heap.size ≤ b8 := by omega
  clear hW1 hb7 hb8 r7
  refine wpList_store_row rfl 61 (.tmp 7) (.tmp 12) rfl b7 (bits (inB l)).toArray rfl rfl 61 (bits fun _ => false).toArray r7' (bits_sz _) (bits_eq _ _) (bits_one _) ?_
  have s7 := Row.setRow r7' (bits (inB l))
  have s8 := r8.upd (Upds.row (F := fun k => k = b7) W1 b7 (bits (inB l)).toArray rfl) (fun e => h78 e.symm)
  have hby := hbx.trans (Upds.below (Upds.row (F := fun k => k = b7) W1 b7 (bits (inB l)).toArray rfl) hbx.size (fun k e => by omega))
  obtain ⟨W2, hW2⟩ : ∃ W2, W2 = W1.setRow b7 (bits (inB l)).toArray := ⟨_, rfl⟩
  rw [← hW2] at s7 s8 hby ⊢
  clear hW2 r7' r8 hbx
  refine wpList_store_row rfl 61 (.tmp 8) (.tmp 14) rfl b8 (bits (inB l2)).toArray rfl rfl 61 (bits fun _ => false).toArray s8 (bits_sz _) (bits_eq _ _) (bits_one _) ?_
  have t8 := Row.setRow s8 (bits (inB l2))
  have t7 := s7.upd (Upds.row (F := fun k => k = b8) W2 b8 (bits (inB l2)).toArray rfl) h78
  have hbz := hby.trans (Upds.below (Upds.row (F := fun k => k = b8) W2 b8 (bits (inB l2)).toArray rfl) hby.size (fun k e => by omega))
  obtain ⟨W3, hW3⟩ : ∃ W3, W3 = W2.setRow b8 (bits (inB l2)).toArray := ⟨_, rfl⟩
  rw [← hW3] at t7 t8 hbz ⊢
  clear hW3 s7 s8 hby
  have t9 := Row.new W3 (bits fun _ => false) 61
  have T7 := hid (t7.alloc (.cells (bits fun _ => false).toArray 61))
  have T8 := hid (t8.alloc (.cells (bits fun _ => false).toArray 61))
  have HB0 := hid (hbz.alloc hbz.size (.cells (bits fun _ => false).toArray 61))
  have h79 : b7 ≠ W3.heap.size := by have := t7.lt; omega
  have h89 : b8 ≠ W3.heap.size := by have := t8.lt; omega
  have hb99 : w.heap.size ≤ W3.heap.size := hbz.size
  have T9 := hid t9
  clear t7 t8 t9 hbz HBW
  go_wp2_with fail
  obtain ⟨b9, hb9⟩ : ∃ b, b = W3.heap.size := ⟨_, rfl⟩
  rw [← hb9] at T9 h79 h89 hb99
  rw [← hb9]
  obtain ⟨W4, hW4⟩ : ∃ W4, W4 = W3.alloc (.cells (bits fun _ => false).toArray 61) := ⟨_, rfl⟩
  rw [← hW4] at T7 T8 T9 HB0 ⊢
  clear hW4 hb9 hz
  go_loopw [15] (fun i wr => ∃ k : Nat, k ≤ 128 ∧ i = .int .i64 k ∧ Row wr b7 61 (bits (inB l)) ∧ Row wr b8 61 (bits (inB l2)) ∧ Row wr b9 61 (bits fun t => decide (t < k) && G (inB l t) (inB l2 t)) ∧ Below w.heap.size w wr) (fun i _ => 128 - (intOf i).toNat)
  case atStart => exact ⟨0, by omega, rfl, T7.out, T8.out, by rw [bits_congr (B := fun _ => false) (fun t _ => by simp)]; exact T9.out, HB0.out⟩
  case round =>
    clear T7 T8 T9 HB0
    obtain ⟨k, hk, rfl, h7, h8, h9, hb⟩ := hrel
    have T7 := hid h7
    have T8 := hid h8
    have T9 := hid h9
    have HB := hid hb
    by_cases hlt : k < 128
    · have c7 := h7.cell (bits_get (inB l) k hlt)
      have c8 := h8.cell (bits_get (inB l2) k hlt)
      have c9 := h9.cell (bits_get (fun t => decide (t < k) && G (inB l t) (inB l2 t)) k hlt)
      have f9 := h9.frozen k
      clear h7 h8 h9 hb
      obtain ⟨x, hx⟩ : ∃ x, x = inB l k := ⟨_, rfl⟩
      obtain ⟨y, hy⟩ : ∃ y, y = inB l2 k := ⟨_, rfl⟩
      rw [← hx] at c7
      rw [← hy] at c8
      have HX := hid hx
      have HY := hid hy
      clear hx hy
      go_wp2_with fail
      go_region_with (go_at_call 67; refine (minus_f _ _ _).mono ?_; rintro e w5 ⟨rfl, rfl⟩)
      all_goals
        go_wp2_with fail
        go_roundw
        case rel =>
          refine ⟨k + 1, by omega, by go_num, (T7.out.setOther (by simp; omega) _).upd (F := fun _ => False) (Upds.drew _) (fun h => h), (T8.out.setOther (by simp; omega) _).upd (F := fun _ => False) (Upds.drew _) (fun h => h), ?_, (HB.out.setCell (by simp; omega) _).drew⟩
          have h := (T9.out.set k (.bool (x && !y))).upd (F := fun _ => False) (Upds.drew _) (fun h => h)
          rw [bits_set] at h
          rw [bits_congr (B := fun t => if t = k then (x && !y) else (decide (t < k) && G (inB l t) (inB l2 t)))]
          · exact h
          · intro t _
            by_cases e : t = k
            · subst e; rw [if_pos rfl, HX.out, HY.out, HG.out]; simp
            · rw [if_neg e]
              have e2 : decide (t < k + 1) = decide (t < k) := by rw [decide_eq_decide]; omega
              rw [e2]
        case measure => simp [intOf]; omega
    · obtain rfl : k = 128 := by omega
      clear h7 h8 h9 hb
      go_wp2_with (go_at_call 62; refine ((runs_any b9 _ wr T9.out).mono fun e w' h => Made.below HB.out h).mono ?_; rintro e w4 ⟨v4, rfl, h1, h2, h3⟩)
      go_ret
      have hn : norm (fun t => decide (t < 128) && G (inB l t) (inB l2 t)) = norm fun t => G (inB l t) (inB l2 t) := by
        unfold norm; rw [ofB_congr (B := fun t => G (inB l t) (inB l2 t)) (fun t ht => by simp [ht])]
      rw [hn] at h1
      exact ⟨v4, rfl, h1, h2, h3⟩
set_option maxRecDepth 100000 in
theorem minus_any (v v2 : Value) (l l2 : List (Int × Int)) (hl : l.length ≤ 4000) (hl2 : l2.length ≤ 4000) (w : World) (hs : RunsAt w v l) (hs2 : RunsAt w v2 l2) :
    Calls Try.prog 26 #[v, v2] w (Made w (norm fun t => inB l t && !inB l2 t)) := by
  have HS := hid hs
  have HS2 := hid hs2
  clear hs hs2
  go_enter Try.func26, Try.ntmps26
  go_wp2_with (go_at_call 63; refine (combine_minus (fun x y => x && !y) rfl v v2 l l2 hl hl2 w HS.out HS2.out).mono ?_; rintro e w4 ⟨v4, rfl, h1, h2, h3⟩)
  go_ret
  exact ⟨v4, rfl, h1, h2, h3⟩
end Go.Proofs.Ytimeebajpegknaa
/-! Same, slices.Equal, Valid, Disjoint. -/
namespace Go.Proofs.Ytimeebajpegknaa
open Go.Lib Go.ChangeShapes Go.WideShapes Go.ChangeAt Go.RowKit

theorem ofB_len (B : Nat → Bool) : (ofB B).length ≤ 128 := by unfold ofB; exact Nat.le_trans (List.length_filter_le _ _) (by simp)
theorem norm_len (B : Nat → Bool) : (norm B).length ≤ 4000 := by
  have h1 := canon_len (ofB B)
  have h2 := ofB_len B
  unfold norm; rw [up_len]; omega
theorem norm_bd (B : Nat → Bool) : Bd (norm B) := Bd.up (fine_canon _ (ofB_lt B))
theorem norm_seq (B : Nat → Bool) : seqI (norm B) = ofB B := seqI_canon _ (ofB_lt B)
/-- a truth value and a world of which nothing has changed -/
def Answers (b : Bool) (w : World) (e : Ending) (w' : World) : Prop := e = .returned (.bool b) ∧ Below w.heap.size w w'
set_option maxRecDepth 100000 in
theorem same_any (v v2 : Value) (l l2 : List (Int × Int)) (hl : l.length ≤ 4000) (hl2 : l2.length ≤ 4000) (w : World) (hs : RunsAt w v l) (hs2 : RunsAt w v2 l2) :
    Calls Try.prog 21 #[v, v2] w (Answers (decide (l = l2)) w) := by
  obtain ⟨A, cap, rfl, hcap, hcap2⟩ := hs.shape
  obtain ⟨A2, cap', rfl, hcap', hcap2'⟩ := hs2.shape
  obtain ⟨n, hn⟩ : ∃ n, n = l.length := ⟨_, rfl⟩
  obtain ⟨m, hm⟩ : ∃ m, m = l2.length := ⟨_, rfl⟩
  rw [← hn] at hs hcap hl ⊢
  rw [← hm] at hs2 hcap' hl2 ⊢
  obtain ⟨R, hR⟩ : ∃ R, R = decide (l = l2) := ⟨_, rfl⟩
  rw [← hR]
  by_cases hnm : n = m
  · subst hnm
    have HS := hid hs
    have HS2 := hid hs2
    have HN := hid hn
    have HM := hid hm
    have HR := hid hR
    clear hs hs2 hn hm hR
    go_enter Try.func21, Try.ntmps21
    go_wp2_with fail
    go_loopw [5] (fun i wr => ∃ k : Nat, k ≤ n ∧ i = .int .i64 k ∧ l.take k = l2.take k ∧ Below w.heap.size w wr) (fun i _ => n - (intOf i).toNat)
    case atStart => exact ⟨0, by omega, rfl, rfl, Below.refl _ _⟩
    case round =>
      obtain ⟨k, hk, rfl, hp, hb⟩ := hrel
      have HP := hid hp
      have HB := hid hb
      by_cases hlt : k < n
      · have hk1 : k < l.length := by rw [← HN.out]; exact hlt
        have hk2 : k < l2.length := by rw [← HM.out]; exact hlt
        obtain ⟨b, off, rfl, hlb, c1, c2, hbd⟩ := (HS.out.below hb (Nat.le_refl _)).round hk1
        obtain ⟨b', off', rfl, hlb', c1', c2', hbd'⟩ := (HS2.out.below hb (Nat.le_refl _)).round hk2
        obtain ⟨r, hr⟩ : ∃ r, r = l[k] := ⟨_, rfl⟩
        obtain ⟨r', hr'⟩ : ∃ r', r' = l2[k] := ⟨_, rfl⟩
        rw [← hr] at c1 c2
        rw [← hr'] at c1' c2'
        obtain ⟨f, c⟩ := r
        obtain ⟨f', c'⟩ := r'
        simp only at c1 c2 c1' c2'
        clear hp hb hbd hbd'
        have hst : (f = f' ∧ c = c') → l.take (k + 1) = l2.take (k + 1) := by
          rintro ⟨rfl, rfl⟩
          rw [List.take_succ_eq_append_getElem hk1, List.take_succ_eq_append_getElem hk2, HP.out, ← hr, ← hr']
        have hno : ¬ (f = f' ∧ c = c') → R = false := by
          intro h
          rw [HR.out, decide_eq_false_iff_not]
          rintro rfl
          rw [← hr] at hr'
          simp only [Prod.mk.injEq] at hr'
          exact h ⟨hr'.1.symm, hr'.2.symm⟩
        have HST := hid hst
        have HNO := hid hno
        clear hst hno hr hr'
        by_cases e1 : f = f'
        · subst e1
          by_cases e2 : c = c'
          · subst e2
            have HST2 := hid (HST.out ⟨rfl, rfl⟩)
            clear HST HNO
            go_wp2_with fail
            go_quiet (fail)
            go_wp2_with fail
            go_roundw
            case rel => exact ⟨k + 1, by omega, by go_num, HST2.out, below_drewN HB.out _⟩
            case measure => simp [intOf]; omega
          · have HNO2 := hid (HNO.out (fun h => e2 h.2))
            go_wp2_with fail
            go_quiet (fail)
            go_wp2_with fail
            go_ret
            rw [HNO2.out]
            exact ⟨rfl, below_drewN HB.out _⟩
        · have HNO2 := hid (HNO.out (fun h => e1 h.1))
          go_wp2_with fail
          go_quiet (fail)
          go_wp2_with fail
          go_ret
          rw [HNO2.out]
          exact ⟨rfl, below_drewN HB.out _⟩
      · obtain rfl : k = n := by omega
        have hR2 : R = true := by
          rw [HR.out, decide_eq_true_iff]
          have h := hp
          rw [HN.out, List.take_length, ← HN.out, HM.out, List.take_length] at h
          exact h
        have HR2 := hid hR2
        clear hR2 hp hb
        go_wp2_with fail
        go_ret
        rw [HR2.out]
        exact ⟨rfl, HB.out⟩
  · have hR2 : R = false := by
      rw [hR, decide_eq_false_iff_not]
      rintro rfl
      omega
    have HR2 := hid hR2
    have hd : ((n : Int) == m) = false := by simp; omega
    clear hR2 hn hm hR hs hs2
    go_enter Try.func21, Try.ntmps21
    go_wp2_with fail
    go_ret
    rw [HR2.out]
    exact ⟨rfl, Below.refl _ _⟩
set_option maxRecDepth 100000 in
theorem equal_any (v v2 : Value) (l l2 : List (Int × Int)) (hl : l.length ≤ 4000) (hl2 : l2.length ≤ 4000) (w : World) (hs : RunsAt w v l) (hs2 : RunsAt w v2 l2) :
    Calls Try.prog 60 #[v, v2] w (Answers (decide (l = l2)) w) := by
  obtain ⟨A, cap, rfl, hcap, hcap2⟩ := hs.shape
  obtain ⟨A2, cap', rfl, hcap', hcap2'⟩ := hs2.shape
  obtain ⟨n, hn⟩ : ∃ n, n = l.length := ⟨_, rfl⟩
  obtain ⟨m, hm⟩ : ∃ m, m = l2.length := ⟨_, rfl⟩
  rw [← hn] at hs hcap hl ⊢
  rw [← hm] at hs2 hcap' hl2 ⊢
  obtain ⟨R, hR⟩ : ∃ R, R = decide (l = l2) := ⟨_, rfl⟩
  rw [← hR]
  by_cases hnm : n = m
  · subst hnm
    have HS := hid hs
    have HS2 := hid hs2
    have HN := hid hn
    have HM := hid hm
    have HR := hid hR
    clear hs hs2 hn hm hR
    go_enter Try.func60, Try.ntmps60
    go_wp2_with fail
    go_loopw [13] (fun i wr => ∃ k : Nat, k ≤ n ∧ i = .int .i64 k ∧ l.take k = l2.take k ∧ Below w.heap.size w wr) (fun i _ => n - (intOf i).toNat)
    case atStart => exact ⟨0, by omega, rfl, rfl, Below.refl _ _⟩
    case round =>
      obtain ⟨k, hk, rfl, hp, hb⟩ := hrel
      have HP := hid hp
      have HB := hid hb
      by_cases hlt : k < n
      · have hk1 : k < l.length := by rw [← HN.out]; exact hlt
        have hk2 : k < l2.length := by rw [← HM.out]; exact hlt
        obtain ⟨b, off, rfl, hlb, c1, c2, hbd⟩ := (HS.out.below hb (Nat.le_refl _)).round hk1
        obtain ⟨b', off', rfl, hlb', c1', c2', hbd'⟩ := (HS2.out.below hb (Nat.le_refl _)).round hk2
        obtain ⟨r, hr⟩ : ∃ r, r = l[k] := ⟨_, rfl⟩
        obtain ⟨r', hr'⟩ : ∃ r', r' = l2[k] := ⟨_, rfl⟩
        rw [← hr] at c1 c2
        rw [← hr'] at c1' c2'
        obtain ⟨f, c⟩ := r
        obtain ⟨f', c'⟩ := r'
        simp only at c1 c2 c1' c2'
        clear hp hb hbd hbd'
        have hst : (f = f' ∧ c = c') → l.take (k + 1) = l2.take (k + 1) := by
          rintro ⟨rfl, rfl⟩
          rw [List.take_succ_eq_append_getElem hk1, List.take_succ_eq_append_getElem hk2, HP.out, ← hr, ← hr']
        have hno : ¬ (f = f' ∧ c = c') → R = false := by
          intro h
          rw [HR.out, decide_eq_false_iff_not]
          rintro rfl
          rw [← hr] at hr'
          simp only [Prod.mk.injEq] at hr'
          exact h ⟨hr'.1.symm, hr'.2.symm⟩
        have HST := hid hst
        have HNO := hid hno
        clear hst hno hr hr'
        by_cases e1 : f = f'
        · subst e1
          by_cases e2 : c = c'
          · subst e2
            have HST2 := hid (HST.out ⟨rfl, rfl⟩)
            clear HST HNO
            go_wp2_with fail
            go_quiet (fail)
            go_wp2_with fail
            go_roundw
            case rel => exact ⟨k + 1, by omega, by go_num, HST2.out, below_drewN HB.out _⟩
            case measure => simp [intOf]; omega
          · have HNO2 := hid (HNO.out (fun h => e2 h.2))
            go_wp2_with fail
            go_quiet (fail)
            go_wp2_with fail
            go_ret
            rw [HNO2.out]
            exact ⟨rfl, below_drewN HB.out _⟩
        · have HNO2 := hid (HNO.out (fun h => e1 h.1))
          go_wp2_with fail
          go_quiet (fail)
          go_wp2_with fail
          go_ret
          rw [HNO2.out]
          exact ⟨rfl, below_drewN HB.out _⟩
      · obtain rfl : k = n := by omega
        have hR2 : R = true := by
          rw [HR.out, decide_eq_true_iff]
          have h := hp
          rw [HN.out, List.take_length, ← HN.out, HM.out, List.take_length] at h
          exact h
        have HR2 := hid hR2
        clear hR2 hp hb
        go_wp2_with fail
        go_ret
        rw [HR2.out]
        exact ⟨rfl, HB.out⟩
  · have hR2 : R = false := by
      rw [hR, decide_eq_false_iff_not]
      rintro rfl
      omega
    have HR2 := hid hR2
    have hd : ((n : Int) == m) = false := by simp; omega
    clear hR2 hn hm hR hs hs2
    go_enter Try.func60, Try.ntmps60
    go_wp2_with fail
    go_ret
    rw [HR2.out]
    exact ⟨rfl, Below.refl _ _⟩
set_option maxRecDepth 100000 in
theorem valid_any (v : Value) (l : List (Int × Int)) (hl : l.length ≤ 4000) (w : World) (hs : RunsAt w v l) :
    Calls Try.prog 20 #[v] w (Answers (decide (l = norm (inB l))) w) := by
  have HS := hid hs
  clear hs
  obtain ⟨R, hR⟩ : ∃ R, R = decide (l = norm (inB l)) := ⟨_, rfl⟩
  rw [← hR]
  have HR := hid hR
  clear hR
  go_enter Try.func20, Try.ntmps20
  go_wp2_with fail
  refine (normal_any v l hl _ HS.out).mono ?_
  rintro e w2 ⟨v2, rfl, h1, h2, h3⟩
  have H1 := hid h1
  have H3 := hid h3
  clear h1 h2 h3
  go_wp2_with fail
  refine (equal_any v v2 l (norm (inB l)) hl (norm_len _) w2 (HS.out.below H3.out (Nat.le_refl _)) (H1.out.at (norm_bd _))).mono ?_
  rintro e w3 ⟨rfl, h4⟩
  rw [← HR.out]
  go_wp2_with fail
  go_ret
  exact ⟨rfl, H3.out.trans (h4.mono H3.out.size)⟩
set_option maxRecDepth 100000 in
theorem disjoint_any (v : Value) (l : List (Int × Int)) (hl : l.length ≤ 4000) (w : World) (hs : RunsAt w v l) :
    Calls Try.prog 35 #[v] w (Answers (decide ((seqI l).length = (ofB (inB l)).length)) w) := by
  have HS := hid hs
  clear hs
  obtain ⟨R, hR⟩ : ∃ R, R = decide ((seqI l).length = (ofB (inB l)).length) := ⟨_, rfl⟩
  rw [← hR]
  have HR := hid hR
  clear hR
  go_enter Try.func35, Try.ntmps35
  go_wp2_with fail
  refine (size_any v l hl _ HS.out).mono ?_
  rintro e w1 ⟨rfl, h0⟩
  have H0 := hid h0
  clear h0
  go_wp2_with fail
  refine (normal_any v l hl _ (HS.out.below H0.out (Nat.le_refl _))).mono ?_
  rintro e w2 ⟨v2, rfl, h1, h2, h3⟩
  have H1 := hid h1
  have H3 := hid h3
  clear h1 h2 h3
  go_wp2_with fail
  refine (size_any v2 (norm (inB l)) (norm_len _) w2 (H1.out.at (norm_bd _))).mono ?_
  rintro e w3 ⟨rfl, h4⟩
  have h5 := norm_seq (inB l)
  rw [h5]
  have hb : (((seqI l).length : Int) == ((ofB (inB l)).length : Int)) = R := by rw [HR.out, Bool.eq_iff_iff, beq_iff_eq, decide_eq_true_iff]; exact Int.ofNat_inj
  have HB := hid hb
  clear h5 hb
  go_wp2_with fail
  go_ret
  rw [HB.out]
  exact ⟨rfl, (H0.out.trans (H3.out.mono H0.out.size)).trans (h4.mono (Nat.le_trans H0.out.size H3.out.size))⟩
end Go.Proofs.Ytimeebajpegknaa
/-! The specification: holds, clip, In. -/
namespace Go.Proofs.Ytimeebajpegknaa
open Go.Lib Go.ChangeShapes Go.WideShapes Go.ChangeAt Go.RowKit

theorem ret_bool {a b : Bool} (h : a = b) : Ending.returned (.bool a) = .returned (.bool b) := by rw [h]
theorem ex_form (f c : Int) : ∃ F C : Nat, ex (f, c) = (F, C) ∧ (min (max c 0 + min f 0) (128 - max f 0) < 1 ∧ F = 0 ∧ C = 0 ∨ 1 ≤ min (max c 0 + min f 0) (128 - max f 0) ∧ (F : Int) = max f 0 ∧ (C : Int) = min (max c 0 + min f 0) (128 - max f 0)) := by
  refine ⟨(ex (f, c)).1, (ex (f, c)).2, rfl, ?_⟩
  unfold ex
  by_cases hz : min (max c 0 + min f 0) (128 - max f 0) < 1
  · rw [if_pos (by simp only; omega)]; exact .inl ⟨hz, rfl, rfl⟩
  · rw [if_neg (by simp only; omega)]; exact .inr ⟨by omega, by simp only; omega, by simp only; omega⟩
set_option maxRecDepth 100000 in
theorem holds_any (f c : Int) (h1 : -9223372036854775808 ≤ f ∧ f ≤ 9223372036854775807 ∧ -9223372036854775808 ≤ c ∧ c ≤ 9223372036854775807) (t : Nat) (ht : t < 128) (w : World) :
    Calls Try.prog 80 #[.agg #[.int .i64 f, .int .i64 c], .int .i64 t] w (Answers (decide ((ex (f, c)).1 ≤ t ∧ t < (ex (f, c)).1 + (ex (f, c)).2)) w) := by
  obtain ⟨F, C, hX, hF⟩ := ex_form f c
  rw [hX]
  obtain ⟨R, hR⟩ : ∃ R, R = decide (F ≤ t ∧ t < F + C) := ⟨_, rfl⟩
  simp only
  rw [← hR]
  obtain ⟨b1, b2, b3, b4⟩ := h1
  have hR2 : R = true ↔ (1 ≤ c ∧ f ≤ t ∧ (t : Int) < f + c) := by rw [hR, decide_eq_true_iff]; omega
  have HR := hid hR2
  clear hR hX hF hR2
  by_cases h0 : f < 0
  · by_cases hc : 1 ≤ c
    · go_enter Try.func80, Try.ntmps80
      go_wp2_with fail
      all_goals
        go_ret
        refine ⟨ret_bool ?_, (Below.refl _ _).alloc (Nat.le_refl _) _⟩
        have := HR.out
        rw [Bool.eq_iff_iff, this]
        simp
        omega
    · go_enter Try.func80, Try.ntmps80
      go_wp2_with fail
      all_goals
        go_ret
        refine ⟨ret_bool ?_, (Below.refl _ _).alloc (Nat.le_refl _) _⟩
        have := HR.out
        rw [Bool.eq_iff_iff, this]
        simp
        omega
  · by_cases hc : 1 ≤ c
    · by_cases ht2 : f ≤ t
      all_goals
        go_enter Try.func80, Try.ntmps80
        go_wp2_with fail
        all_goals
          go_ret
          refine ⟨ret_bool ?_, (Below.refl _ _).alloc (Nat.le_refl _) _⟩
          have := HR.out
          rw [Bool.eq_iff_iff, this]
          simp
          omega
    · go_enter Try.func80, Try.ntmps80
      go_wp2_with fail
      all_goals
        go_ret
        refine ⟨ret_bool ?_, (Below.refl _ _).alloc (Nat.le_refl _) _⟩
        have := HR.out
        rw [Bool.eq_iff_iff, this]
        simp
        omega
end Go.Proofs.Ytimeebajpegknaa
/-! The specification: clip. -/
namespace Go.Proofs.Ytimeebajpegknaa
open Go.Lib Go.ChangeShapes Go.WideShapes Go.ChangeAt Go.RowKit

theorem Row.keep {w w' : World} {b : Nat} {t : TypeId} {cur : List Value} (h : Row w b t cur) (hb : Below w.heap.size w w') : Row w' b t cur :=
  h.upd (F := fun _ => False) (Upds.of_below hb (Nat.le_refl _)) (fun h => h)
set_option maxRecDepth 100000 in
theorem clip_any (f c : Int) (w : World) (h1 : -9223372036854775808 ≤ f ∧ f ≤ 9223372036854775807 ∧ -9223372036854775808 ≤ c ∧ c ≤ 9223372036854775807) :
    Calls Try.prog 68 #[.agg #[.int .i64 f, .int .i64 c]] w fun e w' => e = .returned (.agg #[.int .i64 (ex (f, c)).1, .int .i64 (ex (f, c)).2]) ∧ Below w.heap.size w w' := by
  have hX1 := ex_le (f, c)
  have hX2 := ex_zero (f, c)
  have hholds := fun t ht w => holds_any f c h1 t ht w
  obtain ⟨X, hX⟩ : ∃ X, X = ex (f, c) := ⟨_, rfl⟩
  rw [← hX] at hX1 hX2 hholds ⊢
  obtain ⟨F, C⟩ := X
  simp only at hX1 hX2 hholds ⊢
  have hz0 : C = 0 → F = 0 := fun h => by have := hX2 h; simp only [Prod.mk.injEq] at this; exact this.1
  have HZ := hid hz0
  have HH := hid hholds
  clear hX hX2 hz0 hholds h1
  go_enter Try.func68, Try.ntmps68
  go_wp2_with fail
  have r1 := Row.new w [.int .i64 f, .int .i64 c] 47
  have r2 := Row.new (w.alloc (.cells #[.int .i64 f, .int .i64 c] 47)) [.int .i64 0, .int .i64 0] 47
  have r3 := Row.new ((w.alloc (.cells #[.int .i64 f, .int .i64 c] 47)).alloc (.cells #[.int .i64 0, .int .i64 0] 47)) [.int .i64 0, .int .i64 0] 47
  simp only [World.size_alloc] at r2 r3
  have HR1 := hid ((r1.alloc (.cells #[.int .i64 0, .int .i64 0] 47)).alloc (.cells #[.int .i64 0, .int .i64 0] 47))
  have HR2 := hid (r2.alloc (.cells #[.int .i64 0, .int .i64 0] 47))
  have HR3 := hid r3
  have HB0 := hid ((((Below.refl w.heap.size w).alloc (Nat.le_refl _) (.cells #[.int .i64 f, .int .i64 c] 47)).alloc (by simp) (.cells #[.int .i64 0, .int .i64 0] 47)).alloc (by simp; omega) (.cells #[.int .i64 0, .int .i64 0] 47))
  clear r1 r2 r3
  obtain ⟨b1, hb1⟩ : ∃ b, b = w.heap.size := ⟨_, rfl⟩
  obtain ⟨b2, hb2⟩ : ∃ b, b = b1 + 1 := ⟨_, rfl⟩
  obtain ⟨b3, hb3⟩ : ∃ b, b = b2 + 1 := ⟨_, rfl⟩
  rw [← hb1, ← hb2, ← hb3] at HR3
  rw [← hb1, ← hb2] at HR2
  rw [← hb1] at HR1
  rw [← hb1, ← hb2, ← hb3]
  have HBS : Hid (w.heap.size ≤ b1 ∧ w.heap.size ≤ b2 ∧ w.heap.size ≤ b3 ∧ b1 ≠ b3 ∧ b2 ≠ b3 ∧ b1 ≠ b2) := hid (by omega)
  clear hb1 hb2 hb3
  go_loopw [4] (fun i wr => ∃ k x y : Nat, k ≤ 128 ∧ i = .int .i64 k ∧ y = min k (F + C) - F ∧ (y = 0 ∧ x = 0 ∨ 0 < y ∧ x = F) ∧ Row wr b1 47 [.int .i64 f, .int .i64 c] ∧ Row wr b2 47 [.int .i64 0, .int .i64 0] ∧ Row wr b3 47 [.int .i64 x, .int .i64 y] ∧ Below w.heap.size w wr) (fun i _ => 128 - (intOf i).toNat)
  case atStart => exact ⟨0, 0, 0, by omega, rfl, by omega, .inl ⟨rfl, rfl⟩, HR1.out, HR2.out, HR3.out, HB0.out⟩
  case round =>
    clear HR1 HR2 HR3 HB0
    obtain ⟨k, x, y, hk, rfl, hy, hxy, hr1, hr2, hr3, hb⟩ := hrel
    have HB := hid hb
    have R1 := hid hr1
    have R2 := hid hr2
    have R3 := hid hr3
    have HY := hid hy
    have HXY := hid hxy
    have hy2 : y ≤ 128 := by omega
    by_cases hlt : k < 128
    · have c1 := hr1.cell (i := 0) rfl
      have c2 := hr1.cell (i := 1) rfl
      clear hb hr1 hr2 hr3
      by_cases hin : F ≤ k ∧ k < F + C
      · have hd : decide (F ≤ k ∧ k < F + C) = true := decide_eq_true hin
        have HD := hid hd
        have hyk : y = k - F := by omega
        by_cases hy0 : y = 0
        · have hkF : k = F := by omega
          clear hy hxy hd
          have HYK := hid hyk
          have HY0 := hid hy0
          have HKF := hid hkF
          have hye : ((y : Int) == 0) = true := by simp; omega
          clear hyk hy0 hkF
          go_wp2_with (go_at_call 80; refine (HH.out k hlt _).mono ?_; rintro e w2 ⟨rfl, hb2⟩; rw [HD.out]; have d3 := (R3.out.keep hb2).cell (i := 0) rfl; have d4 := (R3.out.keep hb2).cell (i := 1) rfl; have d5 := (R3.out.keep hb2).frozen 0; have d6 := (R3.out.keep hb2).frozen 1)
          go_roundw
          case rel =>
            have e1 : (((y + 1 : Nat)) : Int) = (y : Int) + 1 := by omega
            refine ⟨k + 1, k, y + 1, by omega, by go_num, by have := HYK.out; omega, .inr ⟨by omega, HKF.out⟩, ?_, ?_, ?_, ?_⟩
            · exact ((R1.out.keep hb2).setOther (by have := HBS.out; simp; omega) _).setOther (by have := HBS.out; simp; omega) _
            · exact ((R2.out.keep hb2).setOther (by have := HBS.out; simp; omega) _).setOther (by have := HBS.out; simp; omega) _
            · rw [e1]; exact ((R3.out.keep hb2).set 0 _).set 1 _
            · exact ((HB.out.trans (hb2.mono HB.out.size)).setCell (by have := HBS.out; simp; omega) _).setCell (by have := HBS.out; simp; omega) _
          case measure => simp [intOf]; omega
        · have hxF : x = F := by omega
          clear hy hxy hd
          have HYK := hid hyk
          have HXF := hid hxF
          have hye : ((y : Int) == 0) = false := by simp; omega
          clear hyk hxF
          go_wp2_with (go_at_call 80; refine (HH.out k hlt _).mono ?_; rintro e w2 ⟨rfl, hb2⟩; rw [HD.out]; have d3 := (R3.out.keep hb2).cell (i := 0) rfl; have d4 := (R3.out.keep hb2).cell (i := 1) rfl; have d5 := (R3.out.keep hb2).frozen 0; have d6 := (R3.out.keep hb2).frozen 1)
          go_roundw
          case rel =>
            have e1 : (((y + 1 : Nat)) : Int) = (y : Int) + 1 := by omega
            refine ⟨k + 1, x, y + 1, by omega, by go_num, by have := HYK.out; omega, .inr ⟨by omega, HXF.out⟩, ?_, ?_, ?_, ?_⟩
            · exact (R1.out.keep hb2).setOther (by have := HBS.out; simp; omega) _
            · exact (R2.out.keep hb2).setOther (by have := HBS.out; simp; omega) _
            · rw [e1]; exact (R3.out.keep hb2).set 1 _
            · exact (HB.out.trans (hb2.mono HB.out.size)).setCell (by have := HBS.out; simp; omega) _
          case measure => simp [intOf]; omega
      · have hd : decide (F ≤ k ∧ k < F + C) = false := decide_eq_false hin
        have HD := hid hd
        have hyk : y = min (k + 1) (F + C) - F := by omega
        have HYK := hid hyk
        clear hy hxy hd hyk
        go_wp2_with (go_at_call 80; refine (HH.out k hlt _).mono ?_; rintro e w2 ⟨rfl, hb2⟩; rw [HD.out])
        go_roundw
        case rel => exact ⟨k + 1, x, y, by omega, by go_num, HYK.out, HXY.out, R1.out.keep hb2, R2.out.keep hb2, R3.out.keep hb2, HB.out.trans (hb2.mono HB.out.size)⟩
        case measure => simp [intOf]; omega
    · obtain rfl : k = 128 := by omega
      have hxF : x = F ∧ y = C := by have := HZ.out; omega
      obtain ⟨rfl, rfl⟩ := hxF
      have d1 := hr3.cell (i := 0) rfl
      have d2 := hr3.cell (i := 1) rfl
      have d3 := hr2.cell (i := 0) rfl
      have d4 := hr2.cell (i := 1) rfl
      have d5 := hr2.frozen 0
      have d6 := hr2.frozen 1
      clear hy hxy hr1 hr2 hr3 hb
      go_wp2_with fail
      refine bodyPost_ret (v := .agg #[.int .i64 x, .int .i64 y]) ?_ rfl ⟨rfl, (HB.out.setCell (by have := HBS.out; simp; omega) _).setCell (by have := HBS.out; simp; omega) _⟩
      simp [results, Try.results68, go_sem, d3, d4]
end Go.Proofs.Ytimeebajpegknaa
/-! The specification: In, Sequence. -/
namespace Go.Proofs.Ytimeebajpegknaa
open Go.Lib Go.ChangeShapes Go.WideShapes Go.ChangeAt Go.RowKit

theorem inB_iff (l : List (Int × Int)) (t : Int) : (FirstAt (seqI l) t).2 = true ↔ ∃ x ∈ seqI l, (x : Int) = t := by
  rw [firstAt_snd, List.any_eq_true]; simp
theorem inB_first (l : List (Int × Int)) (t : Nat) : (FirstAt (seqI l) t).2 = inB l t := by
  rw [Bool.eq_iff_iff, inB_iff]
  unfold inB
  rw [List.contains_iff_mem]
  constructor
  · rintro ⟨x, hx, e⟩
    have : x = t := by omega
    subst this; exact hx
  · intro h; exact ⟨t, h, rfl⟩
set_option maxRecDepth 100000 in
theorem in_any (v : Value) (l : List (Int × Int)) (hl : l.length ≤ 4000) (t : Int) (ht : -9223372036854775808 ≤ t ∧ t ≤ 9223372036854775807) (w : World) (hs : RunsAt w v l) :
    Calls Try.prog 28 #[v, .int .i64 t] w (Answers (FirstAt (seqI l) t).2 w) := by
  obtain ⟨A, cap, rfl, hcap, hcap2⟩ := hs.shape
  obtain ⟨n, hn⟩ : ∃ n, n = l.length := ⟨_, rfl⟩
  rw [← hn] at hs hcap hl ⊢
  have HS := hid hs
  have HN := hid hn
  obtain ⟨ht1, ht2⟩ := ht
  clear hs hn
  obtain ⟨R, hR⟩ : ∃ R, R = (FirstAt (seqI l) t).2 := ⟨_, rfl⟩
  rw [← hR]
  have HR := hid hR
  clear hR
  go_enter Try.func28, Try.ntmps28
  go_wp2_with fail
  go_loopw [5] (fun i wr => ∃ k : Nat, k ≤ n ∧ i = .int .i64 k ∧ (∀ x ∈ seqI (l.take k), (x : Int) ≠ t) ∧ Below w.heap.size w wr) (fun i _ => n - (intOf i).toNat)
  case atStart => exact ⟨0, by omega, rfl, (fun x hx => by cases hx), Below.refl _ _⟩
  case round =>
    obtain ⟨k, hk, rfl, hno, hb⟩ := hrel
    have HB := hid hb
    have HNO := hid hno
    clear hno
    by_cases hlt : k < n
    · have hk2 : k < l.length := by rw [← HN.out]; exact hlt
      obtain ⟨b, off, rfl, hlb, c1, c2, hbd⟩ := (HS.out.below hb (Nat.le_refl _)).round hk2
      obtain ⟨r, hr⟩ : ∃ r, r = l[k] := ⟨_, rfl⟩
      rw [← hr] at c1 c2 hbd
      obtain ⟨f, c⟩ := r
      simp only at c1 c2 hbd
      have hx := ex_le (f, c)
      have hstep := seqI_take_succ l k hk2
      have hsplit := seqI_split l k hk2
      rw [← hr] at hstep hsplit
      obtain ⟨x, hxx⟩ : ∃ x, x = ex (f, c) := ⟨_, rfl⟩
      rw [← hxx] at hstep hx hsplit
      obtain ⟨F, C⟩ := x
      have HST := hid hstep
      have HSP := hid hsplit
      have HXX := hid hxx
      have HBD := hid hbd
      simp only at hx
      clear hstep hxx hr hbd hb hsplit
      by_cases h1 : (F : Int) ≤ t
      · by_cases h2 : t < (F : Int) + C
        · have hans : R = true := by
            have := HR.out
            rw [HSP.out, firstAt_yes _ _ F C t HNO.out h1 h2] at this
            exact this
          have HANS := hid hans
          clear hans
          go_wp2_with (go_at_call 68; refine (clip_any f c _ HBD.out).mono ?_; rintro e w2 ⟨rfl, hb2⟩; rw [← HXX.out])
          go_ret
          rw [HANS.out]
          exact ⟨rfl, HB.out.trans ((hb2.mono HB.out.size).alloc (Nat.le_trans HB.out.size hb2.size) _)⟩
        · have hnew : ∀ x ∈ seqI (l.take (k + 1)), (x : Int) ≠ t := by
            rw [HST.out]
            intro x hx2
            rw [List.mem_append] at hx2
            exact hx2.elim (HNO.out x) (tracks_no F C t (fun h => by omega) x)
          have HNEW := hid hnew
          clear hnew
          go_wp2_with (go_at_call 68; refine (clip_any f c _ HBD.out).mono ?_; rintro e w2 ⟨rfl, hb2⟩; rw [← HXX.out])
          go_roundw
          case rel => exact ⟨k + 1, by omega, by go_num, HNEW.out, HB.out.trans ((hb2.mono HB.out.size).alloc (Nat.le_trans HB.out.size hb2.size) _)⟩
          case measure => simp [intOf]; omega
      · have hnew : ∀ x ∈ seqI (l.take (k + 1)), (x : Int) ≠ t := by
          rw [HST.out]
          intro x hx2
          rw [List.mem_append] at hx2
          exact hx2.elim (HNO.out x) (tracks_no F C t (fun h => by omega) x)
        have HNEW := hid hnew
        clear hnew
        go_wp2_with (go_at_call 68; refine (clip_any f c _ HBD.out).mono ?_; rintro e w2 ⟨rfl, hb2⟩; rw [← HXX.out])
        go_roundw
        case rel => exact ⟨k + 1, by omega, by go_num, HNEW.out, HB.out.trans ((hb2.mono HB.out.size).alloc (Nat.le_trans HB.out.size hb2.size) _)⟩
        case measure => simp [intOf]; omega
    · obtain rfl : k = n := by omega
      have hans : R = false := by
        have := HR.out
        rw [firstAt_no _ _ (by have := HNO.out; rw [HN.out, List.take_length] at this; exact this)] at this
        exact this
      have HANS := hid hans
      clear hans hb
      go_wp2_with fail
      go_ret
      rw [HANS.out]
      exact ⟨rfl, HB.out⟩
/-- the cells of a list of numbers -/
def nums (s : List Nat) : List Value := s.map fun t : Nat => .int .i64 (t : Int)
def OwnInts (w : World) (v : Value) (s : List Nat) : Prop := SliceIs w 3 1 v s.length (nums s)
/-- what Sequence leaves -/
def SeqMade (w : World) (s : List Nat) (e : Ending) (w' : World) : Prop := ∃ u, e = .returned u ∧ OwnInts w' u s ∧ Below w.heap.size w w'
theorem nums_append (a b : List Nat) : nums (a ++ b) = nums a ++ nums b := by unfold nums; simp
theorem news1 (w : World) (x : Value) (t : TypeId) (g : Nat) (hg : g = w.heap.size) : ∀ j u, [x][j]? = some u → (w.alloc (.cells #[x] t)).cell? ((⟨g, 0, none⟩ : Addr).add j) = some u := by
  intro j u hj
  subst hg
  rw [Go.WideShapes.add_plain, Nat.zero_add]
  exact (Row.new w [x] t).cell hj
set_option maxRecDepth 100000 in
theorem sequence_any (v : Value) (l : List (Int × Int)) (hl : l.length ≤ 4000) (w : World) (hs : RunsAt w v l) :
    Calls Try.prog 34 #[v] w (SeqMade w (seqI l)) := by
  obtain ⟨A, cap, rfl, hcap, hcap2⟩ := hs.shape
  obtain ⟨n, hn⟩ : ∃ n, n = l.length := ⟨_, rfl⟩
  rw [← hn] at hs hcap hl ⊢
  have HS := hid hs
  have HN := hid hn
  clear hs hn
  go_enter Try.func34, Try.ntmps34
  go_wp2_with fail
  go_loopw [3, 4] (fun s i wr => ∃ (k : Nat) (u : Value), k ≤ n ∧ i = .int .i64 k ∧ u = s ∧ OwnInts wr u (seqI (l.take k)) ∧ Fresh w u ∧ Below w.heap.size w wr) (fun _ i _ => n - (intOf i).toNat)
  case atStart => exact ⟨0, _, by omega, rfl, rfl, .inl ⟨_, rfl, rfl, rfl⟩, (fun k hk => by obtain ⟨_, _, _, e, h0, _⟩ := hk; simp only [Value.slice.injEq] at e; omega), (Below.refl _ _).alloc (Nat.le_refl _) _⟩
  case round =>
    obtain ⟨k, u, hk, rfl, rfl, ho, hf, hb⟩ := hrel
    have HB := hid hb
    have HO := hid ho
    have HF := hid hf
    by_cases hlt : k < n
    · have hk2 : k < l.length := by rw [← HN.out]; exact hlt
      obtain ⟨b, off, rfl, hlb, c1, c2, hbd⟩ := (HS.out.below hb (Nat.le_refl _)).round hk2
      obtain ⟨r, hr⟩ : ∃ r, r = l[k] := ⟨_, rfl⟩
      rw [← hr] at c1 c2 hbd
      obtain ⟨f, c⟩ := r
      simp only at c1 c2 hbd
      have hx := ex_le (f, c)
      have hstep := seqI_take_succ l k hk2
      rw [← hr] at hstep
      have hle := seqI_len_le (l.take k)
      have hle2 : (l.take k).length ≤ 4000 := by simp; omega
      obtain ⟨x, hxx⟩ : ∃ x, x = ex (f, c) := ⟨_, rfl⟩
      rw [← hxx] at hstep hx
      obtain ⟨F, C⟩ := x
      have HST := hid hstep
      have HXX := hid hxx
      have HBD := hid hbd
      simp only at hx
      obtain ⟨m, hm⟩ : ∃ m, m = (seqI (l.take k)).length := ⟨_, rfl⟩
      have hm5 : m ≤ 512000 := by omega
      have HM := hid hm
      have hlt1 : ∀ b, Value.home u b → b < wr.heap.size := SliceIs.lt ho
      have HLT := hid hlt1
      clear hstep hxx hr hbd hb ho hf hle hle2 hm hlt1
      go_wp2_with (go_at_call 68; refine (clip_any f c _ HBD.out).mono ?_; rintro e w2 ⟨rfl, hb2⟩; rw [← HXX.out])
      have QB := hid ((HB.out.trans (hb2.mono HB.out.size)).alloc (Nat.le_trans HB.out.size hb2.size) (.cells #[.int .i64 F, .int .i64 C] 47))
      have QR := hid (Row.new w2 [.int .i64 F, .int .i64 C] 47)
      have QO : Hid (OwnInts (w2.alloc (.cells #[.int .i64 F, .int .i64 C] 47)) u (seqI (l.take k))) := SliceIs.alloc (SliceIs.upd HO.out (Upds.of_below hb2 (Nat.le_refl _)) (F := fun _ => False) (fun _ _ h => h)) _
      have QN : Hid (∀ b, Value.home u b → b ≠ w2.heap.size) := fun b h => by have := HLT.out b h; have := hb2.size; omega
      have QS : Hid (w.heap.size ≤ w2.heap.size) := Nat.le_trans HB.out.size hb2.size
      obtain ⟨bv, hbv⟩ : ∃ bv, bv = w2.heap.size := ⟨_, rfl⟩
      obtain ⟨w3, hw3⟩ : ∃ w3, w3 = w2.alloc (.cells #[.int .i64 F, .int .i64 C] 47) := ⟨_, rfl⟩
      rw [← hbv, ← hw3] at QR
      rw [← hbv] at QN QS
      rw [← hw3] at QB QO
      rw [← hbv, ← hw3]
      clear hb2 hbv hw3 c1 c2 hlb HO HLT
      go_loopw [3, 6] (fun s j wq => ∃ (z : Nat) (u : Value), z ≤ C ∧ j = .int .i64 z ∧ u = s ∧ OwnInts wq u (seqI (l.take k) ++ tracks (F, z)) ∧ Fresh w u ∧ Row wq bv 47 [.int .i64 F, .int .i64 C] ∧ (∀ b, Value.home u b → b ≠ bv) ∧ Below w.heap.size w wq) (fun _ j _ => C - (intOf j).toNat)
      case atStart => exact ⟨0, u, by omega, rfl, rfl, by unfold tracks; simp; exact QO.out, HF.out, QR.out, QN.out, QB.out⟩
      case round =>
        clear QB QR QO QN HB HF
        obtain ⟨z, u, hz, rfl, rfl, ho, hf, hr, hn, hb⟩ := hrel
        have HB := hid hb
        have HO := hid ho
        have HF := hid hf
        have HR := hid hr
        have HNV := hid hn
        by_cases hlz : z < C
        · have c1 := hr.cell (i := 0) rfl
          have c2 := hr.cell (i := 1) rfl
          have hlen : (seqI (l.take k) ++ tracks (F, z)).length = m + z := by rw [List.length_append, tracks_len, HM.out]
          unfold OwnInts at ho
          rw [hlen] at ho
          obtain ⟨cs, hcs⟩ : ∃ cs, cs = nums (seqI (l.take k) ++ tracks (F, z)) := ⟨_, rfl⟩
          rw [← hcs] at ho
          have HO2 := hid ho
          have HCS := hid hcs
          clear ho hf hr hn hb hlen hcs
          go_wp2_with (at_builtin; refine wpList_append_slice rfl (.tmp 25) (.tmp 30) 36 rfl 3 (.int .i64 0) 1 8 Try.underlying36 (by kernel_rfl) (by kernel_rfl) u (m + z) cs rfl (SliceIs.alloc HO2.out _) ⟨wr.heap.size, 0, none⟩ 1 1 [.int .i64 ((F : Int) + z)] rfl rfl (news1 _ _ _ _ rfl) (by simp [Value.oneCell']) (by omega) (by omega) (by omega) ?_; intro g8 cap8 w8 hs8 hu8 hh8)
          go_roundw
          case rel =>
            have hs9 : OwnInts w8 (.slice (some ⟨g8, 0, none⟩) (m + z + 1) cap8) (seqI (l.take k) ++ tracks (F, z + 1)) := by
              have e1 : seqI (l.take k) ++ tracks (F, z + 1) = (seqI (l.take k) ++ tracks (F, z)) ++ [F + z] := by
                have e2 : tracks (F, z + 1) = tracks (F, z) ++ [F + z] := by unfold tracks; rw [List.range'_concat]; simp
                rw [e2, List.append_assoc]
              have e3 : ((seqI (l.take k) ++ tracks (F, z)) ++ [F + z]).length = m + z + 1 := by rw [List.length_append, List.length_append, tracks_len, HM.out]; rfl
              unfold OwnInts
              rw [e1, e3, nums_append, ← HCS.out]
              exact hs8.out
            refine ⟨z + 1, _, by omega, by go_num, rfl, hs9, fun b hb => ?_, (HR.out.alloc _).upd hu8.out (fun h => HNV.out _ h rfl), fun b hb => ?_, (HB.out.alloc HB.out.size _).trans (hu8.out.below (by have := HB.out.size; simp; omega) (fun b hb => HF.out b hb))⟩
            · exact (hh8.out b hb).elim (HF.out b) (fun h => by have := HB.out.size; simp at h; omega)
            · exact (hh8.out b hb).elim (HNV.out b) (fun h => by have := HR.out.lt; simp at h; omega)
          case measure => simp [intOf]; omega
        · obtain rfl : z = C := by omega
          have c1 := hr.cell (i := 0) rfl
          have c2 := hr.cell (i := 1) rfl
          clear ho hf hr hn hb
          go_wp2_with fail
          go_roundw
          case rel => exact ⟨k + 1, u, by omega, by go_num, rfl, by rw [HST.out]; exact HO.out, HF.out, HB.out⟩
          case measure => simp [intOf]; omega
    · obtain rfl : k = n := by omega
      have hlen : seqI (l.take k) = seqI l := by rw [HN.out, List.take_length]
      have HL := hid hlen
      clear hlen hb ho hf
      go_wp2_with fail
      go_ret
      exact ⟨_, rfl, by rw [← HL.out]; exact HO.out, HB.out⟩
end Go.Proofs.Ytimeebajpegknaa
/-! The specification: At, Index, Disjoint. -/
namespace Go.Proofs.Ytimeebajpegknaa
open Go.Lib Go.ChangeShapes Go.WideShapes Go.ChangeAt Go.RowKit

theorem OwnInts.get {w : World} {u : Value} {s : List Nat} (h : OwnInts w u s) : ∃ A cap, u = .slice A s.length cap ∧ ∀ i (hi : i < s.length), ∃ g, A = some ⟨g, 0, none⟩ ∧ g < w.heap.size ∧ w.cell? ⟨g, i, none⟩ = some (.int .i64 s[i]) := by
  rcases h with ⟨a, e, h0, _⟩ | ⟨g, cap, cur, e, hr, ht, hl, h1, h2, _⟩
  · exact ⟨a, 0, by rw [h0]; exact e, fun i hi => by omega⟩
  · refine ⟨_, cap, e, fun i hi => ⟨g, rfl, hr.lt, hr.cell ?_⟩⟩
    have h3 : (nums s)[i]? = some (.int .i64 s[i]) := by unfold nums; simp [hi]
    rw [← ht, List.getElem?_take, if_pos (by omega)] at h3
    exact h3
set_option maxRecDepth 100000 in
theorem refAt_any (v : Value) (l : List (Int × Int)) (hl : l.length ≤ 4000) (t : Int) (ht : -9223372036854775808 ≤ t ∧ t ≤ 9223372036854775807) (w : World) (hs : RunsAt w v l) :
    Calls Try.prog 30 #[v, .int .i64 t] w fun e w' => e = .returned (.tuple #[.int .i64 (AtSeq (seqI l) t).1, .bool (AtSeq (seqI l) t).2]) ∧ Below w.heap.size w w' := by
  have HS := hid hs
  obtain ⟨ht1, ht2⟩ := ht
  have hle := seqI_len_le l
  clear hs
  obtain ⟨R1, R2, hR⟩ : ∃ R1 R2, (R1, R2) = AtSeq (seqI l) t := ⟨_, _, rfl⟩
  rw [← hR]
  go_enter Try.func30, Try.ntmps30
  go_wp2_with fail
  refine (sequence_any v l hl _ HS.out).mono ?_
  rintro e w2 ⟨u, rfl, h1, h2⟩
  obtain ⟨A, cap, rfl, hc⟩ := h1.get
  have HB := hid h2
  obtain ⟨m, hm⟩ : ∃ m, m = (seqI l).length := ⟨_, rfl⟩
  have hm5 : m ≤ 512000 := by omega
  rw [← hm]
  by_cases hin : 0 ≤ t ∧ t < m
  · obtain ⟨k, rfl⟩ : ∃ k : Nat, t = k := ⟨t.toNat, by omega⟩
    obtain ⟨g, rfl, hg, hcell⟩ := hc k (by omega)
    have hans : R1 = ((seqI l)[k]'(by omega) : Nat) ∧ R2 = true := by
      unfold AtSeq at hR
      rw [if_neg (by omega), show ((k : Int)).toNat = k from by omega, List.getElem?_eq_getElem (by omega)] at hR
      simpa using hR
    obtain ⟨z, hz⟩ : ∃ z, z = (seqI l)[k]'(by omega) := ⟨_, rfl⟩
    rw [← hz] at hans hcell
    have HANS := hid hans
    obtain ⟨hin1, hin2⟩ := hin
    clear hans hR hz h1 h2 hc hm hle
    go_wp2_with fail
    go_ret2
    rw [HANS.out.1, HANS.out.2]
    exact ⟨rfl, HB.out⟩
  · have hans : R1 = 0 ∧ R2 = false := by
      by_cases h0 : t < 0
      · rw [atSeq_neg _ _ h0] at hR; simpa using hR
      · rw [atSeq_no _ _ (by omega)] at hR; simpa using hR
    have HANS := hid hans
    clear hans hR h1 h2 hc hm hle
    by_cases h0 : t < 0
    · go_wp2_with fail
      go_ret2
      rw [HANS.out.1, HANS.out.2]
      exact ⟨rfl, HB.out⟩
    · have h3 : (m : Int) ≤ t := by omega
      go_wp2_with fail
      go_ret2
      rw [HANS.out.1, HANS.out.2]
      exact ⟨rfl, HB.out⟩
set_option maxRecDepth 100000 in
theorem refIndex_any (v : Value) (l : List (Int × Int)) (hl : l.length ≤ 4000) (t : Int) (ht : -9223372036854775808 ≤ t ∧ t ≤ 9223372036854775807) (w : World) (hs : RunsAt w v l) :
    Calls Try.prog 32 #[v, .int .i64 t] w fun e w' => e = .returned (.tuple #[.int .i64 (FirstAt (seqI l) t).1, .bool (FirstAt (seqI l) t).2]) ∧ Below w.heap.size w w' := by
  have HS := hid hs
  obtain ⟨ht1, ht2⟩ := ht
  have hle := seqI_len_le l
  clear hs
  obtain ⟨R1, R2, hR⟩ : ∃ R1 R2, (R1, R2) = FirstAt (seqI l) t := ⟨_, _, rfl⟩
  rw [← hR]
  have HR := hid hR
  go_enter Try.func32, Try.ntmps32
  go_wp2_with fail
  refine (sequence_any v l hl _ HS.out).mono ?_
  rintro e w2 ⟨u, rfl, h1, h2⟩
  obtain ⟨A, cap, rfl, hc⟩ := h1.get
  have HB := hid h2
  have HC := hid hc
  obtain ⟨m, hm⟩ : ∃ m, m = (seqI l).length := ⟨_, rfl⟩
  have hm5 : m ≤ 512000 := by omega
  rw [← hm]
  have HM := hid hm
  clear hR h1 h2 hc hm hle
  go_wp2_with fail
  go_loop [7] (fun i => ∃ k : Nat, k ≤ m ∧ i = .int .i64 k ∧ ∀ x ∈ (seqI l).take k, (x : Int) ≠ t) (fun i => m - (intOf i).toNat)
  case atStart => exact ⟨0, by omega, rfl, by simp⟩
  case round =>
    obtain ⟨k, hk, rfl, hno⟩ := hrel
    have HNO := hid hno
    clear hno
    by_cases hlt : k < m
    · have hk2 : k < (seqI l).length := by rw [← HM.out]; exact hlt
      obtain ⟨g, rfl, hg, hcell⟩ := HC.out k hk2
      obtain ⟨z, hz⟩ : ∃ z, z = (seqI l)[k] := ⟨_, rfl⟩
      rw [← hz] at hcell
      have hstep : (seqI l).take (k + 1) = (seqI l).take k ++ [z] := by rw [List.take_succ_eq_append_getElem hk2, hz]
      have hsplit : seqI l = (seqI l).take k ++ (tracks (z, 1) ++ (seqI l).drop (k + 1)) := by
        have e : tracks (z, 1) = [z] := rfl
        rw [e, ← List.append_assoc, ← hstep, List.take_append_drop]
      have HST := hid hstep
      have HSP := hid hsplit
      clear hz hstep hsplit
      by_cases he : (z : Int) = t
      · have hans : R1 = (k : Int) ∧ R2 = true := by
          have := HR.out
          rw [HSP.out, firstAt_yes _ _ z 1 t HNO.out (by omega) (by omega)] at this
          simp only [Prod.mk.injEq] at this
          refine ⟨?_, this.2⟩
          rw [this.1, List.length_take, Nat.min_eq_left (by omega)]; omega
        have HANS := hid hans
        clear hans
        have hd : ((z : Int) == t) = true := by simpa using he
        clear he
        go_wp2_with fail
        go_ret2
        rw [HANS.out.1, HANS.out.2]
        exact ⟨rfl, HB.out⟩
      · have hd : ((z : Int) == t) = false := by simpa using he
        have hnew : ∀ x ∈ (seqI l).take (k + 1), (x : Int) ≠ t := by
          rw [HST.out]
          intro x hx
          rw [List.mem_append, List.mem_singleton] at hx
          rcases hx with hx | rfl
          · exact HNO.out x hx
          · exact he
        have HNEW := hid hnew
        clear hnew he
        go_wp2_with fail
        go_round
        case rel => exact ⟨k + 1, by omega, by go_num, HNEW.out⟩
        case measure => simp [intOf]; omega
    · obtain rfl : k = m := by omega
      have hans : R1 = 0 ∧ R2 = false := by
        have := HR.out
        rw [firstAt_no _ _ (by have := HNO.out; rw [HM.out, List.take_length] at this; exact this)] at this
        simpa using this
      have HANS := hid hans
      clear hans
      go_wp2_with fail
      go_ret2
      rw [HANS.out.1, HANS.out.2]
      exact ⟨rfl, HB.out⟩
end Go.Proofs.Ytimeebajpegknaa
namespace Go.Proofs.Ytimeebajpegknaa
def cnt (n : Nat) (P : Nat → Bool) : Nat := ((List.range n).filter P).length
theorem cnt_succ (n : Nat) (P : Nat → Bool) : cnt (n + 1) P = cnt n P + if P n then 1 else 0 := by
  unfold cnt; rw [List.range_succ, List.filter_append, List.length_append]
  by_cases h : P n <;> simp [h]
theorem cnt_congr (n : Nat) (P Q : Nat → Bool) (h : ∀ t, t < n → P t = Q t) : cnt n P = cnt n Q := by
  unfold cnt; rw [List.filter_congr fun t ht => h t (List.mem_range.1 ht)]
theorem cnt_add (n a : Nat) (P : Nat → Bool) (h : P a = false) : cnt n (fun t => t == a || P t) = cnt n P + if a < n then 1 else 0 := by
  induction n with
  | zero => rfl
  | succ n ih =>
    rw [cnt_succ, cnt_succ, ih]
    by_cases e : n = a
    · subst e; simp [h]
    · have e1 : (n == a || P n) = P n := by simp [e]
      rw [e1]
      by_cases e2 : a < n
      · simp only [if_pos e2, if_pos (show a < n + 1 by omega)]; omega
      · simp only [if_neg e2, if_neg (show ¬ a < n + 1 by omega)]; omega
theorem cnt_or_and (n : Nat) (P Q : Nat → Bool) : cnt n (fun t => P t || Q t) + cnt n (fun t => P t && Q t) = cnt n P + cnt n Q := by
  induction n with
  | zero => rfl
  | succ n ih =>
    simp only [cnt_succ]
    cases P n <;> cases Q n <;> simp <;> omega
theorem cnt_le (n : Nat) (P : Nat → Bool) : cnt n P ≤ n := by unfold cnt; exact Nat.le_trans (List.length_filter_le _ _) (by simp)
theorem nodup_cnt (s : List Nat) (h : ∀ t ∈ s, t < 128) : cnt 128 (fun t => s.contains t) ≤ s.length ∧ (s.length = cnt 128 (fun t => s.contains t) ↔ s.Nodup) := by
  induction s with
  | nil =>
    have e : cnt 128 (fun t => ([] : List Nat).contains t) = 0 := by unfold cnt; simp
    rw [e]; simp
  | cons a s ih =>
    have ih := ih (fun t ht => h t (by simp [ht]))
    have ha := h a (by simp)
    rw [List.nodup_cons, List.length_cons]
    have e0 : ∀ t, (a :: s).contains t = (t == a || s.contains t) := fun t => by rw [List.contains_cons]
    by_cases hm : a ∈ s
    · have e : cnt 128 (fun t => (a :: s).contains t) = cnt 128 (fun t => s.contains t) := cnt_congr _ _ _ (fun t _ => by
        rw [e0]
        by_cases e : t = a
        · subst e; simp [hm]
        · simp [e])
      rw [e]
      refine ⟨by omega, ⟨fun h2 => by omega, fun h2 => absurd hm h2.1⟩⟩
    · have e : cnt 128 (fun t => (a :: s).contains t) = cnt 128 (fun t => s.contains t) + 1 := by
        rw [cnt_congr _ _ _ (fun t _ => e0 t), cnt_add _ _ _ (by simpa using hm), if_pos ha]
      rw [e]
      refine ⟨by omega, ⟨fun h2 => ⟨hm, ih.2.1 (by omega)⟩, fun h2 => by have := ih.2.2 h2.2; omega⟩⟩
theorem ofB_cnt (B : Nat → Bool) : (ofB B).length = cnt 128 B := rfl
theorem disjoint_iff (l : List (Int × Int)) : (seqI l).length = (ofB (inB l)).length ↔ (seqI l).Nodup := (nodup_cnt (seqI l) (seqI_lt l)).2
end Go.Proofs.Ytimeebajpegknaa
/-! The specification: Disjoint. -/
namespace Go.Proofs.Ytimeebajpegknaa
open Go.Lib Go.ChangeShapes Go.WideShapes Go.ChangeAt Go.RowKit

theorem nodup_get (s : List Nat) : s.Nodup ↔ ∀ i j (hi : i < s.length) (hj : j < s.length), i < j → s[i] ≠ s[j] := by
  unfold List.Nodup; exact List.pairwise_iff_getElem
set_option maxRecDepth 100000 in
theorem refDisjoint_any (v : Value) (l : List (Int × Int)) (hl : l.length ≤ 4000) (w : World) (hs : RunsAt w v l) :
    Calls Try.prog 36 #[v] w (Answers (decide (seqI l).Nodup) w) := by
  have HS := hid hs
  have hle := seqI_len_le l
  clear hs
  obtain ⟨R, hR⟩ : ∃ R, R = decide (seqI l).Nodup := ⟨_, rfl⟩
  rw [← hR]
  have HR := hid hR
  go_enter Try.func36, Try.ntmps36
  go_wp2_with fail
  refine (sequence_any v l hl _ HS.out).mono ?_
  rintro e w2 ⟨u, rfl, h1, h2⟩
  have HO := hid h1
  obtain ⟨A, cap, rfl, _⟩ := h1.get
  have HB0 := hid h2
  obtain ⟨m, hm⟩ : ∃ m, m = (seqI l).length := ⟨_, rfl⟩
  have hm5 : m ≤ 512000 := by omega
  rw [← hm] at HO ⊢
  have HM := hid hm
  clear hR h1 h2 hm hle
  go_wp2_with fail
  go_loopw [4] (fun i wr => ∃ k : Nat, k ≤ m ∧ i = .int .i64 k ∧ (∀ a b (ha : a < (seqI l).length) (hb : b < (seqI l).length), b < k → a < b → (seqI l)[a] ≠ (seqI l)[b]) ∧ OwnInts wr (.slice A m cap) (seqI l) ∧ Below w.heap.size w wr) (fun i _ => m - (intOf i).toNat)
  case atStart => exact ⟨0, by omega, rfl, (fun a b _ _ h => by omega), HO.out, HB0.out⟩
  case round =>
    clear HO HB0
    obtain ⟨k, hk, rfl, hno, ho, hb⟩ := hrel
    have HNO := hid hno
    have HB := hid hb
    have HO := hid ho
    clear hno
    by_cases hlt : k < m
    · have hk2 : k < (seqI l).length := by rw [← HM.out]; exact hlt
      obtain ⟨z, hz⟩ : ∃ z, z = (seqI l)[k] := ⟨_, rfl⟩
      have HZ := hid hz
      clear hz ho hb
      go_wp2_with fail
      go_loopw [5] (fun i wq => ∃ j : Nat, j ≤ k ∧ i = .int .i64 j ∧ (∀ a (ha : a < (seqI l).length), a < j → (seqI l)[a] ≠ z) ∧ OwnInts wq (.slice A m cap) (seqI l) ∧ Below w.heap.size w wq) (fun i _ => k - (intOf i).toNat)
      case atStart => exact ⟨0, by omega, rfl, (fun a _ h => by omega), HO.out, HB.out⟩
      case round =>
        clear HO HB
        obtain ⟨j, hj, rfl, hin, ho, hb⟩ := hrel
        have HIN := hid hin
        have HB := hid hb
        have HO := hid ho
        clear hin
        by_cases hlj : j < k
        · have hj2 : j < (seqI l).length := by omega
          obtain ⟨A', cap', e, hc⟩ := ho.get
          simp only [Value.slice.injEq] at e
          obtain ⟨rfl, _, rfl⟩ := e
          obtain ⟨g, rfl, hg, d1⟩ := hc k hk2
          obtain ⟨_, e, _, d2⟩ := hc j hj2
          simp only [Option.some.injEq, Addr.mk.injEq, and_true] at e
          subst e
          obtain ⟨y, hy⟩ : ∃ y, y = (seqI l)[j] := ⟨_, rfl⟩
          rw [← HZ.out] at d1
          rw [← hy] at d2
          have HY := hid hy
          clear hy hc ho hb
          by_cases he : z = y
          · have hans : R = false := by
              rw [HR.out, decide_eq_false_iff_not, nodup_get]
              intro h
              exact h j k hj2 hk2 hlj (by rw [← HY.out, ← HZ.out, he])
            have HANS := hid hans
            have hd : ((z : Int) == y) = true := by simp; omega
            clear hans he
            go_wp2_with fail
            go_quiet (fail)
            go_wp2_with fail
            go_ret
            rw [HANS.out]
            exact ⟨rfl, below_drewN HB.out _⟩
          · have hd : ((z : Int) == y) = false := by simp; omega
            have hnew : ∀ a (ha : a < (seqI l).length), a < j + 1 → (seqI l)[a] ≠ z := by
              intro a ha h
              by_cases e : a = j
              · subst e; rw [← HY.out]; omega
              · exact HIN.out a ha (by omega)
            have HNEW := hid hnew
            clear hnew he
            go_wp2_with fail
            go_quiet (fail)
            go_wp2_with fail
            go_roundw
            case rel => exact ⟨j + 1, by omega, by go_num, HNEW.out, SliceIs.upd (F := fun _ => False) HO.out (Upds.drewN _ _) (fun _ _ h => h), below_drewN HB.out _⟩
            case measure => simp [intOf]; omega
        · obtain rfl : j = k := by omega
          have hnew : ∀ a b (ha : a < (seqI l).length) (hb : b < (seqI l).length), b < j + 1 → a < b → (seqI l)[a] ≠ (seqI l)[b] := by
            intro a b ha hb h h2
            by_cases e : b = j
            · subst e; rw [← HZ.out]; exact HIN.out a ha h2
            · exact HNO.out a b ha hb (by omega) h2
          have HNEW := hid hnew
          clear hnew ho hb
          go_wp2_with fail
          go_roundw
          case rel => exact ⟨j + 1, by omega, by go_num, HNEW.out, HO.out, HB.out⟩
          case measure => simp [intOf]; omega
    · obtain rfl : k = m := by omega
      have hans : R = true := by
        rw [HR.out, decide_eq_true_iff, nodup_get]
        intro i j hi hj h
        exact HNO.out i j hi hj (by rw [HM.out]; exact hj) h
      have HANS := hid hans
      clear hans ho hb
      go_wp2_with fail
      go_ret
      rw [HANS.out]
      exact ⟨rfl, HB.out⟩
end Go.Proofs.Ytimeebajpegknaa
/-! The specification: set, Set, Normal. -/
namespace Go.Proofs.Ytimeebajpegknaa
open Go.Lib Go.ChangeShapes Go.WideShapes Go.ChangeAt Go.RowKit

/-- the last run of a slice of runs in memory -/
theorem OwnRuns.last {w : World} {v : Value} {l : List (Int × Int)} {p1 p2 : Int} (h : OwnRuns w v (l ++ [(p1, p2)])) : ∃ g cap, v = .slice (some ⟨g, 0, none⟩) (l.length + 1) cap ∧ g < w.heap.size ∧ l.length + 1 ≤ cap ∧ cap ≤ 9223372036854775807 ∧
    w.cell? ⟨g, l.length * 2, none⟩ = some (.int .i64 p1) ∧ w.cell? ⟨g, l.length * 2 + 1, none⟩ = some (.int .i64 p2) ∧ w.frozen? ⟨g, l.length * 2 + 1, none⟩ = false ∧
    (∀ q, OwnRuns (w.setCell ⟨g, l.length * 2 + 1, none⟩ (.int .i64 q)) v (l ++ [(p1, q)])) ∧ Value.home v g := by
  obtain ⟨g, cap, cur, e, hrow, htk, hcl, hnc, hcm⟩ := h.row (by simp)
  have hn1 : (l ++ [(p1, p2)]).length = l.length + 1 := by simp
  have hg := runCells_get (l ++ [(p1, p2)]) l.length (by simp)
  rw [← htk, List.getElem?_take, List.getElem?_take, if_pos (by simp), if_pos (by simp; omega)] at hg
  have hx : (l ++ [(p1, p2)])[l.length]'(by simp) = (p1, p2) := by simp
  rw [hx] at hg
  rw [hn1] at e hnc htk
  subst e
  refine ⟨g, cap, rfl, hrow.lt, hnc, hcm, hrow.cell hg.1, hrow.cell hg.2, hrow.frozen _, fun q => ?_, ⟨_, _, _, rfl, by omega, rfl⟩⟩
  have hl2 : (l ++ [(p1, q)]).length = l.length + 1 := by simp
  unfold OwnRuns
  rw [hl2]
  refine .inr ⟨g, cap, _, rfl, hrow.set (l.length * 2 + 1) (.int .i64 q), ?_, by rw [List.length_set]; exact hcl, hnc, hcm, by omega⟩
  rw [List.take_set, htk, runCells_append, List.set_append_right _ _ (by rw [runCells_len]; omega), runCells_len, runCells_append]
  have e9 : l.length * 2 + 1 - l.length * 2 = 1 := by omega
  rw [e9]
  simp [runCells]
theorem OwnRuns.more {w : World} {v : Value} {l : List (Int × Int)} {n : Nat} {cs : List Value} {r : Int × Int} (hn : l.length = n) (hcs : cs = runCells l) (h : SliceIs w 47 2 v (n + 1) (cs ++ [.int .i64 r.1, .int .i64 r.2])) : OwnRuns w v (l ++ [r]) := by
  have e : (l ++ [r]).length = n + 1 := by simp [hn]
  unfold OwnRuns
  rw [e, runCells_append, ← hcs]
  exact h
theorem canon_new_addR (s : List Nat) (k : Nat) (h : ∀ l' p, canon s = l' ++ [p] → p.1 + p.2 ≠ k) : addR (canon s) (k, 1) = canon s ++ [(k, 1)] := by
  rcases snoc_or (canon s) with e | ⟨l', p, e⟩
  · rw [e, addR_nil _ (by simp)]; rfl
  · rw [e, addR_no _ _ _ (by simp) (h l' p e)]
set_option maxRecDepth 100000 in
theorem set_any (gb cap : Nat) (B : Nat → Bool) (w : World) (hgb : gb < w.heap.size) (_hcap : 128 ≤ cap) (_hcap2 : cap ≤ 9223372036854775807) (hc : ∀ i, i < 128 → w.cell? ⟨gb, i, none⟩ = some (.bool (B i))) :
    Calls Try.prog 65 #[.slice (some ⟨gb, 0, none⟩) 128 cap] w (Made w (norm B)) := by
  have HC : Hid (∀ W, Below w.heap.size w W → ∀ i, i < 128 → W.cell? ⟨gb, i, none⟩ = some (.bool (B i))) := fun W hb i hi => (hb.cell (p := ⟨gb, i, none⟩) hgb).trans (hc i hi)
  clear hc
  go_enter Try.func65, Try.ntmps65
  go_wp2_with fail
  go_loopw [3, 4] (fun o i wr => ∃ (k : Nat) (v : Value), k ≤ 128 ∧ i = .int .i64 k ∧ v = o ∧ OwnRuns wr v (up (canon (upto B k))) ∧ Fresh w v ∧ Below w.heap.size w wr) (fun _ i _ => 128 - (intOf i).toNat)
  case atStart => exact ⟨0, _, by omega, rfl, rfl, .inl ⟨_, rfl, rfl, rfl⟩, (fun k hk => by obtain ⟨_, _, _, e, h0, _⟩ := hk; simp only [Value.slice.injEq] at e; omega), (Below.refl _ _).alloc (Nat.le_refl _) _⟩
  case round =>
    obtain ⟨k, v, hk, rfl, rfl, ho, hf, hb⟩ := hrel
    have HO := hid ho
    have HF := hid hf
    have HB := hid hb
    by_cases hlt : k < 128
    · have hc := HC.out wr hb k hlt
      have hus := upto_succ B k
      clear ho hf hb
      cases hB : B k with
      | true =>
        rw [hB] at hc hus
        rw [if_pos rfl] at hus
        have HU := hid hus
        have HBK := hid hB
        clear hus hB
        by_cases hprev : ∃ j, j + 1 = k ∧ B j = true
        · obtain ⟨j, rfl, hj⟩ := hprev
          have hc2 := HC.out wr HB.out j (by omega)
          rw [hj] at hc2
          obtain ⟨l', p, hl, hp⟩ := upto_prev B j hj
          have ho := HO.out
          rw [hl, up_append] at ho
          obtain ⟨g, cp, rfl, hg, hn1, hn2, d1, d2, d3, d4, d5⟩ := OwnRuns.last (p1 := p.1) (p2 := p.2) ho
          have hlen : (up l').length ≤ 4000 := by
            have h1 := canon_len (upto B (j + 1))
            have h2 : (upto B (j + 1)).length ≤ j + 1 := upto_len B (j + 1)
            rw [hl] at h1; rw [up_len]; simp at h1; omega
          have HD4 := hid d4
          have HD5 := hid d5
          have HL := hid hl
          have HP := hid hp
          have hp2 : p.2 ≤ 129 := by omega
          obtain ⟨q, hq⟩ : ∃ q, q = (up l').length := ⟨_, rfl⟩
          rw [← hq] at hn1 d1 d2 d3 hlen ⊢
          have HQ := hid hq
          clear ho d4 d5 hl hp hj hq
          have hcst : ((j + 1 : Nat) : Int) = (j : Int) + 1 := by omega
          rw [hcst]
          go_wp2_with fail
          go_roundw
          case rel =>
            have h1 := HD4.out ((p.2 : Int) + 1)
            refine ⟨j + 1 + 1, _, by omega, by go_num, rfl, ?_, by rw [HQ.out]; exact HF.out, HB.out.setCell (by have := HF.out _ HD5.out; simp; omega) _⟩
            rw [HU.out, canon_snoc, HL.out, addR_yes _ _ _ (by simp) (by have := HP.out; simp; omega), up_append, HQ.out]
            exact h1
          case measure => simp [intOf]; omega
        · have hnew : ∀ l' p, canon (upto B k) = l' ++ [p] → p.1 + p.2 ≠ k := upto_new B k hk (fun j hj => by
            cases hb : B j with
            | false => rfl
            | true => exact absurd ⟨j, hj, hb⟩ hprev)
          have HNW := hid hnew
          have hp2 : ∀ j, j + 1 = k → wr.cell? ⟨gb, j, none⟩ = some (.bool false) := fun j hj => by
            have h1 := HC.out wr HB.out j (by omega)
            cases hb : B j with
            | false => rw [hb] at h1; exact h1
            | true => exact absurd ⟨j, hj, hb⟩ hprev
          have HP2 := hid hp2
          clear hprev hnew hp2
          rcases Nat.eq_zero_or_pos k with h0 | h0
          · subst h0
            have hle : (up (canon (upto B 0))).length ≤ 128 := by
              have h1 := canon_len (upto B (0))
              have h2 : (upto B (0)).length ≤ 0 := upto_len B (0)
              rw [up_len]; omega
            have hu2 : up (canon (upto B (0 + 1))) = up (canon (upto B (0))) ++ [((0 : Int), (1 : Int))] := by
              rw [HU.out, canon_snoc]
              have hx := canon_new_addR (upto B (0)) (0) (HNW.out)
              rw [hx, up_append]; rfl
            obtain ⟨n, hn⟩ : ∃ n, n = (up (canon (upto B (0)))).length := ⟨_, rfl⟩
            obtain ⟨cs, hcs⟩ : ∃ cs, cs = runCells (up (canon (upto B (0)))) := ⟨_, rfl⟩
            have ho := HO.out
            unfold OwnRuns at ho
            rw [← hn, ← hcs] at ho
            rw [← hn] at hle
            have HO2 := hid ho
            have HN := hid hn
            have HCS := hid hcs
            have HU2 := hid hu2
            clear hn hcs hu2 ho
            go_wp2_with (at_builtin; refine wpList_append_slice rfl (.tmp 36) (.tmp 39) 22 rfl 47 (.agg #[.int .i64 0, .int .i64 0]) 2 16 Try.underlying22 (by kernel_rfl) (by kernel_rfl) v n cs rfl (SliceIs.alloc HO2.out _) ⟨wr.heap.size, 0, none⟩ 1 1 [.int .i64 0, .int .i64 1] rfl rfl (news2 _ _ _ _ _ rfl) (one2 _ _) (by omega) (by omega) (by omega) ?_; intro g8 cap8 w8 hs8 hu8 hh8)
            go_roundw
            case rel =>
              have h1 := OwnRuns.more (r := (0, 1)) HN.out.symm HCS.out hs8.out
              refine ⟨0 + 1, _, by omega, by first | rfl | (simp; done) | go_num, rfl, by rw [HU2.out]; exact h1, fun b hb => ?_, (HB.out.alloc HB.out.size _).trans (hu8.out.below (by have := HB.out.size; simp only [World.size_alloc]; omega) (fun b hb => HF.out b hb))⟩
              exact (hh8.out b hb).elim (HF.out b) (fun h => by have := HB.out.size; simp at h; omega)
            case measure => simp [intOf]
          · obtain ⟨j, rfl⟩ : ∃ j, k = j + 1 := ⟨k - 1, by omega⟩
            have hc2 := HP2.out j rfl
            have hcst : ((j + 1 : Nat) : Int) = (j : Int) + 1 := by omega
            rw [hcst]
            have hle : (up (canon (upto B (j + 1)))).length ≤ 128 := by
              have h1 := canon_len (upto B ((j + 1)))
              have h2 : (upto B ((j + 1))).length ≤ (j + 1) := upto_len B ((j + 1))
              rw [up_len]; omega
            have hu2 : up (canon (upto B ((j + 1) + 1))) = up (canon (upto B ((j + 1)))) ++ [(((j + 1 : Nat) : Int), (1 : Int))] := by
              rw [HU.out, canon_snoc]
              have hx := canon_new_addR (upto B ((j + 1))) ((j + 1)) (HNW.out)
              rw [hx, up_append]; rfl
            obtain ⟨n, hn⟩ : ∃ n, n = (up (canon (upto B ((j + 1))))).length := ⟨_, rfl⟩
            obtain ⟨cs, hcs⟩ : ∃ cs, cs = runCells (up (canon (upto B ((j + 1))))) := ⟨_, rfl⟩
            have ho := HO.out
            unfold OwnRuns at ho
            rw [← hn, ← hcs] at ho
            rw [← hn] at hle
            have HO2 := hid ho
            have HN := hid hn
            have HCS := hid hcs
            have HU2 := hid hu2
            clear hn hcs hu2 ho
            go_wp2_with (at_builtin; refine wpList_append_slice rfl (.tmp 36) (.tmp 39) 22 rfl 47 (.agg #[.int .i64 0, .int .i64 0]) 2 16 Try.underlying22 (by kernel_rfl) (by kernel_rfl) v n cs rfl (SliceIs.alloc HO2.out _) ⟨wr.heap.size, 0, none⟩ 1 1 [.int .i64 ((j : Int) + 1), .int .i64 1] rfl rfl (news2 _ _ _ _ _ rfl) (one2 _ _) (by omega) (by omega) (by omega) ?_; intro g8 cap8 w8 hs8 hu8 hh8)
            go_roundw
            case rel =>
              have h1 := OwnRuns.more (r := ((j : Int) + 1, 1)) HN.out.symm HCS.out hs8.out
              refine ⟨(j + 1) + 1, _, by omega, by first | rfl | (simp; done) | go_num, rfl, by rw [HU2.out]; exact h1, fun b hb => ?_, (HB.out.alloc HB.out.size _).trans (hu8.out.below (by have := HB.out.size; simp only [World.size_alloc]; omega) (fun b hb => HF.out b hb))⟩
              exact (hh8.out b hb).elim (HF.out b) (fun h => by have := HB.out.size; simp at h; omega)
            case measure => simp [intOf]; omega
      | false =>
        rw [hB] at hc hus
        rw [if_neg (by simp)] at hus
        have HU := hid hus
        clear hus hB
        go_wp2_with fail
        go_roundw
        case rel => exact ⟨k + 1, v, by omega, by go_num, rfl, by rw [HU.out]; exact HO.out, HF.out, HB.out⟩
        case measure => simp [intOf]; omega
    · obtain rfl : k = 128 := by omega
      clear ho hf hb
      go_wp2_with fail
      go_ret
      exact ⟨_, rfl, HO.out, HF.out, HB.out⟩
end Go.Proofs.Ytimeebajpegknaa
/-! The specification: Set, Normal. -/
namespace Go.Proofs.Ytimeebajpegknaa
open Go.Lib Go.ChangeShapes Go.WideShapes Go.ChangeAt Go.RowKit

def bools (B : Nat → Bool) (k : Nat) : List Value := (List.range k).map fun i => .bool (B i)
theorem bools_succ (B : Nat → Bool) (k : Nat) : bools B (k + 1) = bools B k ++ [.bool (B k)] := by unfold bools; rw [List.range_succ, List.map_append]; rfl
theorem bools_get (B : Nat → Bool) (k i : Nat) (h : i < k) : (bools B k)[i]? = some (.bool (B i)) := by unfold bools; simp [h]
attribute [local irreducible] bools
/-- which tracks are wanted -/
def wish (one other both x y : Bool) : Bool := x && !y && one || y && !x && other || x && y && both
set_option maxRecDepth 100000 in
set_option maxHeartbeats 1000000 in
theorem setOf_any (one other both : Bool) (hT : (one = true ∧ other = true ∧ both = true) ∨ (one = false ∧ other = false ∧ both = true) ∨ (one = true ∧ other = false ∧ both = false)) (v v2 : Value) (l l2 : List (Int × Int)) (hl : l.length ≤ 4000) (hl2 : l2.length ≤ 4000) (w : World) (hs : RunsAt w v l) (hs2 : RunsAt w v2 l2) :
    Calls Try.prog 24 #[v, v2, .bool one, .bool other, .bool both] w (Made w (norm fun t => wish one other both (inB l t) (inB l2 t))) := by
  have HS := hid hs
  have HS2 := hid hs2
  clear hs hs2
  obtain ⟨B, hB⟩ : ∃ B : Nat → Bool, B = fun t => wish one other both (inB l t) (inB l2 t) := ⟨_, rfl⟩
  rw [← hB]
  have hBall : ∀ t, B t = wish one other both (inB l t) (inB l2 t) := fun t => by rw [hB]
  have HBB := hid hBall
  clear hB hBall
  rcases hT with ⟨rfl, rfl, rfl⟩ | ⟨rfl, rfl, rfl⟩ | ⟨rfl, rfl, rfl⟩
  all_goals
    go_enter Try.func24, Try.ntmps24
    go_wp2_with fail
    go_loopw [11, 12] (fun s i wr => ∃ (k : Nat) (u : Value), k ≤ 128 ∧ i = .int .i64 k ∧ u = s ∧ SliceIs wr 4 1 u k (bools B k) ∧ Fresh w u ∧ Below w.heap.size w wr) (fun _ i _ => 128 - (intOf i).toNat)
    case atStart => exact ⟨0, _, by omega, rfl, rfl, .inl ⟨_, rfl, rfl, by unfold bools; rfl⟩, (fun k hk => by obtain ⟨_, _, _, e, h0, _⟩ := hk; simp only [Value.slice.injEq] at e; omega), (Below.refl _ _).alloc (Nat.le_refl _) _⟩
    case round =>
      obtain ⟨k, u, hk, rfl, rfl, ho, hf, hb⟩ := hrel
      have HB := hid hb
      have HO := hid ho
      have HF := hid hf
      by_cases hlt : k < 128
      · have hBk := HBB.out k
        have hf1 := inB_first l k
        have hf2 := inB_first l2 k
        have hlu : ∀ b, Value.home u b → b < wr.heap.size := SliceIs.lt ho
        obtain ⟨x, hx⟩ : ∃ x, x = inB l k := ⟨_, rfl⟩
        obtain ⟨y, hy⟩ : ∃ y, y = inB l2 k := ⟨_, rfl⟩
        rw [← hx] at hf1 hBk
        rw [← hy] at hf2 hBk
        have HF1 := hid hf1
        have HF2 := hid hf2
        obtain ⟨z, hz⟩ : ∃ z, z = B k := ⟨_, rfl⟩
        rw [← hz] at hBk
        have HZ := hid hz
        have HLU := hid hlu
        clear ho hf hb hx hy hf1 hf2 hz hlu
        cases x <;> cases y
        all_goals
          have HZ2 := hid hBk
          clear hBk
          go_wp2_with fail
          refine (in_any v l hl k (by omega) wr (HS.out.below HB.out (Nat.le_refl _))).mono ?_
          rintro e w2 ⟨rfl, hb2⟩
          rw [HF1.out]
          have HB2 := hid (HB.out.trans (hb2.mono HB.out.size))
          have HO2 := hid (SliceIs.upd HO.out (Upds.of_below hb2 (Nat.le_refl _)) (F := fun _ => False) (fun _ _ h => h))
          clear hb2 HO HB
          go_wp2_with fail
          refine (in_any v2 l2 hl2 k (by omega) w2 (HS2.out.below HB2.out (Nat.le_refl _))).mono ?_
          rintro e w3 ⟨rfl, hb3⟩
          rw [HF2.out]
          have HB3 := hid (HB2.out.trans (hb3.mono HB2.out.size))
          have HO3 := hid (SliceIs.upd HO2.out (Upds.of_below hb3 (Nat.le_refl _)) (F := fun _ => False) (fun _ _ h => h))
          clear hb3 HO2 HB2
          go_wp2_with (at_builtin; refine wpList_append_slice rfl (.tmp 26) (.tmp 54) 66 rfl 4 (.bool false) 1 1 Try.underlying66 (by kernel_rfl) (by kernel_rfl) u k (bools B k) rfl (SliceIs.alloc HO3.out _) ⟨w3.heap.size, 0, none⟩ 1 1 [.bool _] rfl rfl (news1 _ _ _ _ rfl) (by simp [Value.oneCell']) (by omega) (by omega) (by omega) ?_; intro g8 cap8 w8 hs8 hu8 hh8)
          go_roundw
          case rel =>
            refine ⟨k + 1, _, by omega, by go_num, rfl, ?_, fun b hb => ?_, (HB3.out.alloc HB3.out.size _).trans (hu8.out.below (by have := HB3.out.size; simp only [World.size_alloc]; omega) (fun b hb => HF.out b hb))⟩
            · rw [bools_succ, ← HZ.out, HZ2.out]; exact hs8.out
            · exact (hh8.out b hb).elim (HF.out b) (fun h => by have := HB3.out.size; simp only [World.size_alloc] at h; omega)
          case measure => simp [intOf]; omega
      · obtain rfl : k = 128 := by omega
        clear hb hf
        rcases ho with ⟨a, _, h0, _⟩ | ⟨g, cap, cur, rfl, hr, ht, hlen, hn1, hn2, _⟩
        · cases h0
        · have hcells : ∀ i, i < 128 → wr.cell? ⟨g, i, none⟩ = some (.bool (B i)) := fun i hi => by
            refine hr.cell ?_
            have h1 := bools_get B 128 i hi
            rw [← ht, List.getElem?_take, if_pos (by omega)] at h1
            exact h1
          have HC := hid hcells
          have HG := hid hr.lt
          clear hcells hr ht hlen
          go_wp2_with (go_at_call 65; refine ((set_any g cap B wr HG.out hn1 hn2 HC.out).mono fun e w' h => Made.below HB.out h).mono ?_; rintro e w4 ⟨v4, rfl, h1, h2, h3⟩)
          go_ret
          exact ⟨v4, rfl, h1, h2, h3⟩
theorem RunsAt.nil (w : World) : RunsAt w (.slice none 0 0) [] := ⟨none, 0, rfl, by simp, by omega, (fun r h => by cases h), fun h => by simp at h⟩
set_option maxRecDepth 100000 in
theorem refNormal_any (v : Value) (l : List (Int × Int)) (hl : l.length ≤ 4000) (w : World) (hs : RunsAt w v l) :
    Calls Try.prog 19 #[v] w (Made w (norm (inB l))) := by
  have HS := hid hs
  clear hs
  have hn : norm (fun t => wish true false false (inB l t) (inB [] t)) = norm (inB l) := by
    unfold norm; rw [ofB_congr (B := inB l) (fun t _ => by simp [wish, inB, seqI_nil])]
  have HN := hid hn
  clear hn
  go_enter Try.func19, Try.ntmps19
  go_wp2_with (go_at_call 24; refine (setOf_any true false false (.inr (.inr ⟨rfl, rfl, rfl⟩)) v (.slice none 0 0) l [] hl (by simp) w HS.out (RunsAt.nil w)).mono ?_; rintro e w4 ⟨v4, rfl, h1, h2, h3⟩)
  go_ret
  exact ⟨v4, rfl, by rw [← HN.out]; exact h1, h2, h3⟩
end Go.Proofs.Ytimeebajpegknaa
/-! The specification: Join. -/
namespace Go.Proofs.Ytimeebajpegknaa
open Go.Lib Go.ChangeShapes Go.WideShapes Go.ChangeAt Go.RowKit

set_option maxRecDepth 100000 in
set_option maxHeartbeats 1000000 in
theorem refJoin_any (v : Value) (l : List (Int × Int)) (hl : l.length ≤ 4000) (w : World) (hs : RunsAt w v l) :
    Calls Try.prog 40 #[v] w (Made w (up (canon (seqI l)))) := by
  obtain ⟨A, cap, rfl, hcap, hcap2⟩ := hs.shape
  obtain ⟨n, hn⟩ : ∃ n, n = l.length := ⟨_, rfl⟩
  rw [← hn] at hs hcap hl ⊢
  have HS := hid hs
  have HN := hid hn
  clear hs hn
  go_enter Try.func40, Try.ntmps40
  go_wp2_with fail
  go_loopw [3, 4] (fun s i wr => ∃ (k : Nat) (u : Value), k ≤ n ∧ i = .int .i64 k ∧ u = s ∧ OwnRuns wr u (up (canon (seqI (l.take k)))) ∧ Fresh w u ∧ Below w.heap.size w wr) (fun _ i _ => n - (intOf i).toNat)
  case atStart => exact ⟨0, _, by omega, rfl, rfl, .inl ⟨_, rfl, rfl, rfl⟩, (fun k hk => by obtain ⟨_, _, _, e, h0, _⟩ := hk; simp only [Value.slice.injEq] at e; omega), (Below.refl _ _).alloc (Nat.le_refl _) _⟩
  case round =>
    obtain ⟨k, u, hk, rfl, rfl, ho, hf, hb⟩ := hrel
    have HB := hid hb
    have HO := hid ho
    have HF := hid hf
    by_cases hlt : k < n
    · have hk2 : k < l.length := by rw [← HN.out]; exact hlt
      obtain ⟨b, off, rfl, hlb, c1, c2, hbd⟩ := (HS.out.below hb (Nat.le_refl _)).round hk2
      obtain ⟨r, hr⟩ : ∃ r, r = l[k] := ⟨_, rfl⟩
      rw [← hr] at c1 c2 hbd
      obtain ⟨f, c⟩ := r
      simp only at c1 c2 hbd
      have hx := ex_le (f, c)
      have hstep := canon_take_succ l k hk2
      rw [← hr] at hstep
      have hle := canon_seqI_len l k (by omega)
      have hfine := fine_canon (seqI (l.take k)) (seqI_lt _)
      obtain ⟨x, hxx⟩ : ∃ x, x = ex (f, c) := ⟨_, rfl⟩
      rw [← hxx] at hstep hx
      obtain ⟨F, C⟩ := x
      obtain ⟨K, hK⟩ : ∃ K, K = canon (seqI (l.take k)) := ⟨_, rfl⟩
      rw [← hK] at hstep hle hfine ho
      have HXX := hid hxx
      have HBD := hid hbd
      have HST := hid hstep
      simp only at hx
      have hle4 : K.length ≤ 4000 := by omega
      have HFI := hid hfine
      have HO1 := hid ho
      clear hstep hxx hr hbd hle hb ho hf hK HO hfine
      go_wp2_with fail
      refine (clip_any f c _ HBD.out).mono ?_
      rintro e w2 ⟨rfl, hb2⟩
      rw [← HXX.out]
      have QB := hid ((HB.out.trans (hb2.mono HB.out.size)).alloc (Nat.le_trans HB.out.size hb2.size) (.cells #[.int .i64 F, .int .i64 C] 47))
      have QR := hid (Row.new w2 [.int .i64 F, .int .i64 C] 47)
      have QO : Hid (OwnRuns (w2.alloc (.cells #[.int .i64 F, .int .i64 C] 47)) u (up K)) := SliceIs.alloc (SliceIs.upd HO1.out (Upds.of_below hb2 (Nat.le_refl _)) (F := fun _ => False) (fun _ _ h => h)) _
      clear hb2 HB HO1 c1 c2 hlb
      go_upto_region 6 with fail
      obtain ⟨bv, hbv⟩ : ∃ bv, bv = w2.heap.size := ⟨_, rfl⟩
      obtain ⟨w3, hw3⟩ : ∃ w3, w3 = w2.alloc (.cells #[.int .i64 F, .int .i64 C] 47) := ⟨_, rfl⟩
      rw [← hbv, ← hw3] at QR
      rw [← hw3] at QB QO
      rw [← hbv, ← hw3]
      clear hbv hw3
      have q1 := QR.out.cell (i := 0) rfl
      have q2 := QR.out.cell (i := 1) rfl
      rcases Nat.eq_zero_or_pos C with h0 | h0
      · subst h0
        go_wp2_with fail
        go_roundw
        case rel => exact ⟨k + 1, u, by omega, by go_num, rfl, by rw [HST.out, addR_zero _ _ rfl]; exact QO.out, HF.out, QB.out⟩
        case measure => simp [intOf]; omega
      · have hc0 : ((C : Int) == 0) = false := by simp; omega
        rcases snoc_or K with rfl | ⟨K', p, rfl⟩
        · obtain ⟨A, cp, rfl⟩ : ∃ A cp, u = .slice A 0 cp := QO.out.shape
          go_wp2_with fail
          go_quiet (fail)
          have RO := hid (SliceIs.upd (F := fun _ => False) QO.out (Upds.drewN w3 nq) (fun _ _ h => h))
          have RB := hid (below_drewN QB.out nq)
          have RR := hid (QR.out.upd (F := fun _ => False) (Upds.drewN w3 nq) (fun h => h))
          clear q1 q2
          have q1 := RR.out.cell (i := 0) rfl
          have q2 := RR.out.cell (i := 1) rfl
          go_wp2_with (at_builtin; refine wpList_append_slice rfl (.tmp 58) (.tmp 60) 22 rfl 47 (.agg #[.int .i64 0, .int .i64 0]) 2 16 Try.underlying22 (by kernel_rfl) (by kernel_rfl) (.slice A 0 cp) 0 [] rfl (SliceIs.alloc RO.out _) ⟨w3.heap.size, 0, none⟩ 1 1 [.int .i64 F, .int .i64 C] rfl rfl (news2 _ _ _ _ _ rfl) (one2 _ _) (by omega) (by omega) (by omega) ?_; intro g8 cap8 w8 hs8 hu8 hh8)
          go_roundw
          case rel =>
            refine ⟨k + 1, _, by omega, by go_num, rfl, ?_, fun b hb => ?_, (RB.out.alloc RB.out.size _).trans (hu8.out.below (by have := RB.out.size; simp only [World.size_alloc]; omega) (fun b hb => HF.out b hb))⟩
            · rw [HST.out, addR_nil _ (by simp; omega)]; exact hs8.out
            · exact (hh8.out b hb).elim (HF.out b) (fun h => by have := RB.out.size; simp only [World.size_alloc] at h; omega)
          case measure => simp [intOf]; omega
        · have ho := QO.out
          rw [up_append, show up [p] = [((p.1 : Int), (p.2 : Int))] from rfl] at ho
          obtain ⟨g, cp, rfl, hg, hn1, hn2, d1, d2, d3, d4, d5⟩ := OwnRuns.last (p1 := p.1) (p2 := p.2) ho
          have hfp := HFI.out p (by simp)
          have hlen : (up K').length ≤ 4000 := by rw [up_len]; simp at hle4; omega
          have HD5 := hid d5
          obtain ⟨q, hq⟩ : ∃ q, q = (up K').length := ⟨_, rfl⟩
          rw [← hq] at hn1 d1 d2 d3 hlen ⊢
          have HQ := hid hq
          obtain ⟨cs, hcs⟩ : ∃ cs, cs = runCells (up K' ++ [((p.1 : Int), (p.2 : Int))]) := ⟨_, rfl⟩
          have hsl : SliceIs w3 47 2 (.slice (some ⟨g, 0, none⟩) (q + 1) cp) (q + 1) cs := by
            have := ho
            unfold OwnRuns at this
            have e : (up K' ++ [((p.1 : Int), (p.2 : Int))]).length = q + 1 := by rw [hq]; simp
            rw [e, ← hcs, ← hq] at this
            exact this
          have HSL := hid hsl
          have HCS := hid hcs
          by_cases hp : p.1 + p.2 = F
          · have hpe : ((p.1 : Int) + p.2 == F) = true := by simp; omega
            have HP := hid hp
            clear ho d4 d5 hq hcs hsl hp
            go_wp2_with fail
            go_quiet (fail)
            go_wp2_with fail
            obtain ⟨w4, hw4⟩ : ∃ w4, w4 = w3.drewN nq := ⟨_, rfl⟩
            have hu4 : Upds (fun _ => False) w3 w4 := by rw [hw4]; exact Upds.drewN _ _
            have RB : Hid (Below w.heap.size w w4) := by rw [hw4]; exact below_drewN QB.out nq
            have RO := hid (QO.out.upd hu4 (fun _ _ h => h))
            have e1 := hu4.cell (fun h => h) d1
            have e2 := hu4.cell (fun h => h) d2
            have e3 := hu4.cell (fun h => h) q1
            have e4 := hu4.cell (fun h => h) q2
            have ho := RO.out
            rw [up_append, show up [p] = [((p.1 : Int), (p.2 : Int))] from rfl] at ho
            obtain ⟨g', cp', e, _, _, _, _, _, f3, f4, _⟩ := OwnRuns.last (p1 := p.1) (p2 := p.2) ho
            rw [← HQ.out] at f3 f4 e
            simp only [Value.slice.injEq, Option.some.injEq, Addr.mk.injEq, and_true] at e
            obtain ⟨rfl, _⟩ := e
            have F4 := hid f4
            rw [← hw4]
            clear hw4 hu4 d1 d2 d3 q1 q2 ho f4
            go_region
            go_wp2_with fail
            go_roundw
            case rel =>
              refine ⟨k + 1, _, by omega, by go_num, rfl, ?_, by rw [HQ.out]; exact HF.out, (RB.out.setCell (by have := HF.out _ HD5.out; simp; omega) _).drew⟩
              have e9 : up [(p.1, p.2 + C)] = [((p.1 : Int), (p.2 : Int) + C)] := by simp [up]
              rw [HST.out, addR_yes _ _ _ (by simp; omega) HP.out, up_append]
              show OwnRuns _ _ (up K' ++ up [(p.1, p.2 + C)])
              rw [e9]
              exact OwnRuns.upd (F4.out ((p.2 : Int) + C)) (F := fun _ => False) (Upds.drew _) (fun _ _ h => h)
            case measure => simp [intOf]; omega
          · have hpe : ((p.1 : Int) + p.2 == F) = false := by simp; omega
            have HP := hid hp
            clear ho d4 d5 hq hcs hsl hp
            go_wp2_with fail
            go_quiet (fail)
            have RO := hid (SliceIs.upd (F := fun _ => False) HSL.out (Upds.drewN w3 nq) (fun _ _ h => h))
            have RB := hid (below_drewN QB.out nq)
            have RR := hid (QR.out.upd (F := fun _ => False) (Upds.drewN w3 nq) (fun h => h))
            clear q1 q2
            have q1 := RR.out.cell (i := 0) rfl
            have q2 := RR.out.cell (i := 1) rfl
            go_wp2_with (at_builtin; refine wpList_append_slice rfl (.tmp 58) (.tmp 60) 22 rfl 47 (.agg #[.int .i64 0, .int .i64 0]) 2 16 Try.underlying22 (by kernel_rfl) (by kernel_rfl) (.slice (some ⟨g, 0, none⟩) (q + 1) cp) (q + 1) cs rfl (SliceIs.alloc RO.out _) ⟨w3.heap.size, 0, none⟩ 1 1 [.int .i64 F, .int .i64 C] rfl rfl (news2 _ _ _ _ _ rfl) (one2 _ _) (by omega) (by omega) (by omega) ?_; intro g8 cap8 w8 hs8 hu8 hh8)
            go_roundw
            case rel =>
              have h1 := OwnRuns.more (r := ((F : Int), (C : Int))) (l := up K' ++ [((p.1 : Int), (p.2 : Int))]) (n := q + 1) (by rw [HQ.out]; simp) HCS.out hs8.out
              refine ⟨k + 1, _, by omega, by go_num, rfl, ?_, fun b hb => ?_, (RB.out.alloc RB.out.size _).trans (hu8.out.below (by have := RB.out.size; simp only [World.size_alloc]; omega) (fun b hb => by have := HF.out b; rw [← HQ.out] at this; exact this hb))⟩
              · rw [HST.out, addR_no _ _ _ (by simp; omega) HP.out, up_append, up_append]; exact h1
              · exact (hh8.out b hb).elim (fun h => by have := HF.out b; rw [← HQ.out] at this; exact this h) (fun h => by have := RB.out.size; simp only [World.size_alloc] at h; omega)
            case measure => simp [intOf]; omega
    · obtain rfl : k = n := by omega
      have hlen : seqI (l.take k) = seqI l := by rw [HN.out, List.take_length]
      have HL := hid hlen
      clear hlen hb ho hf
      go_wp2_with fail
      go_ret
      exact ⟨_, rfl, by rw [← HL.out]; exact HO.out, HF.out, HB.out⟩
end Go.Proofs.Ytimeebajpegknaa
/-! Join, Cut. -/
namespace Go.Proofs.Ytimeebajpegknaa
open Go.Lib Go.ChangeShapes Go.WideShapes Go.ChangeAt Go.RowKit

set_option maxRecDepth 100000 in
theorem join_any (v : Value) (l : List (Int × Int)) (hl : l.length ≤ 4000) (w : World) (hs : RunsAt w v l) :
    Calls Try.prog 39 #[v] w (Made w (up (canon (seqI l)))) := by
  obtain ⟨A, cap, rfl, hcap, hcap2⟩ := hs.shape
  obtain ⟨n, hn⟩ : ∃ n, n = l.length := ⟨_, rfl⟩
  rw [← hn] at hs hcap hl ⊢
  have HS := hid hs
  have HN := hid hn
  clear hs hn
  go_enter Try.func39, Try.ntmps39
  go_wp2_with fail
  go_loopw [3, 8] (fun s i wr => ∃ (k : Nat) (u : Value), k ≤ n ∧ i = .int .i64 k ∧ s = u ∧ OwnRuns wr u (up (canon (seqI (l.take k)))) ∧ Fresh w u ∧ Below w.heap.size w wr) (fun _ i _ => n - (intOf i).toNat)
  case atStart => exact ⟨0, _, by omega, rfl, rfl, OwnRuns.nil w, Fresh.nil w, Below.refl _ _⟩
  case round =>
    obtain ⟨k, u, hk, rfl, rfl, ho, hf, hb⟩ := hrel
    have HB := hid hb
    have HO := hid ho
    have HF := hid hf
    by_cases hlt : k < n
    · have hk2 : k < l.length := by rw [← HN.out]; exact hlt
      obtain ⟨b, off, rfl, hlb, c1, c2, hbd⟩ := (HS.out.below hb (Nat.le_refl _)).round hk2
      obtain ⟨r, hr⟩ : ∃ r, r = l[k] := ⟨_, rfl⟩
      rw [← hr] at c1 c2 hbd
      obtain ⟨f, c⟩ := r
      simp only at c1 c2 hbd
      have hx := ex_le (f, c)
      have hstep := seqI_take_succ l k hk2
      rw [← hr] at hstep
      have hle := canon_seqI_len l k (by omega)
      obtain ⟨x, hxx⟩ : ∃ x, x = ex (f, c) := ⟨_, rfl⟩
      rw [← hxx] at hstep hx
      obtain ⟨F, C⟩ := x
      have HST := hid hstep
      have HXX := hid hxx
      have HBD := hid hbd
      have HLE : Hid ((canon (seqI (l.take k))).length ≤ 4000) := by show _ ≤ _; omega
      simp only at hx
      clear hstep hxx hr hbd hle hb ho hf
      go_wp2_with (go_at_call 69; refine (existing_any f c _ HBD.out).mono ?_; rintro e w2 ⟨rfl, hb2⟩; rw [← HXX.out])
      have HB2 := hid (HB.out.trans ((((Below.refl _ wr).alloc (Nat.le_refl _) (.cells #[.int .i64 f, .int .i64 c] 47)).trans (hb2.mono (by simp))).mono HB.out.size))
      have HO2 := hid (HO.out.below (((Below.refl _ wr).alloc (Nat.le_refl _) (.cells #[.int .i64 f, .int .i64 c] 47)).trans (hb2.mono (by simp))) (Nat.le_refl _))
      clear hb2
      go_wp2_with (go_at_call 70; refine (add_made w _ (seqI (l.take k)) F C w2 HO2.out HF.out (seqI_lt _) hx.1 HLE.out HB2.out.size).mono ?_; rintro e w3 ⟨v3, rfl, h1, h2, h3⟩; rw [← HST.out] at h1)
      go_roundw
      case rel => exact ⟨k + 1, v3, by omega, by go_num, rfl, h1, h2, HB2.out.trans h3⟩
      case measure => simp [intOf]; omega
    · obtain rfl : k = n := by omega
      have hlen : seqI (l.take k) = seqI l := by rw [HN.out, List.take_length]
      have HL := hid hlen
      clear hlen hb ho hf
      go_wp2_with fail
      go_ret
      exact ⟨_, rfl, by rw [← HL.out]; exact HO.out, HF.out, HB.out⟩
theorem add_seqI (v : Value) (s : List Nat) (a b : Int) (f c : Nat) (ha : a = f) (hb : b = c) (w : World) (hs : OwnRuns w v (up (canon s))) (h : ∀ t ∈ s, t < 128) (hr : f + c ≤ 128) (hl : (canon s).length ≤ 4000) :
    Calls Try.prog 70 #[v, .agg #[.int .i64 a, .int .i64 b]] w (AddPost v (up (canon (s ++ tracks (f, c)))) w) := by
  subst ha hb
  exact add_seq v s f c w hs h hr hl
/-- two slices that have no block in common -/
def Apart (v1 v2 : Value) : Prop := ∀ b, Value.home v1 b → ¬ Value.home v2 b
/-- what Cut leaves -/
def CutMade (w : World) (l l2 : List (Int × Int)) (e : Ending) (w' : World) : Prop :=
  ∃ v1 v2, e = .returned (.tuple #[v1, v2]) ∧ OwnRuns w' v1 l ∧ OwnRuns w' v2 l2 ∧ Fresh w v1 ∧ Fresh w v2 ∧ Apart v1 v2 ∧ Below w.heap.size w w'
theorem take_canon_len (l : List (Int × Int)) (N : Nat) : ∀ k, k ≤ l.length → (canon ((seqI (l.take k)).take N)).length ≤ k ∧ (canon ((seqI (l.take k)).drop N)).length ≤ k := by
  intro k
  induction k with
  | zero => intro _; simp [seqI_nil, canon_nil]
  | succ k ih =>
    intro h
    rw [seqI_take_succ l k (by omega)]
    obtain ⟨h1, h2⟩ := cut_step (seqI (l.take k)) (ex l[k]).1 (ex l[k]).2 N _ rfl
    have e : tracks (ex l[k]) = tracks ((ex l[k]).1, (ex l[k]).2) := rfl
    rw [e, h1, h2, ← canon_add, ← canon_add]
    have h3 := addR_len (canon ((seqI (l.take k)).take N)) ((ex l[k]).1, min (ex l[k]).2 (N - (seqI (l.take k)).length))
    have h4 := addR_len (canon ((seqI (l.take k)).drop N)) ((ex l[k]).1 + min (ex l[k]).2 (N - (seqI (l.take k)).length), (ex l[k]).2 - min (ex l[k]).2 (N - (seqI (l.take k)).length))
    have h5 := ih (by omega)
    omega
set_option maxRecDepth 100000 in
set_option maxHeartbeats 1000000 in
theorem cut_any (v : Value) (l : List (Int × Int)) (hl : l.length ≤ 4000) (t : Int) (ht : -9223372036854775808 ≤ t ∧ t ≤ 9223372036854775807) (w : World) (hs : RunsAt w v l) :
    Calls Try.prog 37 #[v, .int .i64 t] w (CutMade w (up (canon ((seqI l).take t.toNat))) (up (canon ((seqI l).drop t.toNat)))) := by
  obtain ⟨A, cap, rfl, hcap, hcap2⟩ := hs.shape
  obtain ⟨n, hn⟩ : ∃ n, n = l.length := ⟨_, rfl⟩
  rw [← hn] at hs hcap hl ⊢
  have HS := hid hs
  have HN := hid hn
  obtain ⟨ht1, ht2⟩ := ht
  clear hs hn
  obtain ⟨N, hN⟩ : ∃ N, N = t.toNat := ⟨_, rfl⟩
  rw [← hN]
  have HNN := hid hN
  by_cases h0 : t < 0
  all_goals
    clear hN
    go_enter Try.func37, Try.ntmps37
    go_wp2_with fail
    go_loopw [6, 7, 8, 16] (fun s1 s2 z i wr => ∃ (k L : Nat) (u1 u2 : Value), k ≤ n ∧ i = .int .i64 k ∧ z = .int .i64 L ∧ L = N - (seqI (l.take k)).length ∧ u1 = s1 ∧ u2 = s2 ∧ OwnRuns wr u1 (up (canon ((seqI (l.take k)).take N))) ∧ OwnRuns wr u2 (up (canon ((seqI (l.take k)).drop N))) ∧ Fresh w u1 ∧ Fresh w u2 ∧ Apart u1 u2 ∧ Below w.heap.size w wr) (fun _ _ _ i _ => n - (intOf i).toNat)
    case atStart =>
      have hN := HNN.out
      exact ⟨0, N, _, _, by omega, rfl, by first | (have e : (N : Int) = 0 := by omega); rw [e] | (have e : (N : Int) = t := by omega); rw [e], by simp [seqI_nil], rfl, rfl, by simp [seqI_nil, canon_nil]; exact OwnRuns.nil w, by simp [seqI_nil, canon_nil]; exact OwnRuns.nil w, Fresh.nil w, Fresh.nil w, (fun b hb => by obtain ⟨_, _, _, e, _⟩ := hb; cases e), Below.refl _ _⟩
    case round =>
      obtain ⟨k, L, u1, u2, hk, rfl, rfl, hL, rfl, rfl, ho1, ho2, hf1, hf2, hap, hb⟩ := hrel
      have HB := hid hb
      have HO1 := hid ho1
      have HO2 := hid ho2
      have HF1 := hid hf1
      have HF2 := hid hf2
      have HAP := hid hap
      have HL := hid hL
      have hLN : L ≤ N := by omega
      have hN2 : N ≤ 9223372036854775807 := by have := HNN.out; omega
      by_cases hlt : k < n
      · have hk2 : k < l.length := by rw [← HN.out]; exact hlt
        obtain ⟨b, off, rfl, hlb, c1, c2, hbd⟩ := (HS.out.below hb (Nat.le_refl _)).round hk2
        obtain ⟨r, hr⟩ : ∃ r, r = l[k] := ⟨_, rfl⟩
        rw [← hr] at c1 c2 hbd
        obtain ⟨f, c⟩ := r
        simp only at c1 c2 hbd
        have hx := ex_le (f, c)
        have hstep := seqI_take_succ l k hk2
        have hstepn := seqI_len_take l k hk2
        rw [← hr] at hstep hstepn
        have hle := take_canon_len l N k (by omega)
        obtain ⟨x, hxx⟩ : ∃ x, x = ex (f, c) := ⟨_, rfl⟩
        rw [← hxx] at hstep hx hstepn
        obtain ⟨F, C⟩ := x
        obtain ⟨K, hK⟩ : ∃ K, K = min C L := ⟨_, rfl⟩
        have hcs := cut_step (seqI (l.take k)) F C N K (by omega)
        rw [← hstep] at hcs
        have HCS := hid hcs
        have HXX := hid hxx
        have HBD := hid hbd
        have HLE1 : Hid ((canon ((seqI (l.take k)).take N)).length ≤ 4000) := by show _ ≤ _; omega
        have HLE2 : Hid ((canon ((seqI (l.take k)).drop N)).length ≤ 4000) := by show _ ≤ _; omega
        have HLS : Hid (L - K = N - (seqI (l.take (k + 1))).length) := by show _ = _; simp only at hstepn; omega
        simp only at hx
        have hlt1 : ∀ b, Value.home u1 b → b < wr.heap.size := SliceIs.lt ho1
        have hlt2 : ∀ b, Value.home u2 b → b < wr.heap.size := SliceIs.lt ho2
        have HLT1 := hid hlt1
        have HLT2 := hid hlt2
        have HK := hid hK
        have hKC : K ≤ C := by omega
        have hKL : K ≤ L := by omega
        clear hstep hxx hr hbd hle hb ho1 ho2 hf1 hf2 hap hL hcs hlt1 hlt2 hstepn
        by_cases hcz : C ≤ L
        · obtain rfl : K = C := by omega
          clear hK
          go_upto_region 9 with (go_at_call 69; refine (existing_any f c _ HBD.out).mono ?_; rintro e w2 ⟨rfl, hb2⟩; rw [← HXX.out]; obtain ⟨y0, y1, y2, y3, y4⟩ := box_keep hb2)
          have hbb : Below wr.heap.size wr w2 := ((Below.refl _ wr).alloc (Nat.le_refl _) (.cells #[.int .i64 f, .int .i64 c] 47)).trans (hb2.mono (by simp))
          have hbv := box_row hb2 (.int .i64 F) (.int .i64 K)
          have hb3 : Below wr.heap.size wr ((w2.setCell ⟨wr.heap.size, 0, none⟩ (.int .i64 F)).setCell ⟨wr.heap.size, 1, none⟩ (.int .i64 K)) := (hbb.setCell (by simp) _).setCell (by simp) _
          obtain ⟨bv, hbve⟩ : ∃ bv, bv = wr.heap.size := ⟨_, rfl⟩
          obtain ⟨w3, hw3⟩ : ∃ w3, w3 = (w2.setCell ⟨wr.heap.size, 0, none⟩ (.int .i64 F)).setCell ⟨wr.heap.size, 1, none⟩ (.int .i64 K) := ⟨_, rfl⟩
          rw [← hw3] at hbv hb3 ⊢
          rw [← hbve] at hbv ⊢
          have P1 := hid (HO1.out.below hb3 (Nat.le_refl _))
          have P2 := hid (HO2.out.below hb3 (Nat.le_refl _))
          have PB := hid (HB.out.trans (hb3.mono HB.out.size))
          have PV := hid hbv
          have q0 := hbv.cell (i := 0) rfl
          have q1 := hbv.cell (i := 1) rfl
          have HSZ : Hid (wr.heap.size ≤ w3.heap.size) := hb3.size
          have HVE := hid hbve
          clear hb2 hbb hbv hb3 hbve hw3 y0 y1 y2 y3 y4
          go_upto_region 10 with (go_at_call 70; refine (add_seqI u1 ((seqI (l.take k)).take N) _ _ F K rfl rfl _ P1.out (fun t ht => seqI_lt _ t (List.mem_of_mem_take ht)) (by omega) HLE1.out).mono ?_; rintro e w4 ⟨v4, rfl, h1, h2, h3⟩; rw [← HCS.out.1] at h1)
          have R2 := hid (P2.out.upd h2 (fun b hb hb1 => HAP.out b hb1 hb))
          have RV := hid (PV.out.upd h2 (fun h => by have := HLT1.out _ h; have := HVE.out; omega))
          have RB := hid (PB.out.trans (h2.below PB.out.size (fun k hk => HF1.out k hk)))
          have R1 := hid h1
          have RF : Hid (Fresh w v4) := fun k hk => (h3 k hk).elim (HF1.out k) (fun h => Nat.le_trans PB.out.size h)
          have RA : Hid (Apart v4 u2) := fun b hb hb2 => (h3 b hb).elim (fun h => HAP.out b h hb2) (fun h => by have := HLT2.out b hb2; have := HSZ.out; omega)
          have RL : Hid (∀ b, Value.home u2 b → b < w4.heap.size) := fun b hb => SliceIs.lt R2.out b hb
          have RM : Hid (∀ b, Value.home v4 b → b < w4.heap.size) := fun b hb => SliceIs.lt R1.out b hb
          have q2 := RV.out.cell (i := 0) rfl
          have q3 := RV.out.cell (i := 1) rfl
          clear h1 h2 h3 q0 q1
          go_wp2_with (go_at_call 70; refine (add_seqI u2 ((seqI (l.take k)).drop N) _ _ (F + K) (K - K) (by omega) (by omega) _ R2.out (fun t ht => seqI_lt _ t (List.mem_of_mem_drop ht)) (by omega) HLE2.out).mono ?_; rintro e w5 ⟨v5, rfl, h1, h2, h3⟩; rw [← HCS.out.2] at h1)
          go_roundw
          case rel => exact ⟨k + 1, L - K, v4, v5, by omega, by go_num, by rw [Int.natCast_sub hKL], HLS.out, rfl, rfl, R1.out.upd h2 (fun b hb hb2 => RA.out b hb hb2), h1, RF.out, (fun k hk => (h3 k hk).elim (HF2.out k) (fun h => Nat.le_trans RB.out.size h)), (fun b hb hb2 => (h3 b hb2).elim (fun h => RA.out b hb h) (fun h => by have := RM.out b hb; omega)), RB.out.trans (h2.below RB.out.size (fun k hk => HF2.out k hk))⟩
          case measure => simp [intOf]; omega
        · obtain rfl : K = L := by omega
          clear hK
          go_upto_region 9 with (go_at_call 69; refine (existing_any f c _ HBD.out).mono ?_; rintro e w2 ⟨rfl, hb2⟩; rw [← HXX.out]; obtain ⟨y0, y1, y2, y3, y4⟩ := box_keep hb2)
          have hbb : Below wr.heap.size wr w2 := ((Below.refl _ wr).alloc (Nat.le_refl _) (.cells #[.int .i64 f, .int .i64 c] 47)).trans (hb2.mono (by simp))
          have hbv := box_row hb2 (.int .i64 F) (.int .i64 C)
          have hb3 : Below wr.heap.size wr ((w2.setCell ⟨wr.heap.size, 0, none⟩ (.int .i64 F)).setCell ⟨wr.heap.size, 1, none⟩ (.int .i64 C)) := (hbb.setCell (by simp) _).setCell (by simp) _
          obtain ⟨bv, hbve⟩ : ∃ bv, bv = wr.heap.size := ⟨_, rfl⟩
          obtain ⟨w3, hw3⟩ : ∃ w3, w3 = (w2.setCell ⟨wr.heap.size, 0, none⟩ (.int .i64 F)).setCell ⟨wr.heap.size, 1, none⟩ (.int .i64 C) := ⟨_, rfl⟩
          rw [← hw3] at hbv hb3 ⊢
          rw [← hbve] at hbv ⊢
          have P1 := hid (HO1.out.below hb3 (Nat.le_refl _))
          have P2 := hid (HO2.out.below hb3 (Nat.le_refl _))
          have PB := hid (HB.out.trans (hb3.mono HB.out.size))
          have PV := hid hbv
          have q0 := hbv.cell (i := 0) rfl
          have q1 := hbv.cell (i := 1) rfl
          have HSZ : Hid (wr.heap.size ≤ w3.heap.size) := hb3.size
          have HVE := hid hbve
          clear hb2 hbb hbv hb3 hbve hw3 y0 y1 y2 y3 y4
          go_upto_region 10 with (go_at_call 70; refine (add_seqI u1 ((seqI (l.take k)).take N) _ _ F K rfl rfl _ P1.out (fun t ht => seqI_lt _ t (List.mem_of_mem_take ht)) (by omega) HLE1.out).mono ?_; rintro e w4 ⟨v4, rfl, h1, h2, h3⟩; rw [← HCS.out.1] at h1)
          have R2 := hid (P2.out.upd h2 (fun b hb hb1 => HAP.out b hb1 hb))
          have RV := hid (PV.out.upd h2 (fun h => by have := HLT1.out _ h; have := HVE.out; omega))
          have RB := hid (PB.out.trans (h2.below PB.out.size (fun k hk => HF1.out k hk)))
          have R1 := hid h1
          have RF : Hid (Fresh w v4) := fun k hk => (h3 k hk).elim (HF1.out k) (fun h => Nat.le_trans PB.out.size h)
          have RA : Hid (Apart v4 u2) := fun b hb hb2 => (h3 b hb).elim (fun h => HAP.out b h hb2) (fun h => by have := HLT2.out b hb2; have := HSZ.out; omega)
          have RL : Hid (∀ b, Value.home u2 b → b < w4.heap.size) := fun b hb => SliceIs.lt R2.out b hb
          have RM : Hid (∀ b, Value.home v4 b → b < w4.heap.size) := fun b hb => SliceIs.lt R1.out b hb
          have q2 := RV.out.cell (i := 0) rfl
          have q3 := RV.out.cell (i := 1) rfl
          clear h1 h2 h3 q0 q1
          go_wp2_with (go_at_call 70; refine (add_seqI u2 ((seqI (l.take k)).drop N) _ _ (F + K) (C - K) (by omega) (by omega) _ R2.out (fun t ht => seqI_lt _ t (List.mem_of_mem_drop ht)) (by omega) HLE2.out).mono ?_; rintro e w5 ⟨v5, rfl, h1, h2, h3⟩; rw [← HCS.out.2] at h1)
          go_roundw
          case rel => exact ⟨k + 1, K - K, v4, v5, by omega, by go_num, by first | rfl | (simp; done) | (rw [Int.natCast_sub hKL]), HLS.out, rfl, rfl, R1.out.upd h2 (fun b hb hb2 => RA.out b hb hb2), h1, RF.out, (fun k hk => (h3 k hk).elim (HF2.out k) (fun h => Nat.le_trans RB.out.size h)), (fun b hb hb2 => (h3 b hb2).elim (fun h => RA.out b hb h) (fun h => by have := RM.out b hb; omega)), RB.out.trans (h2.below RB.out.size (fun k hk => HF2.out k hk))⟩
          case measure => simp [intOf]; omega
      · obtain rfl : k = n := by omega
        have hlen : seqI (l.take k) = seqI l := by rw [HN.out, List.take_length]
        have HLL := hid hlen
        clear hlen hb ho1 ho2 hf1 hf2 hap hL
        go_wp2_with fail
        go_ret2
        exact ⟨_, _, rfl, by rw [← HLL.out]; exact HO1.out, by rw [← HLL.out]; exact HO2.out, HF1.out, HF2.out, HAP.out, HB.out⟩
end Go.Proofs.Ytimeebajpegknaa
/-! The specification: Cut. -/
namespace Go.Proofs.Ytimeebajpegknaa
open Go.Lib Go.ChangeShapes Go.WideShapes Go.ChangeAt Go.RowKit

theorem Bd.snoc {l : List (Int × Int)} (h : Bd l) (a b : Int) (ha : 0 ≤ a ∧ a ≤ 1000) (hb : 0 ≤ b ∧ b ≤ 1000) : Bd (l ++ [(a, b)]) := by
  intro r hr
  rw [List.mem_append, List.mem_singleton] at hr
  rcases hr with hr | rfl
  · exact h r hr
  · simp only; omega
theorem seqI_snoc (l : List (Int × Int)) (a b : Int) (f c : Nat) (ha : a = f) (hb : b = c) (h : f + c ≤ 128) : seqI (l ++ [(a, b)]) = seqI l ++ tracks (f, c) := by
  rw [seqI_append, seqI_one, ha, hb, ex_nat f c h]
/-- one of the two lists that Cut collects -/
def Half (w wr : World) (u : Value) (la : List (Int × Int)) (s : List Nat) (k : Nat) : Prop := OwnRuns wr u la ∧ Bd la ∧ seqI la = s ∧ la.length = k ∧ Fresh w u
theorem Half.own {w wr : World} {u : Value} {la : List (Int × Int)} {s : List Nat} {k : Nat} (h : Half w wr u la s k) : SliceIs wr 47 2 u k (runCells la) := by
  have := h.1
  unfold OwnRuns at this
  rw [h.2.2.2.1] at this
  exact this
theorem Half.upd {w wr w' : World} {u : Value} {la : List (Int × Int)} {s : List Nat} {k : Nat} (h : Half w wr u la s k) {F : Nat → Prop} (hu : Upds F wr w') (hF : ∀ b, Value.home u b → ¬ F b) : Half w w' u la s k :=
  ⟨h.1.upd hu hF, h.2⟩
theorem Half.next {w wr w8 : World} {u v : Value} {la : List (Int × Int)} {s : List Nat} {k : Nat} (h : Half w wr u la s k) {a b : Int} (h2 : SliceIs w8 47 2 v (k + 1) (runCells la ++ [.int .i64 a, .int .i64 b])) (f c : Nat) (ha : a = f) (hb : b = c) (hfc : f + c ≤ 128) {g : Nat} (hg : w.heap.size ≤ g) (hh : ∀ k, Value.home v k → Value.home u k ∨ g ≤ k) :
    Half w w8 v (la ++ [(a, b)]) (s ++ tracks (f, c)) (k + 1) :=
  ⟨OwnRuns.more (r := (a, b)) h.2.2.2.1 rfl h2, Bd.snoc h.2.1 a b (by omega) (by omega), by rw [seqI_snoc la a b f c ha hb hfc, h.2.2.1], by simp [h.2.2.2.1], fun k hk => (hh k hk).elim (h.2.2.2.2 k) (Nat.le_trans hg)⟩
set_option maxRecDepth 100000 in
set_option maxHeartbeats 2000000 in
theorem refCut_any (v : Value) (l : List (Int × Int)) (hl : l.length ≤ 4000) (t : Int) (ht : -9223372036854775808 ≤ t ∧ t ≤ 9223372036854775807) (w : World) (hs : RunsAt w v l) :
    Calls Try.prog 38 #[v, .int .i64 t] w (CutMade w (up (canon ((seqI l).take t.toNat))) (up (canon ((seqI l).drop t.toNat)))) := by
  obtain ⟨A, cap, rfl, hcap, hcap2⟩ := hs.shape
  obtain ⟨n, hn⟩ : ∃ n, n = l.length := ⟨_, rfl⟩
  rw [← hn] at hs hcap hl ⊢
  have HS := hid hs
  have HN := hid hn
  obtain ⟨ht1, ht2⟩ := ht
  clear hs hn
  obtain ⟨N, hN⟩ : ∃ N, N = t.toNat := ⟨_, rfl⟩
  rw [← hN]
  have HNN := hid hN
  clear hN
  go_enter Try.func38, Try.ntmps38
  go_wp2_with fail
  go_loopw [1, 6, 7, 8] (fun z s1 s2 i wr => ∃ (k : Nat) (q : Int) (u1 u2 : Value) (la lb : List (Int × Int)), k ≤ n ∧ i = .int .i64 k ∧ z = .int .i64 q ∧ (q.toNat = N - (seqI (l.take k)).length ∧ -9223372036854775808 ≤ q ∧ q ≤ 9223372036854775807) ∧ u1 = s1 ∧ u2 = s2 ∧ Half w wr u1 la ((seqI (l.take k)).take N) k ∧ Half w wr u2 lb ((seqI (l.take k)).drop N) k ∧ Apart u1 u2 ∧ Below w.heap.size w wr) (fun _ _ _ i _ => n - (intOf i).toNat)
  case atStart =>
    have hN := HNN.out
    have h0 : ∀ b, ∀ B, Value.home (.slice (some b) 0 0) B → False := fun b B hb => by
      obtain ⟨_, _, _, e, h0, _⟩ := hb; simp only [Value.slice.injEq] at e; omega
    exact ⟨0, t, _, _, [], [], by omega, rfl, rfl, ⟨by simp [seqI_nil]; omega, ht1, ht2⟩, rfl, rfl, ⟨.inl ⟨_, rfl, rfl, rfl⟩, (fun r h => by cases h), by simp [seqI_nil], rfl, fun k hk => (h0 _ _ hk).elim⟩, ⟨.inl ⟨_, rfl, rfl, rfl⟩, (fun r h => by cases h), by simp [seqI_nil], rfl, fun k hk => (h0 _ _ hk).elim⟩, (fun b hb => (h0 _ _ hb).elim), ((Below.refl _ _).alloc (Nat.le_refl _) _).alloc (by simp) _⟩
  case round =>
    obtain ⟨k, q, u1, u2, la, lb, hk, rfl, rfl, hq, rfl, rfl, ho1, ho2, hap, hb⟩ := hrel
    have HB := hid hb
    have HO1 := hid ho1
    have HO2 := hid ho2
    have HAP := hid hap
    by_cases hlt : k < n
    · have hk2 : k < l.length := by rw [← HN.out]; exact hlt
      obtain ⟨b, off, rfl, hlb, c1, c2, hbd⟩ := (HS.out.below hb (Nat.le_refl _)).round hk2
      obtain ⟨r, hr⟩ : ∃ r, r = l[k] := ⟨_, rfl⟩
      rw [← hr] at c1 c2 hbd
      obtain ⟨f, c⟩ := r
      simp only at c1 c2 hbd
      have hx := ex_le (f, c)
      have hstep := seqI_take_succ l k hk2
      have hstepn := seqI_len_take l k hk2
      rw [← hr] at hstep hstepn
      obtain ⟨x, hxx⟩ : ∃ x, x = ex (f, c) := ⟨_, rfl⟩
      rw [← hxx] at hstep hx hstepn
      obtain ⟨F, C⟩ := x
      obtain ⟨K, hK⟩ : ∃ K, K = min C q.toNat := ⟨_, rfl⟩
      have hcs := cut_step (seqI (l.take k)) F C N K (by omega)
      rw [← hstep] at hcs
      have HCS := hid hcs
      have HXX := hid hxx
      have HBD := hid hbd
      have hqs : q.toNat - K = N - (seqI (l.take (k + 1))).length := by simp only at hstepn; omega
      have HQS := hid hqs
      obtain ⟨_, hq1, hq2⟩ := hq
      simp only at hx
      have HLT1 : Hid (∀ b, Value.home u1 b → b < wr.heap.size) := SliceIs.lt ho1.1
      have HLT2 : Hid (∀ b, Value.home u2 b → b < wr.heap.size) := SliceIs.lt ho2.1
      clear hstep hxx hr hbd hb ho1 ho2 hap hcs hqs hstepn
      go_wp2_with fail
      refine (clip_any f c _ HBD.out).mono ?_
      rintro e w2 ⟨rfl, hb2⟩
      rw [← HXX.out]
      have QB := hid ((HB.out.trans (hb2.mono HB.out.size)).alloc (Nat.le_trans HB.out.size hb2.size) (.cells #[.int .i64 F, .int .i64 C] 47))
      have QR := hid (Row.new w2 [.int .i64 F, .int .i64 C] 47)
      have hnx : Upds (fun _ => False) wr (w2.alloc (.cells #[.int .i64 F, .int .i64 C] 47)) := (Upds.of_below hb2 (Nat.le_refl _)).trans (Upds.alloc _ _)
      have QO1 := hid (HO1.out.upd hnx (fun _ _ h => h))
      have QO2 := hid (HO2.out.upd hnx (fun _ _ h => h))
      have HLV : Hid (wr.heap.size ≤ w2.heap.size) := hb2.size
      clear hb2 HB HO1 HO2 c1 c2 hlb hnx
      go_upto_region 6 with fail
      obtain ⟨bv, hbv⟩ : ∃ bv, bv = w2.heap.size := ⟨_, rfl⟩
      obtain ⟨w3, hw3⟩ : ∃ w3, w3 = w2.alloc (.cells #[.int .i64 F, .int .i64 C] 47) := ⟨_, rfl⟩
      rw [← hbv, ← hw3] at QR
      rw [← hw3] at QB QO1 QO2
      rw [← hbv] at HLV
      rw [← hbv, ← hw3]
      clear hbv hw3
      have q1 := QR.out.cell (i := 0) rfl
      have q2 := QR.out.cell (i := 1) rfl
      have HK := hid hK
      clear hK
      by_cases hqz : q ≤ 0
      · have hK0 : K = 0 := by have := HK.out; omega
        subst hK0
        go_upto_region 8 with (at_builtin; refine wpList_append_slice rfl (.tmp 29) (.tmp 34) 22 rfl 47 (.agg #[.int .i64 0, .int .i64 0]) 2 16 Try.underlying22 (by kernel_rfl) (by kernel_rfl) u1 k (runCells la) rfl (SliceIs.alloc QO1.out.own _) ⟨w3.heap.size, 0, none⟩ 1 1 [.int .i64 _, .int .i64 _] rfl rfl (news2 _ _ _ _ _ rfl) (one2 _ _) (by omega) (by omega) (by omega) ?_; intro g8 cap8 w8 hs8 hu8 hh8)
        have hg3 : w.heap.size ≤ w3.heap.size := QB.out.size
        have H1 := hid (QO1.out.next hs8.out F 0 (by omega) (by omega) (by omega) (by simp only [World.size_alloc]; omega) hh8.out)
        have H2 := hid ((QO2.out.upd (F := fun _ => False) (Upds.alloc _ _) (fun _ _ h => h)).upd hu8.out (fun b hb hb1 => HAP.out b hb1 hb))
        have RV := hid ((QR.out.alloc _).upd hu8.out (fun h => by have := HLT1.out _ h; have := HLV.out; omega))
        have RB := hid ((QB.out.alloc QB.out.size _).trans (hu8.out.below (by simp only [World.size_alloc]; omega) (fun b hb => QO1.out.2.2.2.2 b hb)))
        have RA : Hid (∀ b, Value.home (.slice (some ⟨g8, 0, none⟩) (k + 1) cap8) b → ¬ Value.home u2 b) := fun b hb hb2 => (hh8.out b hb).elim (fun h => HAP.out b h hb2) (fun h => by have := HLT2.out b hb2; have := HLV.out; have := QR.out.lt; simp only [World.size_alloc] at h; omega)
        have RM : Hid (∀ b, Value.home (.slice (some ⟨g8, 0, none⟩) (k + 1) cap8) b → b < w8.heap.size) := fun b hb => SliceIs.lt hs8.out b hb
        clear q1 q2 hs8 hu8 hh8 QO1 QO2 QR QB HAP HLT1
        have q1 := RV.out.cell (i := 0) rfl
        have q2 := RV.out.cell (i := 1) rfl
        go_wp2_with (at_builtin; refine wpList_append_slice rfl (.tmp 36) (.tmp 46) 22 rfl 47 (.agg #[.int .i64 0, .int .i64 0]) 2 16 Try.underlying22 (by kernel_rfl) (by kernel_rfl) u2 k (runCells lb) rfl (SliceIs.alloc H2.out.own _) ⟨w8.heap.size, 0, none⟩ 1 1 [.int .i64 _, .int .i64 _] rfl rfl (news2 _ _ _ _ _ rfl) (one2 _ _) (by omega) (by omega) (by omega) ?_; intro g9 cap9 w9 hs9 hu9 hh9)
        have hg8 : w.heap.size ≤ w8.heap.size := RB.out.size
        go_roundw
        case rel =>
          have K2 := H2.out.next hs9.out (F + 0) (C - 0) (by omega) (by omega) (by omega) (by simp only [World.size_alloc]; omega) hh9.out
          have K1 := (H1.out.upd (F := fun _ => False) (Upds.alloc w8 _) (fun _ _ h => h)).upd hu9.out (fun b hb hb2 => RA.out b hb hb2)
          rw [← HCS.out.2] at K2
          rw [← HCS.out.1] at K1
          refine ⟨k + 1, q, _, _, _, _, by omega, by go_num, by first | rfl | (congr 1; omega), ⟨by have := HQS.out; omega, by omega, by omega⟩, rfl, rfl, K1, K2, fun b hb hb2 => (hh9.out b hb2).elim (fun h => RA.out b hb h) (fun h => by have := RM.out b hb; simp only [World.size_alloc] at h; omega), (RB.out.alloc RB.out.size _).trans (hu9.out.below (by simp only [World.size_alloc]; omega) (fun b hb => H2.out.2.2.2.2 b hb))⟩
        case measure => simp [intOf]; omega
      · by_cases hqc : q ≤ C
        · obtain ⟨K2, rfl⟩ : ∃ K2 : Nat, q = K2 := ⟨q.toNat, by omega⟩
          have hK0 : K = K2 := by have := HK.out; omega
          subst hK0
          go_upto_region 8 with (at_builtin; refine wpList_append_slice rfl (.tmp 29) (.tmp 34) 22 rfl 47 (.agg #[.int .i64 0, .int .i64 0]) 2 16 Try.underlying22 (by kernel_rfl) (by kernel_rfl) u1 k (runCells la) rfl (SliceIs.alloc QO1.out.own _) ⟨w3.heap.size, 0, none⟩ 1 1 [.int .i64 _, .int .i64 _] rfl rfl (news2 _ _ _ _ _ rfl) (one2 _ _) (by omega) (by omega) (by omega) ?_; intro g8 cap8 w8 hs8 hu8 hh8)
          have hg3 : w.heap.size ≤ w3.heap.size := QB.out.size
          have H1 := hid (QO1.out.next hs8.out F K (by omega) (by omega) (by omega) (by simp only [World.size_alloc]; omega) hh8.out)
          have H2 := hid ((QO2.out.upd (F := fun _ => False) (Upds.alloc _ _) (fun _ _ h => h)).upd hu8.out (fun b hb hb1 => HAP.out b hb1 hb))
          have RV := hid ((QR.out.alloc _).upd hu8.out (fun h => by have := HLT1.out _ h; have := HLV.out; omega))
          have RB := hid ((QB.out.alloc QB.out.size _).trans (hu8.out.below (by simp only [World.size_alloc]; omega) (fun b hb => QO1.out.2.2.2.2 b hb)))
          have RA : Hid (∀ b, Value.home (.slice (some ⟨g8, 0, none⟩) (k + 1) cap8) b → ¬ Value.home u2 b) := fun b hb hb2 => (hh8.out b hb).elim (fun h => HAP.out b h hb2) (fun h => by have := HLT2.out b hb2; have := HLV.out; have := QR.out.lt; simp only [World.size_alloc] at h; omega)
          have RM : Hid (∀ b, Value.home (.slice (some ⟨g8, 0, none⟩) (k + 1) cap8) b → b < w8.heap.size) := fun b hb => SliceIs.lt hs8.out b hb
          clear q1 q2 hs8 hu8 hh8 QO1 QO2 QR QB HAP HLT1
          have q1 := RV.out.cell (i := 0) rfl
          have q2 := RV.out.cell (i := 1) rfl
          go_wp2_with (at_builtin; refine wpList_append_slice rfl (.tmp 36) (.tmp 46) 22 rfl 47 (.agg #[.int .i64 0, .int .i64 0]) 2 16 Try.underlying22 (by kernel_rfl) (by kernel_rfl) u2 k (runCells lb) rfl (SliceIs.alloc H2.out.own _) ⟨w8.heap.size, 0, none⟩ 1 1 [.int .i64 _, .int .i64 _] rfl rfl (news2 _ _ _ _ _ rfl) (one2 _ _) (by omega) (by omega) (by omega) ?_; intro g9 cap9 w9 hs9 hu9 hh9)
          have hg8 : w.heap.size ≤ w8.heap.size := RB.out.size
          go_roundw
          case rel =>
            have K2 := H2.out.next hs9.out (F + K) (C - K) (by omega) (by omega) (by omega) (by simp only [World.size_alloc]; omega) hh9.out
            have K1 := (H1.out.upd (F := fun _ => False) (Upds.alloc w8 _) (fun _ _ h => h)).upd hu9.out (fun b hb hb2 => RA.out b hb hb2)
            rw [← HCS.out.2] at K2
            rw [← HCS.out.1] at K1
            refine ⟨k + 1, 0, _, _, _, _, by omega, by go_num, by first | rfl | (congr 1; omega), ⟨by have := HQS.out; omega, by omega, by omega⟩, rfl, rfl, K1, K2, fun b hb hb2 => (hh9.out b hb2).elim (fun h => RA.out b hb h) (fun h => by have := RM.out b hb; simp only [World.size_alloc] at h; omega), (RB.out.alloc RB.out.size _).trans (hu9.out.below (by simp only [World.size_alloc]; omega) (fun b hb => H2.out.2.2.2.2 b hb))⟩
          case measure => simp [intOf]; omega
        · have hK0 : K = C := by have := HK.out; omega
          subst hK0
          go_upto_region 8 with (at_builtin; refine wpList_append_slice rfl (.tmp 29) (.tmp 34) 22 rfl 47 (.agg #[.int .i64 0, .int .i64 0]) 2 16 Try.underlying22 (by kernel_rfl) (by kernel_rfl) u1 k (runCells la) rfl (SliceIs.alloc QO1.out.own _) ⟨w3.heap.size, 0, none⟩ 1 1 [.int .i64 _, .int .i64 _] rfl rfl (news2 _ _ _ _ _ rfl) (one2 _ _) (by omega) (by omega) (by omega) ?_; intro g8 cap8 w8 hs8 hu8 hh8)
          have hg3 : w.heap.size ≤ w3.heap.size := QB.out.size
          have H1 := hid (QO1.out.next hs8.out F K (by omega) (by omega) (by omega) (by simp only [World.size_alloc]; omega) hh8.out)
          have H2 := hid ((QO2.out.upd (F := fun _ => False) (Upds.alloc _ _) (fun _ _ h => h)).upd hu8.out (fun b hb hb1 => HAP.out b hb1 hb))
          have RV := hid ((QR.out.alloc _).upd hu8.out (fun h => by have := HLT1.out _ h; have := HLV.out; omega))
          have RB := hid ((QB.out.alloc QB.out.size _).trans (hu8.out.below (by simp only [World.size_alloc]; omega) (fun b hb => QO1.out.2.2.2.2 b hb)))
          have RA : Hid (∀ b, Value.home (.slice (some ⟨g8, 0, none⟩) (k + 1) cap8) b → ¬ Value.home u2 b) := fun b hb hb2 => (hh8.out b hb).elim (fun h => HAP.out b h hb2) (fun h => by have := HLT2.out b hb2; have := HLV.out; have := QR.out.lt; simp only [World.size_alloc] at h; omega)
          have RM : Hid (∀ b, Value.home (.slice (some ⟨g8, 0, none⟩) (k + 1) cap8) b → b < w8.heap.size) := fun b hb => SliceIs.lt hs8.out b hb
          clear q1 q2 hs8 hu8 hh8 QO1 QO2 QR QB HAP HLT1
          have q1 := RV.out.cell (i := 0) rfl
          have q2 := RV.out.cell (i := 1) rfl
          go_wp2_with (at_builtin; refine wpList_append_slice rfl (.tmp 36) (.tmp 46) 22 rfl 47 (.agg #[.int .i64 0, .int .i64 0]) 2 16 Try.underlying22 (by kernel_rfl) (by kernel_rfl) u2 k (runCells lb) rfl (SliceIs.alloc H2.out.own _) ⟨w8.heap.size, 0, none⟩ 1 1 [.int .i64 _, .int .i64 _] rfl rfl (news2 _ _ _ _ _ rfl) (one2 _ _) (by omega) (by omega) (by omega) ?_; intro g9 cap9 w9 hs9 hu9 hh9)
          have hg8 : w.heap.size ≤ w8.heap.size := RB.out.size
          go_roundw
          case rel =>
            have K2 := H2.out.next hs9.out (F + K) (K - K) (by omega) (by omega) (by omega) (by simp only [World.size_alloc]; omega) hh9.out
            have K1 := (H1.out.upd (F := fun _ => False) (Upds.alloc w8 _) (fun _ _ h => h)).upd hu9.out (fun b hb hb2 => RA.out b hb hb2)
            rw [← HCS.out.2] at K2
            rw [← HCS.out.1] at K1
            refine ⟨k + 1, q - K, _, _, _, _, by omega, by go_num, by first | rfl | (congr 1; omega), ⟨by have := HQS.out; omega, by omega, by omega⟩, rfl, rfl, K1, K2, fun b hb hb2 => (hh9.out b hb2).elim (fun h => RA.out b hb h) (fun h => by have := RM.out b hb; simp only [World.size_alloc] at h; omega), (RB.out.alloc RB.out.size _).trans (hu9.out.below (by simp only [World.size_alloc]; omega) (fun b hb => H2.out.2.2.2.2 b hb))⟩
          case measure => simp [intOf]; omega
    · obtain rfl : k = n := by omega
      have hlen : seqI (l.take k) = seqI l := by rw [HN.out, List.take_length]
      rw [hlen] at ho1 ho2
      have O1 := hid ho1
      have O2 := hid ho2
      have hlb : lb.length = k := ho2.2.2.2.1
      have hla : la.length = k := ho1.2.2.2.1
      have HLA : Hid (la.length ≤ 4000) := by show _ ≤ _; omega
      have HLB : Hid (lb.length ≤ 4000) := by show _ ≤ _; omega
      clear hlen hb ho1 ho2 hap HO1 HO2 hlb hla
      go_wp2_with fail
      refine (refJoin_any u1 la HLA.out wr (O1.out.1.at O1.out.2.1)).mono ?_
      rintro e w2 ⟨v2, rfl, h1, h2, h3⟩
      rw [O1.out.2.2.1] at h1
      have P1 := hid h1
      have PF := hid h2
      have PB := hid h3
      clear h1 h2 h3
      go_wp2_with fail
      refine (refJoin_any u2 lb HLB.out w2 ((O2.out.1.at O2.out.2.1).below PB.out (Nat.le_refl _))).mono ?_
      rintro e w3 ⟨v3, rfl, h1, h2, h3⟩
      rw [O2.out.2.2.1] at h1
      have R1 := hid h1
      have RF := hid h2
      have RB := hid h3
      clear h1 h2 h3
      go_wp2_with fail
      go_ret2
      exact ⟨_, _, rfl, P1.out.below RB.out (Nat.le_refl _), R1.out, fun b hb => Nat.le_trans HB.out.size (PF.out b hb), fun b hb => Nat.le_trans HB.out.size (Nat.le_trans PB.out.size (RF.out b hb)), fun b hb hb2 => by have := SliceIs.lt P1.out b hb; have := RF.out b hb2; omega, (HB.out.trans (PB.out.mono HB.out.size)).trans (RB.out.mono (Nat.le_trans HB.out.size PB.out.size))⟩
end Go.Proofs.Ytimeebajpegknaa
/-! The statements' own helpers: runs, awake. -/
namespace Go.Proofs.Ytimeebajpegknaa
open Go.Lib Go.ChangeShapes Go.WideShapes Go.ChangeAt Go.RowKit

set_option maxRecDepth 100000 in
set_option maxHeartbeats 1000000 in
theorem mk_runs (ps : List (Int × Int)) (g n : Nat) (hn : n = ps.length * 2) (hl : ps.length ≤ 1000) (w : World) (hg : g < w.heap.size) (hc : ∀ i (h : i < ps.length), w.cell? ⟨g, i * 2, none⟩ = some (.int .i64 ps[i].1) ∧ w.cell? ⟨g, i * 2 + 1, none⟩ = some (.int .i64 ps[i].2)) :
    Calls Try.prog 59 #[.slice (some ⟨g, 0, none⟩) n n] w (Made w ps) := by
  have HC := hid hc
  have HN := hid hn
  have hn2 : n ≤ 2000 := by omega
  clear hc hn
  go_enter Try.func59, Try.ntmps59
  go_wp2_with fail
  go_loopw [3, 4] (fun o i wr => ∃ (k j : Nat) (v : Value), k ≤ ps.length ∧ j = k * 2 ∧ i = .int .i64 j ∧ v = o ∧ OwnRuns wr v (ps.take k) ∧ Fresh w v ∧ Below w.heap.size w wr) (fun _ i _ => n - (intOf i).toNat)
  case atStart => exact ⟨0, 0, _, by omega, rfl, rfl, rfl, OwnRuns.nil w, Fresh.nil w, Below.refl _ _⟩
  case round =>
    obtain ⟨k, j, v, hk, hj, rfl, rfl, ho, hf, hb⟩ := hrel
    have HB := hid hb
    have HF := hid hf
    have HJ := hid hj
    have hlen : (ps.take k).length = k := by simp; omega
    unfold OwnRuns at ho
    rw [hlen] at ho
    obtain ⟨cs, hcs⟩ : ∃ cs, cs = runCells (ps.take k) := ⟨_, rfl⟩
    rw [← hcs] at ho
    have HO := hid ho
    have HCS := hid hcs
    by_cases hlt : k < ps.length
    · have hjn : j + 1 < n := by have := HN.out; omega
      have hj0 : j < n := by omega
      have d1 := (hb.cell (p := ⟨g, k * 2, none⟩) hg).trans (HC.out k hlt).1
      have d2 := (hb.cell (p := ⟨g, k * 2 + 1, none⟩) hg).trans (HC.out k hlt).2
      rw [← hj] at d1 d2
      obtain ⟨r, hr⟩ : ∃ r, r = ps[k] := ⟨_, rfl⟩
      rw [← hr] at d1 d2
      obtain ⟨a, b⟩ := r
      simp only at d1 d2
      have hstep : ps.take (k + 1) = ps.take k ++ [(a, b)] := by rw [List.take_succ_eq_append_getElem hlt, hr]
      have HST := hid hstep
      have hk1 : k ≤ 1000 := by omega
      obtain ⟨w4, hw4⟩ : ∃ w4, w4 = (wr.alloc (.cells #[.int .i64 a, .int .i64 b] 47)).drew := ⟨_, rfl⟩
      have hnew : ∀ j u, [Value.int .i64 a, Value.int .i64 b][j]? = some u → ((wr.alloc (.cells #[.int .i64 a, .int .i64 b] 47)).drew).cell? ((⟨wr.heap.size, 0, none⟩ : Addr).add j) = some u := fun j u hu => news2 wr (.int .i64 a) (.int .i64 b) 47 wr.heap.size rfl j u hu
      rw [← hw4] at hnew
      have HNW := hid hnew
      have hown : SliceIs w4 47 2 v k cs := by rw [hw4]; exact SliceIs.upd (F := fun _ => False) (SliceIs.alloc ho _) (Upds.drew _) (fun _ _ h => h)
      have HOW := hid hown
      have HB4 : Hid (Below w.heap.size w w4) := by rw [hw4]; exact (HB.out.alloc HB.out.size _).drew
      have HSZ : Hid (w.heap.size ≤ w4.heap.size) := HB4.out.size
      have HW4 := hid hw4
      clear hj hb hf ho hcs hlen hr hstep hw4 hnew hown
      go_wp2_with fail
      have hw1 : IntKind.i64.wrap ((j : Int) + 1) = (j : Int) + 1 := IntWalk.i64_in _ (by omega)
      have hw2 : (0 : Int) ≤ (j : Int) + 1 := by omega
      have hw3 : (j : Int) + 1 < n := by omega
      have hw5 : ((j : Int) + 1).toNat = j + 1 := by omega
      go_region_law (rw [← HW4.out]; refine step_append_slice rfl (.tmp 12) (.tmp 23) 22 rfl 47 (.agg #[.int .i64 0, .int .i64 0]) 2 16 Try.underlying22 (by kernel_rfl) rfl v k cs (by simp [Act.eval]) HOW.out ⟨wr.heap.size, 0, none⟩ 1 1 [.int .i64 a, .int .i64 b] (by simp [Act.eval]) rfl HNW.out (one2 _ _) (by omega) (by omega) (by omega) ?_; intro g8 cap8 w8 hs8 hu8 hh8)
      all_goals
        go_wp2_with fail
        go_roundw
        case rel =>
          have h1 := OwnRuns.more (r := (a, b)) (l := ps.take k) (n := k) (by simp; omega) HCS.out hs8.out
          refine ⟨k + 1, j + 2, _, by omega, by have := HJ.out; omega, by first | rfl | go_num, rfl, by rw [HST.out]; exact h1, fun c hc => (hh8.out c hc).elim (HF.out c) (fun h => by have := HSZ.out; omega), HB4.out.trans (hu8.out.below HSZ.out (fun c hc => HF.out c hc))⟩
        case measure => simp [intOf]; omega
    · have hj2 : j ≤ 2000 := by omega
      obtain rfl : k = ps.length := by omega
      have hjn : ¬ ((j : Int) + 1 < n) := by have := HN.out; omega
      have hall : ps.take ps.length = ps := List.take_length
      rw [hall] at hcs hlen
      have HCS2 := hid hcs
      clear hj hb hf ho hcs hlen hall
      go_wp2_with fail
      go_ret
      refine ⟨_, rfl, ?_, HF.out, HB.out⟩
      unfold OwnRuns
      rw [← HCS2.out]
      exact HO.out
end Go.Proofs.Ytimeebajpegknaa
/-! The chapter's example. -/
namespace Go.Proofs.Ytimeebajpegknaa
open Go.Lib Go.ChangeShapes Go.WideShapes Go.ChangeAt Go.RowKit

theorem lit_cells (w : World) (ps : List (Int × Int)) (t : TypeId) (cells : Array Value) (he : cells = (runCells ps).toArray) : ∀ i (h : i < ps.length), (w.alloc (.cells cells t)).cell? ⟨w.heap.size, i * 2, none⟩ = some (.int .i64 ps[i].1) ∧ (w.alloc (.cells cells t)).cell? ⟨w.heap.size, i * 2 + 1, none⟩ = some (.int .i64 ps[i].2) := by
  intro i h
  subst he
  have hr := Row.new w (runCells ps) t
  have hg := runCells_get ps i h
  exact ⟨hr.cell hg.1, hr.cell hg.2⟩
theorem bd_small (ps : List (Int × Int)) (h : ps.all (fun r => decide (-1000 ≤ r.1 ∧ r.1 ≤ 1000 ∧ -1000 ≤ r.2 ∧ r.2 ≤ 1000)) = true) : Bd ps := by
  intro r hr
  have := List.all_eq_true.1 h r hr
  simp only [decide_eq_true_eq] at this
  omega
/-- a list of runs that was made, and the world then -/
def Kept (w w' : World) (v : Value) (l : List (Int × Int)) : Prop := RunsAt w' v l ∧ Below w.heap.size w w'
theorem Made.kept {w w1 : World} {l : List (Int × Int)} (hbd : Bd l) (hb : Below w.heap.size w w1) {e : Ending} {w' : World} (h : Made w1 l e w') : ∃ v, e = .returned v ∧ Kept w w' v l ∧ Below w1.heap.size w1 w' := by
  obtain ⟨v, h1, h2, h3, h4⟩ := h
  exact ⟨v, h1, ⟨h2.at hbd, hb.trans (h4.mono hb.size)⟩, h4⟩
set_option maxRecDepth 100000 in
set_option maxHeartbeats 1000000 in
theorem awake_any (w : World) : Calls Try.prog 18 #[] w (Answers true w) := by
  go_enter Try.func18, Try.ntmps18
  go_wp2_with fail
  refine ((mk_runs [(5, 2), (7, 1), (3, 2)] w.heap.size 6 rfl (by decide) _ (by simp) (lit_cells w _ _ _ rfl)).mono fun e w' h => Made.kept (w := w) (bd_small _ (by decide)) ((Below.refl _ _).alloc (Nat.le_refl _) _) h).mono ?_
  rintro e w1 ⟨v1, rfl, h1, hb1⟩
  have H1 := hid h1
  clear h1 hb1
  go_wp2_with fail
  refine (at_any v1 _ (by decide) 3 (by omega) w1 H1.out.1).mono ?_
  rintro e w2 ⟨rfl, hb2⟩
  have B2 := hid (H1.out.2.trans (hb2.mono H1.out.2.size))
  clear hb2
  rw [show AtSeq (seqI [(5, 2), (7, 1), (3, 2)]) 3 = (3, true) from by decide +kernel]
  go_wp2_with fail
  refine ((mk_runs [(5, 2), (3, 2), (9, 1), (-1, 2)] w2.heap.size 8 rfl (by decide) _ (by simp) (lit_cells w2 _ _ _ rfl)).mono fun e w' h => Made.kept (w := w) (bd_small _ (by decide)) (B2.out.alloc B2.out.size _) h).mono ?_
  rintro e w3 ⟨v3, rfl, h1, hb1⟩
  have H3 := hid h1
  have L3 := hid (hb1)
  clear h1 hb1
  go_wp2_with fail
  refine ((normal_any v3 _ (by decide) w3 H3.out.1).mono fun e w' h => Made.kept (w := w) (norm_bd _) H3.out.2 h).mono ?_
  rintro e w4 ⟨v4, rfl, h1, hb1⟩
  rw [show norm (inB [(5, 2), (3, 2), (9, 1), (-1, 2)]) = [(0, 1), (3, 4), (9, 1)] from by decide +kernel] at h1
  have H4 := hid h1
  clear h1 hb1
  go_wp2_with fail
  refine ((mk_runs [(0, 1), (3, 4), (9, 1)] w4.heap.size 6 rfl (by decide) _ (by simp) (lit_cells w4 _ _ _ rfl)).mono fun e w' h => Made.kept (w := w) (bd_small _ (by decide)) (H4.out.2.alloc H4.out.2.size _) h).mono ?_
  rintro e w5 ⟨v5, rfl, h1, hb1⟩
  have H5 := hid h1
  have L5 := hid (hb1)
  clear h1 hb1
  go_wp2_with fail
  refine (same_any v4 v5 [(0, 1), (3, 4), (9, 1)] [(0, 1), (3, 4), (9, 1)] (by decide) (by decide) w5 (H4.out.1.below (((Below.refl _ _).alloc (Nat.le_refl _) _).trans (L5.out.mono (by simp))) (Nat.le_refl _)) H5.out.1).mono ?_
  rintro e w6 ⟨rfl, hb2⟩
  have B6 := hid (H5.out.2.trans (hb2.mono H5.out.2.size))
  clear hb2
  rw [show decide (([(0, 1), (3, 4), (9, 1)] : List (Int × Int)) = [(0, 1), (3, 4), (9, 1)]) = true from by decide]
  go_wp2_with fail
  refine ((mk_runs [(5, 2), (7, 1), (3, 2)] w6.heap.size 6 rfl (by decide) _ (by simp) (lit_cells w6 _ _ _ rfl)).mono fun e w' h => Made.kept (w := w) (bd_small _ (by decide)) (B6.out.alloc B6.out.size _) h).mono ?_
  rintro e w7 ⟨v7, rfl, h1, hb1⟩
  have H7 := hid h1
  have L7 := hid (hb1)
  clear h1 hb1
  go_wp2_with fail
  refine ((join_any v7 _ (by decide) w7 H7.out.1).mono fun e w' h => Made.kept (w := w) (Bd.up (fine_canon _ (seqI_lt _))) H7.out.2 h).mono ?_
  rintro e w8 ⟨v8, rfl, h1, hb1⟩
  rw [show up (canon (seqI [(5, 2), (7, 1), (3, 2)])) = [(5, 3), (3, 2)] from by decide +kernel] at h1
  have H8 := hid h1
  clear h1 hb1
  go_wp2_with fail
  refine ((mk_runs [(5, 3), (3, 2)] w8.heap.size 4 rfl (by decide) _ (by simp) (lit_cells w8 _ _ _ rfl)).mono fun e w' h => Made.kept (w := w) (bd_small _ (by decide)) (H8.out.2.alloc H8.out.2.size _) h).mono ?_
  rintro e w9 ⟨v9, rfl, h1, hb1⟩
  have H9 := hid h1
  have L9 := hid (hb1)
  clear h1 hb1
  go_wp2_with fail
  refine (same_any v8 v9 [(5, 3), (3, 2)] [(5, 3), (3, 2)] (by decide) (by decide) w9 (H8.out.1.below (((Below.refl _ _).alloc (Nat.le_refl _) _).trans (L9.out.mono (by simp))) (Nat.le_refl _)) H9.out.1).mono ?_
  rintro e w10 ⟨rfl, hb2⟩
  have B10 := hid (H9.out.2.trans (hb2.mono H9.out.2.size))
  clear hb2
  rw [show decide (([(5, 3), (3, 2)] : List (Int × Int)) = [(5, 3), (3, 2)]) = true from by decide]
  go_wp2_with fail
  go_ret
  exact ⟨rfl, B10.out⟩
end Go.Proofs.Ytimeebajpegknaa
/-! What the laws share. -/
namespace Go.Proofs.Ytimeebajpegknaa
open Go.Lib Go.ChangeShapes Go.WideShapes Go.ChangeAt Go.RowKit

theorem runs_of {w : World} {A : Option Addr} {len cap : Nat} {C : Nat → Nat → Value} (hl : len ≤ cap) (hm : cap ≤ maxLen) (hE : Elems w A len 2 C)
    (h0 : ∀ i, i < len → ∃ n : Int, C i 0 = .int .i64 n ∧ -9223372036854775808 ≤ n ∧ n ≤ 9223372036854775807) (h1 : ∀ i, i < len → ∃ n : Int, C i 1 = .int .i64 n ∧ -9223372036854775808 ≤ n ∧ n ≤ 9223372036854775807) :
    ∃ l : List (Int × Int), l.length = len ∧ RunsAt w (.slice A len cap) l := by
  have hx : ∀ i, ∃ n : Int, i < len → (C i 0 = .int .i64 n ∧ -9223372036854775808 ≤ n ∧ n ≤ 9223372036854775807) := fun i => by
    by_cases h : i < len
    · obtain ⟨n, h⟩ := h0 i h; exact ⟨n, fun _ => h⟩
    · exact ⟨0, fun h2 => absurd h2 h⟩
  have hy : ∀ i, ∃ n : Int, i < len → (C i 1 = .int .i64 n ∧ -9223372036854775808 ≤ n ∧ n ≤ 9223372036854775807) := fun i => by
    by_cases h : i < len
    · obtain ⟨n, h⟩ := h1 i h; exact ⟨n, fun _ => h⟩
    · exact ⟨0, fun h2 => absurd h2 h⟩
  obtain ⟨f, hf⟩ := Classical.axiomOfChoice hx
  obtain ⟨g, hg⟩ := Classical.axiomOfChoice hy
  have hlen : ((List.range len).map fun i => (f i, g i)).length = len := by simp
  unfold maxLen at hm
  refine ⟨(List.range len).map fun i => (f i, g i), hlen, A, cap, by rw [hlen], by rw [hlen]; exact hl, by omega, ?_, fun h => ?_⟩
  · intro r hr
    rw [List.mem_map] at hr
    obtain ⟨i, hi, rfl⟩ := hr
    rw [List.mem_range] at hi
    have a := hf i hi
    have b := hg i hi
    simp only; omega
  · rw [hlen] at h
    obtain ⟨b, off, rfl, hlt, hc⟩ := hE h
    refine ⟨b, off, rfl, hlt, fun i hi => ?_⟩
    rw [hlen] at hi
    have c0 := hc i 0 hi (by omega)
    have c1 := hc i 1 hi (by omega)
    rw [(hf i hi).1] at c0
    rw [(hg i hi).1] at c1
    simp only [List.getElem_map, List.getElem_range]
    exact ⟨c0, by rw [Nat.add_assoc]; exact c1⟩
theorem norm_inB (B : Nat → Bool) : norm (inB (norm B)) = norm B := by
  unfold norm; rw [ofB_congr (fun t ht => inB_canon B t ht)]
theorem norm_eq {A B : Nat → Bool} : norm A = norm B ↔ ∀ t, t < 128 → A t = B t := by
  constructor
  · intro h t ht
    have h1 : ofB A = ofB B := by have := congrArg seqI h; rwa [norm_seq, norm_seq] at this
    exact ofB_inj h1 t ht
  · intro h; unfold norm; rw [ofB_congr h]
theorem wish_union (a b : List (Int × Int)) : norm (fun t => wish true true true (inB a t) (inB b t)) = norm fun t => inB a t || inB b t := by
  rw [norm_eq]; intro t _; cases inB a t <;> cases inB b t <;> rfl
theorem wish_common (a b : List (Int × Int)) : norm (fun t => wish false false true (inB a t) (inB b t)) = norm fun t => inB a t && inB b t := by
  rw [norm_eq]; intro t _; cases inB a t <;> cases inB b t <;> rfl
theorem wish_minus (a b : List (Int × Int)) : norm (fun t => wish true false false (inB a t) (inB b t)) = norm fun t => inB a t && !inB b t := by
  rw [norm_eq]; intro t _; cases inB a t <;> cases inB b t <;> rfl
theorem seq_bd (s : List Nat) (h : ∀ t ∈ s, t < 128) : Bd (up (canon s)) := Bd.up (fine_canon s h)
theorem cut_len (l : List (Int × Int)) (N : Nat) : (up (canon ((seqI l).take N))).length ≤ l.length ∧ (up (canon ((seqI l).drop N))).length ≤ l.length := by
  have := take_canon_len l N l.length (Nat.le_refl _)
  rw [List.take_length] at this
  rw [up_len, up_len]; exact this
theorem join_len (l : List (Int × Int)) : (up (canon (seqI l))).length ≤ l.length := by
  have := canon_seqI_len l l.length (Nat.le_refl _)
  rw [List.take_length] at this
  rw [up_len]; exact this
theorem take_lt (l : List (Int × Int)) (N : Nat) : ∀ t ∈ (seqI l).take N, t < 128 := fun t ht => seqI_lt l t (List.mem_of_mem_take ht)
theorem drop_lt (l : List (Int × Int)) (N : Nat) : ∀ t ∈ (seqI l).drop N, t < 128 := fun t ht => seqI_lt l t (List.mem_of_mem_drop ht)
theorem ofB_nodup (B : Nat → Bool) : (ofB B).Nodup := by unfold ofB; exact List.Pairwise.filter _ List.nodup_range
/-- the three parts of two sets -/
def parts3 (a b : List (Int × Int)) : List (Int × Int) := (norm fun t => inB a t && inB b t) ++ (norm fun t => inB a t && !inB b t) ++ (norm fun t => inB b t && !inB a t)
theorem parts3_seq (a b : List (Int × Int)) : seqI (parts3 a b) = ofB (fun t => inB a t && inB b t) ++ ofB (fun t => inB a t && !inB b t) ++ ofB (fun t => inB b t && !inB a t) := by
  unfold parts3; rw [seqI_append, seqI_append, norm_seq, norm_seq, norm_seq]
theorem parts3_disjoint (a b : List (Int × Int)) : decide ((seqI (parts3 a b)).length = (ofB (inB (parts3 a b))).length) = true := by
  rw [decide_eq_true_iff, disjoint_iff, parts3_seq, List.nodup_append, List.nodup_append]
  refine ⟨⟨ofB_nodup _, ofB_nodup _, ?_⟩, ofB_nodup _, ?_⟩
  · intro x hx y hy e
    subst e
    rw [mem_ofB] at hx hy
    cases h1 : inB a x <;> cases h2 : inB b x <;> simp [h1, h2] at hx hy
  · intro x hx y hy e
    subst e
    rw [List.mem_append, mem_ofB, mem_ofB] at hx
    rw [mem_ofB] at hy
    cases h1 : inB a x <;> cases h2 : inB b x <;> simp [h1, h2] at hx hy
theorem parts3_norm (a b : List (Int × Int)) : norm (inB (parts3 a b)) = norm fun t => inB a t || inB b t := by
  rw [norm_eq]
  intro t ht
  rw [Bool.eq_iff_iff]
  unfold inB
  rw [List.contains_iff_mem, parts3_seq, List.mem_append, List.mem_append, mem_ofB, mem_ofB, mem_ofB]
  show _ ↔ (inB a t || inB b t) = true
  cases inB a t <;> cases inB b t <;> simp [ht]
theorem parts3_len (a b : List (Int × Int)) : (parts3 a b).length ≤ 4000 := by
  have h : ∀ B : Nat → Bool, (norm B).length ≤ 128 := fun B => by
    have h1 := canon_len (ofB B)
    have h2 := ofB_len B
    unfold norm; rw [up_len]; omega
  unfold parts3
  rw [List.length_append, List.length_append]
  have := h (fun t => inB a t && inB b t)
  have := h (fun t => inB a t && !inB b t)
  have := h (fun t => inB b t && !inB a t)
  omega
theorem Bd.append {a b : List (Int × Int)} (ha : Bd a) (hb : Bd b) : Bd (a ++ b) := fun r hr => (List.mem_append.1 hr).elim (ha r) (hb r)
theorem parts3_bd (a b : List (Int × Int)) : Bd (parts3 a b) := Bd.append (Bd.append (norm_bd _) (norm_bd _)) (norm_bd _)
theorem minus_union (a b : List (Int × Int)) : norm (fun t => inB (norm fun t => inB a t || inB b t) t && !inB (norm (inB b)) t) = norm fun t => inB a t && !inB b t := by
  rw [norm_eq]
  intro t ht
  have e1 : inB (norm fun t => inB a t || inB b t) t = (inB a t || inB b t) := inB_canon _ t ht
  have e2 : inB (norm (inB b)) t = inB b t := inB_canon _ t ht
  rw [e1, e2]
  cases inB a t <;> cases inB b t <;> rfl
end Go.Proofs.Ytimeebajpegknaa
namespace Go.Proofs.Ytimeebajpegknaa
/-- is a number one of the tracks of a list? -/
def hasT (l : List (Int × Int)) (t : Int) : Bool := (FirstAt (seqI l) t).2
theorem hasT_nat (l : List (Int × Int)) (t : Nat) : hasT l t = inB l t := inB_first l t
theorem hasT_out (l : List (Int × Int)) (t : Int) (h : t < 0 ∨ 128 ≤ t) : hasT l t = false := by
  cases hh : hasT l t with
  | false => rfl
  | true =>
    unfold hasT at hh
    rw [inB_iff] at hh
    obtain ⟨x, hx, e⟩ := hh
    have := seqI_lt l x hx
    omega
theorem hasT_norm (B : Nat → Bool) (t : Int) : hasT (norm B) t = if 0 ≤ t ∧ t < 128 then B t.toNat else false := by
  by_cases h : 0 ≤ t ∧ t < 128
  · rw [if_pos h]
    obtain ⟨n, rfl⟩ : ∃ n : Nat, t = n := ⟨t.toNat, by omega⟩
    rw [hasT_nat]
    exact inB_canon B n (by omega)
  · rw [if_neg h]; exact hasT_out _ _ (by omega)
theorem hasT_in (l : List (Int × Int)) (t : Int) (h : 0 ≤ t ∧ t < 128) : hasT l t = inB l t.toNat := by
  obtain ⟨n, rfl⟩ : ∃ n : Nat, t = n := ⟨t.toNat, by omega⟩
  exact hasT_nat l n
theorem hasT_op (op : Bool → Bool → Bool) (h0 : op false false = false) (a b : List (Int × Int)) (t : Int) : hasT (norm fun t => op (inB a t) (inB b t)) t = op (hasT a t) (hasT b t) := by
  rw [hasT_norm]
  by_cases h : 0 ≤ t ∧ t < 128
  · rw [if_pos h, hasT_in a t h, hasT_in b t h]
  · rw [if_neg h, hasT_out a t (by omega), hasT_out b t (by omega), h0]
/-- the first k numbers from -1 on belong to both or to none -/
def agr (a b : List (Int × Int)) : Nat → Bool
  | 0 => true
  | k + 1 => agr a b k && (hasT a ((k : Int) - 1) == hasT b ((k : Int) - 1))
theorem agr_iff (a b : List (Int × Int)) (k : Nat) : agr a b k = true ↔ ∀ j, j < k → hasT a ((j : Int) - 1) = hasT b ((j : Int) - 1) := by
  induction k with
  | zero => simp [agr]
  | succ k ih =>
    rw [agr, Bool.and_eq_true, ih, beq_iff_eq]
    constructor
    · rintro ⟨h1, h2⟩ j hj
      by_cases e : j = k
      · subst e; exact h2
      · exact h1 j (by omega)
    · intro h; exact ⟨fun j hj => h j (by omega), h k (by omega)⟩
theorem agr_all (a b : List (Int × Int)) : agr a b 130 = decide (norm (inB a) = norm (inB b)) := by
  rw [Bool.eq_iff_iff, agr_iff, decide_eq_true_iff, norm_eq]
  constructor
  · intro h t ht
    have := h (t + 1) (by omega)
    have e : (((t + 1 : Nat) : Int) - 1) = (t : Int) := by omega
    rw [e, hasT_nat, hasT_nat] at this
    exact this
  · intro h j _
    by_cases hj : 1 ≤ j ∧ j ≤ 128
    · obtain ⟨t, rfl⟩ : ∃ t, j = t + 1 := ⟨j - 1, by omega⟩
      have e : (((t + 1 : Nat) : Int) - 1) = (t : Int) := by omega
      rw [e, hasT_nat, hasT_nat]
      exact h t (by omega)
    · rw [hasT_out a _ (by omega), hasT_out b _ (by omega)]
end Go.Proofs.Ytimeebajpegknaa
namespace Go.Proofs.Ytimeebajpegknaa
theorem firstAt_mem (S : List Nat) (i : Nat) (h : i < S.length) : ∃ k, k ≤ i ∧ FirstAt S ((S[i] : Nat) : Int) = ((k : Int), true) ∧ ∃ hk : k < S.length, S[k] = S[i] := by
  unfold FirstAt
  cases hf : S.findIdx? (fun x : Nat => (x : Int) == (S[i] : Nat)) with
  | none =>
    rw [List.findIdx?_eq_none_iff] at hf
    have := hf S[i] (List.getElem_mem _)
    simp at this
  | some k =>
    rw [List.findIdx?_eq_some_iff_getElem] at hf
    obtain ⟨hk, hp, hno⟩ := hf
    refine ⟨k, ?_, rfl, hk, by have := beq_iff_eq.1 hp; omega⟩
    rcases Nat.lt_or_ge i k with hik | hik
    · have := hno i hik; simp at this
    · exact hik
theorem atSeq_get (S : List Nat) (i : Nat) (h : i < S.length) : AtSeq S i = (((S[i] : Nat) : Int), true) := by
  unfold AtSeq
  rw [if_neg (by omega), show ((i : Int)).toNat = i from by omega, List.getElem?_eq_getElem h]
theorem not_disjoint (l : List (Int × Int)) (k i : Nat) (hk : k < (seqI l).length) (hi : i < (seqI l).length) (h : k < i) (e : (seqI l)[k] = (seqI l)[i]) : decide ((seqI l).length = (ofB (inB l)).length) = false := by
  rw [decide_eq_false_iff_not, disjoint_iff, nodup_get]
  intro h2
  exact h2 k i hk hi h e
def parts2 (l : List (Int × Int)) (N : Nat) : List (Int × Int) := up (canon ((seqI l).take N)) ++ up (canon ((seqI l).drop N))
theorem parts2_seq (l : List (Int × Int)) (N : Nat) : seqI (parts2 l N) = seqI l := by
  unfold parts2
  rw [seqI_append, seqI_canon _ (take_lt l N), seqI_canon _ (drop_lt l N), List.take_append_drop]
theorem parts2_bd (l : List (Int × Int)) (N : Nat) : Bd (parts2 l N) := Bd.append (seq_bd _ (take_lt l N)) (seq_bd _ (drop_lt l N))
theorem parts2_len (l : List (Int × Int)) (N : Nat) (h : l.length ≤ 12) : (parts2 l N).length ≤ 4000 := by
  have := cut_len l N
  unfold parts2
  rw [List.length_append]; omega
end Go.Proofs.Ytimeebajpegknaa
