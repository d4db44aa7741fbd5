import Derived.Test.YtabbkgbgldgfeaaLabM
import Derived.Test.YtabbkgbgldgfeaaOpen
import Derived.OpenShut
import Derived.WideShapes
/-! Labels among the arguments. -/
namespace Go.Proofs.Ytabbkgbgldgfeaa
open Go.ChangeShapes Go.WideShapes Go.Deep Go.RowKit
section
variable {H : Type} {enc : TypeId × Value → H} {P : Program} {w : World} {base : Nat} {spare : Nat → Bool} {held : Bool}
/-- a struct of fields of one cell each -/
theorem open_fields {e : TypeId} {fs : Array Field} {fuel : Nat} {cs : List Value} {x : DataW H × List MemPlace} (he : P.underlying e = some (.struct fs))
    (hone : oneCellFields P fs = true) (hC : P.cellsOf e = fs.size) (h : DataW.trod enc P w base spare held fuel e cs = some x) :
    cs.length = fs.size ∧ ∀ (j : Nat) f v, fs[j]? = some f → cs[j]? = some v → ∃ y n, DataW.trod enc P w base spare held n f.type [v] = some y := by
  obtain ⟨ys, n', _, _, hcl, hyl, hf⟩ := DataW.trod_struct he h
  refine ⟨by omega, fun j f v hfj hv => ?_⟩
  obtain ⟨hjc, rfl⟩ := List.getElem?_eq_some_iff.1 hv
  obtain ⟨ho, hk⟩ := hone_of hone j f hfj
  have h1 := hf j f hfj
  rw [ho, hk, List.drop_eq_getElem_cons hjc] at h1
  have hj2 := (Array.getElem?_eq_some_iff.1 hfj).1
  have hjy : j < ys.length := by omega
  exact ⟨ys[j], n', h1.trans (List.getElem?_eq_getElem hjy)⟩
end
/-- a label as a value -/
abbrev labV (l : Lab) (v : Value) : Value := .agg #[.int .i64 l.id, .int .i64 l.unit, .string l.name, .string l.note, v]
def LabAt (w : World) (l : Lab) (v : Value) : Prop := RunsAt w v l.ext ∧ (-9223372036854775808 ≤ l.id ∧ l.id ≤ 9223372036854775807) ∧ (-9223372036854775808 ≤ l.unit ∧ l.unit ≤ 9223372036854775807) ∧ l.name.size ≤ 9223372036854775807 ∧ l.note.size ≤ 9223372036854775807
theorem LabAt.below {w w' : World} {l : Lab} {v : Value} (h : LabAt w l v) {B : Nat} (hb : Below B w w') (hB : w.heap.size ≤ B) : LabAt w' l v := ⟨h.1.below hb hB, h.2⟩
section
variable {H : Type} {enc : TypeId × Value → H} {w : World} {base : Nat} {spare : Nat → Bool} {held : Bool}
theorem open_runs {fuel : Nat} {cs : List Value} {x : DataW H × List MemPlace} (hf : DataW.trod enc Try.prog w base spare held fuel 22 cs = some x) :
    ∃ (v : Value) (l : List (Int × Int)), cs = [v] ∧ RunsAt w v l := by
  obtain ⟨A, len, cap, C, hcs, hl, hm, hE, hF⟩ := open_elems Try.underlying22 Try.underlying43 (by kernel_rfl) (by kernel_rfl) (by decide) hf
  have s0 : ∀ i, i < len → ∃ n : Int, C i 0 = .int .i64 n ∧ -9223372036854775808 ≤ n ∧ n ≤ 9223372036854775807 := fun i hi => by
    obtain ⟨y, n, hy⟩ := hF i 0 _ hi rfl
    obtain ⟨n, e, _, hw⟩ := DataW.trod_int Try.underlying3 hy
    exact ⟨n, List.head_eq_of_cons_eq e, bounds_i64 hw⟩
  have s1 : ∀ i, i < len → ∃ n : Int, C i 1 = .int .i64 n ∧ -9223372036854775808 ≤ n ∧ n ≤ 9223372036854775807 := fun i hi => by
    obtain ⟨y, n, hy⟩ := hF i 1 _ hi rfl
    obtain ⟨n, e, _, hw⟩ := DataW.trod_int Try.underlying3 hy
    exact ⟨n, List.head_eq_of_cons_eq e, bounds_i64 hw⟩
  obtain ⟨l, hn, hr⟩ := runs_of hl hm hE s0 s1
  subst hn
  exact ⟨_, l, hcs, hr⟩
theorem lab_open {fuel : Nat} {cs : List Value} {x : DataW H × List MemPlace} (h : DataW.trod enc Try.prog w base spare held fuel 24 cs = some x) :
    ∃ (l : Lab) (v : Value), cs = [.int .i64 l.id, .int .i64 l.unit, .string l.name, .string l.note, v] ∧ LabAt w l v := by
  obtain ⟨hl, hf⟩ := open_fields Try.underlying24 (by kernel_rfl) (by kernel_rfl) h
  match cs, hl with
  | [c0, c1, c2, c3, c4], _ =>
    obtain ⟨y0, n0, h0⟩ := hf 0 _ c0 rfl rfl
    obtain ⟨y1, n1, h1⟩ := hf 1 _ c1 rfl rfl
    obtain ⟨y2, n2, h2⟩ := hf 2 _ c2 rfl rfl
    obtain ⟨y3, n3, h3⟩ := hf 3 _ c3 rfl rfl
    obtain ⟨y4, n4, h4⟩ := hf 4 _ c4 rfl rfl
    obtain ⟨i0, e0, _, w0⟩ := DataW.trod_int Try.underlying3 h0
    obtain ⟨i1, e1, _, w1⟩ := DataW.trod_int Try.underlying3 h1
    obtain ⟨i2, e2, _, w2⟩ := DataW.trod_string Try.underlying9 h2
    obtain ⟨i3, e3, _, w3⟩ := DataW.trod_string Try.underlying9 h3
    obtain ⟨v, l, e4, hr⟩ := open_runs h4
    have d0 := List.head_eq_of_cons_eq e0
    have d1 := List.head_eq_of_cons_eq e1
    have d2 := List.head_eq_of_cons_eq e2
    have d3 := List.head_eq_of_cons_eq e3
    have d4 := List.head_eq_of_cons_eq e4
    subst d0 d1 d2 d3 d4
    exact ⟨⟨i0, i1, i2, i3, l⟩, c4, rfl, hr, bounds_i64 w0, bounds_i64 w1, w2, w3⟩
end
end Go.Proofs.Ytabbkgbgldgfeaa
