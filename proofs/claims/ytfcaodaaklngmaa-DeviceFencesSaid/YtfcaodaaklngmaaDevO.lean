import Derived.Test.YtfcaodaaklngmaaDevT7
import Derived.Test.YtfcaodaaklngmaaOpen
import Derived.OpenShut
import Derived.ShutString
/-! Operations among the arguments. -/
namespace Go.Proofs.Ytfcaodaaklngmaa
open Go.ChangeShapes Go.WideShapes Go.Deep Go.RowKit

structure OpD where
  kind : Int
  sys : Int
  ep : Int
  sec : Int
  dat : ByteArray
  n : Int
  mask : Int
  sa : Option Addr
  sur : List Int
  sc : Nat
def OpD.cells (o : OpD) : List Value := [.int .u8 o.kind, .int .i64 o.sys, .int .i64 o.ep, .int .i64 o.sec, .string o.dat, .int .i64 o.n, .int .u8 o.mask, .slice o.sa o.sur.length o.sc]
abbrev b64 (n : Int) : Prop := -9223372036854775808 ≤ n ∧ n ≤ 9223372036854775807
/-- the survivors of an operation in memory -/
structure SurAt (w : World) (a : Option Addr) (l : List Int) (c : Nat) : Prop where
  at_ : IntsAt w a l
  lt : ∀ x, a = some x → 0 < l.length → x.block < w.heap.size
  bd : ∀ x ∈ l, b64 x
  cap : l.length ≤ c ∧ c ≤ 9223372036854775807
structure OpOk (w : World) (o : OpD) : Prop where
  kind : 0 ≤ o.kind ∧ o.kind ≤ 255
  sys : b64 o.sys
  ep : b64 o.ep
  sec : b64 o.sec
  dat : o.dat.size ≤ 9223372036854775807
  n : b64 o.n
  mask : 0 ≤ o.mask ∧ o.mask ≤ 255
  sur : SurAt w o.sa o.sur o.sc
structure OpsAt (w : World) (A : Option Addr) (len : Nat) (f : Nat → OpD) : Prop where
  mem : 0 < len → ∃ b off, A = some ⟨b, off, none⟩ ∧ b < w.heap.size ∧ ∀ i, i < len → ∀ j u, (f i).cells[j]? = some u → w.cell? ⟨b, off + i * 8 + j, none⟩ = some u
  ok : ∀ i, i < len → OpOk w (f i)
theorem SurAt.below {w w' : World} {a : Option Addr} {l : List Int} {c : Nat} (h : SurAt w a l c) (hb : Below w.heap.size w w') : SurAt w' a l c :=
  ⟨fun h0 => by
    obtain ⟨b, off, e, hc⟩ := h.at_ h0
    have hlt := h.lt _ e h0
    exact ⟨b, off, e, fun i hi => (hb.cell (p := ⟨b, off + i, none⟩) hlt).trans (hc i hi)⟩, fun x e h0 => Nat.lt_of_lt_of_le (h.lt x e h0) hb.size, h.bd, h.cap⟩
theorem OpOk.below {w w' : World} {o : OpD} (h : OpOk w o) (hb : Below w.heap.size w w') : OpOk w' o := ⟨h.kind, h.sys, h.ep, h.sec, h.dat, h.n, h.mask, h.sur.below hb⟩
theorem OpsAt.below {w w' : World} {A : Option Addr} {len : Nat} {f : Nat → OpD} (h : OpsAt w A len f) (hb : Below w.heap.size w w') : OpsAt w' A len f :=
  ⟨fun h0 => by
    obtain ⟨b, off, e, hlt, hc⟩ := h.mem h0
    exact ⟨b, off, e, Nat.lt_of_lt_of_le hlt hb.size, fun i hi j u hu => (hb.cell (p := ⟨b, off + i * 8 + j, none⟩) hlt).trans (hc i hi j u hu)⟩, fun i hi => (h.ok i hi).below hb⟩
section
variable {H : Type} {enc : TypeId × Value → H} {w : World} {base : Nat} {spare : Nat → Bool} {held : Bool}
theorem ints_open {fuel : Nat} {cs : List Value} {x : DataW H × List MemPlace} (h : DataW.trod enc Try.prog w base spare held fuel 30 cs = some x) :
    ∃ (a : Option Addr) (l : List Int) (c : Nat), cs = [.slice a l.length c] ∧ SurAt w a l c := by
  obtain ⟨A, len, cap, C, hcs, hl, hm, hE, hF⟩ := open_cells Try.underlying30 (by kernel_rfl) h
  have s0 : ∀ i, i < len → ∃ n : Int, C i 0 = .int .i64 n ∧ b64 n := fun i hi => by
    obtain ⟨y, n, hy⟩ := hF i hi
    obtain ⟨n, e, _, hw⟩ := DataW.trod_int Try.underlying3 hy
    exact ⟨n, List.head_eq_of_cons_eq e, bounds_i64 hw⟩
  have key : ∀ i, ∃ n : Int, i < len → C i 0 = .int .i64 n ∧ b64 n := fun i => by
    by_cases hi : i < len
    · obtain ⟨n, h1⟩ := s0 i hi
      exact ⟨n, fun _ => h1⟩
    · exact ⟨0, fun h => absurd h hi⟩
  unfold maxLen at hm
  refine ⟨A, (List.range len).map fun i => Classical.choose (key i), cap, by simpa using hcs, ⟨fun h0 => ?_, fun y e h0 => ?_, fun y hy => ?_, by simpa using ⟨hl, hm⟩⟩⟩
  · simp only [List.length_map, List.length_range] at h0 ⊢
    obtain ⟨b, off, e, hlt, hc⟩ := hE h0
    refine ⟨b, off, e, fun i hi => ?_⟩
    have := hc i 0 hi (by omega)
    simp only [Nat.mul_one, Nat.add_zero] at this
    rw [this, (Classical.choose_spec (key i) hi).1]
    simp
  · simp only [List.length_map, List.length_range] at h0
    obtain ⟨b, off, e', hlt, hc⟩ := hE h0
    rw [e] at e'
    cases e'
    exact hlt
  · obtain ⟨i, hi, rfl⟩ := List.mem_map.1 hy
    exact (Classical.choose_spec (key i) (List.mem_range.1 hi)).2
theorem len8 {α : Type} {l : List α} (h : l.length = 8) : ∃ a b c d e f g i, l = [a, b, c, d, e, f, g, i] := by
  cases l with
  | nil => simp at h
  | cons a l => cases l with
    | nil => simp at h
    | cons b l => cases l with
      | nil => simp at h
      | cons c l => cases l with
        | nil => simp at h
        | cons d l => cases l with
          | nil => simp at h
          | cons e l => cases l with
            | nil => simp at h
            | cons f l => cases l with
              | nil => simp at h
              | cons g l => cases l with
                | nil => simp at h
                | cons i l => cases l with
                  | nil => exact ⟨a, b, c, d, e, f, g, i, rfl⟩
                  | cons k l => simp at h
set_option maxRecDepth 100000 in
theorem op_open {fuel : Nat} {cs : List Value} {x : DataW H × List MemPlace} (h : DataW.trod enc Try.prog w base spare held fuel 44 cs = some x) :
    ∃ o : OpD, cs = o.cells ∧ OpOk w o := by
  obtain ⟨ys, n', _, _, hcl, hyl, hf⟩ := DataW.trod_struct Try.underlying44 h
  have h8 : cs.length = 8 := hcl.trans (by kernel_rfl)
  obtain ⟨c0, c1, c2, c3, c4, c5, c6, c7, rfl⟩ := len8 h8
  have k_uint8 : Try.prog.cellsOf 5 = 1 := by kernel_rfl
  have k_api_Writer : Try.prog.cellsOf 42 = 2 := by kernel_rfl
  have k_int : Try.prog.cellsOf 3 = 1 := by kernel_rfl
  have k_string : Try.prog.cellsOf 9 = 1 := by kernel_rfl
  have k_sint : Try.prog.cellsOf 30 = 1 := by kernel_rfl
  obtain ⟨y0, e0⟩ : ∃ y, ys[0]? = some y := ⟨_, List.getElem?_eq_getElem (by rw [hyl]; decide)⟩
  have h0 : DataW.trod enc Try.prog w base spare held n' 5 (([c0, c1, c2, c3, c4, c5, c6, c7].drop 0).take (Try.prog.cellsOf 5)) = ys[0]? := hf 0 _ rfl
  rw [k_uint8, e0] at h0
  replace h0 : DataW.trod enc Try.prog w base spare held n' 5 [c0] = some y0 := h0
  obtain ⟨y1, e1⟩ : ∃ y, ys[1]? = some y := ⟨_, List.getElem?_eq_getElem (by rw [hyl]; decide)⟩
  have h1 : DataW.trod enc Try.prog w base spare held n' 42 (([c0, c1, c2, c3, c4, c5, c6, c7].drop 1).take (Try.prog.cellsOf 42)) = ys[1]? := hf 1 _ rfl
  rw [k_api_Writer, e1] at h1
  replace h1 : DataW.trod enc Try.prog w base spare held n' 42 [c1, c2] = some y1 := h1
  obtain ⟨y2, e2⟩ : ∃ y, ys[2]? = some y := ⟨_, List.getElem?_eq_getElem (by rw [hyl]; decide)⟩
  have h2 : DataW.trod enc Try.prog w base spare held n' 3 (([c0, c1, c2, c3, c4, c5, c6, c7].drop 3).take (Try.prog.cellsOf 3)) = ys[2]? := hf 2 _ rfl
  rw [k_int, e2] at h2
  replace h2 : DataW.trod enc Try.prog w base spare held n' 3 [c3] = some y2 := h2
  obtain ⟨y3, e3⟩ : ∃ y, ys[3]? = some y := ⟨_, List.getElem?_eq_getElem (by rw [hyl]; decide)⟩
  have h3 : DataW.trod enc Try.prog w base spare held n' 9 (([c0, c1, c2, c3, c4, c5, c6, c7].drop 4).take (Try.prog.cellsOf 9)) = ys[3]? := hf 3 _ rfl
  rw [k_string, e3] at h3
  replace h3 : DataW.trod enc Try.prog w base spare held n' 9 [c4] = some y3 := h3
  obtain ⟨y4, e4⟩ : ∃ y, ys[4]? = some y := ⟨_, List.getElem?_eq_getElem (by rw [hyl]; decide)⟩
  have h4 : DataW.trod enc Try.prog w base spare held n' 3 (([c0, c1, c2, c3, c4, c5, c6, c7].drop 5).take (Try.prog.cellsOf 3)) = ys[4]? := hf 4 _ rfl
  rw [k_int, e4] at h4
  replace h4 : DataW.trod enc Try.prog w base spare held n' 3 [c5] = some y4 := h4
  obtain ⟨y5, e5⟩ : ∃ y, ys[5]? = some y := ⟨_, List.getElem?_eq_getElem (by rw [hyl]; decide)⟩
  have h5 : DataW.trod enc Try.prog w base spare held n' 5 (([c0, c1, c2, c3, c4, c5, c6, c7].drop 6).take (Try.prog.cellsOf 5)) = ys[5]? := hf 5 _ rfl
  rw [k_uint8, e5] at h5
  replace h5 : DataW.trod enc Try.prog w base spare held n' 5 [c6] = some y5 := h5
  obtain ⟨y6, e6⟩ : ∃ y, ys[6]? = some y := ⟨_, List.getElem?_eq_getElem (by rw [hyl]; decide)⟩
  have h6 : DataW.trod enc Try.prog w base spare held n' 30 (([c0, c1, c2, c3, c4, c5, c6, c7].drop 7).take (Try.prog.cellsOf 30)) = ys[6]? := hf 6 _ rfl
  rw [k_sint, e6] at h6
  replace h6 : DataW.trod enc Try.prog w base spare held n' 30 [c7] = some y6 := h6
  obtain ⟨i0, g0, _, b0⟩ := DataW.trod_int Try.underlying5 h0
  obtain ⟨z0, z1, n2, _, _, f0, f1⟩ := trod_struct2 Try.underlying42 h1
  have f0' : DataW.trod enc Try.prog w base spare held n2 3 (([c1, c2].drop 0).take (Try.prog.cellsOf 3)) = some z0 := f0
  have f1' : DataW.trod enc Try.prog w base spare held n2 3 (([c1, c2].drop 1).take (Try.prog.cellsOf 3)) = some z1 := f1
  rw [k_int] at f0' f1'
  replace f0' : DataW.trod enc Try.prog w base spare held n2 3 [c1] = some z0 := f0'
  replace f1' : DataW.trod enc Try.prog w base spare held n2 3 [c2] = some z1 := f1'
  obtain ⟨i1, g1, _, b1⟩ := DataW.trod_int Try.underlying3 f0'
  obtain ⟨i2, g2, _, b2⟩ := DataW.trod_int Try.underlying3 f1'
  obtain ⟨i3, g3, _, b3⟩ := DataW.trod_int Try.underlying3 h2
  obtain ⟨i4, g4, _, b4⟩ := DataW.trod_string Try.underlying9 h3
  obtain ⟨i5, g5, _, b5⟩ := DataW.trod_int Try.underlying3 h4
  obtain ⟨i6, g6, _, b6⟩ := DataW.trod_int Try.underlying5 h5
  obtain ⟨a, l, c, g7, hs⟩ := ints_open h6
  refine ⟨⟨i0, i1, i2, i3, i4, i5, i6, a, l, c⟩, ?_, ⟨bounds_u8 b0, bounds_i64 b1, bounds_i64 b2, bounds_i64 b3, by unfold maxLen at b4; exact b4, bounds_i64 b5, bounds_u8 b6, hs⟩⟩
  rw [List.head_eq_of_cons_eq g0, List.head_eq_of_cons_eq g1, List.head_eq_of_cons_eq g2, List.head_eq_of_cons_eq g3, List.head_eq_of_cons_eq g4, List.head_eq_of_cons_eq g5, List.head_eq_of_cons_eq g6, List.head_eq_of_cons_eq g7]
  rfl
theorem ops_open {fuel : Nat} {cs : List Value} {x : DataW H × List MemPlace} (h : DataW.trod enc Try.prog w base spare held fuel 37 cs = some x) :
    ∃ (A : Option Addr) (len cap : Nat) (f : Nat → OpD), cs = [.slice A len cap] ∧ len ≤ cap ∧ cap ≤ 9223372036854775807 ∧ OpsAt w A len f := by
  have k8 : Try.prog.cellsOf 44 = 8 := by kernel_rfl
  rcases open_slice Try.underlying37 h with ⟨rfl, _⟩ | ⟨a, len, cap, m, n, D, Pl, rfl, _, hl, hm, hmm, _, hi⟩
  · exact ⟨none, 0, 0, fun _ => ⟨0, 0, 0, 0, ⟨#[]⟩, 0, 0, none, [], 0⟩, rfl, Nat.le_refl _, by omega, ⟨fun h => absurd h (Nat.lt_irrefl _), fun i hi => absurd hi (Nat.not_lt_zero _)⟩⟩
  · have hlm : len ≤ m := by rw [hmm]; split <;> omega
    unfold maxLen at hm
    rw [k8] at hi
    have key : ∀ i, ∃ o : OpD, i < len → OpOk w o ∧ ∀ j u, o.cells[j]? = some u → w.cell? (a.add (i * 8 + j)) = some u := fun i => by
      by_cases hil : i < len
      · obtain ⟨cs', hc, htr⟩ := hi i (by omega)
        obtain ⟨o, ho, hok⟩ := op_open htr
        obtain ⟨_, hcl, hat⟩ := World.cells?_some hc
        refine ⟨o, fun _ => ⟨hok, fun j u hu => ?_⟩⟩
        rw [← ho] at hu
        have hj : j < 8 := by
          have := (List.getElem?_eq_some_iff.1 hu).1
          omega
        have := hat j hj
        rw [Go.Deep.add_add] at this
        rw [this, hu]
      · exact ⟨⟨0, 0, 0, 0, ⟨#[]⟩, 0, 0, none, [], 0⟩, fun h => absurd h hil⟩
    refine ⟨some a, len, cap, fun i => Classical.choose (key i), rfl, hl, hm, ⟨fun h0 => ?_, fun i hil => (Classical.choose_spec (key i) hil).1⟩⟩
    have k0 := (Classical.choose_spec (key 0) h0).2 0 _ rfl
    obtain ⟨b, off, spot⟩ := a
    have hspot : spot = none := by simpa [Addr.add] using World.cell?_spot k0
    subst hspot
    refine ⟨b, off, rfl, ?_, fun i hil j u hu => ?_⟩
    · rw [add_plain] at k0
      exact cell_lt k0
    · have := (Classical.choose_spec (key i) hil).2 j u hu
      rw [add_plain] at this
      rw [Nat.add_assoc]; exact this
end
end Go.Proofs.Ytfcaodaaklngmaa
