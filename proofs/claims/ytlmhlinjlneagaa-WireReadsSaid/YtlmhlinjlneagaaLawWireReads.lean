/- Statement WireReads: any operations read from any bytes what the specification reads, and leave the same bytes and error. For every text of at most 500 bytes and every list of at most 30 operations, which are the statement's own bounds. -/
import Derived.Test.YtlmhlinjlneagaaRows
import Derived.WalkKit
import Derived.ProofKit
import Derived.OpenShut
import Derived.ShutString
import Derived.ChangeOld
import Derived.Below
import Derived.Test.YtlmhlinjlneagaaWireR4
import Derived.Deep.RegionHeld3
import Derived.Test.YtlmhlinjlneagaaSlices
namespace Go.Proofs.Ytlmhlinjlneagaa
open Go.Lib Go.ChangeShapes Go.WideShapes Go.ChangeAt Go.RowKit
open Go.ChangeMaps (open_string shut_string)



theorem cells_upd {w w2 : World} {b v : Nat} {x y : Value} {t : TypeId} (h : Upd b w w2) (hne : v ≠ b) (hh : w.heap[v]? = some (.cells #[x, y] t (0, 0))) :
    w2.cell? ⟨v, 0, none⟩ = some x ∧ w2.cell? ⟨v, 1, none⟩ = some y ∧ w2.frozen? ⟨v, 0, none⟩ = false ∧ w2.frozen? ⟨v, 1, none⟩ = false ∧ w2.heap[v]? = some (.cells #[x, y] t (0, 0)) := by
  have hlt : v < w.heap.size := by
    rcases Nat.lt_or_ge v w.heap.size with h | h
    · exact h
    · rw [Array.getElem?_eq_none h] at hh; cases hh
  have h2 : w2.heap[v]? = some (.cells #[x, y] t (0, 0)) := by rw [h.block v hlt hne]; exact hh
  simp [World.cell?, World.frozen?, h2]
theorem Rd.setother {w : World} {b : Nat} {s : ByteArray} {e : Nat} (h : Rd w b s e) (v : Nat) (hne : v ≠ b) (o : Nat) (x : Value) : Rd (w.setCell ⟨v, o, none⟩ x) b s e := by
  unfold Rd at h ⊢
  rw [Below.heap_setCell _ _ _ _ (by simp; omega)]; exact h
theorem ends (f : Nat) (t : ByteArray) (h : f ≠ 0 → t.size = 0) : ∃ E : Nat, (if t.size = 0 then f else 11) = E ∧ (if f = 0 ∧ 0 < t.size then 11 else f) = E := by
  by_cases ht : t.size = 0
  · exact ⟨f, by rw [if_pos ht], by rw [if_neg (by omega)]⟩
  · exact ⟨11, by rw [if_neg ht], by rw [if_pos ⟨Decidable.byContradiction fun hf => ht (h hf), by omega⟩]⟩
/-- the reader and its copy behind an operation -/
def Held (w : World) (rb bx : Nat) (t : ByteArray) (f : Nat) (W : World) : Prop :=
  Rd W rb t f ∧ W.heap[bx]? = some (.cells #[.string t, .int .i64 f] 39 (0, 0)) ∧ Below w.heap.size w W
theorem Held.cells {w W : World} {rb bx : Nat} {t : ByteArray} {f : Nat} (h : Held w rb bx t f W) : W.cell? ⟨bx, 0, none⟩ = some (.string t) ∧ W.cell? ⟨bx, 1, none⟩ = some (.int .i64 f) ∧ Held w rb bx t f W := by
  obtain ⟨z0, z1, z2, z3, zl⟩ := cells_kept (Below.refl _ _) h.2.1
  exact ⟨z0, z1, h⟩
theorem Held.drew {w W : World} {rb bx : Nat} {t : ByteArray} {f : Nat} (h : Held w rb bx t f W) : Held w rb bx t f W.drew := ⟨h.1, h.2.1, h.2.2.drew⟩
theorem Held.rd {w W : World} {rb bx : Nat} {t : ByteArray} {f : Nat} (h : W.cell? ⟨bx, 0, none⟩ = some (.string t) ∧ W.cell? ⟨bx, 1, none⟩ = some (.int .i64 f) ∧ Held w rb bx t f W) : Rd W rb t f := h.2.2.1
theorem Held.step {w W W' : World} {rb bx : Nat} {t : ByteArray} {f : Nat} (h : W.cell? ⟨bx, 0, none⟩ = some (.string t) ∧ W.cell? ⟨bx, 1, none⟩ = some (.int .i64 f) ∧ Held w rb bx t f W) (hb : Below W.heap.size W W') :
    W'.cell? ⟨bx, 0, none⟩ = some (.string t) ∧ W'.cell? ⟨bx, 1, none⟩ = some (.int .i64 f) ∧ Held w rb bx t f W' := by
  obtain ⟨y0, y1, y2, y3, yl⟩ := cells_kept hb h.2.2.2.1
  have hl := (cells_kept (Below.refl _ _) h.2.2.2.1).2.2.2.2
  exact ⟨y0, y1, Below.rd hb h.2.2.1 h.2.2.1.lt, (hb.block bx hl).trans h.2.2.2.1, h.2.2.2.2.trans (hb.mono h.2.2.2.2.size)⟩
theorem put2 {w : World} {v : Nat} {x y p q : Value} {t : TypeId} (h : w.heap[v]? = some (.cells #[x, y] t (0, 0))) :
    ((w.setCell ⟨v, 0, none⟩ p).setCell ⟨v, 1, none⟩ q).heap[v]? = some (.cells #[p, q] t (0, 0)) := by
  simp [World.setCell, Array.getElem?_modify, h]
set_option maxRecDepth 100000 in
set_option maxHeartbeats 4000000 in
theorem reads_some (a0 : ByteArray) (b off : Nat) (len cap : Nat) (C : Nat → Nat → Value) (hs0 : a0.size ≤ 500) (hn : len ≤ 30) (w : World) (hE : Hid (∀ W, Below w.heap.size w W → ∀ i j, i < len → j < 2 → W.cell? ⟨b, off + (i * 2 + j), none⟩ = some (C i j)))
    (hK : Hid (∀ i, i < len → ∃ n : Int, C i 0 = .int .u8 n ∧ 0 ≤ n ∧ n ≤ 255)) (hM : Hid (∀ i, i < len → ∃ n : Int, C i 1 = .int .i64 n ∧ -9223372036854775808 ≤ n ∧ n ≤ 9223372036854775807)) :
    Calls Try.prog 5 #[.string a0, .slice (some ⟨b, off, none⟩) len cap] w fun e w' => e = .returned (.bool true) ∧ Below w.heap.size w w' := by
  go_enter Try.func5, Try.ntmps5
  go_wp2_with fail
  refine (awake_any _).mono ?_
  rintro e w1 ⟨rfl, hb1⟩
  go_wp2_with fail
  refine (newReader_any _ _).mono ?_
  rintro e w2 ⟨rfl, rfl⟩
  obtain ⟨rb, hrb⟩ : ∃ rb, rb = w1.heap.size := ⟨_, rfl⟩
  have hrx := Rd.made w1 a0
  have hxx := (MapKept.heap_alloc (w1.alloc (.cells #[.string a0, .int .i64 0] 79)) (.cells #[.string a0, .int .i64 0] 39)).1
  simp only [World.size_alloc] at hxx
  rw [← hrb] at hrx hxx ⊢
  have HM := hid (hrx.alloc (.cells #[.string a0, .int .i64 0] 39))
  have HXM := hid hxx
  have HL1 : Hid (w.heap.size ≤ rb) := by rw [hrb]; exact hb1.size
  have HB1 := hid ((hb1.alloc hb1.size (.cells #[.string a0, .int .i64 0] 79)).alloc (by have := hb1.size; simp; omega) (.cells #[.string a0, .int .i64 0] 39))
  have HRB := hid hrb
  obtain ⟨bx, hbx⟩ : ∃ bx, bx = rb + 1 := ⟨_, rfl⟩
  have HLX : Hid (w.heap.size ≤ bx) := by have := HL1.out; show _ ≤ _; omega
  have hne : bx ≠ rb := by omega
  rw [hrb, ← hrb] at hbx
  have HX0 : Hid (((w1.alloc (.cells #[.string a0, .int .i64 0] 79)).alloc (.cells #[.string a0, .int .i64 0] 39)).heap[bx]? = some (.cells #[.string a0, .int .i64 0] 39 (0, 0))) := by rw [hbx]; exact hxx
  clear hb1 hrx hxx HXM
  go_wp2_with fail
  rw [← hrb, ← hbx]
  clear hrb hbx HRB
  go_loopw [41] (fun i wr => ∃ (k : Nat) (s : ByteArray) (e : Nat), k ≤ len ∧ i = .int .i64 k ∧ Rd wr rb s e ∧ wr.heap[bx]? = some (.cells #[.string s, .int .i64 e] 39 (0, 0)) ∧ (e ≠ 0 → s.size = 0) ∧ s.size ≤ 500 ∧ Below w.heap.size w wr) (fun i _ => len - (intOf i).toNat)
  case atStart => exact ⟨0, a0, 0, by omega, rfl, HM.out, HX0.out, fun h => absurd rfl h, hs0, HB1.out⟩
  case round =>
    obtain ⟨k, s, e, hk, rfl, hr, hx, hi, hs, hb⟩ := hrel
    have HRk := hid hr
    have HX := hid hx
    have HBk := hid hb
    clear hr hx hb HM HX0 HB1
    by_cases hlt : k < len
    · obtain ⟨K, hK0, hK1, hK2⟩ := hK.out k hlt
      obtain ⟨M, hM0, hM1, hM2⟩ := hM.out k hlt
      have hc0 : wr.cell? ⟨b, off + k * 2, none⟩ = some (.int .u8 K) := (hE.out wr HBk.out k 0 hlt (by omega)).trans (by rw [hK0])
      have hc1 : wr.cell? ⟨b, off + k * 2 + 1, none⟩ = some (.int .i64 M) := (hE.out wr HBk.out k 1 hlt (by omega)).trans (by rw [hM0])
      have HA := hid (HRk.out.alloc (.cells #[.int .u8 K, .int .i64 M] 41))
      have HBA := hid (HBk.out.alloc HBk.out.size (.cells #[.int .u8 K, .int .i64 M] 41))
      have HXL : Hid (bx < wr.heap.size) := by
        show _
        rcases Nat.lt_or_ge bx wr.heap.size with h | h
        · exact h
        · have h2 := HX.out; rw [Array.getElem?_eq_none h] at h2; cases h2
      have HXA := hid ((Below.heap_alloc wr (.cells #[.int .u8 K, .int .i64 M] 41) bx HXL.out).trans HX.out)
      have HOP := hid (MapKept.heap_alloc wr (.cells #[.int .u8 K, .int .i64 M] 41)).1
      obtain ⟨gx0, gx1, gx2, gx3, gxl⟩ := cells_kept (Below.refl _ _) HXA.out
      clear hK0 hM0
      rcases (show K % 5 = 0 ∨ K % 5 = 1 ∨ K % 5 = 2 ∨ K % 5 = 3 ∨ K % 5 = 4 by omega) with h5 | h5 | h5 | h5 | h5
      · obtain ⟨v, t, f, hImpl, hRef, hi2, hs2⟩ := pairNum rb s e hs hi
        have HI := hid hImpl
        have HRf := hid hRef
        have HI2 := hid hi2
        clear hImpl hRef hi2
        go_wp2_with fail
        refine (HRf.out _).mono ?_
        rintro x w2 ⟨rfl, hb2⟩
        obtain ⟨y0, y1, y2, y3, yl⟩ := cells_kept hb2 HXA.out
        obtain ⟨o0, o1, o2, o3, ol⟩ := cells_kept hb2 HOP.out
        have HR2 := hid (Below.rd hb2 HA.out HA.out.lt)
        have HB2 := hid (HBA.out.trans (hb2.mono HBA.out.size))
        have HX2 : Hid (w2.heap[bx]? = some (.cells #[.string s, .int .i64 e] 39 (0, 0))) := (hb2.block bx gxl).trans HXA.out
        clear hb2 gx0 gx1 gx2 gx3
        unfold rdr
        go_wp2_with fail
        have HR3 := hid (HR2.out.alloc (.cells #[.string t, .int .i64 f] 39))
        have HX3 := hid ((Below.heap_alloc w2 (.cells #[.string t, .int .i64 f] 39) bx yl).trans HX2.out)
        have HY3 := hid (MapKept.heap_alloc w2 (.cells #[.string t, .int .i64 f] 39)).1
        have HB3 := hid (HB2.out.alloc HB2.out.size (.cells #[.string t, .int .i64 f] 39))
        have hney : w2.heap.size ≠ rb := by have := HR2.out.lt; omega
        go_region_with (go_at_call 26; refine (HI.out _ (by exact HR3.out)).mono ?_; rintro x w4 ⟨rfl, hr, hu⟩; obtain ⟨hy0, hy1, hy2, hy3, hyl⟩ := cells_upd hu hney HY3.out; obtain ⟨hx0, hx1, hx2, hx3, hxl⟩ := cells_upd hu hne HX3.out)
        all_goals
          have HR5 := hid ((hr.setother bx hne 0 (.string t)).setother bx hne 1 (.int .i64 f))
          have HX5 := hid (put2 (p := .string t) (q := .int .i64 f) hxl)
          have HB5 := hid (((HB3.out.trans (Upd.below (b := rb) ⟨hu.os, hu.tape, hu.output, hu.size, hu.block⟩ HL1.out HB3.out.size)).setCell (p := ⟨bx, 0, none⟩) HLX.out (.string t)).setCell (p := ⟨bx, 1, none⟩) HLX.out (.int .i64 f))
          clear hr hu hy0 hy1 hy2 hy3 hyl hx0 hx1 hx2 hx3 hxl HR3 HX3 HY3 HB3 hney HR2 HB2 HX2 y0 y1 y2 y3 yl o0 o1 o2 o3 ol HRf HI
          generalize ((w4.setCell ⟨bx, 0, none⟩ (.string t)).setCell ⟨bx, 1, none⟩ (.int .i64 f)) = W5 at HR5 HX5 HB5 ⊢
          have H5 : Held w rb bx t f W5 := ⟨HR5.out, HX5.out, HB5.out⟩
          have H5h := hid H5
          clear H5
          obtain ⟨E, hE1, hE2⟩ := ends f t HI2.out
          have HE1 : Hid (∀ W, Rd W rb t f → Calls Try.prog 37 #[.pointer (some ⟨rb, 0, none⟩)] W fun x w' => x = .returned (.int .i64 E) ∧ W = w') := fun W h => by rw [← hE1]; exact end_any _ _ _ _ h
          have HE2 : Hid (∀ W, Calls Try.prog 38 #[rdr t f] W fun x w' => x = .returned (.int .i64 E) ∧ Below W.heap.size W w') := fun W => by rw [← hE2]; exact refEnd_any _ _ _
          clear hE1 hE2
          go_wp2_with fail
          clear HR5 HX5 HB5
          go_region_held3 (fun W => W.cell? ⟨bx, 0, none⟩ = some (.string t) ∧ W.cell? ⟨bx, 1, none⟩ = some (.int .i64 f) ∧ Held w rb bx t f W) (first | assumption | exact Held.cells (Held.drew H5h.out) | exact Held.step (by assumption) hb6)
            (first
            | (go_at_call 35; refine (left_any rb t f _ ?_).mono ?_; exact Held.rd (w := w) (bx := bx) (by assumption); rintro x w7 ⟨rfl, rfl⟩)
            | (go_at_call 36; refine (rest_any rb t f _ ?_).mono ?_; exact Held.rd (w := w) (bx := bx) (by assumption); rintro x w7 ⟨rfl, rfl⟩)
            | (go_at_call 37; refine (HE1.out _ ?_).mono ?_; exact Held.rd (w := w) (bx := bx) (by assumption); rintro x w7 ⟨rfl, rfl⟩)
            | (go_at_call 38; refine (HE2.out _).mono ?_; rintro x w6 ⟨rfl, hb6⟩))
          rename_i hh
          have H6 := hid hh.2.2
          clear hh hb6 H5h HE1 HE2
          go_wp2_with fail
          go_roundw
          case rel => exact ⟨k + 1, t, f, by omega, by go_num, H6.out.1, H6.out.2.1, HI2.out, hs2, H6.out.2.2⟩
          case measure => simp [intOf]; omega
      · obtain ⟨v, t, f, hImpl, hRef, hi2, hs2⟩ := pairInt rb s e hs hi
        have HI := hid hImpl
        have HRf := hid hRef
        have HI2 := hid hi2
        clear hImpl hRef hi2
        go_wp2_with fail
        refine (HRf.out _).mono ?_
        rintro x w2 ⟨rfl, hb2⟩
        obtain ⟨y0, y1, y2, y3, yl⟩ := cells_kept hb2 HXA.out
        obtain ⟨o0, o1, o2, o3, ol⟩ := cells_kept hb2 HOP.out
        have HR2 := hid (Below.rd hb2 HA.out HA.out.lt)
        have HB2 := hid (HBA.out.trans (hb2.mono HBA.out.size))
        have HX2 : Hid (w2.heap[bx]? = some (.cells #[.string s, .int .i64 e] 39 (0, 0))) := (hb2.block bx gxl).trans HXA.out
        clear hb2 gx0 gx1 gx2 gx3
        unfold rdr
        go_wp2_with fail
        have HR3 := hid (HR2.out.alloc (.cells #[.string t, .int .i64 f] 39))
        have HX3 := hid ((Below.heap_alloc w2 (.cells #[.string t, .int .i64 f] 39) bx yl).trans HX2.out)
        have HY3 := hid (MapKept.heap_alloc w2 (.cells #[.string t, .int .i64 f] 39)).1
        have HB3 := hid (HB2.out.alloc HB2.out.size (.cells #[.string t, .int .i64 f] 39))
        have hney : w2.heap.size ≠ rb := by have := HR2.out.lt; omega
        go_region_with (go_at_call 28; refine (HI.out _ (by exact HR3.out)).mono ?_; rintro x w4 ⟨rfl, hr, hu⟩; obtain ⟨hy0, hy1, hy2, hy3, hyl⟩ := cells_upd hu hney HY3.out; obtain ⟨hx0, hx1, hx2, hx3, hxl⟩ := cells_upd hu hne HX3.out)
        all_goals
          have HR5 := hid ((hr.setother bx hne 0 (.string t)).setother bx hne 1 (.int .i64 f))
          have HX5 := hid (put2 (p := .string t) (q := .int .i64 f) hxl)
          have HB5 := hid (((HB3.out.trans (Upd.below (b := rb) ⟨hu.os, hu.tape, hu.output, hu.size, hu.block⟩ HL1.out HB3.out.size)).setCell (p := ⟨bx, 0, none⟩) HLX.out (.string t)).setCell (p := ⟨bx, 1, none⟩) HLX.out (.int .i64 f))
          clear hr hu hy0 hy1 hy2 hy3 hyl hx0 hx1 hx2 hx3 hxl HR3 HX3 HY3 HB3 hney HR2 HB2 HX2 y0 y1 y2 y3 yl o0 o1 o2 o3 ol HRf HI
          generalize ((w4.setCell ⟨bx, 0, none⟩ (.string t)).setCell ⟨bx, 1, none⟩ (.int .i64 f)) = W5 at HR5 HX5 HB5 ⊢
          have H5 : Held w rb bx t f W5 := ⟨HR5.out, HX5.out, HB5.out⟩
          have H5h := hid H5
          clear H5
          obtain ⟨E, hE1, hE2⟩ := ends f t HI2.out
          have HE1 : Hid (∀ W, Rd W rb t f → Calls Try.prog 37 #[.pointer (some ⟨rb, 0, none⟩)] W fun x w' => x = .returned (.int .i64 E) ∧ W = w') := fun W h => by rw [← hE1]; exact end_any _ _ _ _ h
          have HE2 : Hid (∀ W, Calls Try.prog 38 #[rdr t f] W fun x w' => x = .returned (.int .i64 E) ∧ Below W.heap.size W w') := fun W => by rw [← hE2]; exact refEnd_any _ _ _
          clear hE1 hE2
          go_wp2_with fail
          clear HR5 HX5 HB5
          go_region_held3 (fun W => W.cell? ⟨bx, 0, none⟩ = some (.string t) ∧ W.cell? ⟨bx, 1, none⟩ = some (.int .i64 f) ∧ Held w rb bx t f W) (first | assumption | exact Held.cells (Held.drew H5h.out) | exact Held.step (by assumption) hb6)
            (first
            | (go_at_call 35; refine (left_any rb t f _ ?_).mono ?_; exact Held.rd (w := w) (bx := bx) (by assumption); rintro x w7 ⟨rfl, rfl⟩)
            | (go_at_call 36; refine (rest_any rb t f _ ?_).mono ?_; exact Held.rd (w := w) (bx := bx) (by assumption); rintro x w7 ⟨rfl, rfl⟩)
            | (go_at_call 37; refine (HE1.out _ ?_).mono ?_; exact Held.rd (w := w) (bx := bx) (by assumption); rintro x w7 ⟨rfl, rfl⟩)
            | (go_at_call 38; refine (HE2.out _).mono ?_; rintro x w6 ⟨rfl, hb6⟩))
          rename_i hh
          have H6 := hid hh.2.2
          clear hh hb6 H5h HE1 HE2
          go_wp2_with fail
          go_roundw
          case rel => exact ⟨k + 1, t, f, by omega, by go_num, H6.out.1, H6.out.2.1, HI2.out, hs2, H6.out.2.2⟩
          case measure => simp [intOf]; omega
      · obtain ⟨v, t, f, hImpl, hRef, hi2, hs2⟩ := pairBool rb s e hs hi
        have HI := hid hImpl
        have HRf := hid hRef
        have HI2 := hid hi2
        clear hImpl hRef hi2
        go_wp2_with fail
        refine (HRf.out _).mono ?_
        rintro x w2 ⟨rfl, hb2⟩
        obtain ⟨y0, y1, y2, y3, yl⟩ := cells_kept hb2 HXA.out
        obtain ⟨o0, o1, o2, o3, ol⟩ := cells_kept hb2 HOP.out
        have HR2 := hid (Below.rd hb2 HA.out HA.out.lt)
        have HB2 := hid (HBA.out.trans (hb2.mono HBA.out.size))
        have HX2 : Hid (w2.heap[bx]? = some (.cells #[.string s, .int .i64 e] 39 (0, 0))) := (hb2.block bx gxl).trans HXA.out
        clear hb2 gx0 gx1 gx2 gx3
        unfold rdr
        go_wp2_with fail
        have HR3 := hid (HR2.out.alloc (.cells #[.string t, .int .i64 f] 39))
        have HX3 := hid ((Below.heap_alloc w2 (.cells #[.string t, .int .i64 f] 39) bx yl).trans HX2.out)
        have HY3 := hid (MapKept.heap_alloc w2 (.cells #[.string t, .int .i64 f] 39)).1
        have HB3 := hid (HB2.out.alloc HB2.out.size (.cells #[.string t, .int .i64 f] 39))
        have hney : w2.heap.size ≠ rb := by have := HR2.out.lt; omega
        go_region_with (go_at_call 30; refine (HI.out _ (by exact HR3.out)).mono ?_; rintro x w4 ⟨rfl, hr, hu⟩; obtain ⟨hy0, hy1, hy2, hy3, hyl⟩ := cells_upd hu hney HY3.out; obtain ⟨hx0, hx1, hx2, hx3, hxl⟩ := cells_upd hu hne HX3.out)
        all_goals
          have HR5 := hid ((hr.setother bx hne 0 (.string t)).setother bx hne 1 (.int .i64 f))
          have HX5 := hid (put2 (p := .string t) (q := .int .i64 f) hxl)
          have HB5 := hid (((HB3.out.trans (Upd.below (b := rb) ⟨hu.os, hu.tape, hu.output, hu.size, hu.block⟩ HL1.out HB3.out.size)).setCell (p := ⟨bx, 0, none⟩) HLX.out (.string t)).setCell (p := ⟨bx, 1, none⟩) HLX.out (.int .i64 f))
          clear hr hu hy0 hy1 hy2 hy3 hyl hx0 hx1 hx2 hx3 hxl HR3 HX3 HY3 HB3 hney HR2 HB2 HX2 y0 y1 y2 y3 yl o0 o1 o2 o3 ol HRf HI
          generalize ((w4.setCell ⟨bx, 0, none⟩ (.string t)).setCell ⟨bx, 1, none⟩ (.int .i64 f)) = W5 at HR5 HX5 HB5 ⊢
          have H5 : Held w rb bx t f W5 := ⟨HR5.out, HX5.out, HB5.out⟩
          have H5h := hid H5
          clear H5
          obtain ⟨E, hE1, hE2⟩ := ends f t HI2.out
          have HE1 : Hid (∀ W, Rd W rb t f → Calls Try.prog 37 #[.pointer (some ⟨rb, 0, none⟩)] W fun x w' => x = .returned (.int .i64 E) ∧ W = w') := fun W h => by rw [← hE1]; exact end_any _ _ _ _ h
          have HE2 : Hid (∀ W, Calls Try.prog 38 #[rdr t f] W fun x w' => x = .returned (.int .i64 E) ∧ Below W.heap.size W w') := fun W => by rw [← hE2]; exact refEnd_any _ _ _
          clear hE1 hE2
          go_wp2_with fail
          clear HR5 HX5 HB5
          go_region_held3 (fun W => W.cell? ⟨bx, 0, none⟩ = some (.string t) ∧ W.cell? ⟨bx, 1, none⟩ = some (.int .i64 f) ∧ Held w rb bx t f W) (first | assumption | exact Held.cells (Held.drew H5h.out) | exact Held.step (by assumption) hb6)
            (first
            | (go_at_call 35; refine (left_any rb t f _ ?_).mono ?_; exact Held.rd (w := w) (bx := bx) (by assumption); rintro x w7 ⟨rfl, rfl⟩)
            | (go_at_call 36; refine (rest_any rb t f _ ?_).mono ?_; exact Held.rd (w := w) (bx := bx) (by assumption); rintro x w7 ⟨rfl, rfl⟩)
            | (go_at_call 37; refine (HE1.out _ ?_).mono ?_; exact Held.rd (w := w) (bx := bx) (by assumption); rintro x w7 ⟨rfl, rfl⟩)
            | (go_at_call 38; refine (HE2.out _).mono ?_; rintro x w6 ⟨rfl, hb6⟩))
          rename_i hh
          have H6 := hid hh.2.2
          clear hh hb6 H5h HE1 HE2
          go_wp2_with fail
          go_roundw
          case rel => exact ⟨k + 1, t, f, by omega, by go_num, H6.out.1, H6.out.2.1, HI2.out, hs2, H6.out.2.2⟩
          case measure => simp [intOf]; omega
      · obtain ⟨v, t, f, hImpl, hRef, hi2, hs2⟩ := pairText rb s e M hM1 hM2 hs hi
        have HI := hid hImpl
        have HRf := hid hRef
        have HI2 := hid hi2
        clear hImpl hRef hi2
        go_wp2_with fail
        refine (HRf.out _).mono ?_
        rintro x w2 ⟨rfl, hb2⟩
        obtain ⟨y0, y1, y2, y3, yl⟩ := cells_kept hb2 HXA.out
        obtain ⟨o0, o1, o2, o3, ol⟩ := cells_kept hb2 HOP.out
        have HR2 := hid (Below.rd hb2 HA.out HA.out.lt)
        have HB2 := hid (HBA.out.trans (hb2.mono HBA.out.size))
        have HX2 : Hid (w2.heap[bx]? = some (.cells #[.string s, .int .i64 e] 39 (0, 0))) := (hb2.block bx gxl).trans HXA.out
        clear hb2 gx0 gx1 gx2 gx3
        unfold rdr
        go_wp2_with fail
        have HR3 := hid (HR2.out.alloc (.cells #[.string t, .int .i64 f] 39))
        have HX3 := hid ((Below.heap_alloc w2 (.cells #[.string t, .int .i64 f] 39) bx yl).trans HX2.out)
        have HY3 := hid (MapKept.heap_alloc w2 (.cells #[.string t, .int .i64 f] 39)).1
        have HB3 := hid (HB2.out.alloc HB2.out.size (.cells #[.string t, .int .i64 f] 39))
        have hney : w2.heap.size ≠ rb := by have := HR2.out.lt; omega
        go_region_with (go_at_call 32; refine (HI.out _ (by exact HR3.out)).mono ?_; rintro x w4 ⟨rfl, hr, hu⟩; obtain ⟨hy0, hy1, hy2, hy3, hyl⟩ := cells_upd hu hney HY3.out; obtain ⟨hx0, hx1, hx2, hx3, hxl⟩ := cells_upd hu hne HX3.out)
        all_goals
          have HR5 := hid ((hr.setother bx hne 0 (.string t)).setother bx hne 1 (.int .i64 f))
          have HX5 := hid (put2 (p := .string t) (q := .int .i64 f) hxl)
          have HB5 := hid (((HB3.out.trans (Upd.below (b := rb) ⟨hu.os, hu.tape, hu.output, hu.size, hu.block⟩ HL1.out HB3.out.size)).setCell (p := ⟨bx, 0, none⟩) HLX.out (.string t)).setCell (p := ⟨bx, 1, none⟩) HLX.out (.int .i64 f))
          clear hr hu hy0 hy1 hy2 hy3 hyl hx0 hx1 hx2 hx3 hxl HR3 HX3 HY3 HB3 hney HR2 HB2 HX2 y0 y1 y2 y3 yl o0 o1 o2 o3 ol HRf HI
          generalize ((w4.setCell ⟨bx, 0, none⟩ (.string t)).setCell ⟨bx, 1, none⟩ (.int .i64 f)) = W5 at HR5 HX5 HB5 ⊢
          have H5 : Held w rb bx t f W5 := ⟨HR5.out, HX5.out, HB5.out⟩
          have H5h := hid H5
          clear H5
          obtain ⟨E, hE1, hE2⟩ := ends f t HI2.out
          have HE1 : Hid (∀ W, Rd W rb t f → Calls Try.prog 37 #[.pointer (some ⟨rb, 0, none⟩)] W fun x w' => x = .returned (.int .i64 E) ∧ W = w') := fun W h => by rw [← hE1]; exact end_any _ _ _ _ h
          have HE2 : Hid (∀ W, Calls Try.prog 38 #[rdr t f] W fun x w' => x = .returned (.int .i64 E) ∧ Below W.heap.size W w') := fun W => by rw [← hE2]; exact refEnd_any _ _ _
          clear hE1 hE2
          go_wp2_with fail
          clear HR5 HX5 HB5
          go_region_held3 (fun W => W.cell? ⟨bx, 0, none⟩ = some (.string t) ∧ W.cell? ⟨bx, 1, none⟩ = some (.int .i64 f) ∧ Held w rb bx t f W) (first | assumption | exact Held.cells (Held.drew H5h.out) | exact Held.step (by assumption) hb6)
            (first
            | (go_at_call 35; refine (left_any rb t f _ ?_).mono ?_; exact Held.rd (w := w) (bx := bx) (by assumption); rintro x w7 ⟨rfl, rfl⟩)
            | (go_at_call 36; refine (rest_any rb t f _ ?_).mono ?_; exact Held.rd (w := w) (bx := bx) (by assumption); rintro x w7 ⟨rfl, rfl⟩)
            | (go_at_call 37; refine (HE1.out _ ?_).mono ?_; exact Held.rd (w := w) (bx := bx) (by assumption); rintro x w7 ⟨rfl, rfl⟩)
            | (go_at_call 38; refine (HE2.out _).mono ?_; rintro x w6 ⟨rfl, hb6⟩))
          rename_i hh
          have H6 := hid hh.2.2
          clear hh hb6 H5h HE1 HE2
          go_wp2_with fail
          go_roundw
          case rel => exact ⟨k + 1, t, f, by omega, by go_num, H6.out.1, H6.out.2.1, HI2.out, hs2, H6.out.2.2⟩
          case measure => simp [intOf]; omega
      · obtain ⟨v, t, f, hImpl, hRef, hi2, hs2⟩ := pairCount rb s e M hM1 hM2 hs hi
        have HI := hid hImpl
        have HRf := hid hRef
        have HI2 := hid hi2
        clear hImpl hRef hi2
        go_wp2_with fail
        refine (HRf.out _).mono ?_
        rintro x w2 ⟨rfl, hb2⟩
        obtain ⟨y0, y1, y2, y3, yl⟩ := cells_kept hb2 HXA.out
        obtain ⟨o0, o1, o2, o3, ol⟩ := cells_kept hb2 HOP.out
        have HR2 := hid (Below.rd hb2 HA.out HA.out.lt)
        have HB2 := hid (HBA.out.trans (hb2.mono HBA.out.size))
        have HX2 : Hid (w2.heap[bx]? = some (.cells #[.string s, .int .i64 e] 39 (0, 0))) := (hb2.block bx gxl).trans HXA.out
        clear hb2 gx0 gx1 gx2 gx3
        unfold rdr
        go_wp2_with fail
        have HR3 := hid (HR2.out.alloc (.cells #[.string t, .int .i64 f] 39))
        have HX3 := hid ((Below.heap_alloc w2 (.cells #[.string t, .int .i64 f] 39) bx yl).trans HX2.out)
        have HY3 := hid (MapKept.heap_alloc w2 (.cells #[.string t, .int .i64 f] 39)).1
        have HB3 := hid (HB2.out.alloc HB2.out.size (.cells #[.string t, .int .i64 f] 39))
        have hney : w2.heap.size ≠ rb := by have := HR2.out.lt; omega
        go_region_with (go_at_call 34; refine (HI.out _ (by exact HR3.out)).mono ?_; rintro x w4 ⟨rfl, hr, hu⟩; obtain ⟨hy0, hy1, hy2, hy3, hyl⟩ := cells_upd hu hney HY3.out; obtain ⟨hx0, hx1, hx2, hx3, hxl⟩ := cells_upd hu hne HX3.out)
        all_goals
          have HR5 := hid ((hr.setother bx hne 0 (.string t)).setother bx hne 1 (.int .i64 f))
          have HX5 := hid (put2 (p := .string t) (q := .int .i64 f) hxl)
          have HB5 := hid (((HB3.out.trans (Upd.below (b := rb) ⟨hu.os, hu.tape, hu.output, hu.size, hu.block⟩ HL1.out HB3.out.size)).setCell (p := ⟨bx, 0, none⟩) HLX.out (.string t)).setCell (p := ⟨bx, 1, none⟩) HLX.out (.int .i64 f))
          clear hr hu hy0 hy1 hy2 hy3 hyl hx0 hx1 hx2 hx3 hxl HR3 HX3 HY3 HB3 hney HR2 HB2 HX2 y0 y1 y2 y3 yl o0 o1 o2 o3 ol HRf HI
          generalize ((w4.setCell ⟨bx, 0, none⟩ (.string t)).setCell ⟨bx, 1, none⟩ (.int .i64 f)) = W5 at HR5 HX5 HB5 ⊢
          have H5 : Held w rb bx t f W5 := ⟨HR5.out, HX5.out, HB5.out⟩
          have H5h := hid H5
          clear H5
          obtain ⟨E, hE1, hE2⟩ := ends f t HI2.out
          have HE1 : Hid (∀ W, Rd W rb t f → Calls Try.prog 37 #[.pointer (some ⟨rb, 0, none⟩)] W fun x w' => x = .returned (.int .i64 E) ∧ W = w') := fun W h => by rw [← hE1]; exact end_any _ _ _ _ h
          have HE2 : Hid (∀ W, Calls Try.prog 38 #[rdr t f] W fun x w' => x = .returned (.int .i64 E) ∧ Below W.heap.size W w') := fun W => by rw [← hE2]; exact refEnd_any _ _ _
          clear hE1 hE2
          go_wp2_with fail
          clear HR5 HX5 HB5
          go_region_held3 (fun W => W.cell? ⟨bx, 0, none⟩ = some (.string t) ∧ W.cell? ⟨bx, 1, none⟩ = some (.int .i64 f) ∧ Held w rb bx t f W) (first | assumption | exact Held.cells (Held.drew H5h.out) | exact Held.step (by assumption) hb6)
            (first
            | (go_at_call 35; refine (left_any rb t f _ ?_).mono ?_; exact Held.rd (w := w) (bx := bx) (by assumption); rintro x w7 ⟨rfl, rfl⟩)
            | (go_at_call 36; refine (rest_any rb t f _ ?_).mono ?_; exact Held.rd (w := w) (bx := bx) (by assumption); rintro x w7 ⟨rfl, rfl⟩)
            | (go_at_call 37; refine (HE1.out _ ?_).mono ?_; exact Held.rd (w := w) (bx := bx) (by assumption); rintro x w7 ⟨rfl, rfl⟩)
            | (go_at_call 38; refine (HE2.out _).mono ?_; rintro x w6 ⟨rfl, hb6⟩))
          rename_i hh
          have H6 := hid hh.2.2
          clear hh hb6 H5h HE1 HE2
          go_wp2_with fail
          go_roundw
          case rel => exact ⟨k + 1, t, f, by omega, by go_num, H6.out.1, H6.out.2.1, HI2.out, hs2, H6.out.2.2⟩
          case measure => simp [intOf]; omega
    · go_wp2_with fail
      go_ret
      exact ⟨rfl, HBk.out⟩
set_option maxRecDepth 100000 in
set_option maxHeartbeats 4000000 in
theorem reads_none (a0 : ByteArray) (A : Option Addr) (len cap : Nat) (hs0 : a0.size ≤ 500) (w : World) (h0 : len = 0) :
    Calls Try.prog 5 #[.string a0, .slice A len cap] w fun e w' => e = .returned (.bool true) ∧ Below w.heap.size w w' := by
  subst h0
  go_enter Try.func5, Try.ntmps5
  go_wp2_with fail
  refine (awake_any _).mono ?_
  rintro e w1 ⟨rfl, hb1⟩
  go_wp2_with fail
  refine (newReader_any _ _).mono ?_
  rintro e w2 ⟨rfl, rfl⟩
  have HB1 := hid ((hb1.alloc hb1.size (.cells #[.string a0, .int .i64 0] 79)).alloc (by have := hb1.size; simp; omega) (.cells #[.string a0, .int .i64 0] 39))
  clear hb1
  go_wp2_with fail
  go_loopw [41] (fun i wr => ∃ k : Nat, k ≤ 0 ∧ i = .int .i64 k ∧ Below w.heap.size w wr) (fun i _ => 0 - (intOf i).toNat)
  case atStart => exact ⟨0, by omega, rfl, HB1.out⟩
  case round =>
    obtain ⟨k, hk, rfl, hb⟩ := hrel
    have HBk := hid hb
    clear hb HB1
    go_wp2_with fail
    go_ret
    exact ⟨rfl, HBk.out⟩

set_option maxRecDepth 100000 in
theorem reads_long (a0 : ByteArray) (A : Option Addr) (len cap : Nat) (hs : ¬ (a0.size ≤ 500 ∧ len ≤ 30)) (w : World) :
    Calls Try.prog 5 #[.string a0, .slice A len cap] w fun e w' => e = .returned (.bool true) ∧ Below w.heap.size w w' := by
  by_cases h1 : a0.size ≤ 500
  · have h2 : ¬ len ≤ 30 := fun h => hs ⟨h1, h⟩
    clear hs
    go_enter Try.func5, Try.ntmps5
    go_wp2_with fail
    refine (awake_any _).mono ?_
    rintro e w1 ⟨rfl, hb1⟩
    go_wp2_with fail
    refine (awake_any _).mono ?_
    rintro e w2 ⟨rfl, hb2⟩
    go_wp2_with fail
    go_ret
    exact ⟨rfl, hb1.trans (hb2.mono hb1.size)⟩
  · clear hs
    go_enter Try.func5, Try.ntmps5
    go_wp2_with fail
    refine (awake_any _).mono ?_
    rintro e w1 ⟨rfl, hb1⟩
    go_wp2_with fail
    refine (awake_any _).mono ?_
    rintro e w2 ⟨rfl, hb2⟩
    go_wp2_with fail
    go_ret
    exact ⟨rfl, hb1.trans (hb2.mono hb1.size)⟩
theorem walk_WireReads (a0 : ByteArray) (A : Option Addr) (len cap : Nat) (C : Nat → Nat → Value) (_w0 : a0.size ≤ maxLen) (_hl : len ≤ cap) (_hm : cap ≤ maxLen) (w : World) (hE : Elems w A len 2 C)
    (hK : ∀ i, i < len → ∃ n : Int, C i 0 = .int .u8 n ∧ 0 ≤ n ∧ n ≤ 255) (hM : ∀ i, i < len → ∃ n : Int, C i 1 = .int .i64 n ∧ -9223372036854775808 ≤ n ∧ n ≤ 9223372036854775807) :
    Calls Try.prog 5 #[.string a0, .slice A len cap] w fun e w' => e = .returned (.bool true) ∧ Below w.heap.size w w' := by
  by_cases hs : a0.size ≤ 500 ∧ len ≤ 30
  · rcases Nat.eq_zero_or_pos len with h0 | h0
    · exact reads_none a0 A len cap hs.1 w h0
    · obtain ⟨b, off, rfl, hlt, hc⟩ := hE h0
      exact reads_some a0 b off len cap C hs.1 hs.2 w (fun W hb i j hi hj => (hb.cell (p := ⟨b, off + (i * 2 + j), none⟩) hlt).trans (hc i j hi hj)) hK hM
  · exact reads_long a0 A len cap hs w
namespace wireReads
theorem own : ownKnob Try.prog.godebug = none := by kernel_rfl
theorem laidOut : laidOutB Try.prog = true := by kernel_rfl
set_option linter.unusedVariables false
set_option maxRecDepth 100000 in
theorem lifted (os : Os) (started : os.Started) (H : Type) (enc : TypeId × Value → H) :
    ReturnsInHanded {} Try.checked os 5 .any (Rows.wireReadsSpec.pre6 enc Try.prog Try.f5 Rows.wireReadsRow.domain false) (Rows.wireReadsSpec.post enc Try.prog Try.f5 false true false false) := by
  refine returnsInHanded_of_change (C := Try.checked) own started (by kernel_rfl) Try.func5
    (ChangeSpec.witness6 (enc := enc) (C := Try.checked) false ⟨#[], #[.string ByteArray.empty, .slice none 0 0], []⟩ 8 (by kernel_rfl) (by kernel_rfl) (by kernel_rfl) (by kernel_rfl)) ?_
  intro W base args ds gs before hval0 hW hcnd _
  have hval : ∀ (j : Nat) t v, Try.f5.params[j]? = some t → args[j]? = some v → Value.okWide Try.prog W .any base t v := hval0
  have hW' := hW
  obtain ⟨p, q, hA0, hV, rfl, hfz, hnd⟩ := hW
  have hA : DataW.TrodAll enc Try.prog W 0 (fun _ => true) true Try.f5.params.toList args.toList ds p := hA0
  rw [Try.params5] at hA hval
  obtain ⟨v0, vs0, d0, ds0, p0, q0, hargs, rfl, rfl, h0, r0⟩ := trodAll_cons hA
  obtain ⟨v1, vs1, d1, ds1, p1, q1, rfl, rfl, rfl, h1, r1⟩ := trodAll_cons r0
  obtain ⟨rfl, rfl, rfl⟩ := trodAll_nil r1
  obtain rfl : args = #[v0, v1] := by cases args; simp_all
  obtain ⟨rfl, rfl⟩ := trodVars_none hV
  obtain ⟨a0, rfl, rfl, rfl, w0⟩ := open_string Try.underlying9 (hval 0 9 v0 rfl rfl) h0
  obtain ⟨a1, len1, cap1, rfl⟩ := okWide_slice Try.underlying34 (hval 1 34 v1 rfl rfl)
  have k1 := h1
  have lt1 : ∀ x ∈ p1, x.block < W.heap.size := by obtain ⟨m, hm⟩ := k1; exact DataW.trod_lt m _ _ _ hm
  obtain ⟨fuel1, hf1⟩ := h1
  obtain ⟨A1, l1, c1, C1, hcs1, hl1, hm1, hE1, hF1⟩ := open_elems Try.underlying34 Try.underlying41 (by kernel_rfl) (by kernel_rfl) (by decide) hf1
  simp only [Value.cells, List.cons.injEq, Value.slice.injEq, and_true] at hcs1
  obtain ⟨rfl, rfl, rfl⟩ := hcs1
  have s1_0 : ∀ i, i < len1 → ∃ n : Int, C1 i 0 = .int .u8 n ∧ 0 ≤ n ∧ n ≤ 255 := fun i hi => by obtain ⟨y, n, hy⟩ := hF1 i 0 _ hi rfl; obtain ⟨n, e, _, hw⟩ := DataW.trod_int Try.underlying5 hy; exact ⟨n, List.head_eq_of_cons_eq e, bounds_u8 hw⟩
  have s1_1 : ∀ i, i < len1 → ∃ n : Int, C1 i 1 = .int .i64 n ∧ -9223372036854775808 ≤ n ∧ n ≤ 9223372036854775807 := fun i hi => by obtain ⟨y, n, hy⟩ := hF1 i 1 _ hi rfl; obtain ⟨n, e, _, hw⟩ := DataW.trod_int Try.underlying3 hy; exact ⟨n, List.head_eq_of_cons_eq e, bounds_i64 hw⟩
  clear hA0 hval0
  refine (walk_WireReads a0 a1 len1 cap1 C1 w0 hl1 hm1 hE1 s1_0 s1_1 (w := W)).mono fun e W' ⟨he, bel⟩ => ?_
  subst he
  exact ⟨_, rfl, _, _, _, [], _, [], hW', trodAll_mk1 (shut_bool Try.underlying4 _), (trodAll_cons_mk (shut_string Try.underlying9 w0) (trodAll_cons_mk (Below.trod laidOut (by kernel_rfl) (of_decide_eq_true (by kernel_rfl)) k1 bel lt1) trodAll_mk0)), rfl, bel.frame _, fun h => by cases h⟩
theorem over : Rows.wireReadsRow.holds Try.pinned (OpenSpec.ofChange Rows.wireReadsSpec) :=
  OpenClaim.holds_of_wide 5 Try.f5 rfl rfl rfl rfl rfl rfl rfl ⟨rfl, rfl, rfl, rfl, rfl⟩ rfl rfl rfl rfl rfl (by kernel_rfl) Try.func5 (by kernel_rfl)
    (of_decide_eq_true (by kernel_rfl)) (by unfold Func.isWrapper; first | (rw [if_pos (by decide +kernel)]; kernel_rfl) | (rw [if_neg (by decide +kernel)]; exact ⟨rfl, rfl⟩))
    (fun os started H enc _ => lifted os started H enc)
theorem proved : Rows.WireReadsSaid := over
end wireReads

end Go.Proofs.Ytlmhlinjlneagaa
