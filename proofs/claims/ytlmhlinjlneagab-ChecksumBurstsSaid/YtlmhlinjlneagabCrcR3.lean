import Derived.Test.YtlmhlinjlneagabCrcT3
import Derived.RegionTactic
import Derived.BigRegion
import Derived.Laws.IdiomStrings
namespace Go.Proofs.Ytlmhlinjlneagab
open Go.Lib Go.ChangeShapes Go.WideShapes Go.ChangeAt Go.RowKit

/-- byte j of a text, the first k bytes of a mask combined with it from a on -/
def xk (s : ByteArray) (a : Nat) (m : ByteArray) (k j : Nat) : UInt8 := s.data.toList.getD j 0 ^^^ (if a ≤ j ∧ j - a < k then m.data.toList.getD (j - a) 0 else 0)
/-- a text, a mask combined with it from a on -/
def xorL (s : ByteArray) (a : Nat) (m : ByteArray) : List UInt8 := (List.range s.size).map fun j => xk s a m m.size j
theorem xorL_len (s : ByteArray) (a : Nat) (m : ByteArray) : (xorL s a m).length = s.size := by simp [xorL]
theorem xk_zero (s : ByteArray) (a : Nat) (m : ByteArray) (j : Nat) : xk s a m 0 j = s.data.toList.getD j 0 := by
  unfold xk; rw [if_neg (by omega)]; simp
theorem xk_other (s : ByteArray) (a : Nat) (m : ByteArray) (k j : Nat) (h : j ≠ a + k) : xk s a m (k + 1) j = xk s a m k j := by
  unfold xk
  by_cases h1 : a ≤ j ∧ j - a < k
  · rw [if_pos h1, if_pos (by omega)]
  · rw [if_neg h1, if_neg (by omega)]
theorem xk_at (s : ByteArray) (a : Nat) (m : ByteArray) (k : Nat) (h : k < m.size) : xk s a m (k + 1) (a + k) = xk s a m k (a + k) ^^^ m[k] := by
  have e : m.data.toList.getD k 0 = m[k] := by
    rw [List.getD_eq_getElem?_getD, List.getElem?_eq_getElem (by simpa using h)]
    rfl
  unfold xk
  rw [if_pos (by omega), if_neg (by omega), Nat.add_sub_cancel_left, e, UInt8.xor_zero]

/-- the block of the bytes behind k rounds -/
def XW (s : ByteArray) (a : Nat) (m : ByteArray) (w : World) (h k : Nat) (wr : World) : Prop :=
  Below w.heap.size w wr ∧ ∃ (row : Array Value) (lo hi : Nat), wr.heap[h]? = some (.cells row 5 (lo, hi)) ∧ s.size ≤ row.size ∧ row.size ≤ lo ∧ ∀ j, j < s.size → row[j]? = some (.int .u8 ((xk s a m k j).toNat : Int))
theorem XW.cell {s : ByteArray} {a : Nat} {m : ByteArray} {w : World} {h k : Nat} {wr : World} (x : XW s a m w h k wr) (j : Nat) (hj : j < s.size) : wr.cell? ⟨h, j, none⟩ = some (.int .u8 ((xk s a m k j).toNat : Int)) := by
  obtain ⟨_, row, lo, hi, hh, _, _, hc⟩ := x
  simp [World.cell?, hh, hc j hj]
theorem XW.free {s : ByteArray} {a : Nat} {m : ByteArray} {w : World} {h k : Nat} {wr : World} (x : XW s a m w h k wr) (j : Nat) (hj : j < s.size) : wr.frozen? ⟨h, j, none⟩ = false := by
  obtain ⟨_, row, lo, hi, hh, h1, h2, _⟩ := x
  simp [World.frozen?, hh]; omega
theorem XW.step {s : ByteArray} {a : Nat} {m : ByteArray} {w : World} {h k : Nat} {wr : World} (x : XW s a m w h k wr) (hb : w.heap.size ≤ h) (hk : k < m.size) (hj : a + k < s.size) (v : Int) (hv : v = (((xk s a m k (a + k)) ^^^ m[k]).toNat : Int)) : XW s a m w h (k + 1) (wr.setCell ⟨h, a + k, none⟩ (.int .u8 v)).drew := by
  obtain ⟨hbl, row, lo, hi, hh, h1, h2, hc⟩ := x
  refine ⟨(hbl.setCell (p := ⟨h, a + k, none⟩) hb _).drew, row.setIfInBounds (a + k) (.int .u8 v), lo, hi, ?_, by rw [Array.size_setIfInBounds]; exact h1, by rw [Array.size_setIfInBounds]; exact h2, fun j hjs => ?_⟩
  · show (wr.setCell ⟨h, a + k, none⟩ (.int .u8 v)).heap[h]? = _
    simp [World.setCell, Array.getElem?_modify, hh]
  · rw [Array.getElem?_setIfInBounds]
    by_cases he : a + k = j
    · subst he
      rw [if_pos rfl, if_pos (by omega), xk_at _ _ _ _ hk, hv]
    · rw [if_neg he, hc j hjs, xk_other _ _ _ _ _ (fun h => he h.symm)]
theorem XW.skip {s : ByteArray} {a : Nat} {m : ByteArray} {w : World} {h k : Nat} {wr : World} (x : XW s a m w h k wr) (hj : s.size ≤ a + k) : XW s a m w h (k + 1) wr := by
  obtain ⟨hbl, row, lo, hi, hh, h1, h2, hc⟩ := x
  exact ⟨hbl, row, lo, hi, hh, h1, h2, fun j hjs => by rw [hc j hjs, xk_other _ _ _ _ _ (by omega)]⟩

set_option maxRecDepth 100000 in
set_option maxHeartbeats 1000000 in
theorem xor_any (s m : ByteArray) (a : Nat) (hs : s.size ≤ 1000000) (hm : m.size ≤ 1000000) (ha : a ≤ 1000000) (w : World) :
    Calls Try.prog 10 #[.string s, .int .i64 a, .string m] w fun e w' => e = .returned (.string ⟨(xorL s a m).toArray⟩) ∧ Below w.heap.size w w' := by
  have hcv := run_bytes_of_string (P := Try.prog) w 9 36 5 s Try.underlying9 Try.underlying36 Try.underlying5
  obtain ⟨cap, hcap⟩ : ∃ c, c = grownCap w s.size 0 5 := ⟨_, rfl⟩
  have hcs : s.size ≤ cap := by rw [hcap]; exact grownCap_ge _ _ _ _
  rw [← hcap] at hcv
  clear hcap
  obtain ⟨W, hW⟩ : ∃ W, W = w.drew.alloc (.cells (bytesRow s cap) 5 ((bytesRow s cap).size, (bytesRow s cap).size + 1)) := ⟨_, rfl⟩
  rw [← hW] at hcv
  have HX : Hid (XW s a m w w.heap.size 0 W) := by
    subst hW
    refine ⟨((Below.refl _ w).drew).alloc (Nat.le_refl _) _, bytesRow s cap, _, _, (MapKept.heap_alloc w.drew _).1, ?_, Nat.le_refl _, fun j hj => ?_⟩
    · simp [bytesRow]
    · rw [bytesRow_at s cap j hj, xk_zero, List.getD_eq_getElem?_getD, List.getElem?_eq_getElem (by simpa using hj)]
      rfl
  clear hW
  go_enter Try.func10, Try.ntmps10
  go_wp2_with fail
  go_loopw [8] (fun i wr => ∃ k : Nat, k ≤ m.size ∧ i = .int .i64 k ∧ XW s a m w w.heap.size k wr) (fun i _ => m.size - (intOf i).toNat)
  case atStart => exact ⟨0, by omega, rfl, HX.out⟩
  case round =>
    obtain ⟨k, hk, rfl, hx⟩ := hrel
    have HXk := hid hx
    clear hx
    by_cases hlt : k < m.size
    · by_cases hin : a + k < s.size
      · have hc := HXk.out.cell (a + k) hin
        have hf := HXk.out.free (a + k) hin
        obtain ⟨x, hxx⟩ : ∃ x, x = (xk s a m k (a + k)).toNat := ⟨_, rfl⟩
        rw [← hxx] at hc
        have HV := hid hxx
        have h3 : (a : Int) + k < s.size := by omega
        have h0 : 0 ≤ (a : Int) + k := by omega
        clear hxx
        go_wp2_with fail
        go_region
        go_wp2_with fail
        go_roundw
        case rel => exact ⟨k + 1, by omega, by go_num, HXk.out.step (Nat.le_refl _) hlt hin _ (by rw [HV.out, u8_xor_nat _ _ (UInt8.toNat_lt _) (UInt8.toNat_lt _), UInt8.toNat_xor])⟩
        case measure => simp [intOf]; omega
      · have h3 : ¬ (a : Int) + k < s.size := by omega
        have h0 : 0 ≤ (a : Int) + k := by omega
        go_wp2_with fail
        go_roundw
        case rel => exact ⟨k + 1, by omega, by go_num, HXk.out.skip (by omega)⟩
        case measure => simp [intOf]; omega
    · have hback := run_convert_bytes_back (P := Try.prog) wr 36 9 5 ⟨w.heap.size, 0, none⟩ cap (xorL s a m) Try.underlying36 Try.underlying5 Try.underlying9 (fun j hj => by
        have hj' : j < s.size := by rw [xorL_len] at hj; exact hj
        obtain rfl : k = m.size := by omega
        rw [add_plain, Nat.zero_add, HXk.out.cell j hj']
        simp [xorL])
      rw [xorL_len] at hback
      go_wp2_with fail
      go_ret
      exact ⟨rfl, HXk.out.1⟩
end Go.Proofs.Ytlmhlinjlneagab
