import Derived.Test.YtfcaodaaklngmaaDevO
import Derived.Test.YtfcaodaaklngmaaDevT8
import Derived.Laws.IdiomStrings
import Derived.Laws.BytesArg
import Derived.Laws.BitsAllLaws
/-! Damage. -/
namespace Go.Proofs.Ytfcaodaaklngmaa
open Go.Lib Go.ChangeShapes Go.WideShapes Go.ChangeAt Go.RowKit
set_option linter.unusedVariables false

def numsOf (s : ByteArray) : List Int := s.data.toList.map fun b => (b.toNat : Int)
theorem numsOf_length (s : ByteArray) : (numsOf s).length = s.size := by simp [numsOf]
/-- a text of which the bits of one byte are turned -/
def damB (s : ByteArray) (a : Nat) (m : Int) : ByteArray := strOfNums ((numsOf s).set a (bits .xor .u8 ((numsOf s).getD a 0) m))
theorem damB_size (s : ByteArray) (a : Nat) (m : Int) : (damB s a m).size = s.size := by unfold damB; rw [strOfNums_size, List.length_set, numsOf_length]
open Classical in
noncomputable def DS.damage (D : DS) (s a m : Int) : Int × DS :=
  if ¬ (D.has s ∧ 0 ≤ a ∧ a < 140) then (2, D) else if m = 0 then (1, D) else
  (0, { D with sec := upS D.sec s.toNat ⟨damB (D.sec s.toNat).st a.toNat m, (D.sec s.toNat).er⟩ })
set_option maxRecDepth 100000 in
set_option maxHeartbeats 2000000 in
theorem damage_any (base : Nat) (L : Lay) (D : DS) (s a m : Int) (hm : 0 ≤ m ∧ m ≤ 255) (w : World) (hD : Dev w base L D) (hw : base ≤ w.heap.size) :
    Calls Try.prog 45 #[.pointer (some ⟨L.b, 0, none⟩), .int .i64 s, .int .i64 a, .int .u8 m] w (OpPost base L w (D.damage s a m)) := by
  obtain ⟨hm1, hm2⟩ := hm
  have HD := hid hD
  by_cases hs : D.has s
  · have HH := hid (has_true base L D s hs w hD)
    by_cases ha1 : a < 0
    · have hr : D.damage s a m = (2, D) := by unfold DS.damage; rw [if_pos (fun h => by omega)]
      rw [hr]
      clear hD hs hr
      go_enter Try.func45, Try.ntmps45
      go_wp2_with fail
      refine HH.out.mono ?_
      rintro e w' ⟨rfl, rfl⟩
      go_wp2_with fail
      go_ret
      exact ⟨rfl, HD.out.to (Upds.refl _ _)⟩
    · by_cases ha2 : 140 ≤ a
      · have hr : D.damage s a m = (2, D) := by unfold DS.damage; rw [if_pos (fun h => by omega)]
        rw [hr]
        clear hD hs hr
        go_enter Try.func45, Try.ntmps45
        go_wp2_with fail
        refine HH.out.mono ?_
        rintro e w' ⟨rfl, rfl⟩
        go_wp2_with fail
        go_ret
        exact ⟨rfl, HD.out.to (Upds.refl _ _)⟩
      · by_cases hm0 : m = 0
        · have hr : D.damage s a m = (1, D) := by unfold DS.damage; rw [if_neg (fun h => h ⟨hs, by omega, by omega⟩), if_pos hm0]
          rw [hr]
          subst hm0
          clear hD hs hr
          go_enter Try.func45, Try.ntmps45
          go_wp2_with fail
          refine HH.out.mono ?_
          rintro e w' ⟨rfl, rfl⟩
          go_wp2_with fail
          go_ret
          exact ⟨rfl, HD.out.to (Upds.refl _ _)⟩
        · obtain ⟨i, rfl⟩ := Int.eq_ofNat_of_zero_le hs.1
          obtain ⟨k, rfl⟩ := Int.eq_ofNat_of_zero_le (show 0 ≤ a by omega)
          have hi : i < D.n := by have := hs.2; omega
          have hr : D.damage i k m = (0, { D with sec := upS D.sec i ⟨damB (D.sec i).st k m, (D.sec i).er⟩ }) := by
            unfold DS.damage; rw [if_neg (fun h => h ⟨hs, by omega, by omega⟩), if_neg hm0]; rfl
          rw [hr]
          obtain ⟨cur, hrw, hsec⟩ := hD.secs
          have cs : w.cell? ⟨L.sb, i * 10, none⟩ = some (.string (D.sec i).st) := hrw.cell (hsec.sec i hi).st
          have c0 := hD.c0
          have hst := hD.ok.st i hi
          obtain ⟨t, ht⟩ : ∃ t, t = (D.sec i).st := ⟨_, rfl⟩
          rw [← ht] at cs hst ⊢
          have hcv := run_bytes_of_string (P := Try.prog) w 9 105 5 t Try.underlying9 Try.underlying105 Try.underlying5
          obtain ⟨cap, hcap⟩ : ∃ cap, cap = grownCap w t.size 0 5 := ⟨_, rfl⟩
          rw [← hcap, hst] at hcv
          obtain ⟨w1, hw1⟩ : ∃ w1, w1 = w.drew.alloc (.cells (bytesRow t cap) 5 ((bytesRow t cap).size, (bytesRow t cap).size + 1)) := ⟨_, rfl⟩
          rw [← hw1] at hcv
          have hk : k < 140 := by omega
          have hsz9 : (bytesRow t cap).size = 140 + (cap - 140) := by unfold bytesRow; rw [Array.size_append, Array.size_map, Array.size_replicate, hst]; show t.data.size + _ = _; rw [show t.data.size = 140 from hst]
          have hheap : w1.heap[w.heap.size]? = some (.cells (bytesRow t cap) 5 ((bytesRow t cap).size, (bytesRow t cap).size + 1)) := by rw [hw1]; exact heap_alloc_new w.drew _
          have hby : ∀ j (hj : j < 140), w1.cell? ⟨w.heap.size, j, none⟩ = some (.int .u8 ((numsOf t).getD j 0)) := fun j hj => by
            have h1 := bytesRow_at t cap j (by rw [show t.data.size = 140 from hst]; exact hj)
            have h2 : (numsOf t).getD j 0 = (t.data[j]'(by rw [show t.data.size = 140 from hst]; exact hj)).toNat := by
              unfold numsOf
              rw [List.getD_eq_getElem?_getD, List.getElem?_map, List.getElem?_eq_getElem (by rw [Array.length_toList]; rw [show t.data.size = 140 from hst]; exact hj)]
              rfl
            rw [h2, ← h1]
            simp [World.cell?, hheap]
          have hfz : w1.frozen? ⟨w.heap.size, k, none⟩ = false := by
            simp only [World.frozen?, hheap]
            rw [hsz9]
            simp; omega
          obtain ⟨y, hy⟩ : ∃ y, y = bits .xor .u8 ((numsOf t).getD k 0) m := ⟨_, rfl⟩
          have hu1 : Upds (fun _ => False) w w1 := by rw [hw1]; exact (Upds.drew w).trans (Upds.alloc _ _)
          have hck := hby k hk
          obtain ⟨x0, hx0⟩ : ∃ x0, x0 = (numsOf t).getD k 0 := ⟨_, rfl⟩
          rw [← hx0] at hck hy
          obtain ⟨w2, hw2⟩ : ∃ w2, w2 = w1.setCell ⟨w.heap.size, k, none⟩ (.int .u8 y) := ⟨_, rfl⟩
          have hb2 : ∀ j, j < 140 → w2.drew.cell? ⟨w.heap.size, 0 + j, none⟩ = some (.int .u8 (((numsOf t).set k y).getD j 0)) := fun j hj => by
            rw [Nat.zero_add]
            show w2.cell? _ = _
            rw [hw2]
            by_cases e : j = k
            · subst e
              rw [World.cell?_setCell_same' _ _ _ (by rw [hck]; rfl), List.getD_eq_getElem?_getD, List.getElem?_set_self (by rw [numsOf_length, hst]; exact hj)]
              rfl
            · rw [World.cell?_setCell_other _ _ _ _ (by intro h; cases h; exact e rfl), hby j hj, List.getD_eq_getElem?_getD, List.getD_eq_getElem?_getD, List.getElem?_set_ne (fun h => e h.symm)]
          have hback := run_convert_bytes_arg (P := Try.prog) w2.drew 105 5 Try.underlying105 Try.underlying5 w.heap.size 0 140 cap ((numsOf t).set k y) (by rw [List.length_set, numsOf_length, hst]) hb2 9 Try.underlying9
          obtain ⟨c, hc⟩ : ∃ c, c = strOfNums ((numsOf t).set k y) := ⟨_, rfl⟩
          have hdam : damB t k m = c := by rw [hc, hy, hx0]; rfl
          have hcz : c.size = 140 := by rw [← hdam, damB_size, hst]
          rw [← hc] at hback
          rw [hdam]
          have hu2 : Upds (fun _ => False) w w2 := by rw [hw2]; exact ⟨hu1.os, hu1.tape, hu1.output, by simpa [World.setCell] using hu1.size, fun q hq hf => (Below.heap_setCell w1 _ _ _ (by show q ≠ w.heap.size; omega)).trans (hu1.block q hq hf)⟩
          have hrw2 := hrw.upd hu2 (fun h => h)
          have cs2 : w2.drew.cell? ⟨L.sb, i * 10, none⟩ = some (.string t) := by rw [ht]; exact hrw2.cell (hsec.sec i hi).st
          have fs2 : w2.drew.frozen? ⟨L.sb, i * 10, none⟩ = false := hrw2.frozen (i * 10)
          have c02 : w2.drew.cell? ⟨L.b, 0, none⟩ = some (.slice (some ⟨L.sb, 0, none⟩) D.n L.sc) := (HD.out.calm hu2).c0
          have HU2 := hid hu2
          have HRW2 := hid hrw2
          have HSEC := hid hsec
          have HC := hid hcz
          have HW2 := hid hw2
          have hi0 : (0 : Int) ≤ (i : Int) := by omega
          have hi1 : (i : Int) < (D.n : Int) := by omega
          have hk0 : (0 : Int) ≤ (k : Int) := by omega
          have hk1 : (k : Int) < 140 := by omega
          have hlt1 : w.heap.size < w1.heap.size := (Array.getElem?_eq_some_iff.1 hheap).1
          clear hD hs hr hrw hsec hst hcap hw1 hsz9 hheap hby hx0 hu1 hb2 hc hdam hcz hu2 hrw2 hw2 ht hw
          go_enter Try.func45, Try.ntmps45
          go_wp2_with fail
          refine HH.out.mono ?_
          rintro e w' ⟨rfl, rfl⟩
          go_wp2_with fail
          rw [← hy, ← HW2.out]
          clear hcv c0 cs hfz hck hlt1
          go_region
          go_wp2_with fail
          go_ret
          exact ⟨rfl, HD.out.resec _ ((HU2.out.mono (fun _ h => h.elim)).trans ((Upds.set1 _ _ _ _).trans (Upds.drew _))) ⟨_, HRW2.out.set (i * 10) (.string c), HSEC.out.setSt i hi c⟩ (HD.out.ok.setSt i c HC.out)⟩
  · have hr : D.damage s a m = (2, D) := by unfold DS.damage; rw [if_pos (fun h => hs h.1)]
    rw [hr]
    have HH := hid (has_false base L D s hs w hD)
    clear hD hs hr
    go_enter Try.func45, Try.ntmps45
    go_wp2_with fail
    refine HH.out.mono ?_
    rintro e w' ⟨rfl, rfl⟩
    go_wp2_with fail
    go_ret
    exact ⟨rfl, HD.out.to (Upds.refl _ _)⟩
end Go.Proofs.Ytfcaodaaklngmaa
