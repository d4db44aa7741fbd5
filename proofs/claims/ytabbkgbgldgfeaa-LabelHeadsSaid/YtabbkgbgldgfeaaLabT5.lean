import Derived.Test.YtabbkgbgldgfeaaLabT4
import Derived.Shelf.Abstract
/-! Valid. -/
namespace Go.Proofs.Ytabbkgbgldgfeaa
open Go.Lib Go.ChangeShapes Go.WideShapes Go.ChangeAt Go.RowKit

/-- the conditions in their order -/
def condsL (l : Lab) (tr : Int) : List Bool := [decide (trOk tr), decide (1 ≤ l.id ∧ l.id ≤ 1099511627776), decide (0 ≤ l.unit ∧ l.unit ≤ 1099511627776), decide ((l.name.size : Int) ≤ 31), decide ((l.note.size : Int) ≤ 400),
  decide (1 ≤ (l.ext.length : Int) ∧ (l.ext.length : Int) ≤ 16), decide (up (canon (seqI l.ext)) = l.ext), decide (seqI l.ext).Nodup, decide (∀ t ∈ seqI l.ext, tabM tr ≤ (t : Int) ∧ (t : Int) < tr)]
theorem condsL_ok (l : Lab) (tr : Int) : (condsL l tr).all id = decide (okL l tr) := by
  rw [Bool.eq_iff_iff, decide_eq_true_iff]
  unfold condsL okL extOk
  have e : ((big40 : Nat) : Int) = 1099511627776 := rfl
  simp only [List.all_cons, List.all_nil, id, Bool.and_true, Bool.and_eq_true, decide_eq_true_eq]
  constructor
  · rintro ⟨h1, ⟨h2, h3⟩, ⟨h4, h5⟩, h6, h7, ⟨h8, h9⟩, h10, h11, h12⟩
    exact ⟨h1, h2, h3, h4, h5, by omega, by omega, by omega, by omega, h10, h11, h12⟩
  · rintro ⟨h1, h2, h3, h4, h5, h6, h7, h8, h9, h10, h11, h12⟩
    exact ⟨h1, ⟨h2, h3⟩, ⟨h4, h5⟩, by omega, by omega, ⟨by omega, by omega⟩, h10, h11, h12⟩
theorem allR_list (L : List Bool) : allR (fun i => L.getD i true) L.length = L.all id := by
  unfold allR
  rw [Bool.eq_iff_iff, List.all_eq_true, List.all_eq_true]
  constructor
  · intro h b hb
    obtain ⟨i, hi, rfl⟩ := List.getElem_of_mem hb
    have := h i (List.mem_range.2 hi)
    simpa [hi] using this
  · intro h i hi
    have hi := List.mem_range.1 hi
    have := h _ (List.getElem_mem hi)
    simpa [hi] using this
theorem cond_of {w : World} {g : Nat} {lb : Array Value} {R : Bool} (eg : ∀ args w, (callFunc g args).run Try.prog w = .ok (.enter g args) w) (h : ∀ W, Below w.heap.size w W → Calls Try.prog g lb W (Answers R W)) : Cond w (.func (.func g) #[] lb) R := ⟨g, lb, rfl, eg, h⟩
def valV (b c : Nat) : List Value := [.func (.func 30) #[] #[.pointer (some ⟨c, 0, none⟩)], .func (.func 32) #[] #[.pointer (some ⟨b, 0, none⟩)], .func (.func 33) #[] #[.pointer (some ⟨b, 0, none⟩)],
  .func (.func 34) #[] #[.pointer (some ⟨b, 0, none⟩)], .func (.func 35) #[] #[.pointer (some ⟨b, 0, none⟩)], .func (.func 36) #[] #[.pointer (some ⟨b, 0, none⟩)],
  .func (.func 37) #[] #[.pointer (some ⟨b, 0, none⟩)], .func (.func 40) #[] #[.pointer (some ⟨b, 0, none⟩)], .func (.func 42) #[] #[.pointer (some ⟨b, 0, none⟩), .pointer (some ⟨c, 0, none⟩)]]
theorem conds_any (b c : Nat) (l : Lab) (v : Value) (tr : Int) (h1 : -9223372036854775808 ≤ tr ∧ tr ≤ 9223372036854775807) (hn : l.ext.length ≤ 3000) (w : World) (hr : Row w b 24 (labCells l v)) (hv : RunsAt w v l.ext) (hc : w.cell? ⟨c, 0, none⟩ = some (.int .i64 tr)) :
    ∀ i, i < 9 → (∀ k, k < i → (condsL l tr).getD k true = true) → Cond w ((valV b c).getD i (.bool false)) ((condsL l tr).getD i true) := by
  have hlc := World.block_lt_of_cell? w ⟨c, 0, none⟩ hc
  have HR : ∀ W, Below w.heap.size w W → Row W b 24 (labCells l v) := fun W hW => hr.upd (F := fun _ => False) (Upds.of_below hW (Nat.le_refl _)) (fun h => h)
  have HV : ∀ W, Below w.heap.size w W → RunsAt W v l.ext := fun W hW => hv.below hW (Nat.le_refl _)
  have HC : ∀ W, Below w.heap.size w W → W.cell? ⟨c, 0, none⟩ = some (.int .i64 tr) := fun W hW => (hW.cell (p := ⟨c, 0, none⟩) hlc).trans hc
  intro i hi hall
  match i, hi with
  | 0, _ => exact cond_of (Go.Proofs.enters_of Try.func30 (by kernel_rfl) rfl) fun W hW => valid1_any c tr h1 W (HC W hW)
  | 1, _ => exact cond_of (Go.Proofs.enters_of Try.func32 (by kernel_rfl) rfl) fun W hW => valid2_any b l v W (HR W hW)
  | 2, _ => exact cond_of (Go.Proofs.enters_of Try.func33 (by kernel_rfl) rfl) fun W hW => valid3_any b l v W (HR W hW)
  | 3, _ => exact cond_of (Go.Proofs.enters_of Try.func34 (by kernel_rfl) rfl) fun W hW => valid4_any b l v W (HR W hW)
  | 4, _ => exact cond_of (Go.Proofs.enters_of Try.func35 (by kernel_rfl) rfl) fun W hW => valid5_any b l v W (HR W hW)
  | 5, _ => exact cond_of (Go.Proofs.enters_of Try.func36 (by kernel_rfl) rfl) fun W hW => valid6_any b l v W (HR W hW) (HV W hW)
  | 6, _ => exact cond_of (Go.Proofs.enters_of Try.func37 (by kernel_rfl) rfl) fun W hW => valid7_any b l v hn W (HR W hW) (HV W hW)
  | 7, _ => exact cond_of (Go.Proofs.enters_of Try.func40 (by kernel_rfl) rfl) fun W hW => valid8_any b l v (by omega) W (HR W hW) (HV W hW)
  | 8, _ =>
    have h0 : decide (trOk tr) = true := hall 0 (by omega)
    exact cond_of (Go.Proofs.enters_of Try.func42 (by kernel_rfl) rfl) fun W hW => valid9_any b c tr h1 (of_decide_eq_true h0) l v hn W (HR W hW) (HV W hW) (HC W hW)
set_option maxRecDepth 100000 in
theorem valid_lab (l : Lab) (v : Value) (tr : Int) (h1 : -9223372036854775808 ≤ tr ∧ tr ≤ 9223372036854775807) (hn : l.ext.length ≤ 3000) (w : World) (hv : RunsAt w v l.ext) :
    Calls Try.prog 12 #[labV l v, .int .i64 tr] w (Answers (decide (okL l tr)) w) := by
  obtain ⟨W, hW⟩ : ∃ W, W = ((w.alloc (.cells #[.int .i64 l.id, .int .i64 l.unit, .string l.name, .string l.note, v] 24)).alloc (.cells #[.int .i64 tr] 3)).alloc (.cells (valV w.heap.size (w.heap.size + 1)).toArray 25) := ⟨_, rfl⟩
  have hb : Below w.heap.size w W := by rw [hW]; exact (((Below.refl _ _).alloc (Nat.le_refl _) _).alloc (by simp) _).alloc (by simp; omega) _
  have hz : W.heap.size = w.heap.size + 3 := by rw [hW]; simp
  have hr : Row W w.heap.size 24 (labCells l v) := by rw [hW]; exact ((Row.new w (labCells l v) 24).alloc _).alloc _
  have hc : W.cell? ⟨w.heap.size + 1, 0, none⟩ = some (.int .i64 tr) := by
    have h2 := (Row.new (w.alloc (.cells #[.int .i64 l.id, .int .i64 l.unit, .string l.name, .string l.note, v] 24)) [.int .i64 tr] 3).alloc (.cells (valV w.heap.size (w.heap.size + 1)).toArray 25)
    rw [World.size_alloc] at h2
    rw [hW]
    exact h2.cell (i := 0) rfl
  have hV : ∀ i, i < 9 → W.cell? ⟨w.heap.size + 2, i, none⟩ = some ((valV w.heap.size (w.heap.size + 1)).getD i (.bool false)) := by
    intro i hi
    have h2 := Row.new ((w.alloc (.cells #[.int .i64 l.id, .int .i64 l.unit, .string l.name, .string l.note, v] 24)).alloc (.cells #[.int .i64 tr] 3)) (valV w.heap.size (w.heap.size + 1)) 25
    rw [World.size_alloc, World.size_alloc] at h2
    rw [hW]
    refine h2.cell ?_
    rw [List.getD_eq_getElem?_getD, List.getElem?_eq_getElem (by exact hi)]
    rfl
  have HA := hid (condContains_any (w.heap.size + 2) 9 (by omega) _ _ W (by omega) hV (conds_any w.heap.size (w.heap.size + 1) l v tr h1 hn W hr (hv.below hb (Nat.le_refl _)) hc))
  have ha : allR (fun i => (condsL l tr).getD i true) 9 = decide (okL l tr) := (allR_list (condsL l tr)).trans (condsL_ok l tr)
  rw [ha] at HA
  obtain ⟨R, hR⟩ : ∃ R, R = decide (okL l tr) := ⟨_, rfl⟩
  rw [← hR] at HA ⊢
  have HB := hid hb
  have HW : Hid (((w.alloc (.cells #[.int .i64 l.id, .int .i64 l.unit, .string l.name, .string l.note, v] 24)).alloc (.cells #[.int .i64 tr] 3)).alloc (.cells (valV w.heap.size (w.heap.size + 1)).toArray 25) = W) := hW.symm
  unfold valV at HW
  clear hb hz hr hc hV ha hR hW hv hn h1
  go_enter Try.func12, Try.ntmps12
  go_wp2_with fail
  rw [HW.out]
  refine HA.out.mono ?_
  rintro e w' ⟨rfl, hb⟩
  have HB2 := hid (HB.out.trans (hb.mono HB.out.size))
  clear hb
  go_wp2_with fail
  go_ret
  exact ⟨by simp, HB2.out⟩
end Go.Proofs.Ytabbkgbgldgfeaa
