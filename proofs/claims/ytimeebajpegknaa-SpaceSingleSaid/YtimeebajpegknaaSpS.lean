import Derived.Test.YtimeebajpegknaaSortLay
import Derived.Test.YtimeebajpegknaaExt
/-! Comparing runs, and sorting them. -/
namespace Go.Proofs.Ytimeebajpegknaa
open Go.Lib Go.ChangeShapes Go.WideShapes Go.ChangeAt Go.RowKit
open Go.Shelf Go.Sort

/-- the world has only grown, and answers were drawn -/
def Grew (w w' : World) : Prop := ∃ q os, w' = grow (w.drewN q) os
theorem Grew.refl (w : World) : Grew w w := ⟨0, #[], by simp [grow]; rfl⟩
theorem Grew.alloc {w w' : World} (h : Grew w w') (o : Obj) : Grew w (w'.alloc o) := by
  obtain ⟨q, os, rfl⟩ := h
  exact ⟨q, os ++ #[o], by rw [alloc_eq_grow, grow_grow]⟩
theorem Grew.trans {a b c : World} (h : Grew a b) (k : Grew b c) : Grew a c := by
  obtain ⟨q, os, rfl⟩ := h
  obtain ⟨q2, os2, rfl⟩ := k
  refine ⟨q + q2, os ++ os2, ?_⟩
  show grow (grow ((a.drewN q).drewN q2) os) os2 = _
  rw [grow_grow]
  congr 1
  simp [World.drewN, Nat.add_assoc]
theorem Grew.below {w w' : World} (h : Grew w w') (B : Nat) (hB : B ≤ w.heap.size) : Below B w w' := by
  obtain ⟨q, os, rfl⟩ := h
  refine ⟨rfl, rfl, rfl, by simp [grow], fun k hk => ?_⟩
  show (w.heap ++ os)[k]? = _
  rw [Array.getElem?_append_left (by omega)]
set_option maxRecDepth 100000 in
theorem nan_any (x : Int) (w : World) : Calls Try.prog 87 #[.int .i64 x] w fun e w' => e = .returned (.bool false) ∧ w = w' := by
  go_enter Try.func87, Try.ntmps87
  go_wp2_with fail
  go_ret
  exact ⟨ret_bool (by simp), rfl⟩
set_option maxRecDepth 100000 in
theorem compare_any (x y : Int) (w : World) : Calls Try.prog 83 #[.int .i64 x, .int .i64 y] w fun e w' => e = .returned (.int .i64 (Lib.compareInt x y)) ∧ w = w' := by
  by_cases h1 : x < y
  · have e : Lib.compareInt x y = -1 := by unfold Lib.compareInt; rw [if_pos h1]
    rw [e]
    go_enter Try.func83, Try.ntmps83
    go_wp2_with (go_at_call 87; refine (nan_any _ _).mono ?_; rintro e w' ⟨rfl, rfl⟩)
    go_ret
    exact ⟨rfl, rfl⟩
  · by_cases h2 : y < x
    · have e : Lib.compareInt x y = 1 := by unfold Lib.compareInt; rw [if_neg h1, if_pos h2]
      rw [e]
      go_enter Try.func83, Try.ntmps83
      go_wp2_with (go_at_call 87; refine (nan_any _ _).mono ?_; rintro e w' ⟨rfl, rfl⟩)
      go_ret
      exact ⟨rfl, rfl⟩
    · have e : Lib.compareInt x y = 0 := by unfold Lib.compareInt; rw [if_neg h1, if_neg (by omega)]
      rw [e]
      go_enter Try.func83, Try.ntmps83
      go_wp2_with (go_at_call 87; refine (nan_any _ _).mono ?_; rintro e w' ⟨rfl, rfl⟩)
      go_ret
      exact ⟨rfl, rfl⟩
def agg (r : Int × Int) : Value := .agg #[.int .i64 r.1, .int .i64 r.2]
set_option maxRecDepth 100000 in
theorem bySize_any (x y : Int × Int) (w : World) : Calls Try.prog 76 #[.agg #[.int .i64 x.1, .int .i64 x.2], .agg #[.int .i64 y.1, .int .i64 y.2]] w fun e w' => e = .returned (.int .i64 (Lib.compareInt x.2 y.2)) ∧ Grew w w' := by
  have hcon := fun W => compare_any x.2 y.2 W
  have HC := hid hcon
  clear hcon
  generalize Lib.compareInt x.2 y.2 = r at HC ⊢
  go_enter Try.func76, Try.ntmps76
  go_wp2_with (go_at_call 83; refine (HC.out _).mono ?_; rintro e w' ⟨rfl, rfl⟩)
  go_ret
  exact ⟨rfl, ((Grew.refl _).alloc _).alloc _⟩
set_option maxRecDepth 100000 in
theorem byPlace_any (x y : Int × Int) (w : World) : Calls Try.prog 77 #[.agg #[.int .i64 x.1, .int .i64 x.2], .agg #[.int .i64 y.1, .int .i64 y.2]] w fun e w' => e = .returned (.int .i64 (Lib.compareInt x.1 y.1)) ∧ Grew w w' := by
  have hcon := fun W => compare_any x.1 y.1 W
  have HC := hid hcon
  clear hcon
  generalize Lib.compareInt x.1 y.1 = r at HC ⊢
  go_enter Try.func77, Try.ntmps77
  go_wp2_with (go_at_call 83; refine (HC.out _).mono ?_; rintro e w' ⟨rfl, rfl⟩)
  go_ret
  exact ⟨rfl, ((Grew.refl _).alloc _).alloc _⟩
set_option maxRecDepth 100000 in
theorem rev_any (rb : Nat) (x y : Int × Int) (w : World) (hrb : rb < w.heap.size) (hc : w.cell? ⟨rb, 0, none⟩ = some (.func (.func 76) #[] #[])) :
    Calls Try.prog 84 #[.agg #[.int .i64 x.1, .int .i64 x.2], .agg #[.int .i64 y.1, .int .i64 y.2], .pointer (some ⟨rb, 0, none⟩)] w fun e w' => e = .returned (.int .i64 (Lib.compareInt y.2 x.2)) ∧ Grew w w' := by
  have HC := hid fun W => bySize_any y x W
  generalize Lib.compareInt y.2 x.2 = r at HC ⊢
  go_enter Try.func84, Try.ntmps84
  go_wp2_with (go_at_call 76; refine (HC.out _).mono ?_; rintro e w2 ⟨rfl, hg⟩)
  go_ret
  exact ⟨rfl, (((Grew.refl _).alloc _).alloc _).trans hg⟩
end Go.Proofs.Ytimeebajpegknaa
