import Derived.Test.YtimeebajpegknaaSpS
/-! The closure that combines orders. -/
namespace Go.Proofs.Ytimeebajpegknaa
open Go.Lib Go.ChangeShapes Go.WideShapes Go.ChangeAt Go.RowKit
open Go.Shelf Go.Sort

def cfUp (x y : Int × Int) : Int := if Lib.compareInt x.2 y.2 ≠ 0 then Lib.compareInt x.2 y.2 else Lib.compareInt x.1 y.1
set_option maxRecDepth 100000 in
theorem closUp_any (ob fb : Nat) (x y : Int × Int) (w : World) (hob : ob < w.heap.size) (hfb : fb < w.heap.size) (ho : w.cell? ⟨ob, 0, none⟩ = some (.slice (some ⟨fb, 0, none⟩) 2 2)) (h0 : w.cell? ⟨fb, 0, none⟩ = some (.func (.func 76) #[] #[])) (h1 : w.cell? ⟨fb, 1, none⟩ = some (.func (.func 77) #[] #[])) :
    Calls Try.prog 82 #[.agg #[.int .i64 x.1, .int .i64 x.2], .agg #[.int .i64 y.1, .int .i64 y.2], .pointer (some ⟨ob, 0, none⟩)] w fun e w' => e = .returned (.int .i64 (cfUp x y)) ∧ Grew w w' := by
  have HC0 : Hid (∀ W, Calls Try.prog 76 #[.agg #[.int .i64 x.1, .int .i64 x.2], .agg #[.int .i64 y.1, .int .i64 y.2]] W fun e w' => e = .returned (.int .i64 (Lib.compareInt x.2 y.2)) ∧ Grew W w') := fun W => bySize_any x y W
  have HC1 : Hid (∀ W, Calls Try.prog 77 #[.agg #[.int .i64 x.1, .int .i64 x.2], .agg #[.int .i64 y.1, .int .i64 y.2]] W fun e w' => e = .returned (.int .i64 (Lib.compareInt x.1 y.1)) ∧ Grew W w') := fun W => byPlace_any x y W
  unfold cfUp
  obtain ⟨r0, e0⟩ : ∃ r, r = Lib.compareInt x.2 y.2 := ⟨_, rfl⟩
  obtain ⟨r1, e1⟩ : ∃ r, r = Lib.compareInt x.1 y.1 := ⟨_, rfl⟩
  rw [← e0] at HC0 ⊢
  rw [← e1] at HC1 ⊢
  obtain ⟨R, hR⟩ : ∃ R, R = if r0 ≠ 0 then r0 else r1 := ⟨_, rfl⟩
  rw [← hR]
  have HR := hid hR
  clear hR e0 e1
  obtain ⟨W2, hW2⟩ : ∃ W2, W2 = (w.alloc (.cells #[.int .i64 x.1, .int .i64 x.2] 47)).alloc (.cells #[.int .i64 y.1, .int .i64 y.2] 47) := ⟨_, rfl⟩
  have hg2 : Grew w W2 := by rw [hW2]; exact ((Grew.refl _).alloc _).alloc _
  have hbx := Row.new w [.int .i64 x.1, .int .i64 x.2] 47
  have hby := Row.new (w.alloc (.cells #[.int .i64 x.1, .int .i64 x.2] 47)) [.int .i64 y.1, .int .i64 y.2] 47
  have hbx2 := hbx.alloc (.cells #[.int .i64 y.1, .int .i64 y.2] 47)
  rw [World.size_alloc] at hby
  have RX : Hid (Row W2 w.heap.size 47 [.int .i64 x.1, .int .i64 x.2]) := by rw [hW2]; exact hbx2
  have RY : Hid (Row W2 (w.heap.size + 1) 47 [.int .i64 y.1, .int .i64 y.2]) := by rw [hW2]; exact hby
  have hb2 := hg2.below w.heap.size (Nat.le_refl _)
  have k0 : Hid (W2.cell? ⟨ob, 0, none⟩ = some (.slice (some ⟨fb, 0, none⟩) 2 2)) := (hb2.cell (p := ⟨ob, 0, none⟩) hob).trans ho
  have k1 : Hid (W2.cell? ⟨fb, 0, none⟩ = some (.func (.func 76) #[] #[])) := (hb2.cell (p := ⟨fb, 0, none⟩) hfb).trans h0
  have k2 : Hid (W2.cell? ⟨fb, 1, none⟩ = some (.func (.func 77) #[] #[])) := (hb2.cell (p := ⟨fb, 1, none⟩) hfb).trans h1
  have hz2 : W2.heap.size = w.heap.size + 2 := by rw [hW2]; simp
  have HG2 := hid hg2
  have HZ := hid hz2
  clear hg2 hbx hby hbx2 hb2 hz2 h0 h1 
  go_enter Try.func82, Try.ntmps82
  go_upto_region 2 with fail
  rw [← hW2]
  have HW2 := hid hW2
  clear hW2 ho
  go_loopw [11] (fun i wr => ∃ k : Nat, k ≤ 2 ∧ i = .int .i64 k ∧ (1 ≤ k → r0 = 0) ∧ (2 ≤ k → r1 = 0) ∧ Grew W2 wr) (fun i _ => 2 - (intOf i).toNat)
  case atStart => exact ⟨0, by omega, rfl, fun h => by omega, fun h => by omega, Grew.refl _⟩
  case round =>
    obtain ⟨k, hk, rfl, hr0, hr1, hg⟩ := hrel
    have hb := hg.below W2.heap.size (Nat.le_refl _)
    have HG := hid hg
    have hz := HZ.out
    have q0 := (hb.cell (p := ⟨fb, 0, none⟩) (by show fb < _; omega)).trans k1.out
    have q1 := (hb.cell (p := ⟨fb, 1, none⟩) (by show fb < _; omega)).trans k2.out
    have qx := RX.out.upd (F := fun _ => False) (Upds.of_below hb (Nat.le_refl _)) (fun h => h)
    have qy := RY.out.upd (F := fun _ => False) (Upds.of_below hb (Nat.le_refl _)) (fun h => h)
    have x0 := qx.cell (i := 0) rfl
    have x1 := qx.cell (i := 1) rfl
    have y0 := qy.cell (i := 0) rfl
    have y1 := qy.cell (i := 1) rfl
    clear hb qx qy hg hz
    have hk3 : k = 0 ∨ k = 1 ∨ k = 2 := by omega
    rcases hk3 with rfl | rfl | rfl
    · clear hr0 hr1
      by_cases hz0 : r0 = 0
      · have hd : (r0 == 0) = true := by simpa using hz0
        have hd2 : (r0 != 0) = false := by simpa using hz0
        have HZ0 := hid hz0
        clear hz0
        go_wp2_with (go_at_call 76; refine (HC0.out _).mono ?_; rintro e w5 ⟨rfl, hg5⟩)
        go_roundw
        case rel => exact ⟨1, by omega, rfl, fun _ => HZ0.out, fun h => by omega, HG.out.trans hg5⟩
        case measure => simp [intOf]
      · have hd : (r0 == 0) = false := by simpa using hz0
        have hd2 : (r0 != 0) = true := by simpa using hz0
        have hR2 : R = r0 := by rw [HR.out, if_pos hz0]
        have HR2 := hid hR2
        clear hz0 hR2
        go_wp2_with (go_at_call 76; refine (HC0.out _).mono ?_; rintro e w5 ⟨rfl, hg5⟩)
        go_ret
        exact ⟨ret_int HR2.out.symm, HG2.out.trans (HG.out.trans hg5)⟩
    · have hz0 : r0 = 0 := hr0 (by omega)
      have hR2 : R = r1 := by rw [HR.out, if_neg (by simpa using hz0)]
      have HR2 := hid hR2
      have HZ0 := hid hz0
      clear hr0 hr1 hz0 hR2
      by_cases hz1 : r1 = 0
      · have hd : (r1 == 0) = true := by simpa using hz1
        have hd2 : (r1 != 0) = false := by simpa using hz1
        have HZ1 := hid hz1
        clear hz1
        go_wp2_with (go_at_call 77; refine (HC1.out _).mono ?_; rintro e w5 ⟨rfl, hg5⟩)
        go_roundw
        case rel => exact ⟨2, by omega, rfl, fun _ => HZ0.out, fun _ => HZ1.out, HG.out.trans hg5⟩
        case measure => simp [intOf]
      · have hd : (r1 == 0) = false := by simpa using hz1
        have hd2 : (r1 != 0) = true := by simpa using hz1
        clear hz1
        go_wp2_with (go_at_call 77; refine (HC1.out _).mono ?_; rintro e w5 ⟨rfl, hg5⟩)
        go_ret
        exact ⟨ret_int HR2.out.symm, HG2.out.trans (HG.out.trans hg5)⟩
    · have hz0 : r0 = 0 := hr0 (by omega)
      have hz1 : r1 = 0 := hr1 (by omega)
      have hR2 : R = 0 := by rw [HR.out, if_neg (by simpa using hz0)]; exact hz1
      have HR2 := hid hR2
      clear hr0 hr1 hz0 hz1 hR2
      go_wp2_with fail
      go_ret
      exact ⟨ret_int HR2.out.symm, HG2.out.trans HG.out⟩
def cfDown (x y : Int × Int) : Int := if Lib.compareInt y.2 x.2 ≠ 0 then Lib.compareInt y.2 x.2 else Lib.compareInt x.1 y.1
set_option maxRecDepth 100000 in
theorem closDown_any (ob fb rb : Nat) (x y : Int × Int) (w : World) (hob : ob < w.heap.size) (hfb : fb < w.heap.size) (hrb : rb < w.heap.size) (hrc : w.cell? ⟨rb, 0, none⟩ = some (.func (.func 76) #[] #[])) (ho : w.cell? ⟨ob, 0, none⟩ = some (.slice (some ⟨fb, 0, none⟩) 2 2)) (h0 : w.cell? ⟨fb, 0, none⟩ = some (.func (.func 84) #[] #[.pointer (some ⟨rb, 0, none⟩)])) (h1 : w.cell? ⟨fb, 1, none⟩ = some (.func (.func 77) #[] #[])) :
    Calls Try.prog 82 #[.agg #[.int .i64 x.1, .int .i64 x.2], .agg #[.int .i64 y.1, .int .i64 y.2], .pointer (some ⟨ob, 0, none⟩)] w fun e w' => e = .returned (.int .i64 (cfDown x y)) ∧ Grew w w' := by
  have HC0 : Hid (∀ W : World, rb < W.heap.size → W.cell? ⟨rb, 0, none⟩ = some (.func (.func 76) #[] #[]) → Calls Try.prog 84 #[.agg #[.int .i64 x.1, .int .i64 x.2], .agg #[.int .i64 y.1, .int .i64 y.2], .pointer (some ⟨rb, 0, none⟩)] W fun e w' => e = .returned (.int .i64 (Lib.compareInt y.2 x.2)) ∧ Grew W w') := fun W h1 h2 => rev_any rb x y W h1 h2
  have HC1 : Hid (∀ W, Calls Try.prog 77 #[.agg #[.int .i64 x.1, .int .i64 x.2], .agg #[.int .i64 y.1, .int .i64 y.2]] W fun e w' => e = .returned (.int .i64 (Lib.compareInt x.1 y.1)) ∧ Grew W w') := fun W => byPlace_any x y W
  unfold cfDown
  obtain ⟨r0, e0⟩ : ∃ r, r = Lib.compareInt y.2 x.2 := ⟨_, rfl⟩
  obtain ⟨r1, e1⟩ : ∃ r, r = Lib.compareInt x.1 y.1 := ⟨_, rfl⟩
  rw [← e0] at HC0 ⊢
  rw [← e1] at HC1 ⊢
  obtain ⟨R, hR⟩ : ∃ R, R = if r0 ≠ 0 then r0 else r1 := ⟨_, rfl⟩
  rw [← hR]
  have HR := hid hR
  clear hR e0 e1
  obtain ⟨W2, hW2⟩ : ∃ W2, W2 = (w.alloc (.cells #[.int .i64 x.1, .int .i64 x.2] 47)).alloc (.cells #[.int .i64 y.1, .int .i64 y.2] 47) := ⟨_, rfl⟩
  have hg2 : Grew w W2 := by rw [hW2]; exact ((Grew.refl _).alloc _).alloc _
  have hbx := Row.new w [.int .i64 x.1, .int .i64 x.2] 47
  have hby := Row.new (w.alloc (.cells #[.int .i64 x.1, .int .i64 x.2] 47)) [.int .i64 y.1, .int .i64 y.2] 47
  have hbx2 := hbx.alloc (.cells #[.int .i64 y.1, .int .i64 y.2] 47)
  rw [World.size_alloc] at hby
  have RX : Hid (Row W2 w.heap.size 47 [.int .i64 x.1, .int .i64 x.2]) := by rw [hW2]; exact hbx2
  have RY : Hid (Row W2 (w.heap.size + 1) 47 [.int .i64 y.1, .int .i64 y.2]) := by rw [hW2]; exact hby
  have hb2 := hg2.below w.heap.size (Nat.le_refl _)
  have k0 : Hid (W2.cell? ⟨ob, 0, none⟩ = some (.slice (some ⟨fb, 0, none⟩) 2 2)) := (hb2.cell (p := ⟨ob, 0, none⟩) hob).trans ho
  have k3 : Hid (W2.cell? ⟨rb, 0, none⟩ = some (.func (.func 76) #[] #[])) := (hb2.cell (p := ⟨rb, 0, none⟩) hrb).trans hrc
  have k1 : Hid (W2.cell? ⟨fb, 0, none⟩ = some (.func (.func 84) #[] #[.pointer (some ⟨rb, 0, none⟩)])) := (hb2.cell (p := ⟨fb, 0, none⟩) hfb).trans h0
  have k2 : Hid (W2.cell? ⟨fb, 1, none⟩ = some (.func (.func 77) #[] #[])) := (hb2.cell (p := ⟨fb, 1, none⟩) hfb).trans h1
  have hz2 : W2.heap.size = w.heap.size + 2 := by rw [hW2]; simp
  have HG2 := hid hg2
  have HZ := hid hz2
  clear hg2 hbx hby hbx2 hb2 hz2 h0 h1 hrc
  go_enter Try.func82, Try.ntmps82
  go_upto_region 2 with fail
  rw [← hW2]
  have HW2 := hid hW2
  clear hW2 ho
  go_loopw [11] (fun i wr => ∃ k : Nat, k ≤ 2 ∧ i = .int .i64 k ∧ (1 ≤ k → r0 = 0) ∧ (2 ≤ k → r1 = 0) ∧ Grew W2 wr) (fun i _ => 2 - (intOf i).toNat)
  case atStart => exact ⟨0, by omega, rfl, fun h => by omega, fun h => by omega, Grew.refl _⟩
  case round =>
    obtain ⟨k, hk, rfl, hr0, hr1, hg⟩ := hrel
    have hb := hg.below W2.heap.size (Nat.le_refl _)
    have HG := hid hg
    have hz := HZ.out
    have q0 := (hb.cell (p := ⟨fb, 0, none⟩) (by show fb < _; omega)).trans k1.out
    have q1 := (hb.cell (p := ⟨fb, 1, none⟩) (by show fb < _; omega)).trans k2.out
    have qx := RX.out.upd (F := fun _ => False) (Upds.of_below hb (Nat.le_refl _)) (fun h => h)
    have qy := RY.out.upd (F := fun _ => False) (Upds.of_below hb (Nat.le_refl _)) (fun h => h)
    have x0 := qx.cell (i := 0) rfl
    have x1 := qx.cell (i := 1) rfl
    have y0 := qy.cell (i := 0) rfl
    have y1 := qy.cell (i := 1) rfl
    have qr := hid ((hb.cell (p := ⟨rb, 0, none⟩) (by show rb < _; omega)).trans k3.out)
    have qs : Hid (rb < wr.heap.size) := by have := hb.size; show rb < _; omega
    clear hb qx qy hg hz
    have hk3 : k = 0 ∨ k = 1 ∨ k = 2 := by omega
    rcases hk3 with rfl | rfl | rfl
    · clear hr0 hr1
      by_cases hz0 : r0 = 0
      · have hd : (r0 == 0) = true := by simpa using hz0
        have hd2 : (r0 != 0) = false := by simpa using hz0
        have HZ0 := hid hz0
        clear hz0
        go_wp2_with (go_at_call 84; refine (HC0.out _ qs.out qr.out).mono ?_; rintro e w5 ⟨rfl, hg5⟩)
        go_roundw
        case rel => exact ⟨1, by omega, rfl, fun _ => HZ0.out, fun h => by omega, HG.out.trans hg5⟩
        case measure => simp [intOf]
      · have hd : (r0 == 0) = false := by simpa using hz0
        have hd2 : (r0 != 0) = true := by simpa using hz0
        have hR2 : R = r0 := by rw [HR.out, if_pos hz0]
        have HR2 := hid hR2
        clear hz0 hR2
        go_wp2_with (go_at_call 84; refine (HC0.out _ qs.out qr.out).mono ?_; rintro e w5 ⟨rfl, hg5⟩)
        go_ret
        exact ⟨ret_int HR2.out.symm, HG2.out.trans (HG.out.trans hg5)⟩
    · have hz0 : r0 = 0 := hr0 (by omega)
      have hR2 : R = r1 := by rw [HR.out, if_neg (by simpa using hz0)]
      have HR2 := hid hR2
      have HZ0 := hid hz0
      clear hr0 hr1 hz0 hR2
      by_cases hz1 : r1 = 0
      · have hd : (r1 == 0) = true := by simpa using hz1
        have hd2 : (r1 != 0) = false := by simpa using hz1
        have HZ1 := hid hz1
        clear hz1
        go_wp2_with (go_at_call 77; refine (HC1.out _).mono ?_; rintro e w5 ⟨rfl, hg5⟩)
        go_roundw
        case rel => exact ⟨2, by omega, rfl, fun _ => HZ0.out, fun _ => HZ1.out, HG.out.trans hg5⟩
        case measure => simp [intOf]
      · have hd : (r1 == 0) = false := by simpa using hz1
        have hd2 : (r1 != 0) = true := by simpa using hz1
        clear hz1
        go_wp2_with (go_at_call 77; refine (HC1.out _).mono ?_; rintro e w5 ⟨rfl, hg5⟩)
        go_ret
        exact ⟨ret_int HR2.out.symm, HG2.out.trans (HG.out.trans hg5)⟩
    · have hz0 : r0 = 0 := hr0 (by omega)
      have hz1 : r1 = 0 := hr1 (by omega)
      have hR2 : R = 0 := by rw [HR.out, if_neg (by simpa using hz0)]; exact hz1
      have HR2 := hid hR2
      clear hr0 hr1 hz0 hz1 hR2
      go_wp2_with fail
      go_ret
      exact ⟨ret_int HR2.out.symm, HG2.out.trans HG.out⟩
end Go.Proofs.Ytimeebajpegknaa
