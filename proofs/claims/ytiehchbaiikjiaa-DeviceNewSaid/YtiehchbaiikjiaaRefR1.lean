import Derived.Test.YtiehchbaiikjiaaBegin
/-! The reference device's looks: there, Earlier. -/
namespace Go.Proofs.Ytiehchbaiikjiaa
open Go.Lib Go.ChangeShapes Go.WideShapes Go.ChangeAt Go.RowKit

set_option maxRecDepth 100000 in
theorem rthere_any (R : RV) (D : DS) (i : Int) (w : World) :
    Calls Try.prog 63 #[R.agg D, .int .i64 i] w fun e w' => e = .returned (.bool (decide (0 ≤ i ∧ i < D.n))) ∧ Upds (fun _ => False) w w' := by
  unfold RV.agg
  obtain ⟨m, hm⟩ : ∃ m, m = D.n := ⟨_, rfl⟩
  rw [← hm]
  clear hm
  obtain ⟨b, hb⟩ : ∃ b : Bool, b = decide (0 ≤ i ∧ i < (m : Int)) := ⟨_, rfl⟩
  rw [← hb]
  by_cases h0 : 0 ≤ i
  · by_cases h1 : i < m
    · have e : Hid (b = true) := hb.trans (decide_eq_true ⟨h0, h1⟩)
      clear hb
      go_enter Try.func63, Try.ntmps63
      go_wp2_with fail
      go_ret
      exact ⟨by rw [e.out]; rfl, Upds.alloc _ _⟩
    · have e : Hid (b = false) := hb.trans (decide_eq_false (fun h => h1 h.2))
      clear hb
      go_enter Try.func63, Try.ntmps63
      go_wp2_with fail
      go_ret
      exact ⟨by rw [e.out]; rfl, Upds.alloc _ _⟩
  · have e : Hid (b = false) := hb.trans (decide_eq_false (fun h => h0 h.1))
    clear hb
    go_enter Try.func63, Try.ntmps63
    go_wp2_with fail
    go_ret
    exact ⟨by rw [e.out]; rfl, Upds.alloc _ _⟩
def REarlierPost (D : DS) (i : Int) (w : World) (e : Ending) (w' : World) : Prop := e = .returned (.int .i64 (D.old i)) ∧ Upds (fun _ => False) w w'
set_option maxRecDepth 100000 in
theorem rearlier_any (R : RV) (D : DS) (i : Int) (w : World) (hX : RefIs w R D) :
    Calls Try.prog 33 #[R.agg D, .int .i64 i] w (REarlierPost D i w) := by
  have HT := hid (fun w => rthere_any R D i w)
  by_cases h : 0 ≤ i ∧ i < D.n
  · obtain ⟨k, rfl⟩ := Int.eq_ofNat_of_zero_le h.1
    have hk : k < D.n := by omega
    obtain ⟨O, ho, hoi⟩ := hX.old
    obtain ⟨hoo, a, c, hoc⟩ := hoi k hk
    have hd : decide (0 ≤ (k : Int) ∧ (k : Int) < D.n) = true := decide_eq_true h
    have HOLD : Hid (D.old k = ((D.sec k).er.length : Int)) := by show _ = _; unfold DS.old; rw [if_pos (show D.has (k : Int) from h)]; rfl
    have hcell := ho.cell k (O k) (by rw [List.getElem?_map, List.getElem?_range hk]; rfl) (by omega)
    rw [hoc] at hcell
    have HC := hid hcell
    have HDc := hid hd
    clear hcell hd hoc hoo ho hX hoi h
    unfold RV.agg at *
    obtain ⟨m, hm⟩ : ∃ m, m = D.n := ⟨_, rfl⟩
    rw [← hm] at hk HT HDc ⊢
    clear hm
    obtain ⟨w1, hw1⟩ : ∃ w1, w1 = w.alloc (.cells #[.slice (some ⟨R.sg, 0, none⟩) m R.scap, .slice (some ⟨R.og, 0, none⟩) m R.ocap, .slice R.pa D.pend.length R.pc, .slice (some ⟨R.fg, 0, none⟩) 5 R.fcap, .bool D.failed, .int .i64 D.fuse, .slice R.va R.vn R.vc] 32) := ⟨_, rfl⟩
    have hr1 : Row w1 w.heap.size 32 [.slice (some ⟨R.sg, 0, none⟩) m R.scap, .slice (some ⟨R.og, 0, none⟩) m R.ocap, .slice R.pa D.pend.length R.pc, .slice (some ⟨R.fg, 0, none⟩) 5 R.fcap, .bool D.failed, .int .i64 D.fuse, .slice R.va R.vn R.vc] := by
      rw [hw1]; exact Row.new w [.slice (some ⟨R.sg, 0, none⟩) m R.scap, .slice (some ⟨R.og, 0, none⟩) m R.ocap, .slice R.pa D.pend.length R.pc, .slice (some ⟨R.fg, 0, none⟩) 5 R.fcap, .bool D.failed, .int .i64 D.fuse, .slice R.va R.vn R.vc] _
    have hu1 : Upds (fun _ => False) w w1 := by rw [hw1]; exact Upds.alloc _ _
    have HR1 := hid hr1
    have HU1 := hid hu1
    have HW1 := hid hw1
    clear hr1 hu1 hw1
    go_enter Try.func33, Try.ntmps33
    go_wp2_with fail
    rw [← HW1.out]
    refine (HT.out w1).mono ?_
    rintro e w2 ⟨rfl, hu⟩
    rw [HDc.out]
    have c1 := (HR1.out.upd hu (fun h => h)).cell (i := 1) rfl
    have c2 := hu.cell (fun h => h) (HU1.out.cell (fun h => h) HC.out)
    have HU2 := hid (HU1.out.trans hu)
    clear hu HC HR1 HU1
    go_wp2_with fail
    go_ret
    exact ⟨by rw [HOLD.out]; rfl, HU2.out⟩
  · have hd : decide (0 ≤ i ∧ i < (D.n : Int)) = false := decide_eq_false h
    have HOLD : Hid (D.old i = 0) := by show _ = _; unfold DS.old; rw [if_neg (show ¬ D.has i from h)]
    have HDc := hid hd
    clear hd h hX
    unfold RV.agg at *
    obtain ⟨m, hm⟩ : ∃ m, m = D.n := ⟨_, rfl⟩
    rw [← hm] at HT HDc ⊢
    clear hm
    go_enter Try.func33, Try.ntmps33
    go_wp2_with fail
    refine (HT.out _).mono ?_
    rintro e w2 ⟨rfl, hu⟩
    rw [HDc.out]
    have HU2 := hid ((Upds.alloc w _).trans hu)
    clear hu
    go_wp2_with fail
    go_ret
    exact ⟨by rw [HOLD.out]; rfl, HU2.out⟩
end Go.Proofs.Ytiehchbaiikjiaa
