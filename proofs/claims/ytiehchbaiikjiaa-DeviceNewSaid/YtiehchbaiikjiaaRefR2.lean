import Derived.Test.YtiehchbaiikjiaaRefR1
/-! The reference device's looks: Waiting. -/
namespace Go.Proofs.Ytiehchbaiikjiaa
open Go.Lib Go.ChangeShapes Go.WideShapes Go.ChangeAt Go.RowKit

theorem RefIs.pendRow {w : World} {R : RV} {D : DS} (h : RefIs w R D) (h0 : 0 < D.pend.length) : ∃ pb cur, R.pa = some ⟨pb, 0, none⟩ ∧ Row w pb 117 cur ∧ cur.take (D.pend.length * 3) = pwCells D.pend := by
  rcases h.pend with ⟨a, _, e, _⟩ | ⟨pb, cap, cur, e, hr, ht, _⟩
  · omega
  · simp only [Value.slice.injEq] at e
    exact ⟨pb, cur, e.1, hr, ht⟩
set_option maxRecDepth 100000 in
theorem rwaiting_any (R : RV) (D : DS) (s : Int) (w : World) (hX : RefIs w R D) (few : D.pend.length ≤ 100000) :
    Calls Try.prog 34 #[R.agg D, .int .i64 s] w fun e w' => e = .returned (.int .i64 (D.count s)) ∧ Upds (fun _ => False) w w' := by
  have HP := hid hX.pendRow
  clear hX
  unfold RV.agg
  obtain ⟨w1, hw1⟩ : ∃ w1, w1 = w.alloc (.cells #[.slice (some ⟨R.sg, 0, none⟩) D.n R.scap, .slice (some ⟨R.og, 0, none⟩) D.n R.ocap, .slice R.pa D.pend.length R.pc, .slice (some ⟨R.fg, 0, none⟩) 5 R.fcap, .bool D.failed, .int .i64 D.fuse, .slice R.va R.vn R.vc] 32) := ⟨_, rfl⟩
  have hr1 : Row w1 w.heap.size 32 [.slice (some ⟨R.sg, 0, none⟩) D.n R.scap, .slice (some ⟨R.og, 0, none⟩) D.n R.ocap, .slice R.pa D.pend.length R.pc, .slice (some ⟨R.fg, 0, none⟩) 5 R.fcap, .bool D.failed, .int .i64 D.fuse, .slice R.va R.vn R.vc] := by
    rw [hw1]; exact Row.new w [.slice (some ⟨R.sg, 0, none⟩) D.n R.scap, .slice (some ⟨R.og, 0, none⟩) D.n R.ocap, .slice R.pa D.pend.length R.pc, .slice (some ⟨R.fg, 0, none⟩) 5 R.fcap, .bool D.failed, .int .i64 D.fuse, .slice R.va R.vn R.vc] _
  have hu1 : Upds (fun _ => False) w w1 := by rw [hw1]; exact Upds.alloc _ _
  have HR1 := hid hr1
  have HU1 := hid hu1
  have HW1 := hid hw1
  clear hr1 hu1 hw1
  go_enter Try.func34, Try.ntmps34
  go_wp2_with fail
  rw [← HW1.out]
  go_loopw [5, 6] (fun s5 s6 wr => ∃ k : Nat, k ≤ D.pend.length ∧ s6 = .int .i64 k ∧ s5 = .int .i64 (((D.pend.take k).filter (fun p => decide (p.sys = s))).length : Nat) ∧ Upds (fun _ => False) w1 wr) (fun _ s6 _ => D.pend.length - (RowKit.intOf s6).toNat)
  case atStart => exact ⟨0, Nat.zero_le _, rfl, rfl, Upds.refl _ _⟩
  case round =>
    obtain ⟨k, hk, rfl, rfl, hu⟩ := hrel
    have HU := hid hu
    have hcb : ((D.pend.take k).filter (fun p => decide (p.sys = s))).length ≤ k := Nat.le_trans (List.length_filter_le _ _) (List.length_take_le _ _)
    have d2 := (HR1.out.upd hu (fun h => h)).cell (i := 2) rfl
    by_cases hlt : k < D.pend.length
    · obtain ⟨pb, cur, hpa, hrow, htk⟩ := HP.out (by omega)
      rw [hpa] at d2
      have hp := PwAt.of_take htk k hlt
      have hrk := (hrow.upd HU1.out (fun h => h)).upd hu (fun h => h)
      have c0 : wr.cell? ⟨pb, k * 3, none⟩ = some (.int .i64 D.pend[k].sys) := hrk.cell hp.sys
      have hct := count_take D.pend s k hlt
      obtain ⟨p, hpe⟩ : ∃ p, p = D.pend[k] := ⟨_, rfl⟩
      obtain ⟨m, hm⟩ : ∃ m, m = ((D.pend.take k).filter (fun p => decide (p.sys = s))).length := ⟨_, rfl⟩
      rw [← hpe] at c0 hct
      rw [← hm] at hct hcb ⊢
      have HCT := hid hct
      clear hp hrk hct hpe hm hu htk hrow hpa
      by_cases hps : p.sys = s
      · have hb : (p.sys == s) = true := beq_iff_eq.2 hps
        have HPS := hid hps
        clear hps
        go_wp2_with fail
        go_roundw
        case rel => exact ⟨k + 1, by omega, by go_num, by rw [HCT.out, if_pos HPS.out]; go_num, HU.out⟩
        case measure => simp [RowKit.intOf]; omega
      · have hb : (p.sys == s) = false := beq_eq_false_iff_ne.2 hps
        have HPS : Hid (¬ p.sys = s) := hps
        clear hps
        go_wp2_with fail
        go_roundw
        case rel => exact ⟨k + 1, by omega, by go_num, by rw [HCT.out, if_neg HPS.out]; rfl, HU.out⟩
        case measure => simp [RowKit.intOf]; omega
    · obtain rfl : k = D.pend.length := by omega
      have HC : Hid (((D.pend.take D.pend.length).filter (fun p => decide (p.sys = s))).length = D.count s) := by show _ = _; rw [List.take_length]; rfl
      clear hu
      go_wp2_with fail
      go_ret
      exact ⟨by rw [HC.out]; rfl, HU1.out.trans HU.out⟩
end Go.Proofs.Ytiehchbaiikjiaa
