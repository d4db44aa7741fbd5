import Derived.Test.YtiehchbaiikjiaaRefR3
/-! same: a device looks like its reference. -/
namespace Go.Proofs.Ytiehchbaiikjiaa
open Go.Lib Go.ChangeShapes Go.WideShapes Go.ChangeAt Go.RowKit

theorem cells7 {R : RV} {D : DS} {W : World} {b : Nat} (h : Row W b 32 (R.cells D)) : W.cell? ⟨b, 0, none⟩ = some (.slice (some ⟨R.sg, 0, none⟩) D.n R.scap) ∧ W.cell? ⟨b, 1, none⟩ = some (.slice (some ⟨R.og, 0, none⟩) D.n R.ocap) ∧ W.cell? ⟨b, 2, none⟩ = some (.slice R.pa D.pend.length R.pc) ∧
    W.cell? ⟨b, 3, none⟩ = some (.slice (some ⟨R.fg, 0, none⟩) 5 R.fcap) ∧ W.cell? ⟨b, 4, none⟩ = some (.bool D.failed) ∧ W.cell? ⟨b, 5, none⟩ = some (.int .i64 D.fuse) ∧ W.cell? ⟨b, 6, none⟩ = some (.slice R.va R.vn R.vc) :=
  ⟨h.cell rfl, h.cell rfl, h.cell rfl, h.cell rfl, h.cell rfl, h.cell rfl, h.cell rfl⟩
/-- the worlds behind w1 in which nothing has been turned -/
def Calm (w1 W : World) : Prop := Upds (fun _ => False) w1 W
theorem calm7 {R : RV} {D : DS} {w w1 W : World} (h : W.cell? ⟨w.heap.size, 0, none⟩ = some (.slice (some ⟨R.sg, 0, none⟩) D.n R.scap) ∧ W.cell? ⟨w.heap.size, 1, none⟩ = some (.slice (some ⟨R.og, 0, none⟩) D.n R.ocap) ∧ W.cell? ⟨w.heap.size, 2, none⟩ = some (.slice R.pa D.pend.length R.pc) ∧ W.cell? ⟨w.heap.size, 3, none⟩ = some (.slice (some ⟨R.fg, 0, none⟩) 5 R.fcap) ∧ W.cell? ⟨w.heap.size, 4, none⟩ = some (.bool D.failed) ∧ W.cell? ⟨w.heap.size, 5, none⟩ = some (.int .i64 D.fuse) ∧ W.cell? ⟨w.heap.size, 6, none⟩ = some (.slice R.va R.vn R.vc) ∧ Calm w1 W) : Upds (fun _ => False) w1 W := h.2.2.2.2.2.2.2
set_option maxRecDepth 100000 in
set_option maxHeartbeats 4000000 in
theorem same_any (base : Nat) (L : Lay) (R : RV) (D : DS) (w : World) (hD : Dev w base L D) (hX : RefIs w R D) :
    Calls Try.prog 13 #[.pointer (some ⟨L.b, 0, none⟩), R.agg D] w fun e w' => e = .returned (.bool true) ∧ Upds (fun _ => False) w w' := by
  have few := hD.few.1
  have hn := hD.ok.most
  unfold RV.agg
  obtain ⟨w1, hw1⟩ : ∃ w1, w1 = w.alloc (.cells #[.slice (some ⟨R.sg, 0, none⟩) D.n R.scap, .slice (some ⟨R.og, 0, none⟩) D.n R.ocap, .slice R.pa D.pend.length R.pc, .slice (some ⟨R.fg, 0, none⟩) 5 R.fcap, .bool D.failed, .int .i64 D.fuse, .slice R.va R.vn R.vc] 32) := ⟨_, rfl⟩
  have hr1 : Row w1 w.heap.size 32 (R.cells D) := by
    rw [hw1]; exact Row.new w (R.cells D) _
  have hu1 : Upds (fun _ => False) w w1 := by rw [hw1]; exact Upds.alloc _ _
  have HALL : Hid (∀ W, Upds (fun _ => False) w1 W → Dev W base L D ∧ RefIs W R D ∧ Row W w.heap.size 32 (R.cells D)) := fun W hu => ⟨(hD.calm hu1).calm hu, (hX.calm hu1).calm hu, hr1.upd hu (fun h => h)⟩
  have HU1 := hid hu1
  have HW1 := hid hw1
  clear hr1 hu1 hw1 hD hX
  have HUd := hid (Upds.drew (F := fun _ => False) w1)
  have HR1 := hid (HALL.out w1 (Upds.refl _ _)).2.2
  have d0 := HR1.out.cell (i := 0) rfl
  have d4 := HR1.out.cell (i := 4) rfl
  have hq0 : ((D.n : Int) != (D.n : Int)) = false := by simp
  have hq1 : (D.failed != D.failed) = false := by simp
  go_enter Try.func13, Try.ntmps13
  go_upto_region 1 with fail
  rw [← HW1.out]
  go_cut [23] (fun s23 wx => s23 = .bool false ∧ Upds (fun _ => False) w1 wx)
  case first =>
    go_region_law (first
      | (go_simp; go_at_call 30; refine (sectors_any base L D _ (HALL.out _ HUd.out).1).mono ?_; rintro e w' ⟨rfl, rfl⟩; dsimp only)
      | (go_simp; go_at_call 31; refine (failed_any base L D _ (HALL.out _ HUd.out).1).mono ?_; rintro e w' ⟨rfl, rfl⟩; dsimp only))
    all_goals
      go_wp2_with fail
      go_meet
      exact ⟨rfl, HUd.out⟩
  case rest =>
    obtain ⟨rfl, hu⟩ := hcut
    have HU2 := hid hu
    clear hu d0 d4 HUd
    go_wp2_with fail
    go_loopw [5] (fun s5 wr => ∃ z : Int, -1 ≤ z ∧ z ≤ D.n + 1 ∧ s5 = .int .i64 z ∧ Upds (fun _ => False) w1 wr) (fun s5 _ => ((D.n : Int) + 1 - RowKit.intOf s5).toNat)
    case atStart => exact ⟨-1, by omega, by omega, rfl, HU2.out⟩
    case round =>
      obtain ⟨z, hz1, hz2, rfl, hu⟩ := hrel
      have HU := hid hu
      have d0 := (HALL.out _ hu).2.2.cell (i := 0) rfl
      clear hu
      by_cases hlt : z ≤ D.n
      · go_wp2_with fail
        clear d0
        refine (read_any base L D z wr (HALL.out _ HU.out).1).mono ?_
        rintro e w3 ⟨rfl, hu⟩
        have HU3 := hid (HU.out.trans hu)
        have hr3 := (HALL.out _ HU3.out).2.2
        clear hu
        have d0 := hr3.cell (i := 0) rfl
        have d1 := hr3.cell (i := 1) rfl
        have d2 := hr3.cell (i := 2) rfl
        have d3 := hr3.cell (i := 3) rfl
        have d4 := hr3.cell (i := 4) rfl
        have d5 := hr3.cell (i := 5) rfl
        have d6 := hr3.cell (i := 6) rfl
        clear hr3
        go_wp2_with fail
        refine (rread_any R D z w3 (HALL.out _ HU3.out).2.1 few).mono ?_
        rintro e w4 ⟨rfl, hu⟩
        have HU4 := hid (HU3.out.trans hu)
        have HUd := hid (HU4.out.trans (Upds.drew w4))
        have hr4 := (HALL.out _ HU4.out).2.2
        clear hu d0 d1 d2 d3 d4 d5 d6
        have d0 := hr4.cell (i := 0) rfl
        have d1 := hr4.cell (i := 1) rfl
        have d2 := hr4.cell (i := 2) rfl
        have d3 := hr4.cell (i := 3) rfl
        have d4 := hr4.cell (i := 4) rfl
        have d5 := hr4.cell (i := 5) rfl
        have d6 := hr4.cell (i := 6) rfl
        clear hr4
        obtain ⟨x, y, hxy⟩ : ∃ x y, D.read z = (x, y) := ⟨_, _, rfl⟩
        rw [hxy]
        obtain ⟨q, hq⟩ : ∃ q, q = D.old z := ⟨_, rfl⟩
        have HQ := hid hq
        clear hq hxy
        have hq2 : (x.toList != x.toList) = false := by simp
        have hq3 : (y != y) = false := by simp
        have hq4 : (q != q) = false := by simp
        go_upto_region 8 with fail
        clear d0 d1 d2 d3 d4 d5 d6
        go_cut [5, 59] (fun s5 s59 wx => s5 = .int .i64 z ∧ s59 = .bool false ∧ Upds (fun _ => False) w1 wx)
        case first =>
          have KS : Hid (∀ W, Calm w1 W → W.cell? ⟨w.heap.size, 0, none⟩ = some (.slice (some ⟨R.sg, 0, none⟩) D.n R.scap) ∧ W.cell? ⟨w.heap.size, 1, none⟩ = some (.slice (some ⟨R.og, 0, none⟩) D.n R.ocap) ∧ W.cell? ⟨w.heap.size, 2, none⟩ = some (.slice R.pa D.pend.length R.pc) ∧ W.cell? ⟨w.heap.size, 3, none⟩ = some (.slice (some ⟨R.fg, 0, none⟩) 5 R.fcap) ∧ W.cell? ⟨w.heap.size, 4, none⟩ = some (.bool D.failed) ∧ W.cell? ⟨w.heap.size, 5, none⟩ = some (.int .i64 D.fuse) ∧ W.cell? ⟨w.heap.size, 6, none⟩ = some (.slice R.va R.vn R.vc) ∧ Calm w1 W) := hid (fun W hu => by
            obtain ⟨h0, h1, h2, h3, h4, h5, h6⟩ := cells7 (HALL.out W hu).2.2
            exact ⟨h0, h1, h2, h3, h4, h5, h6, hu⟩)
          go_region_held3 (fun W => W.cell? ⟨w.heap.size, 0, none⟩ = some (.slice (some ⟨R.sg, 0, none⟩) D.n R.scap) ∧ W.cell? ⟨w.heap.size, 1, none⟩ = some (.slice (some ⟨R.og, 0, none⟩) D.n R.ocap) ∧ W.cell? ⟨w.heap.size, 2, none⟩ = some (.slice R.pa D.pend.length R.pc) ∧ W.cell? ⟨w.heap.size, 3, none⟩ = some (.slice (some ⟨R.fg, 0, none⟩) 5 R.fcap) ∧ W.cell? ⟨w.heap.size, 4, none⟩ = some (.bool D.failed) ∧ W.cell? ⟨w.heap.size, 5, none⟩ = some (.int .i64 D.fuse) ∧ W.cell? ⟨w.heap.size, 6, none⟩ = some (.slice R.va R.vn R.vc) ∧ Calm w1 W) (first | assumption | exact KS.out _ HUd.out | exact KS.out _ (Upds.trans (calm7 (R := R) (D := D) (w := w) (w1 := w1) (by assumption)) hu5))
            (first
            | (go_at_call 26; refine (old_any base L D z _ (HALL.out _ (calm7 (R := R) (D := D) (w := w) (w1 := w1) (by assumption))).1).mono ?_; rintro e w' ⟨rfl, rfl⟩; rw [← HQ.out])
            | (go_at_call 33; refine (rearlier_any R D z _ (HALL.out _ (calm7 (R := R) (D := D) (w := w) (w1 := w1) (by assumption))).2.1).mono ?_; rintro e w5 ⟨rfl, hu5⟩; rw [← HQ.out]))
          all_goals
            have HC := hid (calm7 (R := R) (D := D) (w := w) (w1 := w1) (by assumption))
            go_wp2_with fail
            go_meet
            exact ⟨rfl, rfl, HC.out⟩
        case rest =>
          obtain ⟨rfl, rfl, hu⟩ := hcut
          have HU5 := hid hu
          clear hu
          go_wp2_with fail
          go_roundw
          case rel => exact ⟨z + 1, by omega, by omega, by go_num, HU5.out⟩
          case measure => simp [RowKit.intOf]; omega
      · go_wp2_with fail
        go_loopw [10] (fun s10 wr => ∃ z : Int, 0 ≤ z ∧ z ≤ 6 ∧ s10 = .int .i64 z ∧ Upds (fun _ => False) w1 wr) (fun s10 _ => (6 - RowKit.intOf s10).toNat)
        case atStart => exact ⟨0, by omega, by omega, rfl, HU.out⟩
        case round =>
          obtain ⟨y, hy1, hy2, rfl, hu⟩ := hrel
          have HV := hid hu
          have HVd := hid (hu.trans (Upds.drew _))
          have hr4 := (HALL.out _ hu).2.2
          clear hu d0 HU
          by_cases hl5 : y ≤ 5
          · have d0 := hr4.cell (i := 0) rfl
            have d1 := hr4.cell (i := 1) rfl
            have d2 := hr4.cell (i := 2) rfl
            have d3 := hr4.cell (i := 3) rfl
            have d4 := hr4.cell (i := 4) rfl
            have d5 := hr4.cell (i := 5) rfl
            have d6 := hr4.cell (i := 6) rfl
            clear hr4
            obtain ⟨q, hq⟩ : ∃ q, q = D.count y := ⟨_, rfl⟩
            have HQ := hid hq
            clear hq
            have hq4 : ((q : Int) != (q : Int)) = false := by simp
            go_upto_region 13 with fail
            go_cut [10, 70] (fun s10 s70 wx => s10 = .int .i64 y ∧ s70 = .bool false ∧ Upds (fun _ => False) w1 wx)
            case first =>
              go_region_law (first
                | (go_simp; go_at_call 23; refine (pending_any base L D y _ (HALL.out _ (by first | exact HVd.out | exact HVq.out)).1).mono ?_; rintro e wp ⟨rfl, hup⟩; rw [← HQ.out]
                   have HVp : Hid (Upds (fun _ => False) w1 wp) := by first | exact hid (HVq.out.trans hup) | exact hid (HVd.out.trans hup)
                   have hrp := (HALL.out _ HVp.out).2.2
                   have p0 := hrp.cell (i := 0) rfl
                   have p1 := hrp.cell (i := 1) rfl
                   have p2 := hrp.cell (i := 2) rfl
                   have p3 := hrp.cell (i := 3) rfl
                   have p4 := hrp.cell (i := 4) rfl
                   have p5 := hrp.cell (i := 5) rfl
                   have p6 := hrp.cell (i := 6) rfl
                   clear hup hrp
                   dsimp only)
                | (go_simp; go_at_call 34; refine (rwaiting_any R D y _ (HALL.out _ (by first | exact HVd.out | exact HVp.out)).2.1 few).mono ?_; rintro e wq ⟨rfl, huq⟩; rw [← HQ.out]
                   have HVq : Hid (Upds (fun _ => False) w1 wq) := by first | exact hid (HVp.out.trans huq) | exact hid (HVd.out.trans huq)
                   clear huq
                   dsimp only))
              all_goals
                go_wp2_with fail
                go_meet
                refine ⟨rfl, rfl, ?_⟩
                first | exact HVq.out | exact HVp.out
            case rest =>
              obtain ⟨rfl, rfl, hu⟩ := hcut
              have HU5 := hid hu
              clear hu
              go_wp2_with fail
              go_roundw
              case rel => exact ⟨y + 1, by omega, by omega, by go_num, HU5.out⟩
              case measure => simp [RowKit.intOf]; omega
          · go_wp2_with fail
            go_ret
            exact ⟨rfl, HU1.out.trans HV.out⟩
end Go.Proofs.Ytiehchbaiikjiaa
