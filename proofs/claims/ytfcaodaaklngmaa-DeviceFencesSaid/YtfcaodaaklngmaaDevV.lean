import Derived.Test.YtfcaodaaklngmaaDevU
/-! Clone of a device. -/
namespace Go.Proofs.Ytfcaodaaklngmaa
open Go.Lib Go.ChangeShapes Go.WideShapes Go.ChangeAt Go.RowKit
set_option linter.unusedVariables false
set_option maxRecDepth 100000 in
set_option maxHeartbeats 2000000 in
theorem clone_dev (base : Nat) (L : Lay) (D : DS) (w : World) (hD : Dev w base L D) :
    Calls Try.prog 18 #[.pointer (some ⟨L.b, 0, none⟩)] w fun e w' => ∃ L2, e = .returned (.pointer (some ⟨L2.b, 0, none⟩)) ∧ Dev w' w.heap.size L2 D ∧ Upds (fun _ => False) w w' := by
  have c0 := hD.blk.cell (i := 0) rfl
  have c1 := hD.blk.cell (i := 1) rfl
  have c2 := hD.blk.cell (i := 2) rfl
  have c3 := hD.blk.cell (i := 3) rfl
  have c4 := hD.blk.cell (i := 4) rfl
  have c5 := hD.blk.cell (i := 5) rfl
  have c6 := hD.blk.cell (i := 6) rfl
  have c7 := hD.blk.cell (i := 7) rfl
  have c8 := hD.blk.cell (i := 8) rfl
  have c9 := hD.blk.cell (i := 9) rfl
  obtain ⟨pa, pc, hpv, hp1, hp2⟩ := hD.pend.shape
  rw [hpv] at c1
  have HD := hid hD
  have HPV := hid hpv
  clear hD hpv hp1 hp2
  go_enter Try.func18, Try.ntmps18
  go_upto_region 2 with fail
  obtain ⟨w1, hw1⟩ : ∃ w1, w1 = w.alloc (.cells #[.slice (some ⟨L.sb, 0, none⟩) D.n L.sc, .slice pa D.pend.length pc, .int .i64 (D.fen 0), .int .i64 (D.fen 1), .int .i64 (D.fen 2), .int .i64 (D.fen 3), .bool D.failed, .bool D.waits, .int .i64 D.left, .slice L.va D.surv.length L.vc] 70) := ⟨_, rfl⟩
  have hu1 : Upds (fun _ => False) w w1 := by rw [hw1]; exact Upds.alloc _ _
  have hr1 : Row w1 w.heap.size 70 (L.cells D) := by rw [hw1]; unfold Lay.cells; rw [HPV.out]; exact Row.new w [_, _, _, _, _, _, _, _, _, _] _
  have HD1 := hid (HD.out.calm hu1)
  have HU1 := hid hu1
  have HR1 := hid hr1
  have HW1 := hid hw1
  clear hu1 hr1 hw1 c0 c1 c2 c3 c4 c5 c6 c7 c8 c9
  have c0 := HD1.out.blk.cell (i := 0) rfl
  rw [← HW1.out]
  clear HW1
  go_wp2_with fail
  refine (clone_secs L.sb D.n L.sc D.sec HD1.out.ok.pos HD1.out.ok.most w1 HD1.out.secs).mono ?_
  rintro e w2 ⟨g, cap, rfl, hg, hnc, hcm, hs2, hu2⟩
  have hr2 := HR1.out.upd hu2 (fun h => h)
  have z0 := hr2.cell (i := 0) rfl
  have f0 := hr2.frozen 0
  have hc2 : Upds (fun k => k = w.heap.size) w2 (w2.setCell ⟨w.heap.size, 0, none⟩ (.slice (some ⟨g, 0, none⟩) D.n cap)) := Upds.set _ _ _ rfl
  have hr3 := hr2.set 0 (.slice (some ⟨g, 0, none⟩) D.n cap)
  have hlt := HU1.out.size
  have hrl := HR1.out.lt
  have hgb : ¬ g = w.heap.size := by omega
  have hu3 := (HU1.out.trans hu2).trans' (F := fun _ => False) hc2 (fun i hi h => by omega)
  have hs3 := hs2.upd hc2 hgb
  obtain ⟨w3, hw3⟩ : ∃ w3, w3 = w2.setCell ⟨w.heap.size, 0, none⟩ (.slice (some ⟨g, 0, none⟩) D.n cap) := ⟨_, rfl⟩
  rw [← hw3] at hr3 hu3 hs3
  have HD3 := hid (HD.out.calm hu3)
  have HU3 := hid hu3
  have HS3 := hid hs3
  have HW3 := hid hw3
  have HR3 := hid hr3
  have HG := hid (And.intro (Nat.le_trans hlt hg) (And.intro hnc hcm))
  have HGB := hid hgb
  clear c0 hw3 hr3 hu3 hs3 hc2 hlt hrl hgb hr2 hu2 hs2 hg hnc hcm
  go_upto_region 3 with fail
  rw [← HW3.out]
  clear HW3 z0 f0 HD1 HU1 HR1
  have c1 := HD3.out.blk.cell (i := 1) rfl
  rw [HPV.out] at c1
  go_wp2_with fail
  have hpd := HD3.out.pend
  rw [HPV.out] at hpd
  refine (clone_pend pa pc D.pend w3 hpd HD3.out.few.1).mono ?_
  rintro e w4 ⟨pv4, rfl, hp4, hh4, hu4⟩
  have hr4 := HR3.out.upd hu4 (fun h => h)
  have z1 := hr4.cell (i := 1) rfl
  have f1 := hr4.frozen 1
  have hc4 : Upds (fun k => k = w.heap.size) w4 (w4.setCell ⟨w.heap.size, 1, none⟩ pv4) := Upds.set _ _ _ rfl
  have hr5 := hr4.set 1 pv4
  have hlt := HU3.out.size
  have hrl := HR3.out.lt
  have hpb : ∀ k, Value.home pv4 k → ¬ k = w.heap.size := fun k hk => by have := hh4 k hk; omega
  have hu5 := (HU3.out.trans hu4).trans' (F := fun _ => False) hc4 (fun i hi h => by omega)
  have hs5 := (HS3.out.upd hu4 (fun h => h)).upd hc4 HGB.out
  have hp5 := hp4.upd hc4 hpb
  obtain ⟨pa4, pc4, hpv4, _, _⟩ := hp4.shape
  have hh5 : ∀ k, Value.home pv4 k → w.heap.size ≤ k := fun k hk => Nat.le_trans hlt (hh4 k hk)
  rw [hpv4] at hpb hp5 hr5 hu5 hs5 hh5
  subst hpv4
  obtain ⟨w5, hw5⟩ : ∃ w5, w5 = w4.setCell ⟨w.heap.size, 1, none⟩ (.slice pa4 D.pend.length pc4) := ⟨_, rfl⟩
  rw [← hw5] at hr5 hu5 hs5 hp5
  have HD5 := hid (HD.out.calm hu5)
  have HU5 := hid hu5
  have HS5 := hid hs5
  have HP5 := hid hp5
  have HH5 := hid hh5
  have HPB := hid hpb
  have HW5 := hid hw5
  have HR5 := hid hr5
  clear c1 hw5 hr5 hu5 hs5 hp5 hc4 hlt hrl hpb hr4 hu4 hp4 hh4 hh5
  go_upto_region 4 with fail
  rw [← HW5.out]
  clear HW5 z1 f1 HD3 HU3 HR3 HS3
  have c9 := HD5.out.blk.cell (i := 9) rfl
  go_wp2_with fail
  refine (clone_ints L.va L.vc D.surv w5 HD5.out.surv HD5.out.few.2).mono ?_
  rintro e w6 ⟨va, vc, rfl, hi6, hv6, hu6⟩
  have hr6 := HR5.out.upd hu6 (fun h => h)
  have z9 := hr6.cell (i := 9) rfl
  have f9 := hr6.frozen 9
  have hc6 : Upds (fun k => k = w.heap.size) w6 (w6.setCell ⟨w.heap.size, 9, none⟩ (.slice va D.surv.length vc)) := Upds.set _ _ _ rfl
  have hr7 := hr6.set 9 (.slice va D.surv.length vc)
  have hlt := HU5.out.size
  have hrl := HR5.out.lt
  have hu7 := (HU5.out.trans hu6).trans' (F := fun _ => False) hc6 (fun i hi h => by omega)
  have hs7 := (HS5.out.upd hu6 (fun h => h)).upd hc6 HGB.out
  have hp7 := (HP5.out.upd hu6 (fun _ _ h => h)).upd hc6 HPB.out
  have hi7 := hi6.upd hc6 (fun x hx h0 h => by have := (hv6 x h0 hx).1; omega)
  have hv7 : ∀ x, 0 < D.surv.length → va = some x → w.heap.size ≤ x.block ∧ ∃ cur, (w6.setCell ⟨w.heap.size, 9, none⟩ (.slice va D.surv.length vc)).heap[x.block]? = some (.cells cur 3 (0, 0)) := fun x h0 hx => by
    obtain ⟨h1, cur, h2⟩ := hv6 x h0 hx
    exact ⟨by omega, cur, hc6.obj (by omega) h2⟩
  have hdev : Dev (w6.setCell ⟨w.heap.size, 9, none⟩ (.slice va D.surv.length vc)) w.heap.size ⟨w.heap.size, g, cap, .slice pa4 D.pend.length pc4, va, vc⟩ D :=
    ⟨hr7, hs7, hp7, hi7, hv7, Nat.le_refl _, HG.out.1, HH5.out, HD.out.ok, HG.out.2, HD.out.few⟩
  have HDEV := hid hdev
  have HU7 := hid hu7
  clear hdev hu7 hr7 hs7 hp7 hi7 hv7 hc6 hlt hrl c9 hr6 hu6 hi6 hv6
  go_wp2_with fail
  go_ret
  exact ⟨_, rfl, HDEV.out, HU7.out⟩
end Go.Proofs.Ytfcaodaaklngmaa
