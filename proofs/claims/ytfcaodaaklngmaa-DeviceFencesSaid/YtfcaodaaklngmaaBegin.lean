import Derived.Test.YtfcaodaaklngmaaRefD
/-! begin: a device and its reference. -/
namespace Go.Proofs.Ytfcaodaaklngmaa
open Go.Lib Go.ChangeShapes Go.WideShapes Go.ChangeAt Go.RowKit

def BeginPost (n : Nat) (w : World) (e : Ending) (w' : World) : Prop := ∃ (L : Lay) (R : RV), e = .returned (.tuple #[.pointer (some ⟨L.b, 0, none⟩), R.agg (DS.fresh n), .bool true]) ∧ Dev w' w.heap.size L (DS.fresh n) ∧ RefIs w' R (DS.fresh n) ∧ Upds (fun _ => False) w w'
theorem Dev.lower {w : World} {base b' : Nat} {L : Lay} {D : DS} (h : Dev w base L D) (hb : b' ≤ base) : Dev w b' L D :=
  ⟨h.blk, h.secs, h.pend, h.surv, fun x h0 hx => ⟨Nat.le_trans hb (h.sva x h0 hx).1, (h.sva x h0 hx).2⟩, Nat.le_trans hb h.hb, Nat.le_trans hb h.hsb, fun k hk => Nat.le_trans hb (h.hpb k hk), h.ok, h.cap, h.few⟩
theorem DS.fresh_fuse (n : Nat) : (DS.fresh n).fuse = -1 := rfl
set_option maxRecDepth 100000 in
theorem begin_any (s : Nat) (hs : s ≤ 255) (w : World) : Calls Try.prog 15 #[.int .u8 s] w (BeginPost (1 + s % 6) w) := by
  obtain ⟨n, hn⟩ : ∃ n : Nat, n = 1 + s % 6 := ⟨_, rfl⟩
  rw [← hn]
  have h1 : 1 ≤ n := by omega
  have h2 : n ≤ 1155 := by omega
  have HC : Hid ((1 + (s : Int) % 6 : Int) = n) := hid (by omega)
  clear hn
  go_enter Try.func15, Try.ntmps15
  go_upto_region 2 with fail
  rw [HC.out]
  generalize (s : Int) % 6 = r
  clear HC
  obtain ⟨w1, hw1⟩ : ∃ w1, w1 = w.alloc (.cells #[.slice none 0 0, .slice none 0 0, .slice none 0 0, .slice none 0 0, .bool false, .int .i64 0, .slice none 0 0] 32) := ⟨_, rfl⟩
  have hr1 : Row w1 w.heap.size 32 [.slice none 0 0, .slice none 0 0, .slice none 0 0, .slice none 0 0, .bool false, .int .i64 0, .slice none 0 0] := by
    rw [hw1]; exact Row.new w [.slice none 0 0, .slice none 0 0, .slice none 0 0, .slice none 0 0, .bool false, .int .i64 0, .slice none 0 0] _
  have hu1 : Upds (fun _ => False) w w1 := by rw [hw1]; exact Upds.alloc _ _
  rw [← hw1]
  have hlt1 := hr1.lt
  have HR1 := hid hr1
  have HU1 := hid hu1
  clear hw1 hr1 hu1
  go_wp2_with fail
  refine (new_any n h1 h2 w1).mono ?_
  intro e w2 hx
  obtain ⟨L, rfl, hd, hu⟩ := hx
  have HD2 := hid hd
  have HU2 := hid (HU1.out.trans hu)
  have HR2 := hid (HR1.out.upd hu (fun h => h))
  clear hd hu HR1
  go_wp2_with fail
  refine (rnew_any n h1 h2 w2).mono ?_
  intro e w3 hx
  obtain ⟨R, rfl, hd, hu⟩ := hx
  have HX3 := hid hd
  have HD3 := hid (HD2.out.calm hu)
  have HU3 := hid (HU2.out.trans hu)
  have HR3 := hid (HR2.out.upd hu (fun h => h))
  clear hd hu HR2 HD2 HU2
  rw [show R.agg (DS.fresh n) = .agg #[.slice (some ⟨R.sg, 0, none⟩) n R.scap, .slice (some ⟨R.og, 0, none⟩) n R.ocap, .slice R.pa 0 R.pc, .slice (some ⟨R.fg, 0, none⟩) 5 R.fcap, .bool false, .int .i64 (-1), .slice R.va R.vn R.vc] from rfl]
  go_upto_region 4 with fail
  obtain ⟨w4, hw4⟩ : ∃ w4, w4 = w3.alloc (.cells #[.slice (some ⟨R.sg, 0, none⟩) n R.scap, .slice (some ⟨R.og, 0, none⟩) n R.ocap, .slice R.pa 0 R.pc, .slice (some ⟨R.fg, 0, none⟩) 5 R.fcap, .bool false, .int .i64 (-1), .slice R.va R.vn R.vc] 32) := ⟨_, rfl⟩
  have hr4 : Row w4 w3.heap.size 32 [.slice (some ⟨R.sg, 0, none⟩) n R.scap, .slice (some ⟨R.og, 0, none⟩) n R.ocap, .slice R.pa 0 R.pc, .slice (some ⟨R.fg, 0, none⟩) 5 R.fcap, .bool false, .int .i64 (-1), .slice R.va R.vn R.vc] := by
    rw [hw4]; exact Row.new w3 [.slice (some ⟨R.sg, 0, none⟩) n R.scap, .slice (some ⟨R.og, 0, none⟩) n R.ocap, .slice R.pa 0 R.pc, .slice (some ⟨R.fg, 0, none⟩) 5 R.fcap, .bool false, .int .i64 (-1), .slice R.va R.vn R.vc] _
  have hu4 : Upds (fun _ => False) w3 w4 := by rw [hw4]; exact Upds.alloc _ _
  have HX4 := hid (HX3.out.calm hu4)
  have HD4 := hid (HD3.out.calm hu4)
  have HU4 := hid (HU3.out.trans hu4)
  have hm := HR3.out.upd hu4 (fun h => h)
  rw [← hw4]
  have c0 := hr4.cell (i := 0) rfl
  have c1 := hr4.cell (i := 1) rfl
  have c2 := hr4.cell (i := 2) rfl
  have c3 := hr4.cell (i := 3) rfl
  have c4 := hr4.cell (i := 4) rfl
  have c5 := hr4.cell (i := 5) rfl
  have c6 := hr4.cell (i := 6) rfl
  have z0 := hm.cell (i := 0) rfl
  have e0 := hm.frozen 0
  have z1 := hm.cell (i := 1) rfl
  have e1 := hm.frozen 1
  have z2 := hm.cell (i := 2) rfl
  have e2 := hm.frozen 2
  have z3 := hm.cell (i := 3) rfl
  have e3 := hm.frozen 3
  have z4 := hm.cell (i := 4) rfl
  have e4 := hm.frozen 4
  have z5 := hm.cell (i := 5) rfl
  have e5 := hm.frozen 5
  have z6 := hm.cell (i := 6) rfl
  have e6 := hm.frozen 6
  have hlt4 := hr4.lt
  have hltm := hm.lt
  have HR4 := hid hm
  clear hw4 hr4 hu4 HX3 HD3 HU3 HR3 hm
  go_region
  go_wp2_with fail
  have hm := HR4.out
  obtain ⟨W, hW⟩ : ∃ W, W = ((((((((w4.setCell ⟨w.heap.size, 0, none⟩ (.slice (some ⟨R.sg, 0, none⟩) n R.scap)).setCell ⟨w.heap.size, 1, none⟩ (.slice (some ⟨R.og, 0, none⟩) n R.ocap)).setCell ⟨w.heap.size, 2, none⟩ (.slice R.pa 0 R.pc)).setCell ⟨w.heap.size, 3, none⟩ (.slice (some ⟨R.fg, 0, none⟩) 5 R.fcap)).setCell ⟨w.heap.size, 4, none⟩ (.bool false)).setCell ⟨w.heap.size, 5, none⟩ (.int .i64 (-1))).setCell ⟨w.heap.size, 6, none⟩ (.slice R.va R.vn R.vc)).drew) := ⟨_, rfl⟩
  have hres : Row W w.heap.size 32 [.slice (some ⟨R.sg, 0, none⟩) n R.scap, .slice (some ⟨R.og, 0, none⟩) n R.ocap, .slice R.pa 0 R.pc, .slice (some ⟨R.fg, 0, none⟩) 5 R.fcap, .bool false, .int .i64 (-1), .slice R.va R.vn R.vc] := by
    rw [hW]; exact (((((((hm.set 0 _).set 1 _).set 2 _).set 3 _).set 4 _).set 5 _).set 6 _).upd (F := fun _ => False) (Upds.drew _) (fun h => h)
  have hU : Upds (fun b => b = w.heap.size) w4 W := by
    rw [hW]; exact ((((((((Upds.set1 _ _ _ _).trans (Upds.set1 _ _ _ _)).trans (Upds.set1 _ _ _ _)).trans (Upds.set1 _ _ _ _)).trans (Upds.set1 _ _ _ _)).trans (Upds.set1 _ _ _ _)).trans (Upds.set1 _ _ _ _)).trans (Upds.drew _))
  have d0 := hres.cell (i := 0) rfl
  have d1 := hres.cell (i := 1) rfl
  have d2 := hres.cell (i := 2) rfl
  have d3 := hres.cell (i := 3) rfl
  have d4 := hres.cell (i := 4) rfl
  have d5 := hres.cell (i := 5) rfl
  have d6 := hres.cell (i := 6) rfl
  rw [← hW]
  refine bodyPost_ret (v := .tuple #[.pointer (some ⟨L.b, 0, none⟩), .agg #[.slice (some ⟨R.sg, 0, none⟩) n R.scap, .slice (some ⟨R.og, 0, none⟩) n R.ocap, .slice R.pa 0 R.pc, .slice (some ⟨R.fg, 0, none⟩) 5 R.fcap, .bool false, .int .i64 (-1), .slice R.va R.vn R.vc], .bool true]) (by simp [results, Try.f15, go_sem, d0, d1, d2, d3, d4, d5, d6]) rfl ?_
  refine ⟨L, R, rfl, (HD4.out.lower (by omega)).upd hU (fun k hk e => ?_) (fun k cur hc hk e => ?_), HX4.out.upd hU (fun b t cur ht hr e => ?_), HU4.out.trans' hU (fun b hb e => by omega)⟩
  · have := HD4.out.below k hk; omega
  · have hr : Row w4 w.heap.size 3 cur.toList := by unfold Row; rw [← e, hc]
    exact hr.ne hm (by decide) rfl
  · subst e
    rcases ht with rfl | rfl | rfl | rfl
    · exact hr.ne hm (by decide) rfl
    · exact hr.ne hm (by decide) rfl
    · exact hr.ne hm (by decide) rfl
    · exact hr.ne hm (by decide) rfl
end Go.Proofs.Ytfcaodaaklngmaa
