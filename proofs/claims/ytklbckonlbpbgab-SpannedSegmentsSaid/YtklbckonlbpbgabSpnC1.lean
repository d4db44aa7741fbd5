import Derived.Test.YtklbckonlbpbgabSpnT7
import Derived.Test.YtklbckonlbpbgabDevH
import Derived.RegionTactic
import Derived.BigRegion
import Derived.Deep.DeepCutAuto
/-! A segment cut off a text. -/
namespace Go.Proofs.Ytklbckonlbpbgab
open Go.Lib Go.ChangeShapes Go.WideShapes Go.ChangeAt Go.RowKit
set_option linter.unusedVariables false

/-- what is answered if no segment stands at the head -/
abbrev noSeg : Value := .tuple #[Seg.val ⟨false, false, ⟨#[]⟩⟩, .string ⟨#[]⟩, .bool false]
theorem ix_at (d : ByteArray) (j : Int) (i c : Nat) (hj : j = i) (h : i < d.size) (hc : (d[i]'h).toNat = c) (W : World) : (Instr.index 9 (.string d) (.int .i64 j)).run Try.prog W = .ok (.int .u8 c) W := by
  subst hj
  rw [run_index_string W 9 d .i64 i Try.underlying9, dif_pos ⟨by omega, by omega⟩]
  simp only [Int.toNat_natCast, hc]
set_option maxRecDepth 100000 in
set_option maxHeartbeats 2000000 in
theorem scut_short (t : ByteArray) (h4 : t.size < 4) (w : World) : Calls Try.prog 27 #[.string t] w (Gives noSeg w) := by
  have hd : ((t.size : Int) < 4) := by omega
  obtain ⟨w1, hw1⟩ : ∃ q, q = w.alloc (.cells #[.bool false, .bool false, .string ⟨#[]⟩] 36) := ⟨_, rfl⟩
  have HW1 : Hid (w.alloc (.cells #[.bool false, .bool false, .string ⟨#[]⟩] 36) = w1) := hid hw1.symm
  have hb1 : Below w.heap.size w w1 := by rw [hw1]; exact (Below.refl _ _).alloc (Nat.le_refl _) _
  have hr1 : Row w1 w.heap.size 36 [.bool false, .bool false, .string ⟨#[]⟩] := by rw [hw1]; exact Row.new w [.bool false, .bool false, .string ⟨#[]⟩] _
  have HB1 := hid hb1
  have HR1 := hid hr1
  clear hb1 hr1
  have hr2 := HR1.out
  clear hw1 h4
  have s0 := hr2.cell (i := 0) rfl
  have s1 := hr2.cell (i := 1) rfl
  have s2 := hr2.cell (i := 2) rfl
  have t0 := hr2.frozen 0
  have t1 := hr2.frozen 1
  have t2 := hr2.frozen 2
  have HR2 := hid hr2
  clear hr2
  go_enter Try.func27, Try.ntmps27
  go_upto_region 1 with fail
  rw [HW1.out]
  go_wp2_with fail
  have hr5 := ((HR2.out.set 0 (.bool false)).set 1 (.bool false)).set 2 (.string ⟨#[]⟩)
  have u1 : Upds (fun k => k = w.heap.size) w1 (w1.setCell ⟨w.heap.size, 0, none⟩ (.bool false)) := Upds.set _ _ _ rfl
  have u2 : Upds (fun k => k = w.heap.size) (w1.setCell ⟨w.heap.size, 0, none⟩ (.bool false)) ((w1.setCell ⟨w.heap.size, 0, none⟩ (.bool false)).setCell ⟨w.heap.size, 1, none⟩ (.bool false)) := Upds.set _ _ _ rfl
  have u3 : Upds (fun k => k = w.heap.size) ((w1.setCell ⟨w.heap.size, 0, none⟩ (.bool false)).setCell ⟨w.heap.size, 1, none⟩ (.bool false)) (((w1.setCell ⟨w.heap.size, 0, none⟩ (.bool false)).setCell ⟨w.heap.size, 1, none⟩ (.bool false)).setCell ⟨w.heap.size, 2, none⟩ (.string ⟨#[]⟩)) := Upds.set _ _ _ rfl
  have q0 := hr5.cell (i := 0) rfl
  have q1 := hr5.cell (i := 1) rfl
  have q2 := hr5.cell (i := 2) rfl
  have hb6 := HB1.out.trans (((u1.trans u2).trans u3).below HB1.out.size (fun k hk => by omega))
  refine bodyPost_ret (v := .tuple #[.agg #[.bool false, .bool false, .string ⟨#[]⟩], .string ⟨#[]⟩, .bool false]) ?_ rfl ⟨rfl, hb6⟩
  simp [results, Try.results27, go_sem, q0, q1, q2]
set_option maxRecDepth 100000 in
set_option maxHeartbeats 2000000 in
theorem scut_none (t z : ByteArray) (hs : t.size ≤ 1000000) (h4 : 4 ≤ t.size) (hz : t.extract 0 2 ++ ⟨#[0]⟩ ++ t.extract 3 4 = z) (c : Nat) (hc : (t[2]'(by omega)).toNat = c) (hn : ∀ n ≤ 65535, z ≠ word n) (w : World) : Calls Try.prog 27 #[.string t] w (Gives noSeg w) := by
  have hd : ¬ ((t.size : Int) < 4) := by omega
  have S1 := fun W => sl_to t 2 2 rfl (by omega) W
  have S2 := fun W => sl_ab t 3 4 3 4 rfl rfl (by omega) (by omega) W
  have hxs : (t.extract 0 2).size = 2 := by rw [ByteArray.size_extract]; omega
  have hys : (t.extract 3 4).size = 1 := by rw [ByteArray.size_extract]; omega
  obtain ⟨x, hx⟩ : ∃ x, x = t.extract 0 2 := ⟨_, rfl⟩
  obtain ⟨y, hy⟩ : ∃ y, y = t.extract 3 4 := ⟨_, rfl⟩
  rw [← hx] at hz S1 hxs
  rw [← hy] at hz S2 hys
  have I2 := fun W => ix_at t 2 2 c rfl (by omega) hc W
  have hc9 : c ≤ 255 := by rw [← hc]; have := (t[2]'(by omega)).toNat_lt; omega
  have HR := fun W => hid (readWord_no z (by rw [← hz, ByteArray.size_append, ByteArray.size_append, hxs, hys]; show 2 + 1 + 1 ≤ _; omega) hn W)
  have HZ := hid hz
  clear hx hy hc hz hn
  obtain ⟨w1, hw1⟩ : ∃ q, q = w.alloc (.cells #[.bool false, .bool false, .string ⟨#[]⟩] 36) := ⟨_, rfl⟩
  have HW1 : Hid (w.alloc (.cells #[.bool false, .bool false, .string ⟨#[]⟩] 36) = w1) := hid hw1.symm
  have hb1 : Below w.heap.size w w1 := by rw [hw1]; exact (Below.refl _ _).alloc (Nat.le_refl _) _
  have hr1 : Row w1 w.heap.size 36 [.bool false, .bool false, .string ⟨#[]⟩] := by rw [hw1]; exact Row.new w [.bool false, .bool false, .string ⟨#[]⟩] _
  have HB1 := hid hb1
  have HR1 := hid hr1
  clear hb1 hr1
  clear hw1 h4
  go_enter Try.func27, Try.ntmps27
  go_upto_region 1 with fail
  rw [HW1.out]
  go_upto_region 3 with fail
  go_cut [5, 6] (fun s5 s6 wx => s5 = .int .i64 0 ∧ s6 = .bool false ∧ ∃ wq, wq = wx ∧ Below w1.heap.size w1 wq)
  case first =>
    go_region_law (first | (go_simp; (try rw [HZ.out]); go_at_call 26; (with_reducible refine (HR _).out.mono ?_); rintro e w5 ⟨rfl, hb⟩; have HB5 := hid ((below_drew w1).trans (hb.mono (below_drew w1).size)); clear hb; dsimp only))
    all_goals
      go_wp2_with fail
      go_meet
      exact ⟨rfl, rfl, _, rfl, HB5.out⟩
  case rest =>
    obtain ⟨rfl, rfl, wq, rfl, hbx⟩ := hcut
    have hr2 := HR1.out.upd (F := fun _ => False) (Upds.of_below hbx (Nat.le_refl _)) (fun h => h)
    have HBX := hid (HB1.out.trans (hbx.mono HB1.out.size))
    clear hbx
    have s0 := hr2.cell (i := 0) rfl
    have s1 := hr2.cell (i := 1) rfl
    have s2 := hr2.cell (i := 2) rfl
    have t0 := hr2.frozen 0
    have t1 := hr2.frozen 1
    have t2 := hr2.frozen 2
    have HR2 := hid hr2
    clear hr2
    go_wp2_with fail
    have hr5 := ((HR2.out.set 0 (.bool false)).set 1 (.bool false)).set 2 (.string ⟨#[]⟩)
    have u1 : Upds (fun k => k = w.heap.size) wq (wq.setCell ⟨w.heap.size, 0, none⟩ (.bool false)) := Upds.set _ _ _ rfl
    have u2 : Upds (fun k => k = w.heap.size) (wq.setCell ⟨w.heap.size, 0, none⟩ (.bool false)) ((wq.setCell ⟨w.heap.size, 0, none⟩ (.bool false)).setCell ⟨w.heap.size, 1, none⟩ (.bool false)) := Upds.set _ _ _ rfl
    have u3 : Upds (fun k => k = w.heap.size) ((wq.setCell ⟨w.heap.size, 0, none⟩ (.bool false)).setCell ⟨w.heap.size, 1, none⟩ (.bool false)) (((wq.setCell ⟨w.heap.size, 0, none⟩ (.bool false)).setCell ⟨w.heap.size, 1, none⟩ (.bool false)).setCell ⟨w.heap.size, 2, none⟩ (.string ⟨#[]⟩)) := Upds.set _ _ _ rfl
    have q0 := hr5.cell (i := 0) rfl
    have q1 := hr5.cell (i := 1) rfl
    have q2 := hr5.cell (i := 2) rfl
    have hb6 := HBX.out.trans (((u1.trans u2).trans u3).below HBX.out.size (fun k hk => by omega))
    refine bodyPost_ret (v := .tuple #[.agg #[.bool false, .bool false, .string ⟨#[]⟩], .string ⟨#[]⟩, .bool false]) ?_ rfl ⟨rfl, hb6⟩
    simp [results, Try.results27, go_sem, q0, q1, q2]
set_option maxRecDepth 100000 in
set_option maxHeartbeats 2000000 in
theorem scut_few (t z : ByteArray) (hs : t.size ≤ 1000000) (h4 : 4 ≤ t.size) (hz : t.extract 0 2 ++ ⟨#[0]⟩ ++ t.extract 3 4 = z) (c : Nat) (hc : (t[2]'(by omega)).toNat = c) (n : Nat) (hn : n ≤ 65535) (hzn : z = word n) (h : n < 4) (w : World) : Calls Try.prog 27 #[.string t] w (Gives noSeg w) := by
  have hd : ¬ ((t.size : Int) < 4) := by omega
  have S1 := fun W => sl_to t 2 2 rfl (by omega) W
  have S2 := fun W => sl_ab t 3 4 3 4 rfl rfl (by omega) (by omega) W
  have hxs : (t.extract 0 2).size = 2 := by rw [ByteArray.size_extract]; omega
  have hys : (t.extract 3 4).size = 1 := by rw [ByteArray.size_extract]; omega
  obtain ⟨x, hx⟩ : ∃ x, x = t.extract 0 2 := ⟨_, rfl⟩
  obtain ⟨y, hy⟩ : ∃ y, y = t.extract 3 4 := ⟨_, rfl⟩
  rw [← hx] at hz S1 hxs
  rw [← hy] at hz S2 hys
  have I2 := fun W => ix_at t 2 2 c rfl (by omega) hc W
  have hc9 : c ≤ 255 := by rw [← hc]; have := (t[2]'(by omega)).toNat_lt; omega
  have HR := fun W => hid (readWord_yes n hn W)
  rw [← hzn] at HR
  have HZ := hid hz
  have k1 : ((n : Int) < 4) := by omega
  clear hx hy hc hz hzn
  obtain ⟨w1, hw1⟩ : ∃ q, q = w.alloc (.cells #[.bool false, .bool false, .string ⟨#[]⟩] 36) := ⟨_, rfl⟩
  have HW1 : Hid (w.alloc (.cells #[.bool false, .bool false, .string ⟨#[]⟩] 36) = w1) := hid hw1.symm
  have hb1 : Below w.heap.size w w1 := by rw [hw1]; exact (Below.refl _ _).alloc (Nat.le_refl _) _
  have hr1 : Row w1 w.heap.size 36 [.bool false, .bool false, .string ⟨#[]⟩] := by rw [hw1]; exact Row.new w [.bool false, .bool false, .string ⟨#[]⟩] _
  have HB1 := hid hb1
  have HR1 := hid hr1
  clear hb1 hr1
  clear hw1 h4
  go_enter Try.func27, Try.ntmps27
  go_upto_region 1 with fail
  rw [HW1.out]
  go_upto_region 3 with fail
  go_cut [5, 6] (fun s5 s6 wx => s5 = .int .i64 n ∧ s6 = .bool true ∧ ∃ wq, wq = wx ∧ Below w1.heap.size w1 wq)
  case first =>
    go_region_law (first | (go_simp; (try rw [HZ.out]); go_at_call 26; (with_reducible refine (HR _).out.mono ?_); rintro e w5 ⟨rfl, hb⟩; have HB5 := hid ((below_drew w1).trans (hb.mono (below_drew w1).size)); clear hb; dsimp only))
    all_goals
      go_wp2_with fail
      go_meet
      exact ⟨rfl, rfl, _, rfl, HB5.out⟩
  case rest =>
    obtain ⟨rfl, rfl, wq, rfl, hbx⟩ := hcut
    have hr2 := HR1.out.upd (F := fun _ => False) (Upds.of_below hbx (Nat.le_refl _)) (fun h => h)
    have HBX := hid (HB1.out.trans (hbx.mono HB1.out.size))
    clear hbx
    have s0 := hr2.cell (i := 0) rfl
    have s1 := hr2.cell (i := 1) rfl
    have s2 := hr2.cell (i := 2) rfl
    have t0 := hr2.frozen 0
    have t1 := hr2.frozen 1
    have t2 := hr2.frozen 2
    have HR2 := hid hr2
    clear hr2
    go_wp2_with fail
    have hr5 := ((HR2.out.set 0 (.bool false)).set 1 (.bool false)).set 2 (.string ⟨#[]⟩)
    have u1 : Upds (fun k => k = w.heap.size) wq (wq.setCell ⟨w.heap.size, 0, none⟩ (.bool false)) := Upds.set _ _ _ rfl
    have u2 : Upds (fun k => k = w.heap.size) (wq.setCell ⟨w.heap.size, 0, none⟩ (.bool false)) ((wq.setCell ⟨w.heap.size, 0, none⟩ (.bool false)).setCell ⟨w.heap.size, 1, none⟩ (.bool false)) := Upds.set _ _ _ rfl
    have u3 : Upds (fun k => k = w.heap.size) ((wq.setCell ⟨w.heap.size, 0, none⟩ (.bool false)).setCell ⟨w.heap.size, 1, none⟩ (.bool false)) (((wq.setCell ⟨w.heap.size, 0, none⟩ (.bool false)).setCell ⟨w.heap.size, 1, none⟩ (.bool false)).setCell ⟨w.heap.size, 2, none⟩ (.string ⟨#[]⟩)) := Upds.set _ _ _ rfl
    have q0 := hr5.cell (i := 0) rfl
    have q1 := hr5.cell (i := 1) rfl
    have q2 := hr5.cell (i := 2) rfl
    have hb6 := HBX.out.trans (((u1.trans u2).trans u3).below HBX.out.size (fun k hk => by omega))
    refine bodyPost_ret (v := .tuple #[.agg #[.bool false, .bool false, .string ⟨#[]⟩], .string ⟨#[]⟩, .bool false]) ?_ rfl ⟨rfl, hb6⟩
    simp [results, Try.results27, go_sem, q0, q1, q2]
set_option maxRecDepth 100000 in
set_option maxHeartbeats 2000000 in
theorem scut_size (t z : ByteArray) (hs : t.size ≤ 1000000) (h4 : 4 ≤ t.size) (hz : t.extract 0 2 ++ ⟨#[0]⟩ ++ t.extract 3 4 = z) (c : Nat) (hc : (t[2]'(by omega)).toNat = c) (n : Nat) (hn : n ≤ 65535) (hzn : z = word n) (h : ¬ n < 4) (h1 : t.size < n) (w : World) : Calls Try.prog 27 #[.string t] w (Gives noSeg w) := by
  have hd : ¬ ((t.size : Int) < 4) := by omega
  have S1 := fun W => sl_to t 2 2 rfl (by omega) W
  have S2 := fun W => sl_ab t 3 4 3 4 rfl rfl (by omega) (by omega) W
  have hxs : (t.extract 0 2).size = 2 := by rw [ByteArray.size_extract]; omega
  have hys : (t.extract 3 4).size = 1 := by rw [ByteArray.size_extract]; omega
  obtain ⟨x, hx⟩ : ∃ x, x = t.extract 0 2 := ⟨_, rfl⟩
  obtain ⟨y, hy⟩ : ∃ y, y = t.extract 3 4 := ⟨_, rfl⟩
  rw [← hx] at hz S1 hxs
  rw [← hy] at hz S2 hys
  have I2 := fun W => ix_at t 2 2 c rfl (by omega) hc W
  have hc9 : c ≤ 255 := by rw [← hc]; have := (t[2]'(by omega)).toNat_lt; omega
  have HR := fun W => hid (readWord_yes n hn W)
  rw [← hzn] at HR
  have HZ := hid hz
  have k1 : ¬ ((n : Int) < 4) := by omega
  have k2 : ((t.size : Int) < (n : Int)) := by omega
  clear hx hy hc hz hzn
  obtain ⟨w1, hw1⟩ : ∃ q, q = w.alloc (.cells #[.bool false, .bool false, .string ⟨#[]⟩] 36) := ⟨_, rfl⟩
  have HW1 : Hid (w.alloc (.cells #[.bool false, .bool false, .string ⟨#[]⟩] 36) = w1) := hid hw1.symm
  have hb1 : Below w.heap.size w w1 := by rw [hw1]; exact (Below.refl _ _).alloc (Nat.le_refl _) _
  have hr1 : Row w1 w.heap.size 36 [.bool false, .bool false, .string ⟨#[]⟩] := by rw [hw1]; exact Row.new w [.bool false, .bool false, .string ⟨#[]⟩] _
  have HB1 := hid hb1
  have HR1 := hid hr1
  clear hb1 hr1
  clear hw1 h4
  go_enter Try.func27, Try.ntmps27
  go_upto_region 1 with fail
  rw [HW1.out]
  go_upto_region 3 with fail
  go_cut [5, 6] (fun s5 s6 wx => s5 = .int .i64 n ∧ s6 = .bool true ∧ ∃ wq, wq = wx ∧ Below w1.heap.size w1 wq)
  case first =>
    go_region_law (first | (go_simp; (try rw [HZ.out]); go_at_call 26; (with_reducible refine (HR _).out.mono ?_); rintro e w5 ⟨rfl, hb⟩; have HB5 := hid ((below_drew w1).trans (hb.mono (below_drew w1).size)); clear hb; dsimp only))
    all_goals
      go_wp2_with fail
      go_meet
      exact ⟨rfl, rfl, _, rfl, HB5.out⟩
  case rest =>
    obtain ⟨rfl, rfl, wq, rfl, hbx⟩ := hcut
    have hr2 := HR1.out.upd (F := fun _ => False) (Upds.of_below hbx (Nat.le_refl _)) (fun h => h)
    have HBX := hid (HB1.out.trans (hbx.mono HB1.out.size))
    clear hbx
    have s0 := hr2.cell (i := 0) rfl
    have s1 := hr2.cell (i := 1) rfl
    have s2 := hr2.cell (i := 2) rfl
    have t0 := hr2.frozen 0
    have t1 := hr2.frozen 1
    have t2 := hr2.frozen 2
    have HR2 := hid hr2
    clear hr2
    go_wp2_with fail
    have hr5 := ((HR2.out.set 0 (.bool false)).set 1 (.bool false)).set 2 (.string ⟨#[]⟩)
    have u1 : Upds (fun k => k = w.heap.size) wq (wq.setCell ⟨w.heap.size, 0, none⟩ (.bool false)) := Upds.set _ _ _ rfl
    have u2 : Upds (fun k => k = w.heap.size) (wq.setCell ⟨w.heap.size, 0, none⟩ (.bool false)) ((wq.setCell ⟨w.heap.size, 0, none⟩ (.bool false)).setCell ⟨w.heap.size, 1, none⟩ (.bool false)) := Upds.set _ _ _ rfl
    have u3 : Upds (fun k => k = w.heap.size) ((wq.setCell ⟨w.heap.size, 0, none⟩ (.bool false)).setCell ⟨w.heap.size, 1, none⟩ (.bool false)) (((wq.setCell ⟨w.heap.size, 0, none⟩ (.bool false)).setCell ⟨w.heap.size, 1, none⟩ (.bool false)).setCell ⟨w.heap.size, 2, none⟩ (.string ⟨#[]⟩)) := Upds.set _ _ _ rfl
    have q0 := hr5.cell (i := 0) rfl
    have q1 := hr5.cell (i := 1) rfl
    have q2 := hr5.cell (i := 2) rfl
    have hb6 := HBX.out.trans (((u1.trans u2).trans u3).below HBX.out.size (fun k hk => by omega))
    refine bodyPost_ret (v := .tuple #[.agg #[.bool false, .bool false, .string ⟨#[]⟩], .string ⟨#[]⟩, .bool false]) ?_ rfl ⟨rfl, hb6⟩
    simp [results, Try.results27, go_sem, q0, q1, q2]
set_option maxRecDepth 100000 in
set_option maxHeartbeats 2000000 in
theorem scut_code (t z : ByteArray) (hs : t.size ≤ 1000000) (h4 : 4 ≤ t.size) (hz : t.extract 0 2 ++ ⟨#[0]⟩ ++ t.extract 3 4 = z) (c : Nat) (hc : (t[2]'(by omega)).toNat = c) (n : Nat) (hn : n ≤ 65535) (hzn : z = word n) (h : ¬ n < 4) (h1 : ¬ t.size < n) (h2 : 3 < c) (w : World) : Calls Try.prog 27 #[.string t] w (Gives noSeg w) := by
  have hd : ¬ ((t.size : Int) < 4) := by omega
  have S1 := fun W => sl_to t 2 2 rfl (by omega) W
  have S2 := fun W => sl_ab t 3 4 3 4 rfl rfl (by omega) (by omega) W
  have hxs : (t.extract 0 2).size = 2 := by rw [ByteArray.size_extract]; omega
  have hys : (t.extract 3 4).size = 1 := by rw [ByteArray.size_extract]; omega
  obtain ⟨x, hx⟩ : ∃ x, x = t.extract 0 2 := ⟨_, rfl⟩
  obtain ⟨y, hy⟩ : ∃ y, y = t.extract 3 4 := ⟨_, rfl⟩
  rw [← hx] at hz S1 hxs
  rw [← hy] at hz S2 hys
  have I2 := fun W => ix_at t 2 2 c rfl (by omega) hc W
  have hc9 : c ≤ 255 := by rw [← hc]; have := (t[2]'(by omega)).toNat_lt; omega
  have HR := fun W => hid (readWord_yes n hn W)
  rw [← hzn] at HR
  have HZ := hid hz
  have k1 : ¬ ((n : Int) < 4) := by omega
  have k2 : ¬ ((t.size : Int) < (n : Int)) := by omega
  have k3 : ((3 : Int) < (c : Int)) := by omega
  clear hx hy hc hz hzn
  obtain ⟨w1, hw1⟩ : ∃ q, q = w.alloc (.cells #[.bool false, .bool false, .string ⟨#[]⟩] 36) := ⟨_, rfl⟩
  have HW1 : Hid (w.alloc (.cells #[.bool false, .bool false, .string ⟨#[]⟩] 36) = w1) := hid hw1.symm
  have hb1 : Below w.heap.size w w1 := by rw [hw1]; exact (Below.refl _ _).alloc (Nat.le_refl _) _
  have hr1 : Row w1 w.heap.size 36 [.bool false, .bool false, .string ⟨#[]⟩] := by rw [hw1]; exact Row.new w [.bool false, .bool false, .string ⟨#[]⟩] _
  have HB1 := hid hb1
  have HR1 := hid hr1
  clear hb1 hr1
  clear hw1 h4
  go_enter Try.func27, Try.ntmps27
  go_upto_region 1 with fail
  rw [HW1.out]
  go_upto_region 3 with fail
  go_cut [5, 6] (fun s5 s6 wx => s5 = .int .i64 n ∧ s6 = .bool true ∧ ∃ wq, wq = wx ∧ Below w1.heap.size w1 wq)
  case first =>
    go_region_law (first | (go_simp; (try rw [HZ.out]); go_at_call 26; (with_reducible refine (HR _).out.mono ?_); rintro e w5 ⟨rfl, hb⟩; have HB5 := hid ((below_drew w1).trans (hb.mono (below_drew w1).size)); clear hb; dsimp only))
    all_goals
      go_wp2_with fail
      go_meet
      exact ⟨rfl, rfl, _, rfl, HB5.out⟩
  case rest =>
    obtain ⟨rfl, rfl, wq, rfl, hbx⟩ := hcut
    have hr2 := HR1.out.upd (F := fun _ => False) (Upds.of_below hbx (Nat.le_refl _)) (fun h => h)
    have HBX := hid (HB1.out.trans (hbx.mono HB1.out.size))
    clear hbx
    have s0 := hr2.cell (i := 0) rfl
    have s1 := hr2.cell (i := 1) rfl
    have s2 := hr2.cell (i := 2) rfl
    have t0 := hr2.frozen 0
    have t1 := hr2.frozen 1
    have t2 := hr2.frozen 2
    have HR2 := hid hr2
    clear hr2
    go_wp2_with fail
    have hr5 := ((HR2.out.set 0 (.bool false)).set 1 (.bool false)).set 2 (.string ⟨#[]⟩)
    have u1 : Upds (fun k => k = w.heap.size) wq (wq.setCell ⟨w.heap.size, 0, none⟩ (.bool false)) := Upds.set _ _ _ rfl
    have u2 : Upds (fun k => k = w.heap.size) (wq.setCell ⟨w.heap.size, 0, none⟩ (.bool false)) ((wq.setCell ⟨w.heap.size, 0, none⟩ (.bool false)).setCell ⟨w.heap.size, 1, none⟩ (.bool false)) := Upds.set _ _ _ rfl
    have u3 : Upds (fun k => k = w.heap.size) ((wq.setCell ⟨w.heap.size, 0, none⟩ (.bool false)).setCell ⟨w.heap.size, 1, none⟩ (.bool false)) (((wq.setCell ⟨w.heap.size, 0, none⟩ (.bool false)).setCell ⟨w.heap.size, 1, none⟩ (.bool false)).setCell ⟨w.heap.size, 2, none⟩ (.string ⟨#[]⟩)) := Upds.set _ _ _ rfl
    have q0 := hr5.cell (i := 0) rfl
    have q1 := hr5.cell (i := 1) rfl
    have q2 := hr5.cell (i := 2) rfl
    have hb6 := HBX.out.trans (((u1.trans u2).trans u3).below HBX.out.size (fun k hk => by omega))
    refine bodyPost_ret (v := .tuple #[.agg #[.bool false, .bool false, .string ⟨#[]⟩], .string ⟨#[]⟩, .bool false]) ?_ rfl ⟨rfl, hb6⟩
    simp [results, Try.results27, go_sem, q0, q1, q2]
set_option maxRecDepth 100000 in
set_option maxHeartbeats 2000000 in
theorem scut_empty (t z : ByteArray) (hs : t.size ≤ 1000000) (h4 : 4 ≤ t.size) (hz : t.extract 0 2 ++ ⟨#[0]⟩ ++ t.extract 3 4 = z) (c : Nat) (hc : (t[2]'(by omega)).toNat = c) (n : Nat) (hn : n ≤ 65535) (hzn : z = word n) (h : ¬ n < 4) (h1 : ¬ t.size < n) (h2 : ¬ 3 < c) (h3 : c ≠ 0) (h5 : n = 4) (w : World) : Calls Try.prog 27 #[.string t] w (Gives noSeg w) := by
  have hd : ¬ ((t.size : Int) < 4) := by omega
  have S1 := fun W => sl_to t 2 2 rfl (by omega) W
  have S2 := fun W => sl_ab t 3 4 3 4 rfl rfl (by omega) (by omega) W
  have hxs : (t.extract 0 2).size = 2 := by rw [ByteArray.size_extract]; omega
  have hys : (t.extract 3 4).size = 1 := by rw [ByteArray.size_extract]; omega
  obtain ⟨x, hx⟩ : ∃ x, x = t.extract 0 2 := ⟨_, rfl⟩
  obtain ⟨y, hy⟩ : ∃ y, y = t.extract 3 4 := ⟨_, rfl⟩
  rw [← hx] at hz S1 hxs
  rw [← hy] at hz S2 hys
  have I2 := fun W => ix_at t 2 2 c rfl (by omega) hc W
  have hc9 : c ≤ 255 := by rw [← hc]; have := (t[2]'(by omega)).toNat_lt; omega
  have HR := fun W => hid (readWord_yes n hn W)
  rw [← hzn] at HR
  have HZ := hid hz
  subst h5
  have k2 : ¬ ((t.size : Int) < 4) := by omega
  have k3 : ¬ ((3 : Int) < (c : Int)) := by omega
  have k4 : ((c : Int) != 0) = true := by simp; omega
  clear hx hy hc hz hzn
  obtain ⟨w1, hw1⟩ : ∃ q, q = w.alloc (.cells #[.bool false, .bool false, .string ⟨#[]⟩] 36) := ⟨_, rfl⟩
  have HW1 : Hid (w.alloc (.cells #[.bool false, .bool false, .string ⟨#[]⟩] 36) = w1) := hid hw1.symm
  have hb1 : Below w.heap.size w w1 := by rw [hw1]; exact (Below.refl _ _).alloc (Nat.le_refl _) _
  have hr1 : Row w1 w.heap.size 36 [.bool false, .bool false, .string ⟨#[]⟩] := by rw [hw1]; exact Row.new w [.bool false, .bool false, .string ⟨#[]⟩] _
  have HB1 := hid hb1
  have HR1 := hid hr1
  clear hb1 hr1
  clear hw1 h4
  go_enter Try.func27, Try.ntmps27
  go_upto_region 1 with fail
  rw [HW1.out]
  go_upto_region 3 with fail
  go_cut [5, 6] (fun s5 s6 wx => s5 = .int .i64 4 ∧ s6 = .bool true ∧ ∃ wq, wq = wx ∧ Below w1.heap.size w1 wq)
  case first =>
    go_region_law (first | (go_simp; (try rw [HZ.out]); go_at_call 26; (with_reducible refine (HR _).out.mono ?_); rintro e w5 ⟨rfl, hb⟩; have HB5 := hid ((below_drew w1).trans (hb.mono (below_drew w1).size)); clear hb; dsimp only))
    all_goals
      go_wp2_with fail
      go_meet
      exact ⟨rfl, rfl, _, rfl, HB5.out⟩
  case rest =>
    obtain ⟨rfl, rfl, wq, rfl, hbx⟩ := hcut
    have hr2 := HR1.out.upd (F := fun _ => False) (Upds.of_below hbx (Nat.le_refl _)) (fun h => h)
    have HBX := hid (HB1.out.trans (hbx.mono HB1.out.size))
    clear hbx
    have s0 := hr2.cell (i := 0) rfl
    have s1 := hr2.cell (i := 1) rfl
    have s2 := hr2.cell (i := 2) rfl
    have t0 := hr2.frozen 0
    have t1 := hr2.frozen 1
    have t2 := hr2.frozen 2
    have HR2 := hid hr2
    clear hr2
    go_wp2_with fail
    have hr5 := ((HR2.out.set 0 (.bool false)).set 1 (.bool false)).set 2 (.string ⟨#[]⟩)
    have u1 : Upds (fun k => k = w.heap.size) wq (wq.setCell ⟨w.heap.size, 0, none⟩ (.bool false)) := Upds.set _ _ _ rfl
    have u2 : Upds (fun k => k = w.heap.size) (wq.setCell ⟨w.heap.size, 0, none⟩ (.bool false)) ((wq.setCell ⟨w.heap.size, 0, none⟩ (.bool false)).setCell ⟨w.heap.size, 1, none⟩ (.bool false)) := Upds.set _ _ _ rfl
    have u3 : Upds (fun k => k = w.heap.size) ((wq.setCell ⟨w.heap.size, 0, none⟩ (.bool false)).setCell ⟨w.heap.size, 1, none⟩ (.bool false)) (((wq.setCell ⟨w.heap.size, 0, none⟩ (.bool false)).setCell ⟨w.heap.size, 1, none⟩ (.bool false)).setCell ⟨w.heap.size, 2, none⟩ (.string ⟨#[]⟩)) := Upds.set _ _ _ rfl
    have q0 := hr5.cell (i := 0) rfl
    have q1 := hr5.cell (i := 1) rfl
    have q2 := hr5.cell (i := 2) rfl
    have hb6 := HBX.out.trans (((u1.trans u2).trans u3).below HBX.out.size (fun k hk => by omega))
    refine bodyPost_ret (v := .tuple #[.agg #[.bool false, .bool false, .string ⟨#[]⟩], .string ⟨#[]⟩, .bool false]) ?_ rfl ⟨rfl, hb6⟩
    simp [results, Try.results27, go_sem, q0, q1, q2]
set_option maxRecDepth 100000 in
set_option maxHeartbeats 2000000 in
theorem scut_ok0 (t z : ByteArray) (hs : t.size ≤ 1000000) (h4 : 4 ≤ t.size) (hz : t.extract 0 2 ++ ⟨#[0]⟩ ++ t.extract 3 4 = z) (hc : (t[2]'(by omega)).toNat = 0) (n : Nat) (hn : n ≤ 65535) (hzn : z = word n) (h : 4 ≤ n) (h1 : n ≤ t.size) (w : World) :
    Calls Try.prog 27 #[.string t] w (Gives (.tuple #[Seg.val ⟨false, false, t.extract 4 n⟩, .string (t.extract n t.size), .bool true]) w) := by
  have hd : ¬ ((t.size : Int) < 4) := by omega
  have S1 := fun W => sl_to t 2 2 rfl (by omega) W
  have S2 := fun W => sl_ab t 3 4 3 4 rfl rfl (by omega) (by omega) W
  have hxs : (t.extract 0 2).size = 2 := by rw [ByteArray.size_extract]; omega
  have hys : (t.extract 3 4).size = 1 := by rw [ByteArray.size_extract]; omega
  obtain ⟨x, hx⟩ : ∃ x, x = t.extract 0 2 := ⟨_, rfl⟩
  obtain ⟨y, hy⟩ : ∃ y, y = t.extract 3 4 := ⟨_, rfl⟩
  rw [← hx] at hz S1 hxs
  rw [← hy] at hz S2 hys
  have I2 := fun W => ix_at t 2 2 0 rfl (by omega) hc W
  have HR := fun W => hid (readWord_yes n hn W)
  rw [← hzn] at HR
  have HZ := hid hz
  have k1 : ¬ ((n : Int) < 4) := by omega
  have k2 : ¬ ((t.size : Int) < (n : Int)) := by omega
  have b1 : bits BinOp.and IntKind.u8 0 1 = 0 := by decide
  have b2 : bits BinOp.and IntKind.u8 0 2 = 0 := by decide
  have D1 := fun W => sl_ab t 4 (n : Int) 4 n rfl rfl h h1 W
  have D2 := fun W => sl_from t (n : Int) n rfl h1 W
  obtain ⟨p, hp⟩ : ∃ p, p = t.extract 4 n := ⟨_, rfl⟩
  obtain ⟨q, hq⟩ : ∃ q, q = t.extract n t.size := ⟨_, rfl⟩
  rw [← hp] at D1 ⊢
  rw [← hq] at D2 ⊢
  clear hx hy hc hz hzn hp hq
  obtain ⟨w1, hw1⟩ : ∃ q, q = w.alloc (.cells #[.bool false, .bool false, .string ⟨#[]⟩] 36) := ⟨_, rfl⟩
  have HW1 : Hid (w.alloc (.cells #[.bool false, .bool false, .string ⟨#[]⟩] 36) = w1) := hid hw1.symm
  have hb1 : Below w.heap.size w w1 := by rw [hw1]; exact (Below.refl _ _).alloc (Nat.le_refl _) _
  have hr1 : Row w1 w.heap.size 36 [.bool false, .bool false, .string ⟨#[]⟩] := by rw [hw1]; exact Row.new w [.bool false, .bool false, .string ⟨#[]⟩] _
  have HB1 := hid hb1
  have HR1 := hid hr1
  clear hb1 hr1
  clear hw1 h4
  go_enter Try.func27, Try.ntmps27
  go_upto_region 1 with fail
  rw [HW1.out]
  go_upto_region 3 with fail
  go_cut [5, 6] (fun s5 s6 wx => s5 = .int .i64 n ∧ s6 = .bool true ∧ ∃ wq, wq = wx ∧ Below w1.heap.size w1 wq)
  case first =>
    go_region_law (first | (go_simp; (try rw [HZ.out]); go_at_call 26; (with_reducible refine (HR _).out.mono ?_); rintro e w5 ⟨rfl, hb⟩; have HB5 := hid ((below_drew w1).trans (hb.mono (below_drew w1).size)); clear hb; dsimp only))
    all_goals
      go_wp2_with fail
      go_meet
      exact ⟨rfl, rfl, _, rfl, HB5.out⟩
  case rest =>
    obtain ⟨rfl, rfl, wq, rfl, hbx⟩ := hcut
    have hr2 := HR1.out.upd (F := fun _ => False) (Upds.of_below hbx (Nat.le_refl _)) (fun h => h)
    have HBX := hid (HB1.out.trans (hbx.mono HB1.out.size))
    clear hbx
    have s0 := hr2.cell (i := 0) rfl
    have s1 := hr2.cell (i := 1) rfl
    have s2 := hr2.cell (i := 2) rfl
    have t0 := hr2.frozen 0
    have t1 := hr2.frozen 1
    have t2 := hr2.frozen 2
    have HR2 := hid hr2
    clear hr2
    go_upto_region 7 with fail
    go_region
    go_wp2_with fail
    have hr5 := ((HR2.out.set 0 (.bool false)).set 1 (.bool false)).set 2 (.string p)
    have u1 : Upds (fun k => k = w.heap.size) wq (wq.setCell ⟨w.heap.size, 0, none⟩ (.bool false)) := Upds.set _ _ _ rfl
    have u2 : Upds (fun k => k = w.heap.size) (wq.setCell ⟨w.heap.size, 0, none⟩ (.bool false)) ((wq.setCell ⟨w.heap.size, 0, none⟩ (.bool false)).setCell ⟨w.heap.size, 1, none⟩ (.bool false)) := Upds.set _ _ _ rfl
    have u3 : Upds (fun k => k = w.heap.size) ((wq.setCell ⟨w.heap.size, 0, none⟩ (.bool false)).setCell ⟨w.heap.size, 1, none⟩ (.bool false)) (((wq.setCell ⟨w.heap.size, 0, none⟩ (.bool false)).setCell ⟨w.heap.size, 1, none⟩ (.bool false)).setCell ⟨w.heap.size, 2, none⟩ (.string p)) := Upds.set _ _ _ rfl
    have hr6 := hr5.upd (F := fun _ => False) (Upds.drew _) (fun h => h)
    have q0 := hr6.cell (i := 0) rfl
    have q1 := hr6.cell (i := 1) rfl
    have q2 := hr6.cell (i := 2) rfl
    have hb5 := (HBX.out.trans (((u1.trans u2).trans u3).below HBX.out.size (fun k hk => by omega)))
    have hb6 := hb5.trans ((below_drew _).mono hb5.size)
    refine bodyPost_ret (v := .tuple #[.agg #[.bool false, .bool false, .string p], .string q, .bool true]) ?_ rfl ⟨rfl, hb6⟩
    simp [results, Try.results27, go_sem, q0, q1, q2]
set_option maxRecDepth 100000 in
set_option maxHeartbeats 2000000 in
theorem scut_ok1 (t z : ByteArray) (hs : t.size ≤ 1000000) (h4 : 4 ≤ t.size) (hz : t.extract 0 2 ++ ⟨#[0]⟩ ++ t.extract 3 4 = z) (hc : (t[2]'(by omega)).toNat = 1) (n : Nat) (hn : n ≤ 65535) (hzn : z = word n) (h : 4 ≤ n) (h1 : n ≤ t.size) (h5 : n ≠ 4) (w : World) :
    Calls Try.prog 27 #[.string t] w (Gives (.tuple #[Seg.val ⟨false, true, t.extract 4 n⟩, .string (t.extract n t.size), .bool true]) w) := by
  have hd : ¬ ((t.size : Int) < 4) := by omega
  have S1 := fun W => sl_to t 2 2 rfl (by omega) W
  have S2 := fun W => sl_ab t 3 4 3 4 rfl rfl (by omega) (by omega) W
  have hxs : (t.extract 0 2).size = 2 := by rw [ByteArray.size_extract]; omega
  have hys : (t.extract 3 4).size = 1 := by rw [ByteArray.size_extract]; omega
  obtain ⟨x, hx⟩ : ∃ x, x = t.extract 0 2 := ⟨_, rfl⟩
  obtain ⟨y, hy⟩ : ∃ y, y = t.extract 3 4 := ⟨_, rfl⟩
  rw [← hx] at hz S1 hxs
  rw [← hy] at hz S2 hys
  have I2 := fun W => ix_at t 2 2 1 rfl (by omega) hc W
  have HR := fun W => hid (readWord_yes n hn W)
  rw [← hzn] at HR
  have HZ := hid hz
  have k1 : ¬ ((n : Int) < 4) := by omega
  have k2 : ¬ ((t.size : Int) < (n : Int)) := by omega
  have k4 : ((n : Int) == 4) = false := by simp; omega
  have b1 : bits BinOp.and IntKind.u8 1 1 = 1 := by decide
  have b2 : bits BinOp.and IntKind.u8 1 2 = 0 := by decide
  have D1 := fun W => sl_ab t 4 (n : Int) 4 n rfl rfl h h1 W
  have D2 := fun W => sl_from t (n : Int) n rfl h1 W
  obtain ⟨p, hp⟩ : ∃ p, p = t.extract 4 n := ⟨_, rfl⟩
  obtain ⟨q, hq⟩ : ∃ q, q = t.extract n t.size := ⟨_, rfl⟩
  rw [← hp] at D1 ⊢
  rw [← hq] at D2 ⊢
  clear hx hy hc hz hzn hp hq
  obtain ⟨w1, hw1⟩ : ∃ q, q = w.alloc (.cells #[.bool false, .bool false, .string ⟨#[]⟩] 36) := ⟨_, rfl⟩
  have HW1 : Hid (w.alloc (.cells #[.bool false, .bool false, .string ⟨#[]⟩] 36) = w1) := hid hw1.symm
  have hb1 : Below w.heap.size w w1 := by rw [hw1]; exact (Below.refl _ _).alloc (Nat.le_refl _) _
  have hr1 : Row w1 w.heap.size 36 [.bool false, .bool false, .string ⟨#[]⟩] := by rw [hw1]; exact Row.new w [.bool false, .bool false, .string ⟨#[]⟩] _
  have HB1 := hid hb1
  have HR1 := hid hr1
  clear hb1 hr1
  clear hw1 h4
  go_enter Try.func27, Try.ntmps27
  go_upto_region 1 with fail
  rw [HW1.out]
  go_upto_region 3 with fail
  go_cut [5, 6] (fun s5 s6 wx => s5 = .int .i64 n ∧ s6 = .bool true ∧ ∃ wq, wq = wx ∧ Below w1.heap.size w1 wq)
  case first =>
    go_region_law (first | (go_simp; (try rw [HZ.out]); go_at_call 26; (with_reducible refine (HR _).out.mono ?_); rintro e w5 ⟨rfl, hb⟩; have HB5 := hid ((below_drew w1).trans (hb.mono (below_drew w1).size)); clear hb; dsimp only))
    all_goals
      go_wp2_with fail
      go_meet
      exact ⟨rfl, rfl, _, rfl, HB5.out⟩
  case rest =>
    obtain ⟨rfl, rfl, wq, rfl, hbx⟩ := hcut
    have hr2 := HR1.out.upd (F := fun _ => False) (Upds.of_below hbx (Nat.le_refl _)) (fun h => h)
    have HBX := hid (HB1.out.trans (hbx.mono HB1.out.size))
    clear hbx
    have s0 := hr2.cell (i := 0) rfl
    have s1 := hr2.cell (i := 1) rfl
    have s2 := hr2.cell (i := 2) rfl
    have t0 := hr2.frozen 0
    have t1 := hr2.frozen 1
    have t2 := hr2.frozen 2
    have HR2 := hid hr2
    clear hr2
    go_upto_region 7 with fail
    go_region
    go_wp2_with fail
    have hr5 := ((HR2.out.set 0 (.bool false)).set 1 (.bool true)).set 2 (.string p)
    have u1 : Upds (fun k => k = w.heap.size) wq (wq.setCell ⟨w.heap.size, 0, none⟩ (.bool false)) := Upds.set _ _ _ rfl
    have u2 : Upds (fun k => k = w.heap.size) (wq.setCell ⟨w.heap.size, 0, none⟩ (.bool false)) ((wq.setCell ⟨w.heap.size, 0, none⟩ (.bool false)).setCell ⟨w.heap.size, 1, none⟩ (.bool true)) := Upds.set _ _ _ rfl
    have u3 : Upds (fun k => k = w.heap.size) ((wq.setCell ⟨w.heap.size, 0, none⟩ (.bool false)).setCell ⟨w.heap.size, 1, none⟩ (.bool true)) (((wq.setCell ⟨w.heap.size, 0, none⟩ (.bool false)).setCell ⟨w.heap.size, 1, none⟩ (.bool true)).setCell ⟨w.heap.size, 2, none⟩ (.string p)) := Upds.set _ _ _ rfl
    have hr6 := hr5.upd (F := fun _ => False) (Upds.drew _) (fun h => h)
    have q0 := hr6.cell (i := 0) rfl
    have q1 := hr6.cell (i := 1) rfl
    have q2 := hr6.cell (i := 2) rfl
    have hb5 := (HBX.out.trans (((u1.trans u2).trans u3).below HBX.out.size (fun k hk => by omega)))
    have hb6 := hb5.trans ((below_drew _).mono hb5.size)
    refine bodyPost_ret (v := .tuple #[.agg #[.bool false, .bool true, .string p], .string q, .bool true]) ?_ rfl ⟨rfl, hb6⟩
    simp [results, Try.results27, go_sem, q0, q1, q2]
set_option maxRecDepth 100000 in
set_option maxHeartbeats 2000000 in
theorem scut_ok2 (t z : ByteArray) (hs : t.size ≤ 1000000) (h4 : 4 ≤ t.size) (hz : t.extract 0 2 ++ ⟨#[0]⟩ ++ t.extract 3 4 = z) (hc : (t[2]'(by omega)).toNat = 2) (n : Nat) (hn : n ≤ 65535) (hzn : z = word n) (h : 4 ≤ n) (h1 : n ≤ t.size) (h5 : n ≠ 4) (w : World) :
    Calls Try.prog 27 #[.string t] w (Gives (.tuple #[Seg.val ⟨true, false, t.extract 4 n⟩, .string (t.extract n t.size), .bool true]) w) := by
  have hd : ¬ ((t.size : Int) < 4) := by omega
  have S1 := fun W => sl_to t 2 2 rfl (by omega) W
  have S2 := fun W => sl_ab t 3 4 3 4 rfl rfl (by omega) (by omega) W
  have hxs : (t.extract 0 2).size = 2 := by rw [ByteArray.size_extract]; omega
  have hys : (t.extract 3 4).size = 1 := by rw [ByteArray.size_extract]; omega
  obtain ⟨x, hx⟩ : ∃ x, x = t.extract 0 2 := ⟨_, rfl⟩
  obtain ⟨y, hy⟩ : ∃ y, y = t.extract 3 4 := ⟨_, rfl⟩
  rw [← hx] at hz S1 hxs
  rw [← hy] at hz S2 hys
  have I2 := fun W => ix_at t 2 2 2 rfl (by omega) hc W
  have HR := fun W => hid (readWord_yes n hn W)
  rw [← hzn] at HR
  have HZ := hid hz
  have k1 : ¬ ((n : Int) < 4) := by omega
  have k2 : ¬ ((t.size : Int) < (n : Int)) := by omega
  have k4 : ((n : Int) == 4) = false := by simp; omega
  have b1 : bits BinOp.and IntKind.u8 2 1 = 0 := by decide
  have b2 : bits BinOp.and IntKind.u8 2 2 = 2 := by decide
  have D1 := fun W => sl_ab t 4 (n : Int) 4 n rfl rfl h h1 W
  have D2 := fun W => sl_from t (n : Int) n rfl h1 W
  obtain ⟨p, hp⟩ : ∃ p, p = t.extract 4 n := ⟨_, rfl⟩
  obtain ⟨q, hq⟩ : ∃ q, q = t.extract n t.size := ⟨_, rfl⟩
  rw [← hp] at D1 ⊢
  rw [← hq] at D2 ⊢
  clear hx hy hc hz hzn hp hq
  obtain ⟨w1, hw1⟩ : ∃ q, q = w.alloc (.cells #[.bool false, .bool false, .string ⟨#[]⟩] 36) := ⟨_, rfl⟩
  have HW1 : Hid (w.alloc (.cells #[.bool false, .bool false, .string ⟨#[]⟩] 36) = w1) := hid hw1.symm
  have hb1 : Below w.heap.size w w1 := by rw [hw1]; exact (Below.refl _ _).alloc (Nat.le_refl _) _
  have hr1 : Row w1 w.heap.size 36 [.bool false, .bool false, .string ⟨#[]⟩] := by rw [hw1]; exact Row.new w [.bool false, .bool false, .string ⟨#[]⟩] _
  have HB1 := hid hb1
  have HR1 := hid hr1
  clear hb1 hr1
  clear hw1 h4
  go_enter Try.func27, Try.ntmps27
  go_upto_region 1 with fail
  rw [HW1.out]
  go_upto_region 3 with fail
  go_cut [5, 6] (fun s5 s6 wx => s5 = .int .i64 n ∧ s6 = .bool true ∧ ∃ wq, wq = wx ∧ Below w1.heap.size w1 wq)
  case first =>
    go_region_law (first | (go_simp; (try rw [HZ.out]); go_at_call 26; (with_reducible refine (HR _).out.mono ?_); rintro e w5 ⟨rfl, hb⟩; have HB5 := hid ((below_drew w1).trans (hb.mono (below_drew w1).size)); clear hb; dsimp only))
    all_goals
      go_wp2_with fail
      go_meet
      exact ⟨rfl, rfl, _, rfl, HB5.out⟩
  case rest =>
    obtain ⟨rfl, rfl, wq, rfl, hbx⟩ := hcut
    have hr2 := HR1.out.upd (F := fun _ => False) (Upds.of_below hbx (Nat.le_refl _)) (fun h => h)
    have HBX := hid (HB1.out.trans (hbx.mono HB1.out.size))
    clear hbx
    have s0 := hr2.cell (i := 0) rfl
    have s1 := hr2.cell (i := 1) rfl
    have s2 := hr2.cell (i := 2) rfl
    have t0 := hr2.frozen 0
    have t1 := hr2.frozen 1
    have t2 := hr2.frozen 2
    have HR2 := hid hr2
    clear hr2
    go_upto_region 7 with fail
    go_region
    go_wp2_with fail
    have hr5 := ((HR2.out.set 0 (.bool true)).set 1 (.bool false)).set 2 (.string p)
    have u1 : Upds (fun k => k = w.heap.size) wq (wq.setCell ⟨w.heap.size, 0, none⟩ (.bool true)) := Upds.set _ _ _ rfl
    have u2 : Upds (fun k => k = w.heap.size) (wq.setCell ⟨w.heap.size, 0, none⟩ (.bool true)) ((wq.setCell ⟨w.heap.size, 0, none⟩ (.bool true)).setCell ⟨w.heap.size, 1, none⟩ (.bool false)) := Upds.set _ _ _ rfl
    have u3 : Upds (fun k => k = w.heap.size) ((wq.setCell ⟨w.heap.size, 0, none⟩ (.bool true)).setCell ⟨w.heap.size, 1, none⟩ (.bool false)) (((wq.setCell ⟨w.heap.size, 0, none⟩ (.bool true)).setCell ⟨w.heap.size, 1, none⟩ (.bool false)).setCell ⟨w.heap.size, 2, none⟩ (.string p)) := Upds.set _ _ _ rfl
    have hr6 := hr5.upd (F := fun _ => False) (Upds.drew _) (fun h => h)
    have q0 := hr6.cell (i := 0) rfl
    have q1 := hr6.cell (i := 1) rfl
    have q2 := hr6.cell (i := 2) rfl
    have hb5 := (HBX.out.trans (((u1.trans u2).trans u3).below HBX.out.size (fun k hk => by omega)))
    have hb6 := hb5.trans ((below_drew _).mono hb5.size)
    refine bodyPost_ret (v := .tuple #[.agg #[.bool true, .bool false, .string p], .string q, .bool true]) ?_ rfl ⟨rfl, hb6⟩
    simp [results, Try.results27, go_sem, q0, q1, q2]
set_option maxRecDepth 100000 in
set_option maxHeartbeats 2000000 in
theorem scut_ok3 (t z : ByteArray) (hs : t.size ≤ 1000000) (h4 : 4 ≤ t.size) (hz : t.extract 0 2 ++ ⟨#[0]⟩ ++ t.extract 3 4 = z) (hc : (t[2]'(by omega)).toNat = 3) (n : Nat) (hn : n ≤ 65535) (hzn : z = word n) (h : 4 ≤ n) (h1 : n ≤ t.size) (h5 : n ≠ 4) (w : World) :
    Calls Try.prog 27 #[.string t] w (Gives (.tuple #[Seg.val ⟨true, true, t.extract 4 n⟩, .string (t.extract n t.size), .bool true]) w) := by
  have hd : ¬ ((t.size : Int) < 4) := by omega
  have S1 := fun W => sl_to t 2 2 rfl (by omega) W
  have S2 := fun W => sl_ab t 3 4 3 4 rfl rfl (by omega) (by omega) W
  have hxs : (t.extract 0 2).size = 2 := by rw [ByteArray.size_extract]; omega
  have hys : (t.extract 3 4).size = 1 := by rw [ByteArray.size_extract]; omega
  obtain ⟨x, hx⟩ : ∃ x, x = t.extract 0 2 := ⟨_, rfl⟩
  obtain ⟨y, hy⟩ : ∃ y, y = t.extract 3 4 := ⟨_, rfl⟩
  rw [← hx] at hz S1 hxs
  rw [← hy] at hz S2 hys
  have I2 := fun W => ix_at t 2 2 3 rfl (by omega) hc W
  have HR := fun W => hid (readWord_yes n hn W)
  rw [← hzn] at HR
  have HZ := hid hz
  have k1 : ¬ ((n : Int) < 4) := by omega
  have k2 : ¬ ((t.size : Int) < (n : Int)) := by omega
  have k4 : ((n : Int) == 4) = false := by simp; omega
  have b1 : bits BinOp.and IntKind.u8 3 1 = 1 := by decide
  have b2 : bits BinOp.and IntKind.u8 3 2 = 2 := by decide
  have D1 := fun W => sl_ab t 4 (n : Int) 4 n rfl rfl h h1 W
  have D2 := fun W => sl_from t (n : Int) n rfl h1 W
  obtain ⟨p, hp⟩ : ∃ p, p = t.extract 4 n := ⟨_, rfl⟩
  obtain ⟨q, hq⟩ : ∃ q, q = t.extract n t.size := ⟨_, rfl⟩
  rw [← hp] at D1 ⊢
  rw [← hq] at D2 ⊢
  clear hx hy hc hz hzn hp hq
  obtain ⟨w1, hw1⟩ : ∃ q, q = w.alloc (.cells #[.bool false, .bool false, .string ⟨#[]⟩] 36) := ⟨_, rfl⟩
  have HW1 : Hid (w.alloc (.cells #[.bool false, .bool false, .string ⟨#[]⟩] 36) = w1) := hid hw1.symm
  have hb1 : Below w.heap.size w w1 := by rw [hw1]; exact (Below.refl _ _).alloc (Nat.le_refl _) _
  have hr1 : Row w1 w.heap.size 36 [.bool false, .bool false, .string ⟨#[]⟩] := by rw [hw1]; exact Row.new w [.bool false, .bool false, .string ⟨#[]⟩] _
  have HB1 := hid hb1
  have HR1 := hid hr1
  clear hb1 hr1
  clear hw1 h4
  go_enter Try.func27, Try.ntmps27
  go_upto_region 1 with fail
  rw [HW1.out]
  go_upto_region 3 with fail
  go_cut [5, 6] (fun s5 s6 wx => s5 = .int .i64 n ∧ s6 = .bool true ∧ ∃ wq, wq = wx ∧ Below w1.heap.size w1 wq)
  case first =>
    go_region_law (first | (go_simp; (try rw [HZ.out]); go_at_call 26; (with_reducible refine (HR _).out.mono ?_); rintro e w5 ⟨rfl, hb⟩; have HB5 := hid ((below_drew w1).trans (hb.mono (below_drew w1).size)); clear hb; dsimp only))
    all_goals
      go_wp2_with fail
      go_meet
      exact ⟨rfl, rfl, _, rfl, HB5.out⟩
  case rest =>
    obtain ⟨rfl, rfl, wq, rfl, hbx⟩ := hcut
    have hr2 := HR1.out.upd (F := fun _ => False) (Upds.of_below hbx (Nat.le_refl _)) (fun h => h)
    have HBX := hid (HB1.out.trans (hbx.mono HB1.out.size))
    clear hbx
    have s0 := hr2.cell (i := 0) rfl
    have s1 := hr2.cell (i := 1) rfl
    have s2 := hr2.cell (i := 2) rfl
    have t0 := hr2.frozen 0
    have t1 := hr2.frozen 1
    have t2 := hr2.frozen 2
    have HR2 := hid hr2
    clear hr2
    go_upto_region 7 with fail
    go_region
    go_wp2_with fail
    have hr5 := ((HR2.out.set 0 (.bool true)).set 1 (.bool true)).set 2 (.string p)
    have u1 : Upds (fun k => k = w.heap.size) wq (wq.setCell ⟨w.heap.size, 0, none⟩ (.bool true)) := Upds.set _ _ _ rfl
    have u2 : Upds (fun k => k = w.heap.size) (wq.setCell ⟨w.heap.size, 0, none⟩ (.bool true)) ((wq.setCell ⟨w.heap.size, 0, none⟩ (.bool true)).setCell ⟨w.heap.size, 1, none⟩ (.bool true)) := Upds.set _ _ _ rfl
    have u3 : Upds (fun k => k = w.heap.size) ((wq.setCell ⟨w.heap.size, 0, none⟩ (.bool true)).setCell ⟨w.heap.size, 1, none⟩ (.bool true)) (((wq.setCell ⟨w.heap.size, 0, none⟩ (.bool true)).setCell ⟨w.heap.size, 1, none⟩ (.bool true)).setCell ⟨w.heap.size, 2, none⟩ (.string p)) := Upds.set _ _ _ rfl
    have hr6 := hr5.upd (F := fun _ => False) (Upds.drew _) (fun h => h)
    have q0 := hr6.cell (i := 0) rfl
    have q1 := hr6.cell (i := 1) rfl
    have q2 := hr6.cell (i := 2) rfl
    have hb5 := (HBX.out.trans (((u1.trans u2).trans u3).below HBX.out.size (fun k hk => by omega)))
    have hb6 := hb5.trans ((below_drew _).mono hb5.size)
    refine bodyPost_ret (v := .tuple #[.agg #[.bool true, .bool true, .string p], .string q, .bool true]) ?_ rfl ⟨rfl, hb6⟩
    simp [results, Try.results27, go_sem, q0, q1, q2]
end Go.Proofs.Ytklbckonlbpbgab
