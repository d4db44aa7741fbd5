import Derived.Test.YtfcaodaaklngmaaDevT6
import Derived.Test.YtfcaodaaklngmaaDevT7
import Derived.Test.YtfcaodaaklngmaaDevT8
import Derived.Test.YtfcaodaaklngmaaDevT9
import Derived.Test.YtfcaodaaklngmaaFull
/-! The example of the chapter. -/
namespace Go.Proofs.Ytfcaodaaklngmaa
open Go.Lib Go.ChangeShapes Go.WideShapes Go.ChangeAt Go.RowKit

def abcdef : ByteArray := ⟨#[97, 98, 99, 100, 101, 102]⟩
def abc : ByteArray := ⟨#[97, 98, 99]⟩
def eS : ByteArray := fullS abcdef
def eD1 : DS := { (DS.fresh 2) with pend := [⟨1, 0, eS⟩] }
theorem eSz : eS.size = 140 := fullS_size _
theorem eV5 : validW 1 5 := by unfold validW; omega
theorem eV6 : validW 1 6 := by unfold validW; omega
theorem eH (D : DS) (h : D.n = 2) : D.has 0 := by unfold DS.has; omega
theorem eW1 : (DS.fresh 2).write 1 5 0 eS = (0, eD1) := by
  have ha : (DS.fresh 2).admit 1 5 = (0, DS.fresh 2) := by
    unfold DS.admit
    rw [if_neg (by decide), if_neg (by decide), if_neg (by decide), if_neg (by decide)]
  rw [DS.write_yes ⟨eV5, eSz⟩ (eH _ rfl) (by rw [ha]), ha]
  rfl
theorem eC1 : eD1.count 1 = 1 := rfl
theorem content_last (D : DS) (p : PW) (h : D.pend = [p]) : D.content p.sec = p.dat := by
  unfold DS.content lastOf
  rw [h]; simp
theorem eR1 : eD1.read 0 = (eS, 0) := by
  unfold DS.read
  rw [if_pos (eH _ rfl), if_neg (by decide)]
  have h := content_last eD1 ⟨1, 0, eS⟩ rfl
  rw [show (0 : Int).toNat = 0 from rfl]
  rw [show eD1.content 0 = eS from h]
theorem eJ : joinN eS Z140 3 = fullS abc := by kernel_rfl
theorem eN : ¬ (fullS abc = Z140) := by
  intro h
  have : (fullS abc).data.toList[0]? = Z140.data.toList[0]? := by rw [h]
  exact absurd this (by decide +kernel)
theorem crash_one (D : DS) (p : PW) (s : Int) (l : List Int) (h : D.pend = [p]) (hs : p.sys = s) : (D.crash s l).sec p.sec = (D.sec p.sec).take p.dat (svOf l 0) := by
  unfold DS.crash DS.done endAll
  rw [h]
  simp [endStep, hs, upS]
theorem take_diff (s : Sec) (d c : ByteArray) (n : Int) (h : joinN d s.st (clampN n) = c) (hne : ¬ c = s.st) : s.take d n = ⟨c, (s.st :: s.er).take 8⟩ := by
  unfold Sec.take Sec.change
  rw [h, if_neg hne]
theorem eSec : (eD1.crash 1 [3]).sec 0 = ⟨fullS abc, [Z140]⟩ := by
  have h := crash_one eD1 ⟨1, 0, eS⟩ 1 [3] rfl rfl
  have h2 := take_diff ⟨Z140, []⟩ eS (fullS abc) 3 eJ eN
  exact h.trans h2
theorem ePend : (eD1.crash 1 [3]).pend = [] := by simp [DS.crash, DS.done, eD1]
theorem eR2 : (eD1.crash 1 [3]).read 0 = (fullS abc, 0) := by
  unfold DS.read
  rw [if_pos (eH _ rfl), if_neg (by decide)]
  unfold DS.content
  rw [ePend]
  show (((lastOf [] 0).getD ((eD1.crash 1 [3]).sec 0).st), _) = _
  rw [eSec]; rfl
theorem fence_sec (D : DS) (s e : Int) : (D.fence s e).sec = D.sec := by unfold DS.fence; split <;> rfl
theorem eO : ((eD1.crash 1 [3]).fence 1 5).old 0 = 1 := by
  unfold DS.old
  rw [if_pos (eH _ rfl)]
  have : ((eD1.crash 1 [3]).fence 1 5).sec 0 = ⟨fullS abc, [Z140]⟩ := by rw [fence_sec]; exact eSec
  show (((((eD1.crash 1 [3]).fence 1 5).sec 0).er.length : Nat) : Int) = 1
  rw [this]; rfl
theorem eA5 : ((eD1.crash 1 [3]).fence 1 5).admit 1 5 = (13, (eD1.crash 1 [3]).fence 1 5) := by
  unfold DS.admit
  rw [if_neg (by decide), if_pos (by decide)]
theorem eA6 : ((eD1.crash 1 [3]).fence 1 5).admit 1 6 = (0, (eD1.crash 1 [3]).fence 1 5) := by
  unfold DS.admit
  rw [if_neg (by decide), if_neg (by decide), if_neg (by decide), if_neg (by decide)]
theorem eW5 : ((eD1.crash 1 [3]).fence 1 5).write 1 5 0 eS = (13, (eD1.crash 1 [3]).fence 1 5) := by
  rw [DS.write_no ⟨eV5, eSz⟩ (eH _ rfl) (by rw [eA5]; decide), eA5]
theorem eW6 : (((eD1.crash 1 [3]).fence 1 5).write 1 6 0 eS).1 = 0 := by
  rw [DS.write_yes ⟨eV6, eSz⟩ (eH _ rfl) (by rw [eA6])]

set_option maxRecDepth 100000 in
set_option maxHeartbeats 1000000 in
theorem awake_dev (w : World) : Calls Try.prog 10 #[] w fun e w' => e = .returned (.bool true) ∧ Below w.heap.size w w' := by
  go_enter Try.func10, Try.ntmps10
  go_wp2_with fail
  refine (new_any 2 (by omega) (by omega) w).mono ?_
  intro e w1 hx
  obtain ⟨L, rfl, hd, hu⟩ := hx
  have HD := hid hd
  have HU := hid hu
  clear hd hu
  go_wp2_with fail
  refine (full_any abcdef (by decide) w1).mono ?_
  rintro e w2 ⟨rfl, rfl⟩
  rw [show fullS abcdef = eS from rfl]
  go_wp2_with fail
  obtain ⟨w2, hw2⟩ : ∃ w2, w2 = w1.alloc (.cells #[.int .i64 1, .int .i64 5] 42) := ⟨_, rfl⟩
  obtain ⟨bw, hbw⟩ : ∃ bw, bw = w1.heap.size := ⟨_, rfl⟩
  have hr2 : Row w2 bw 42 [.int .i64 1, .int .i64 5] := by rw [hw2, hbw]; exact Row.new w1 [.int .i64 1, .int .i64 5] _
  have hu2 : Upds (fun _ => False) w1 w2 := by rw [hw2]; exact Upds.alloc _ _
  rw [← hw2, ← hbw]
  have HD2 := hid (HD.out.calm hu2)
  have HU2 := hid (HU.out.trans hu2)
  have HR2 := hid hr2
  clear hw2 hr2 hu2 HD HU hbw
  refine (write_any w.heap.size L (DS.fresh 2) 1 5 0 eS w2 HD2.out HU2.out.size (by decide)).mono ?_
  intro e w3 hx
  rw [eW1] at hx
  obtain ⟨rfl, ht⟩ := hx
  obtain ⟨L3, hd3, hb3, hu3, ho3⟩ := DevTo.next HU2.out HD2.out ht
  have HR3 := hid (HR2.out.upd ho3 (HD2.out.not_own HR2.out (by decide) (by decide) (by decide)))
  have HD3 := hid hd3
  have HB3 := hid hb3
  have HU3 := hid hu3
  clear ht hd3 hb3 hu3 ho3 HD2 HU2 HR2
  go_wp2_with fail
  rw [← HB3.out]
  refine (pending_any w.heap.size L3 eD1 1 w3 HD3.out).mono ?_
  rintro e w4 ⟨rfl, hu4⟩
  rw [eC1, HB3.out]
  have HR4 := hid (HR3.out.upd hu4 (fun h => h))
  have HD4 := hid (HD3.out.calm hu4)
  have HU4 := hid (HU3.out.trans hu4)
  clear hu4 HD3 HU3 HR3
  go_wp2_with fail
  rw [← HB3.out]
  refine (read_any w.heap.size L3 eD1 0 w4 HD4.out).mono ?_
  intro e w5 hx
  rw [eR1] at hx
  obtain ⟨rfl, hu5⟩ := hx
  rw [HB3.out]
  have HR5 := hid (HR4.out.upd hu5 (fun h => h))
  have HD5 := hid (HD4.out.calm hu5)
  have HU5 := hid (HU4.out.trans hu5)
  clear hu5 HD4 HU4 HR4
  go_wp2_with fail
  obtain ⟨w6, hw6⟩ : ∃ w6, w6 = w5.alloc (.cells #[.int .i64 3] 3) := ⟨_, rfl⟩
  have hr6 : Row w6 w5.heap.size 3 [.int .i64 3] := by rw [hw6]; exact Row.new w5 [.int .i64 3] _
  have hu6 : Upds (fun _ => False) w5 w6 := by rw [hw6]; exact Upds.alloc _ _
  rw [← hw6, ← HB3.out]
  have HD6 := hid (HD5.out.calm hu6)
  have HU6 := hid (HU5.out.trans hu6)
  have HR6 := hid (HR5.out.upd hu6 (fun h => h))
  have hi6 : IntsAt w6 (some ⟨w5.heap.size, 0, none⟩) [3] := fun _ => ⟨w5.heap.size, 0, rfl, fun i hi => by
    obtain rfl : i = 0 := by simpa using hi
    exact hr6.cell rfl⟩
  have hcr := hid (crash_any w.heap.size L3 eD1 1 (some ⟨w5.heap.size, 0, none⟩) 1 [3] (by decide) w6 HD6.out HU6.out.size hi6 (fun x hx _ => by cases hx; exact HD6.out.not_own hr6 (by decide) (by decide) (by decide)))
  clear hw6 hr6 hu6 hi6 HD5 HU5 HR5
  refine hcr.out.mono ?_
  rintro e w7 ⟨rfl, ht⟩
  obtain ⟨L7, hd7, hb7, hu7, ho7⟩ := DevTo.next HU6.out HD6.out ht
  have HR7 := hid (HR6.out.upd ho7 (HD6.out.not_own HR6.out (by decide) (by decide) (by decide)))
  have HD7 := hid hd7
  have HB7 := hid (hb7.trans HB3.out)
  have HU7 := hid hu7
  rw [HB3.out]
  clear ht hd7 hb7 hu7 ho7 HD6 HU6 HR6 hcr
  go_wp2_with fail
  rw [← HB7.out]
  refine (read_any w.heap.size L7 (eD1.crash 1 [3]) 0 w7 HD7.out).mono ?_
  intro e w8 hx
  rw [eR2] at hx
  obtain ⟨rfl, hu8⟩ := hx
  rw [HB7.out]
  have HR8 := hid (HR7.out.upd hu8 (fun h => h))
  have HD8 := hid (HD7.out.calm hu8)
  have HU8 := hid (HU7.out.trans hu8)
  clear hu8 HD7 HU7 HR7
  go_wp2_with fail
  rw [← HB7.out]
  refine (fence_any w.heap.size L7 (eD1.crash 1 [3]) 1 5 (by omega) w8 HD8.out).mono ?_
  rintro e w9 ⟨rfl, ht⟩
  obtain ⟨L9, hd9, hb9, hu9, ho9⟩ := DevTo.next HU8.out HD8.out ht
  have HR9 := hid (HR8.out.upd ho9 (HD8.out.not_own HR8.out (by decide) (by decide) (by decide)))
  have HD9 := hid hd9
  have HB9 := hid (hb9.trans HB7.out)
  have HU9 := hid hu9
  rw [HB7.out]
  clear ht hd9 hb9 hu9 ho9 HD8 HU8 HR8
  have hq1 : (eS.toList == eS.toList) = true := beq_self_eq_true _
  go_wp2_with fail
  refine (full_any abc (by decide) w9).mono ?_
  rintro e w10 ⟨rfl, rfl⟩
  have hq2 : ((fullS abc).toList == (fullS abc).toList) = true := beq_self_eq_true _
  go_wp2_with fail
  rw [← HB9.out]
  refine (old_any w.heap.size L9 _ 0 w9 HD9.out).mono ?_
  rintro e w10 ⟨rfl, rfl⟩
  rw [eO, HB9.out]
  have x0 : w9.cell? ⟨bw, 0, none⟩ = some (.int .i64 1) := HR9.out.cell rfl
  have x1 : w9.cell? ⟨bw, 1, none⟩ = some (.int .i64 5) := HR9.out.cell rfl
  go_wp2_with fail
  rw [← HB9.out]
  refine (write_any w.heap.size L9 _ 1 5 0 eS w9 HD9.out HU9.out.size (by rw [show ((eD1.crash 1 [3]).fence 1 5).pend = [] from by unfold DS.fence; rw [if_pos (by omega)]; exact ePend]; decide)).mono ?_
  intro e w10 hx
  rw [eW5] at hx
  obtain ⟨rfl, ht⟩ := hx
  obtain ⟨L10, hd10, hb10, hu10, ho10⟩ := DevTo.next HU9.out HD9.out ht
  have HD10 := hid hd10
  have HB10 := hid (hb10.trans HB9.out)
  have HU10 := hid hu10
  rw [HB9.out]
  clear ht hd10 hb10 hu10 ho10 HD9 HU9 x0 x1
  go_wp2_with fail
  rw [← HB10.out]
  refine (write_any w.heap.size L10 _ 1 6 0 eS w10 HD10.out HU10.out.size (by rw [show ((eD1.crash 1 [3]).fence 1 5).pend = [] from by unfold DS.fence; rw [if_pos (by omega)]; exact ePend]; decide)).mono ?_
  intro e w11 hx
  obtain ⟨he, ht⟩ := hx
  rw [eW6] at he
  subst he
  obtain ⟨L11, _, _, hu11, _⟩ := DevTo.next HU10.out HD10.out ht
  have HU11 := hid hu11
  rw [HB10.out]
  clear ht hu11 HD10 HU10
  go_wp2_with fail
  go_ret
  exact ⟨rfl, HU11.out.below (Nat.le_refl _) (fun k h => h.elim)⟩
end Go.Proofs.Ytfcaodaaklngmaa
