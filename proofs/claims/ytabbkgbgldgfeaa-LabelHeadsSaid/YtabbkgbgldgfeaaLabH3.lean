import Derived.Test.YtabbkgbgldgfeaaLabH2
/-! DecodeHead of both sides. -/
namespace Go.Proofs.Ytabbkgbgldgfeaa
open Go.Lib Go.ChangeShapes Go.WideShapes Go.ChangeAt Go.RowKit

def HeadPost (s : ByteArray) (w : World) (e : Ending) (w' : World) : Prop :=
  e = .returned (.tuple #[.string (decH s).1, .int .i64 (decH s).2.1, .int .i64 (decH s).2.2]) ∧ Below w.heap.size w w'
theorem empty_iff (s : ByteArray) : s.toList.isEmpty = false ↔ s ≠ ⟨#[]⟩ := by
  constructor
  · rintro h rfl
    rw [ByteArray.toList_eq] at h
    cases h
  · intro h
    cases he : s.toList.isEmpty with
    | false => rfl
    | true =>
      exfalso
      apply h
      rw [List.isEmpty_iff] at he
      have h2 := ByteArray.toList_eq (bs := s)
      rw [he] at h2
      exact ByteArray.ext (Array.toList_inj.1 h2.symm)
theorem same_iff (a b : ByteArray) : (a.toList == b.toList) = true ↔ a = b := by
  constructor
  · intro h
    apply Classical.byContradiction
    intro hne
    rw [str_ne hne] at h
    cases h
  · rintro rfl; exact str_eq _
set_option maxRecDepth 100000 in
set_option maxHeartbeats 1000000 in
theorem decodeHead_any (s : ByteArray) (hs : s.size ≤ 1000000) (w : World) : Calls Try.prog 20 #[.string s] w (HeadPost s w) := by
  unfold HeadPost
  obtain ⟨D, hD⟩ : ∃ D, D = decH s := ⟨_, rfl⟩
  rw [← hD]
  unfold decH at hD
  obtain ⟨a, ha⟩ : ∃ a, a = txtR 8 (s, 0) := ⟨_, rfl⟩
  obtain ⟨b, hb⟩ : ∃ b, b = cntR 128 a.2 := ⟨_, rfl⟩
  have hrd : rdH s = (a.1, b.1, b.2) := by rw [hb, ha]; rfl
  have ha8 : a.1.size ≤ 8 := by rw [ha]; exact (txtR_le 8 _).1
  have has : a.2.1.size ≤ 1000000 := by rw [ha]; exact Nat.le_trans (txtR_le 8 _).2 hs
  have hb128 : b.1 ≤ 128 := by rw [hb]; exact (cntR_le 128 _).1
  obtain ⟨E, hE⟩ : ∃ E, E = encH a.1 (b.1 : Nat) := ⟨_, rfl⟩
  have hok : decHok s ↔ (s.toList.isEmpty = false ∧ (E.toList == s.toList) = true) := by
    unfold decHok
    rw [hrd, empty_iff, same_iff, hE]
  have HENC := fun W => hid (encodeHead_any a.1 (by omega) (b.1 : Nat) (by omega) W)
  rw [← hE] at HENC
  have HA := hid ha
  have HB := hid hb
  rw [hrd] at hD
  have hD2 : D = if s.toList.isEmpty = false ∧ (E.toList == s.toList) = true then (a.1, ((b.1 : Nat) : Int), 0) else (⟨#[]⟩, 0, 11) := by
    rw [hD]
    by_cases hk : decHok s
    · rw [if_pos hk, if_pos (hok.1 hk)]
    · rw [if_neg hk, if_neg (fun h => hk (hok.2 h))]
  have HD := hid hD2
  clear hD hD2 hok hrd hE ha hb
  have hmk := Rd.made w s
  obtain ⟨w1, hw1⟩ : ∃ w1, w1 = w.alloc (.cells #[.string s, .int .i64 0] 83) := ⟨_, rfl⟩
  have hb1 : Below w.heap.size w w1 := by rw [hw1]; exact (Below.refl _ _).alloc (Nat.le_refl _) _
  rw [← hw1] at hmk
  have HM := hid hmk
  have HB1 := hid hb1
  have HW1 := hid hw1
  clear hmk hb1 hw1
  go_enter Try.func20, Try.ntmps20
  go_wp2_with fail
  refine (newReader_any s w).mono ?_
  rintro e w2 ⟨rfl, rfl⟩
  rw [← HW1.out]
  go_wp2_with fail
  have HC := hid (txtC 8 (by decide) w.heap.size s 0 hs w1 HM.out)
  rw [← HA.out] at HC
  refine HC.out.mono ?_
  clear HC
  rintro e w2 ⟨rfl, hr, hu⟩
  have HR2 := hid hr
  have HB2 := hid (HB1.out.trans (hu.below (Nat.le_refl _) HB1.out.size))
  clear hr hu HM
  go_wp2_with fail
  have HC := hid (cntC 128 (by decide) w.heap.size a.2.1 a.2.2 has w2 HR2.out)
  rw [show (a.2.1, a.2.2) = a.2 from rfl, ← HB.out] at HC
  refine HC.out.mono ?_
  clear HC
  rintro e w3 ⟨rfl, hr, hu⟩
  have HB3 := hid (HB2.out.trans (hu.below (Nat.le_refl _) HB2.out.size))
  clear hr hu HR2
  cases q1 : s.toList.isEmpty with
  | true =>
    have HDD : Hid (D = (⟨#[]⟩, 0, 11)) := by show _ = _; rw [HD.out, q1]; simp
    go_wp2_with fail
    go_ret3
    rw [HDD.out]
    exact ⟨rfl, HB3.out⟩
  | false =>
    go_wp2_with fail
    refine (HENC _).out.mono ?_
    rintro e w4 ⟨rfl, hb⟩
    have HB4 := hid (HB3.out.trans (hb.mono HB3.out.size))
    clear hb
    cases q2 : (E.toList == s.toList) with
    | true =>
      have HDD : Hid (D = (a.1, ((b.1 : Nat) : Int), 0)) := by show _ = _; rw [HD.out, q1, q2]; simp
      go_wp2_with fail
      go_ret3
      rw [HDD.out]
      exact ⟨rfl, HB4.out⟩
    | false =>
      have HDD : Hid (D = (⟨#[]⟩, 0, 11)) := by show _ = _; rw [HD.out, q2]; simp
      go_wp2_with fail
      go_ret3
      rw [HDD.out]
      exact ⟨rfl, HB4.out⟩
set_option maxRecDepth 100000 in
set_option maxHeartbeats 1000000 in
theorem refDecodeHead_any (s : ByteArray) (hs : s.size ≤ 1000000) (w : World) : Calls Try.prog 21 #[.string s] w (HeadPost s w) := by
  unfold HeadPost
  obtain ⟨D, hD⟩ : ∃ D, D = decH s := ⟨_, rfl⟩
  rw [← hD]
  unfold decH at hD
  obtain ⟨a, ha⟩ : ∃ a, a = txtR 8 (s, 0) := ⟨_, rfl⟩
  obtain ⟨b, hb⟩ : ∃ b, b = cntR 128 a.2 := ⟨_, rfl⟩
  have hrd : rdH s = (a.1, b.1, b.2) := by rw [hb, ha]; rfl
  have ha8 : a.1.size ≤ 8 := by rw [ha]; exact (txtR_le 8 _).1
  have has : a.2.1.size ≤ 1000000 := by rw [ha]; exact Nat.le_trans (txtR_le 8 _).2 hs
  have hb128 : b.1 ≤ 128 := by rw [hb]; exact (cntR_le 128 _).1
  obtain ⟨E, hE⟩ : ∃ E, E = encH a.1 (b.1 : Nat) := ⟨_, rfl⟩
  have hok : decHok s ↔ (b.2.2 = 0 ∧ s.size = 1024 ∧ (E.toList == s.toList) = true) := by
    rw [decHok_iff, hrd, same_iff, hE]
  have HENC := fun W => hid (refEncodeHead_any a.1 (by omega) (b.1 : Nat) W)
  rw [← hE] at HENC
  have HA := hid ha
  have HB := hid hb
  rw [hrd] at hD
  have hD2 : D = if b.2.2 = 0 ∧ s.size = 1024 ∧ (E.toList == s.toList) = true then (a.1, ((b.1 : Nat) : Int), 0) else (⟨#[]⟩, 0, 11) := by
    rw [hD]
    by_cases hk : decHok s
    · rw [if_pos hk, if_pos (hok.1 hk)]
    · rw [if_neg hk, if_neg (fun h => hk (hok.2 h))]
  have HD := hid hD2
  clear hD hD2 hok hrd hE ha hb
  obtain ⟨w1, hw1⟩ : ∃ w1, w1 = w.alloc (.cells #[.string s, .int .i64 0] 61) := ⟨_, rfl⟩
  have hb1 : Below w.heap.size w w1 := by rw [hw1]; exact (Below.refl _ _).alloc (Nat.le_refl _) _
  have hr1 : Row w1 w.heap.size 61 [.string s, .int .i64 0] := by rw [hw1]; exact Row.new w _ _
  have HR1 := hid hr1
  have HB1 := hid hb1
  have HW1 := hid hw1
  obtain ⟨p, hp⟩ : ∃ p, p = w.heap.size := ⟨_, rfl⟩
  have HPE := hid hp
  rw [← hp] at HR1
  have c0 := HR1.out.cell (i := 0) rfl
  have c1 := HR1.out.cell (i := 1) rfl
  have f0 := HR1.out.frozen 0
  have f1 := HR1.out.frozen 1
  have plt := HR1.out.lt
  clear hb1 hw1 hr1 hp
  go_enter Try.func21, Try.ntmps21
  go_upto_region 2 with fail
  rw [← HW1.out, ← HPE.out]
  go_wp2_with fail
  have HC := hid (txtF 8 (by decide) s 0 hs w1)
  rw [← HA.out] at HC
  refine HC.out.mono ?_
  clear HC
  rintro e w2 ⟨rfl, hb⟩
  have HB2 := hid (HB1.out.trans (hb.mono HB1.out.size))
  have HR2 := hid (HR1.out.upd (F := fun _ => False) (Upds.of_below hb (Nat.le_refl _)) (fun h => h))
  clear hb c0 c1 f0 f1 plt HR1
  have c0 := HR2.out.cell (i := 0) rfl
  have c1 := HR2.out.cell (i := 1) rfl
  have f0 := HR2.out.frozen 0
  have f1 := HR2.out.frozen 1
  have plt := HR2.out.lt
  unfold rdr
  go_upto_region 3 with fail
  have HR3 := hid ((HR2.out.set 0 (.string a.2.1)).set 1 (.int .i64 (a.2.2 : Nat)))
  have hb3 : Below w.heap.size w ((w2.setCell ⟨p, 0, none⟩ (.string a.2.1)).setCell ⟨p, 1, none⟩ (.int .i64 (a.2.2 : Nat))) := (HB2.out.setCell (by show _ ≤ p; rw [HPE.out]; exact Nat.le_refl _) _).setCell (by show _ ≤ p; rw [HPE.out]; exact Nat.le_refl _) _
  have HB3 := hid hb3
  obtain ⟨w3, hw3⟩ : ∃ w3, w3 = (w2.setCell ⟨p, 0, none⟩ (.string a.2.1)).setCell ⟨p, 1, none⟩ (.int .i64 (a.2.2 : Nat)) := ⟨_, rfl⟩
  rw [← hw3] at HR3 HB3 ⊢
  clear c0 c1 f0 f1 plt HR2 hb3 hw3
  have c0 := HR3.out.cell (i := 0) rfl
  have c1 := HR3.out.cell (i := 1) rfl
  have f0 := HR3.out.frozen 0
  have f1 := HR3.out.frozen 1
  have plt := HR3.out.lt
  go_wp2_with fail
  have HC := hid (cntF 128 (by decide) a.2.1 a.2.2 has w3)
  rw [show (a.2.1, a.2.2) = a.2 from rfl, ← HB.out] at HC
  refine HC.out.mono ?_
  clear HC
  rintro e w4 ⟨rfl, hb⟩
  have HB4 := hid (HB3.out.trans (hb.mono HB3.out.size))
  have HR4 := hid (HR3.out.upd (F := fun _ => False) (Upds.of_below hb (Nat.le_refl _)) (fun h => h))
  clear hb c0 c1 f0 f1 plt HR3
  have c0 := HR4.out.cell (i := 0) rfl
  have c1 := HR4.out.cell (i := 1) rfl
  have f0 := HR4.out.frozen 0
  have f1 := HR4.out.frozen 1
  have plt := HR4.out.lt
  unfold rdr
  go_upto_region 4 with fail
  have HR5 := hid ((HR4.out.set 0 (.string b.2.1)).set 1 (.int .i64 (b.2.2 : Nat)))
  have hb5 : Below w.heap.size w ((w4.setCell ⟨p, 0, none⟩ (.string b.2.1)).setCell ⟨p, 1, none⟩ (.int .i64 (b.2.2 : Nat))) := (HB4.out.setCell (by show _ ≤ p; rw [HPE.out]; exact Nat.le_refl _) _).setCell (by show _ ≤ p; rw [HPE.out]; exact Nat.le_refl _) _
  have HB5 := hid hb5
  obtain ⟨w5, hw5⟩ : ∃ w5, w5 = (w4.setCell ⟨p, 0, none⟩ (.string b.2.1)).setCell ⟨p, 1, none⟩ (.int .i64 (b.2.2 : Nat)) := ⟨_, rfl⟩
  rw [← hw5] at HR5 HB5 ⊢
  clear c0 c1 f0 f1 plt HR4 hb5 hw5
  have c0 := HR5.out.cell (i := 0) rfl
  have c1 := HR5.out.cell (i := 1) rfl
  have plt := HR5.out.lt
  obtain ⟨er, her⟩ : ∃ er, er = b.2.2 := ⟨_, rfl⟩
  rw [← her] at c1 HD
  clear HR5 her
  by_cases z1 : er = 0
  rotate_left
  · have HDD : Hid (D = (⟨#[]⟩, 0, 11)) := by show _ = _; rw [HD.out, if_neg (fun h => z1 h.1)]
    have d1 : ((er : Int) == 0) = false := by simp; omega
    go_wp2_with fail
    all_goals
      go_ret3
      rw [HDD.out]
      exact ⟨rfl, HB5.out⟩
  subst z1
  by_cases z2 : s.size = 1024
  rotate_left
  · have HDD : Hid (D = (⟨#[]⟩, 0, 11)) := by show _ = _; rw [HD.out, if_neg (fun h => z2 h.2.1)]
    have d2 : ((s.size : Int) != 1024) = true := by simp; omega
    go_wp2_with fail
    all_goals
      go_ret3
      rw [HDD.out]
      exact ⟨rfl, HB5.out⟩
  have d2 : ((s.size : Int) != 1024) = false := by simp; omega
  have HZ2 := hid z2
  clear z2
  go_wp2_with fail
  refine (HENC _).out.mono ?_
  rintro e w6 ⟨rfl, hb⟩
  have HB6 := hid (HB5.out.trans (hb.mono HB5.out.size))
  clear hb
  cases q2 : (E.toList == s.toList) with
  | true =>
    have HDD : Hid (D = (a.1, ((b.1 : Nat) : Int), 0)) := by show _ = _; rw [HD.out]; exact if_pos (by simp [HZ2.out, q2])
    go_wp2_with fail
    go_ret3
    rw [HDD.out]
    exact ⟨rfl, HB6.out⟩
  | false =>
    have HDD : Hid (D = (⟨#[]⟩, 0, 11)) := by show _ = _; rw [HD.out, q2]; simp
    go_wp2_with fail
    go_ret3
    rw [HDD.out]
    exact ⟨rfl, HB6.out⟩
end Go.Proofs.Ytabbkgbgldgfeaa
