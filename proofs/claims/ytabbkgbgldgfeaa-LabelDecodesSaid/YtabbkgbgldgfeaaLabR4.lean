import Derived.Test.YtabbkgbgldgfeaaLabR3
import Derived.Test.YtabbkgbgldgfeaaLabT8
/-! The reference's Decode. -/
namespace Go.Proofs.Ytabbkgbgldgfeaa
open Go.Lib Go.ChangeShapes Go.WideShapes Go.ChangeAt Go.RowKit

def zeroS (s : ByteArray) : Prop := ∀ i, ∀ h : i < s.size, s[i].toNat = 0
theorem zeroS_eq (s : ByteArray) (h : zeroS s) : s = zerosB s.size := by
  apply ByteArray.ext
  apply Array.ext
  · show s.size = (zerosB s.size).size; exact (zerosB_size _).symm
  · intro i h1 h2
    have h3 := h i h1
    have h4 : (zerosB s.size).data[i]'h2 = 0 := by unfold zerosB; simp
    rw [h4]
    exact UInt8.toNat_inj.1 h3
set_option maxRecDepth 100000 in
theorem zero_any (s : ByteArray) (hs : s.size ≤ 1000000) (w : World) :
    Calls Try.prog 58 #[.string s] w fun e w' => ∃ b, e = .returned (.bool b) ∧ (b = true ↔ zeroS s) ∧ w = w' := by
  go_enter Try.func58, Try.ntmps58
  go_wp2_with fail
  go_loopw [3] (fun i wr => ∃ k : Nat, k ≤ s.size ∧ i = .int .i64 k ∧ (∀ j, j < k → ∀ h : j < s.size, s[j].toNat = 0) ∧ w = wr) (fun i _ => s.size - (RowKit.intOf i).toNat)
  case atStart => exact ⟨0, Nat.zero_le _, rfl, fun j hj => absurd hj (Nat.not_lt_zero _), rfl⟩
  case round =>
    obtain ⟨k, hk, rfl, hall, rfl⟩ := hrel
    have HALL := hid hall
    clear hall
    by_cases hlt : k < s.size
    · by_cases hz : s[k].toNat = 0
      · have d1 : ((s[k].toNat : Int) != 0) = false := by simp [hz]
        have HQ : Hid (∀ j, j < k + 1 → ∀ h : j < s.size, s[j].toNat = 0) := by
          intro j hj h
          by_cases e : j = k
          · subst e; exact hz
          · exact HALL.out j (by omega) h
        clear hz
        go_wp2_with fail
        go_roundw
        case rel => exact ⟨k + 1, by omega, by go_num, HQ.out, trivial⟩
        case measure => simp [RowKit.intOf]; omega
      · have d1 : ((s[k].toNat : Int) != 0) = true := by simp; omega
        have HQ := hid hz
        clear hz
        go_wp2_with fail
        go_ret
        exact ⟨false, rfl, ⟨fun h => (by cases h), fun h => absurd (h k hlt) HQ.out⟩, rfl⟩
    · go_wp2_with fail
      go_ret
      exact ⟨true, rfl, ⟨fun _ i hi => HALL.out i (by omega) hi, fun _ => rfl⟩, rfl⟩
theorem dec_zero (s : ByteArray) (tr : Int) (h1 : s.size = 1024) (h2 : trOk tr) (h3 : zeroS s) : decL s tr = (zeroL, 0) := by
  have hg : goodL zeroL tr := ⟨h2, .inl ((eqL_iff _ _).2 rfl)⟩
  have he : encL zeroL tr = s := by
    unfold encL
    rw [if_pos hg, pad_zero, zeroS_eq s h3, h1]
    unfold padS
    rw [empty_append']; rfl
  have h4 := (decOk_iff s tr zeroL).2 ⟨hg, he⟩
  unfold decL
  rw [if_pos h4.1, h4.2]
theorem dec_out (s : ByteArray) (tr : Int) (h : s.size ≠ 1024 ∨ ¬ trOk tr) : decL s tr = (zeroL, 11) := by
  unfold decL
  rw [if_neg]
  intro hk
  obtain ⟨h1, h2⟩ := (decOk_iff s tr _).1 ⟨hk, rfl⟩
  rcases h with h | h
  · have := h1.size
    rw [h2] at this
    exact h this
  · exact h h1.1
theorem dec_ref (s : ByteArray) (tr : Int) (h1 : s.size = 1024) : decL s tr = if (readL 127 s).2.2 = 0 ∧ encL (readL 127 s).1 tr = s then ((readL 127 s).1, 0) else (zeroL, 11) := by
  unfold decL
  by_cases hk : decOk s tr
  · have h2 := (ref_dec s tr).2 hk
    rw [if_pos hk, if_pos ⟨h2.1, h2.2.2⟩, ref_dec_l s tr hk]
  · rw [if_neg hk, if_neg]
    rintro ⟨h2, h3⟩
    refine hk ((ref_dec s tr).1 ⟨h2, (encL_ne _ tr).1 ?_, h3⟩)
    rw [h3]
    rintro rfl
    simp [ByteArray.size] at h1
/-- what stands in memory while the reference reads a slot -/
def Rf (w : World) (rb p lb : Nat) (st : St) (cur : List Value) (W : World) : Prop :=
  Row W rb 24 (labCells zeroL (.slice none 0 0)) ∧ Row W p 61 [.string st.1, .int .i64 (st.2 : Nat)] ∧ Row W lb 24 cur ∧ Below w.heap.size w W ∧ w.heap.size ≤ rb ∧ w.heap.size ≤ p ∧ w.heap.size ≤ lb ∧ rb ≠ lb
namespace Rf
variable {w W W' : World} {rb p lb : Nat} {cur : List Value} {st : St}
theorem ne1 (h : Rf w rb p lb st cur W) : rb ≠ p := Row.ne h.1 h.2.1 (by decide)
theorem ne2 (h : Rf w rb p lb st cur W) : lb ≠ p := Row.ne h.2.2.1 h.2.1 (by decide)
theorem upds (h : Rf w rb p lb st cur W) {F : Nat → Prop} (hu : Upds F W W') (hF : ∀ k, F k → w.heap.size ≤ k) (h1 : ¬ F rb) (h2 : ¬ F p) (h3 : ¬ F lb) : Rf w rb p lb st cur W' :=
  ⟨h.1.upd hu h1, h.2.1.upd hu h2, h.2.2.1.upd hu h3, h.2.2.2.1.trans (hu.below h.2.2.2.1.size hF), h.2.2.2.2⟩
theorem below (h : Rf w rb p lb st cur W) (hb : Below W.heap.size W W') : Rf w rb p lb st cur W' := h.upds (F := fun _ => False) (Upds.of_below hb (Nat.le_refl _)) (fun _ h => h.elim) (fun h => h) (fun h => h) (fun h => h)
theorem alloc (h : Rf w rb p lb st cur W) (o : Obj) : Rf w rb p lb st cur (W.alloc o) := h.upds (F := fun _ => False) (Upds.alloc _ _) (fun _ h => h.elim) (fun h => h) (fun h => h) (fun h => h)
theorem setL (h : Rf w rb p lb st cur W) (i : Nat) (x : Value) : Rf w rb p lb st (cur.set i x) (W.setCell ⟨lb, i, none⟩ x) :=
  ⟨h.1.setOther h.2.2.2.2.2.2.2 x, h.2.1.setOther h.ne2.symm x, h.2.2.1.set i x, h.2.2.2.1.setCell h.2.2.2.2.2.2.1 x, h.2.2.2.2⟩
theorem setP (h : Rf w rb p lb st cur W) (st2 : St) : Rf w rb p lb st2 cur ((W.setCell ⟨p, 0, none⟩ (.string st2.1)).setCell ⟨p, 1, none⟩ (.int .i64 (st2.2 : Nat))) :=
  ⟨(h.1.setOther h.ne1 _).setOther h.ne1 _, (h.2.1.set 0 (.string st2.1)).set 1 (.int .i64 (st2.2 : Nat)), (h.2.2.1.setOther h.ne2 _).setOther h.ne2 _, (h.2.2.2.1.setCell h.2.2.2.2.2.1 _).setCell h.2.2.2.2.2.1 _, h.2.2.2.2⟩
end Rf
set_option maxRecDepth 100000 in
set_option maxHeartbeats 4000000 in
theorem refDecode_any (s : ByteArray) (hs : s.size ≤ 1000000) (tr : Int) (w : World) :
    Calls Try.prog 19 #[.string s, .int .i64 tr] w (DecPost s tr w) := by
  obtain ⟨D, hD⟩ : ∃ D, D = decL s tr := ⟨_, rfl⟩
  unfold DecPost
  rw [← hD]
  obtain ⟨w0, hw0⟩ : ∃ w0, w0 = w.alloc (.cells #[.int .i64 0, .int .i64 0, .string ⟨#[]⟩, .string ⟨#[]⟩, .slice none 0 0] 24) := ⟨_, rfl⟩
  obtain ⟨rb, hrb⟩ : ∃ b, b = w.heap.size := ⟨_, rfl⟩
  have HR0 : Hid (Row w0 rb 24 (labCells zeroL (.slice none 0 0))) := by show Row _ _ _ _; rw [hw0, hrb]; exact Row.new w (labCells zeroL (.slice none 0 0)) _
  have HB0 : Hid (Below w.heap.size w w0) := by show Below _ _ _; rw [hw0]; exact (Below.refl _ _).alloc (Nat.le_refl _) _
  have HRB0 : Hid (w.heap.size ≤ rb) := by show _ ≤ _; omega
  have HW0 := hid hw0
  have HRBE := hid hrb
  have hz0 : w0.heap.size = rb + 1 := by rw [hw0, hrb]; simp
  have HZ0 := hid hz0
  have HT := fun W => hid (refTr_any tr W)
  clear hw0 hrb hz0
  by_cases z1 : s.size = 1024
  rotate_left
  · have HDD : Hid (D = (zeroL, 11)) := by show _ = _; rw [hD]; exact dec_out s tr (.inl z1)
    have d1 : ((s.size : Int) != 1024) = true := by simp; omega
    clear hD z1
    have r0 := HR0.out.cell (i := 0) rfl
    have r1 := HR0.out.cell (i := 1) rfl
    have r2 := HR0.out.cell (i := 2) rfl
    have r3 := HR0.out.cell (i := 3) rfl
    have r4 := HR0.out.cell (i := 4) rfl
    have rf0 := HR0.out.frozen 0
    have rf1 := HR0.out.frozen 1
    have rf2 := HR0.out.frozen 2
    have rf3 := HR0.out.frozen 3
    have rf4 := HR0.out.frozen 4
    have rlt := HR0.out.lt
    go_enter Try.func19, Try.ntmps19
    go_upto_region 1 with fail
    rw [← HW0.out, ← HRBE.out]
    go_wp2_with fail
    rw [HDD.out]
    have hS : Upds (fun j => j = rb) w0 (((((w0.setCell ⟨rb, 0, none⟩ (.int .i64 0)).setCell ⟨rb, 1, none⟩ (.int .i64 0)).setCell ⟨rb, 2, none⟩ (.string ⟨#[]⟩)).setCell ⟨rb, 3, none⟩ (.string ⟨#[]⟩)).setCell ⟨rb, 4, none⟩ (.slice none 0 0)) := ((((Upds.set1 w0 rb 0 (.int .i64 0)).trans (Upds.set1 _ rb 1 (.int .i64 0))).trans (Upds.set1 _ rb 2 (.string ⟨#[]⟩))).trans (Upds.set1 _ rb 3 (.string ⟨#[]⟩))).trans (Upds.set1 _ rb 4 (.slice none 0 0))
    have hrow := (Row.set (Row.set (Row.set (Row.set (Row.set HR0.out 0 (.int .i64 0)) 1 (.int .i64 0)) 2 (.string ⟨#[]⟩)) 3 (.string ⟨#[]⟩)) 4 (.slice none 0 0))
    have hbel := HB0.out.trans (hS.below HB0.out.size (fun j e => e ▸ HRB0.out))
    have s0 := hrow.cell (i := 0) rfl
    have s1 := hrow.cell (i := 1) rfl
    have s2 := hrow.cell (i := 2) rfl
    have s3 := hrow.cell (i := 3) rfl
    have s4 := hrow.cell (i := 4) rfl
    refine bodyPost_ret (v := .tuple #[labV zeroL (.slice none 0 0), .int .i64 11]) ?_ rfl ⟨.slice none 0 0, rfl, zero_runs _, hbel⟩
    simp [results, Try.results19, go_sem, s0, s1, s2, s3, s4, zeroL]
  have d1 : ((s.size : Int) != 1024) = false := by simp; omega
  by_cases z2 : trOk tr
  rotate_left
  · have HDD : Hid (D = (zeroL, 11)) := by show _ = _; rw [hD]; exact dec_out s tr (.inr z2)
    rw [decide_eq_false z2] at HT
    clear hD z1 z2
    have r0 := HR0.out.cell (i := 0) rfl
    have r1 := HR0.out.cell (i := 1) rfl
    have r2 := HR0.out.cell (i := 2) rfl
    have r3 := HR0.out.cell (i := 3) rfl
    have r4 := HR0.out.cell (i := 4) rfl
    have rf0 := HR0.out.frozen 0
    have rf1 := HR0.out.frozen 1
    have rf2 := HR0.out.frozen 2
    have rf3 := HR0.out.frozen 3
    have rf4 := HR0.out.frozen 4
    have rlt := HR0.out.lt
    go_enter Try.func19, Try.ntmps19
    go_upto_region 1 with fail
    rw [← HW0.out, ← HRBE.out]
    go_wp2_with fail
    refine (HT _).out.mono ?_
    rintro e w' ⟨rfl, rfl⟩
    go_wp2_with fail
    rw [HDD.out]
    have hS : Upds (fun j => j = rb) w0 (((((w0.setCell ⟨rb, 0, none⟩ (.int .i64 0)).setCell ⟨rb, 1, none⟩ (.int .i64 0)).setCell ⟨rb, 2, none⟩ (.string ⟨#[]⟩)).setCell ⟨rb, 3, none⟩ (.string ⟨#[]⟩)).setCell ⟨rb, 4, none⟩ (.slice none 0 0)) := ((((Upds.set1 w0 rb 0 (.int .i64 0)).trans (Upds.set1 _ rb 1 (.int .i64 0))).trans (Upds.set1 _ rb 2 (.string ⟨#[]⟩))).trans (Upds.set1 _ rb 3 (.string ⟨#[]⟩))).trans (Upds.set1 _ rb 4 (.slice none 0 0))
    have hrow := (Row.set (Row.set (Row.set (Row.set (Row.set HR0.out 0 (.int .i64 0)) 1 (.int .i64 0)) 2 (.string ⟨#[]⟩)) 3 (.string ⟨#[]⟩)) 4 (.slice none 0 0))
    have hbel := HB0.out.trans (hS.below HB0.out.size (fun j e => e ▸ HRB0.out))
    have s0 := hrow.cell (i := 0) rfl
    have s1 := hrow.cell (i := 1) rfl
    have s2 := hrow.cell (i := 2) rfl
    have s3 := hrow.cell (i := 3) rfl
    have s4 := hrow.cell (i := 4) rfl
    refine bodyPost_ret (v := .tuple #[labV zeroL (.slice none 0 0), .int .i64 11]) ?_ rfl ⟨.slice none 0 0, rfl, zero_runs _, hbel⟩
    simp [results, Try.results19, go_sem, s0, s1, s2, s3, s4, zeroL]
  rw [decide_eq_true z2] at HT
  have hzero := dec_zero s tr z1 z2
  rw [← hD] at hzero
  rw [dec_ref s tr z1] at hD
  have HZE := hid hzero
  have HD := hid hD
  clear hzero hD z1 z2
  have r0 := HR0.out.cell (i := 0) rfl
  have r1 := HR0.out.cell (i := 1) rfl
  have r2 := HR0.out.cell (i := 2) rfl
  have r3 := HR0.out.cell (i := 3) rfl
  have r4 := HR0.out.cell (i := 4) rfl
  have rf0 := HR0.out.frozen 0
  have rf1 := HR0.out.frozen 1
  have rf2 := HR0.out.frozen 2
  have rf3 := HR0.out.frozen 3
  have rf4 := HR0.out.frozen 4
  have rlt := HR0.out.lt
  go_enter Try.func19, Try.ntmps19
  go_upto_region 1 with fail
  rw [← HW0.out, ← HRBE.out]
  go_wp2_with fail
  refine (HT _).out.mono ?_
  rintro e w' ⟨rfl, rfl⟩
  go_wp2_with fail
  refine (zero_any s hs _).mono ?_
  rintro e w' ⟨zb, rfl, hzb, rfl⟩
  cases zb with
  | true =>
    have HDD : Hid (D = (zeroL, 0)) := HZE.out (hzb.1 rfl)
    clear hzb
    go_wp2_with fail
    rw [HDD.out]
    have hS : Upds (fun j => j = rb) w0 (((((w0.setCell ⟨rb, 0, none⟩ (.int .i64 0)).setCell ⟨rb, 1, none⟩ (.int .i64 0)).setCell ⟨rb, 2, none⟩ (.string ⟨#[]⟩)).setCell ⟨rb, 3, none⟩ (.string ⟨#[]⟩)).setCell ⟨rb, 4, none⟩ (.slice none 0 0)) := ((((Upds.set1 w0 rb 0 (.int .i64 0)).trans (Upds.set1 _ rb 1 (.int .i64 0))).trans (Upds.set1 _ rb 2 (.string ⟨#[]⟩))).trans (Upds.set1 _ rb 3 (.string ⟨#[]⟩))).trans (Upds.set1 _ rb 4 (.slice none 0 0))
    have hrow := (Row.set (Row.set (Row.set (Row.set (Row.set HR0.out 0 (.int .i64 0)) 1 (.int .i64 0)) 2 (.string ⟨#[]⟩)) 3 (.string ⟨#[]⟩)) 4 (.slice none 0 0))
    have hbel := HB0.out.trans (hS.below HB0.out.size (fun j e => e ▸ HRB0.out))
    have s0 := hrow.cell (i := 0) rfl
    have s1 := hrow.cell (i := 1) rfl
    have s2 := hrow.cell (i := 2) rfl
    have s3 := hrow.cell (i := 3) rfl
    have s4 := hrow.cell (i := 4) rfl
    refine bodyPost_ret (v := .tuple #[labV zeroL (.slice none 0 0), .int .i64 0]) ?_ rfl ⟨.slice none 0 0, rfl, zero_runs _, hbel⟩
    simp [results, Try.results19, go_sem, s0, s1, s2, s3, s4, zeroL]
  | false =>
    clear hzb HZE r0 r1 r2 r3 r4 rf0 rf1 rf2 rf3 rf4 rlt
    obtain ⟨p, hp⟩ : ∃ p, p = rb + 1 := ⟨_, rfl⟩
    obtain ⟨w1, hw1⟩ : ∃ w1, w1 = w0.alloc (.cells #[.string s, .int .i64 0] 61) := ⟨_, rfl⟩
    have hb1 : Below w0.heap.size w0 w1 := by rw [hw1]; exact (Below.refl _ _).alloc (Nat.le_refl _) _
    have hp1 : Row w1 p 61 [.string s, .int .i64 ((0 : Nat) : Int)] := by rw [hw1, hp, ← HZ0.out]; exact Row.new w0 _ _
    have hr1 : Row w1 rb 24 (labCells zeroL (.slice none 0 0)) := HR0.out.upd (F := fun _ => False) (Upds.of_below hb1 (Nat.le_refl _)) (fun h => h)
    have B1 := hid (HB0.out.trans (hb1.mono HB0.out.size))
    have R1 := hid hr1
    have P1 := hid hp1
    have HW1 := hid hw1
    have HPE := hid (show w0.heap.size = p by rw [hp]; exact HZ0.out)
    have HPL : Hid (w.heap.size ≤ p) := by show _ ≤ _; have := HRB0.out; omega
    clear hw1 hb1 hp1 hr1 hp
    go_upto_region 6 with fail
    rw [← HW1.out, HPE.out]
    obtain ⟨a, ha⟩ : ∃ t, t = cntR big40 ((s, 0) : St) := ⟨_, rfl⟩
    have za : Hid (a.2.1.size ≤ 1000000) := by show _ ≤ _; have h1 := (cntR_le big40 ((s, 0) : St)).2; rw [ha]; exact Nat.le_trans h1 hs
    have HC := hid (cntF big40 (by decide) ((s, 0) : St).1 ((s, 0) : St).2 hs w1)
    rw [show ((cntR big40 ((s, 0) : St) : Nat × St)) = a from ha.symm] at HC
    rw [show (((big40 : Nat)) : Int) = 1099511627776 from rfl] at HC
    have Qa := hid ha
    clear ha
    have c0 := P1.out.cell (i := 0) rfl
    have c1 := P1.out.cell (i := 1) rfl
    have f0 := P1.out.frozen 0
    have f1 := P1.out.frozen 1
    have plt := P1.out.lt
    go_wp2_with fail
    refine HC.out.mono ?_
    clear HC
    rintro e v1 ⟨rfl, hb⟩
    have B1q := hid (B1.out.trans (hb.mono B1.out.size))
    have R1q := hid (R1.out.upd (F := fun _ => False) (Upds.of_below hb (Nat.le_refl _)) (fun h => h))
    have P1q := hid (P1.out.upd (F := fun _ => False) (Upds.of_below hb (Nat.le_refl _)) (fun h => h))
    clear hb c0 c1 f0 f1 plt B1 R1 P1
    have c0 := P1q.out.cell (i := 0) rfl
    have c1 := P1q.out.cell (i := 1) rfl
    have f0 := P1q.out.frozen 0
    have f1 := P1q.out.frozen 1
    have plt := P1q.out.lt
    unfold rdr
    go_upto_region 7 with fail
    obtain ⟨w2, hw2⟩ : ∃ x, x = (v1.setCell ⟨p, 0, none⟩ (.string a.2.1)).setCell ⟨p, 1, none⟩ (.int .i64 (a.2.2 : Nat)) := ⟨_, rfl⟩
    have hS1 : Upds (fun j => j = p) v1 w2 := by rw [hw2]; exact (Upds.set1 v1 p 0 _).trans (Upds.set1 _ p 1 _)
    have P2 : Hid (Row w2 p 61 [.string a.2.1, .int .i64 (a.2.2 : Nat)]) := by show Row _ _ _ _; rw [hw2]; exact (P1q.out.set 0 (.string a.2.1)).set 1 (.int .i64 (a.2.2 : Nat))
    have R2 := hid (R1q.out.upd hS1 (Row.ne R1q.out P1q.out (by decide)))
    have B2 := hid (B1q.out.trans (hS1.below B1q.out.size (fun j e => e ▸ HPL.out)))
    rw [← hw2]
    clear hw2 hS1 c0 c1 f0 f1 plt B1q R1q P1q
    obtain ⟨b, hb⟩ : ∃ t, t = cntR big40 a.2 := ⟨_, rfl⟩
    have zb : Hid (b.2.1.size ≤ 1000000) := by show _ ≤ _; have h1 := (cntR_le big40 a.2).2; rw [hb]; exact Nat.le_trans h1 za.out
    have HC := hid (cntF big40 (by decide) a.2.1 a.2.2 za.out w2)
    rw [show ((cntR big40 a.2 : Nat × St)) = b from hb.symm] at HC
    rw [show (((big40 : Nat)) : Int) = 1099511627776 from rfl] at HC
    have Qb := hid hb
    clear hb
    have c0 := P2.out.cell (i := 0) rfl
    have c1 := P2.out.cell (i := 1) rfl
    have f0 := P2.out.frozen 0
    have f1 := P2.out.frozen 1
    have plt := P2.out.lt
    go_wp2_with fail
    refine HC.out.mono ?_
    clear HC
    rintro e v2 ⟨rfl, hb⟩
    have B2q := hid (B2.out.trans (hb.mono B2.out.size))
    have R2q := hid (R2.out.upd (F := fun _ => False) (Upds.of_below hb (Nat.le_refl _)) (fun h => h))
    have P2q := hid (P2.out.upd (F := fun _ => False) (Upds.of_below hb (Nat.le_refl _)) (fun h => h))
    clear hb c0 c1 f0 f1 plt B2 R2 P2
    have c0 := P2q.out.cell (i := 0) rfl
    have c1 := P2q.out.cell (i := 1) rfl
    have f0 := P2q.out.frozen 0
    have f1 := P2q.out.frozen 1
    have plt := P2q.out.lt
    unfold rdr
    go_upto_region 8 with fail
    obtain ⟨w3, hw3⟩ : ∃ x, x = (v2.setCell ⟨p, 0, none⟩ (.string b.2.1)).setCell ⟨p, 1, none⟩ (.int .i64 (b.2.2 : Nat)) := ⟨_, rfl⟩
    have hS2 : Upds (fun j => j = p) v2 w3 := by rw [hw3]; exact (Upds.set1 v2 p 0 _).trans (Upds.set1 _ p 1 _)
    have P3 : Hid (Row w3 p 61 [.string b.2.1, .int .i64 (b.2.2 : Nat)]) := by show Row _ _ _ _; rw [hw3]; exact (P2q.out.set 0 (.string b.2.1)).set 1 (.int .i64 (b.2.2 : Nat))
    have R3 := hid (R2q.out.upd hS2 (Row.ne R2q.out P2q.out (by decide)))
    have B3 := hid (B2q.out.trans (hS2.below B2q.out.size (fun j e => e ▸ HPL.out)))
    rw [← hw3]
    clear hw3 hS2 c0 c1 f0 f1 plt B2q R2q P2q
    obtain ⟨c, hc⟩ : ∃ t, t = txtR 31 b.2 := ⟨_, rfl⟩
    have zc : Hid (c.2.1.size ≤ 1000000) := by show _ ≤ _; have h1 := (txtR_le 31 b.2).2; rw [hc]; exact Nat.le_trans h1 zb.out
    have HC := hid (txtF 31 (by decide) b.2.1 b.2.2 zb.out w3)
    rw [show ((txtR 31 b.2 : ByteArray × St)) = c from hc.symm] at HC
    have Qc := hid hc
    clear hc
    have c0 := P3.out.cell (i := 0) rfl
    have c1 := P3.out.cell (i := 1) rfl
    have f0 := P3.out.frozen 0
    have f1 := P3.out.frozen 1
    have plt := P3.out.lt
    go_wp2_with fail
    refine HC.out.mono ?_
    clear HC
    rintro e v3 ⟨rfl, hb⟩
    have B3q := hid (B3.out.trans (hb.mono B3.out.size))
    have R3q := hid (R3.out.upd (F := fun _ => False) (Upds.of_below hb (Nat.le_refl _)) (fun h => h))
    have P3q := hid (P3.out.upd (F := fun _ => False) (Upds.of_below hb (Nat.le_refl _)) (fun h => h))
    clear hb c0 c1 f0 f1 plt B3 R3 P3
    have c0 := P3q.out.cell (i := 0) rfl
    have c1 := P3q.out.cell (i := 1) rfl
    have f0 := P3q.out.frozen 0
    have f1 := P3q.out.frozen 1
    have plt := P3q.out.lt
    unfold rdr
    go_upto_region 9 with fail
    obtain ⟨w4, hw4⟩ : ∃ x, x = (v3.setCell ⟨p, 0, none⟩ (.string c.2.1)).setCell ⟨p, 1, none⟩ (.int .i64 (c.2.2 : Nat)) := ⟨_, rfl⟩
    have hS3 : Upds (fun j => j = p) v3 w4 := by rw [hw4]; exact (Upds.set1 v3 p 0 _).trans (Upds.set1 _ p 1 _)
    have P4 : Hid (Row w4 p 61 [.string c.2.1, .int .i64 (c.2.2 : Nat)]) := by show Row _ _ _ _; rw [hw4]; exact (P3q.out.set 0 (.string c.2.1)).set 1 (.int .i64 (c.2.2 : Nat))
    have R4 := hid (R3q.out.upd hS3 (Row.ne R3q.out P3q.out (by decide)))
    have B4 := hid (B3q.out.trans (hS3.below B3q.out.size (fun j e => e ▸ HPL.out)))
    rw [← hw4]
    clear hw4 hS3 c0 c1 f0 f1 plt B3q R3q P3q
    obtain ⟨d, hd⟩ : ∃ t, t = txtR 400 c.2 := ⟨_, rfl⟩
    have zd : Hid (d.2.1.size ≤ 1000000) := by show _ ≤ _; have h1 := (txtR_le 400 c.2).2; rw [hd]; exact Nat.le_trans h1 zc.out
    have HC := hid (txtF 400 (by decide) c.2.1 c.2.2 zc.out w4)
    rw [show ((txtR 400 c.2 : ByteArray × St)) = d from hd.symm] at HC
    have Qd := hid hd
    clear hd
    have c0 := P4.out.cell (i := 0) rfl
    have c1 := P4.out.cell (i := 1) rfl
    have f0 := P4.out.frozen 0
    have f1 := P4.out.frozen 1
    have plt := P4.out.lt
    go_wp2_with fail
    refine HC.out.mono ?_
    clear HC
    rintro e v4 ⟨rfl, hb⟩
    have B4q := hid (B4.out.trans (hb.mono B4.out.size))
    have R4q := hid (R4.out.upd (F := fun _ => False) (Upds.of_below hb (Nat.le_refl _)) (fun h => h))
    have P4q := hid (P4.out.upd (F := fun _ => False) (Upds.of_below hb (Nat.le_refl _)) (fun h => h))
    clear hb c0 c1 f0 f1 plt B4 R4 P4
    have c0 := P4q.out.cell (i := 0) rfl
    have c1 := P4q.out.cell (i := 1) rfl
    have f0 := P4q.out.frozen 0
    have f1 := P4q.out.frozen 1
    have plt := P4q.out.lt
    unfold rdr
    go_upto_region 10 with fail
    obtain ⟨w5, hw5⟩ : ∃ x, x = (v4.setCell ⟨p, 0, none⟩ (.string d.2.1)).setCell ⟨p, 1, none⟩ (.int .i64 (d.2.2 : Nat)) := ⟨_, rfl⟩
    have hS4 : Upds (fun j => j = p) v4 w5 := by rw [hw5]; exact (Upds.set1 v4 p 0 _).trans (Upds.set1 _ p 1 _)
    have P5 : Hid (Row w5 p 61 [.string d.2.1, .int .i64 (d.2.2 : Nat)]) := by show Row _ _ _ _; rw [hw5]; exact (P4q.out.set 0 (.string d.2.1)).set 1 (.int .i64 (d.2.2 : Nat))
    have R5 := hid (R4q.out.upd hS4 (Row.ne R4q.out P4q.out (by decide)))
    have B5 := hid (B4q.out.trans (hS4.below B4q.out.size (fun j e => e ▸ HPL.out)))
    rw [← hw5]
    clear hw5 hS4 c0 c1 f0 f1 plt B4q R4q P4q
    obtain ⟨n, hn⟩ : ∃ t, t = cntR 16 d.2 := ⟨_, rfl⟩
    have zn : Hid (n.2.1.size ≤ 1000000) := by show _ ≤ _; have h1 := (cntR_le 16 d.2).2; rw [hn]; exact Nat.le_trans h1 zd.out
    have hn16 : n.1 ≤ 16 := by rw [hn]; exact (cntR_le 16 _).1
    have HC := hid (cntF 16 (by decide) d.2.1 d.2.2 zd.out w5)
    rw [show ((cntR 16 d.2 : Nat × St)) = n from hn.symm] at HC
    have Qn := hid hn
    clear hn
    have c0 := P5.out.cell (i := 0) rfl
    have c1 := P5.out.cell (i := 1) rfl
    have f0 := P5.out.frozen 0
    have f1 := P5.out.frozen 1
    have plt := P5.out.lt
    go_wp2_with fail
    refine HC.out.mono ?_
    clear HC
    rintro e v5 ⟨rfl, hb⟩
    have B5q := hid (B5.out.trans (hb.mono B5.out.size))
    have R5q := hid (R5.out.upd (F := fun _ => False) (Upds.of_below hb (Nat.le_refl _)) (fun h => h))
    have P5q := hid (P5.out.upd (F := fun _ => False) (Upds.of_below hb (Nat.le_refl _)) (fun h => h))
    clear hb c0 c1 f0 f1 plt B5 R5 P5
    have c0 := P5q.out.cell (i := 0) rfl
    have c1 := P5q.out.cell (i := 1) rfl
    have f0 := P5q.out.frozen 0
    have f1 := P5q.out.frozen 1
    have plt := P5q.out.lt
    unfold rdr
    go_upto_region 11 with fail
    obtain ⟨w6, hw6⟩ : ∃ x, x = (v5.setCell ⟨p, 0, none⟩ (.string n.2.1)).setCell ⟨p, 1, none⟩ (.int .i64 (n.2.2 : Nat)) := ⟨_, rfl⟩
    have hS5 : Upds (fun j => j = p) v5 w6 := by rw [hw6]; exact (Upds.set1 v5 p 0 _).trans (Upds.set1 _ p 1 _)
    have P6 : Hid (Row w6 p 61 [.string n.2.1, .int .i64 (n.2.2 : Nat)]) := by show Row _ _ _ _; rw [hw6]; exact (P5q.out.set 0 (.string n.2.1)).set 1 (.int .i64 (n.2.2 : Nat))
    have R6 := hid (R5q.out.upd hS5 (Row.ne R5q.out P5q.out (by decide)))
    have B6 := hid (B5q.out.trans (hS5.below B5q.out.size (fun j e => e ▸ HPL.out)))
    rw [← hw6]
    clear hw6 hS5 c0 c1 f0 f1 plt B5q R5q P5q
    have hL : (readL 127 s).1 = ⟨((a.1 : Nat) : Int), ((b.1 : Nat) : Int), c.1, d.1, (runsR 127 n.1 n.2).1⟩ ∧ (readL 127 s).2 = (runsR 127 n.1 n.2).2 := by
      rw [Qn.out, Qd.out, Qc.out, Qb.out, Qa.out]; exact ⟨rfl, rfl⟩
    have HL := hid hL
    clear hL Qa Qb Qc Qd Qn
    obtain ⟨lb, hlb⟩ : ∃ b, b = w6.heap.size := ⟨_, rfl⟩
    obtain ⟨w7, hw7⟩ : ∃ w7, w7 = w6.alloc (.cells #[.int .i64 ((a.1 : Nat) : Int), .int .i64 ((b.1 : Nat) : Int), .string c.1, .string d.1, .slice none 0 0] 24) := ⟨_, rfl⟩
    have hbw : Below w6.heap.size w6 w7 := by rw [hw7]; exact (Below.refl _ _).alloc (Nat.le_refl _) _
    have hl7 : Row w7 lb 24 [.int .i64 ((a.1 : Nat) : Int), .int .i64 ((b.1 : Nat) : Int), .string c.1, .string d.1, .slice none 0 0] := by rw [hw7, hlb]; exact Row.new w6 _ _
    have hq7 : Rf w rb p lb n.2 [.int .i64 ((a.1 : Nat) : Int), .int .i64 ((b.1 : Nat) : Int), .string c.1, .string d.1, .slice none 0 0] w7 :=
      ⟨R6.out.upd (F := fun _ => False) (Upds.of_below hbw (Nat.le_refl _)) (fun h => h), P6.out.upd (F := fun _ => False) (Upds.of_below hbw (Nat.le_refl _)) (fun h => h), hl7, B6.out.trans (hbw.mono B6.out.size), HRB0.out, HPL.out, by rw [hlb]; exact B6.out.size, by have := R6.out.lt; omega⟩
    have HQ7 := hid hq7
    have HW7 := hid hw7
    have HLB := hid hlb
    have HOF : Hid (OwnF w w7 (.slice none 0 0) (runsR 127 0 n.2).1) := ⟨OwnRuns.nil _, Fresh.nil _⟩
    clear hbw hl7 hq7 hw7 hlb B6 R6 P6
    go_upto_region 12 with fail
    rw [← HW7.out, ← HLB.out]
    go_wp2_with fail
    obtain ⟨N, hN⟩ : ∃ N, N = n.1 := ⟨_, rfl⟩
    rw [← hN] at hn16 HL ⊢
    clear hN
    have hsz : ∀ k, (runsR 127 k n.2).2.1.size ≤ 1000000 := fun k => Nat.le_trans (runsR_le 127 (by omega) n.2 k).2.1 zn.out
    have HSZ := hid hsz
    clear hsz za zb zc zd zn
    go_loopw [13] (fun i wr => ∃ (k : Nat) (v : Value), k ≤ N ∧ i = .int .i64 k ∧ Rf w rb p lb (runsR 127 k n.2).2 [.int .i64 ((a.1 : Nat) : Int), .int .i64 ((b.1 : Nat) : Int), .string c.1, .string d.1, v] wr ∧ OwnF w wr v (runsR 127 k n.2).1) (fun i _ => N - (RowKit.intOf i).toNat)
    case atStart => exact ⟨0, _, Nat.zero_le _, rfl, HQ7.out, HOF.out⟩
    case round =>
      clear HQ7 HOF
      obtain ⟨k, v, hk, rfl, hA, hO⟩ := hrel
      by_cases hlt : k < N
      · obtain ⟨q, hq⟩ : ∃ q, q = runsR 127 k n.2 := ⟨_, rfl⟩
        have hlen : q.1.length = k := by rw [hq]; exact (runsR_le 127 (by omega) n.2 k).1
        have hqs : q.2.1.size ≤ 1000000 := by rw [hq]; exact HSZ.out k
        rw [← hq] at hA hO
        obtain ⟨x, hx⟩ : ∃ x, x = cntR 127 q.2 := ⟨_, rfl⟩
        obtain ⟨y, hy⟩ : ∃ y, y = cntR 128 x.2 := ⟨_, rfl⟩
        have hxs : x.2.1.size ≤ 1000000 := by rw [hx]; exact Nat.le_trans (cntR_le 127 q.2).2 hqs
        have hnext : runsR 127 (k + 1) n.2 = (q.1 ++ [((x.1 : Int), (y.1 : Int))], y.2) := by rw [hy, hx, hq]; rfl
        have HC1 := hid (cntF 127 (by decide) q.2.1 q.2.2 hqs wr)
        rw [show cntR 127 (q.2.1, q.2.2) = x from hx.symm] at HC1
        have HC2 := fun W => hid (cntF 128 (by decide) x.2.1 x.2.2 hxs W)
        rw [show cntR 128 (x.2.1, x.2.2) = y from hy.symm] at HC2
        have HNX := hid hnext
        have HLEN := hid hlen
        have HA := hid hA
        have HO := hid hO
        clear hq hx hy hnext hlen hA hO
        have c0 := HA.out.2.1.cell (i := 0) rfl
        have c1 := HA.out.2.1.cell (i := 1) rfl
        have plt := HA.out.2.1.lt
        go_wp2_with fail
        refine HC1.out.mono ?_
        rintro e u1 ⟨rfl, hb⟩
        have hA1 := HA.out.below hb
        have hO1 := HO.out.upd (F := fun _ => False) (Upds.of_below hb (Nat.le_refl _)) (fun _ _ h => h)
        unfold rdr
        obtain ⟨e1, he1⟩ : ∃ b, b = u1.heap.size := ⟨_, rfl⟩
        obtain ⟨u2, hu2⟩ : ∃ u2, u2 = u1.alloc (.cells #[.string x.2.1, .int .i64 (x.2.2 : Nat)] 61) := ⟨_, rfl⟩
        have hx2 : Row u2 e1 61 [.string x.2.1, .int .i64 (x.2.2 : Nat)] := by rw [hu2, he1]; exact Row.new u1 _ _
        have HA2 : Hid (Rf w rb p lb q.2 [.int .i64 ((a.1 : Nat) : Int), .int .i64 ((b.1 : Nat) : Int), .string c.1, .string d.1, v] u2) := by show Rf _ _ _ _ _ _ _; rw [hu2]; exact hA1.alloc _
        have HO2 : Hid (OwnF w u2 v q.1) := by show OwnF _ _ _ _; rw [hu2]; exact hO1.upd (F := fun _ => False) (Upds.alloc _ _) (fun _ _ h => h)
        have HU2 := hid hu2
        have HE1 := hid he1
        clear hb hA1 hO1 he1 hu2 HA HO c0 c1 plt
        have x0 := hx2.cell (i := 0) rfl
        have x1 := hx2.cell (i := 1) rfl
        have xlt := hx2.lt
        go_upto_region 16 with fail
        rw [← HU2.out, ← HE1.out]
        go_wp2_with fail
        refine (HC2 _).out.mono ?_
        rintro e u3 ⟨rfl, hb⟩
        have hA3 := HA2.out.below hb
        have hO3 := HO2.out.upd (F := fun _ => False) (Upds.of_below hb (Nat.le_refl _)) (fun _ _ h => h)
        unfold rdr
        obtain ⟨e2, he2⟩ : ∃ b, b = u3.heap.size := ⟨_, rfl⟩
        obtain ⟨u4, hu4⟩ : ∃ u4, u4 = u3.alloc (.cells #[.string y.2.1, .int .i64 (y.2.2 : Nat)] 61) := ⟨_, rfl⟩
        have hx4 : Row u4 e2 61 [.string y.2.1, .int .i64 (y.2.2 : Nat)] := by rw [hu4, he2]; exact Row.new u3 _ _
        have HA4 : Hid (Rf w rb p lb q.2 [.int .i64 ((a.1 : Nat) : Int), .int .i64 ((b.1 : Nat) : Int), .string c.1, .string d.1, v] u4) := by show Rf _ _ _ _ _ _ _; rw [hu4]; exact hA3.alloc _
        have HO4 : Hid (OwnF w u4 v q.1) := by show OwnF _ _ _ _; rw [hu4]; exact hO3.upd (F := fun _ => False) (Upds.alloc _ _) (fun _ _ h => h)
        have HU4 := hid hu4
        have HE2 := hid he2
        clear hb hA3 hO3 he2 hu4 HA2 HO2 x0 x1 xlt hx2
        have x0 := hx4.cell (i := 0) rfl
        have x1 := hx4.cell (i := 1) rfl
        have xlt := hx4.lt
        have c0 := HA4.out.2.1.cell (i := 0) rfl
        have c1 := HA4.out.2.1.cell (i := 1) rfl
        have f0 := HA4.out.2.1.frozen 0
        have f1 := HA4.out.2.1.frozen 1
        have plt := HA4.out.2.1.lt
        go_upto_region 17 with fail
        rw [← HU4.out, ← HE2.out]
        go_upto_region 18 with fail
        obtain ⟨u5, hu5⟩ : ∃ x, x = (u4.setCell ⟨p, 0, none⟩ (.string y.2.1)).setCell ⟨p, 1, none⟩ (.int .i64 (y.2.2 : Nat)) := ⟨_, rfl⟩
        have HA5 : Hid (Rf w rb p lb y.2 [.int .i64 ((a.1 : Nat) : Int), .int .i64 ((b.1 : Nat) : Int), .string c.1, .string d.1, v] u5) := by show Rf _ _ _ _ _ _ _; rw [hu5]; exact HA4.out.setP y.2
        have HO5 : Hid (OwnF w u5 v q.1) := by
          show OwnF _ _ _ _
          rw [hu5]
          exact HO4.out.upd (F := fun j => j = p) ((Upds.set1 u4 p 0 _).trans (Upds.set1 _ p 1 _)) (HO4.out.not HA4.out.2.1 (by decide))
        rw [← hu5]
        clear hu5 HA4 HO4 x0 x1 xlt hx4 c0 c1 f0 f1 plt
        have l4 := HA5.out.2.2.1.cell (i := 4) rfl
        have l4f := HA5.out.2.2.1.frozen 4
        have llt := HA5.out.2.2.1.lt
        obtain ⟨cs, hcs⟩ : ∃ cs, cs = runCells q.1 := ⟨_, rfl⟩
        have ho := HO5.out.1
        unfold OwnRuns at ho
        rw [HLEN.out, ← hcs] at ho
        have HS := hid ho
        have HCS := hid hcs
        clear ho hcs
        go_wp2_with (at_builtin; refine wpList_append_slice rfl (.tmp 79) (.tmp 83) 22 rfl 43 (.agg #[.int .i64 0, .int .i64 0]) 2 16 Try.underlying22 (by kernel_rfl) (by kernel_rfl) v k cs rfl (SliceIs.alloc HS.out _) ⟨u5.heap.size, 0, none⟩ 1 1 [.int .i64 ((x.1 : Nat) : Int), .int .i64 ((y.1 : Nat) : Int)] rfl rfl (news2 _ _ _ _ _ rfl) (one2 _ _) (by omega) (by omega) (by omega) ?_; intro g8 cap8 w8 hs8 hu8 hh8; have HA8 := hid ((HA5.out.alloc (.cells #[.int .i64 ((x.1 : Nat) : Int), .int .i64 ((y.1 : Nat) : Int)] 43)).upds hu8.out (fun j hj => HO5.out.2 j hj) (fun hj => HO5.out.not HA5.out.1 (by decide) _ hj rfl) (fun hj => HO5.out.not HA5.out.2.1 (by decide) _ hj rfl) (fun hj => HO5.out.not HA5.out.2.2.1 (by decide) _ hj rfl)); have m4 := HA8.out.2.2.1.cell (i := 4) rfl; have m4f := HA8.out.2.2.1.frozen 4; have mlt := HA8.out.2.2.1.lt)
        go_roundw
        case rel =>
          have h1 : OwnRuns w8 (.slice (some ⟨g8, 0, none⟩) (k + 1) cap8) (q.1 ++ [((x.1 : Int), (y.1 : Int))]) := OwnRuns.more (r := ((x.1 : Int), (y.1 : Int))) HLEN.out HCS.out hs8.out
          have h2 : Fresh w (.slice (some ⟨g8, 0, none⟩) (k + 1) cap8) := fun b hb => (hh8.out b hb).elim (HO5.out.2 b) (fun h => by have := HA5.out.2.2.2.1.size; simp at h; omega)
          have hO8 : OwnF w w8 (.slice (some ⟨g8, 0, none⟩) (k + 1) cap8) (q.1 ++ [((x.1 : Int), (y.1 : Int))]) := ⟨h1, h2⟩
          refine ⟨k + 1, .slice (some ⟨g8, 0, none⟩) (k + 1) cap8, by omega, by go_num, ?_, ?_⟩
          · rw [HNX.out]; exact HA8.out.setL 4 _
          · rw [HNX.out]; exact hO8.upd (Upds.set1 w8 lb 4 _) (hO8.not HA8.out.2.2.1 (by decide))
        case measure => simp [RowKit.intOf]; omega
      · obtain rfl : k = N := by omega
        obtain ⟨A, cap, rfl⟩ := hO.1.shape
        rw [(runsR_le 127 (by omega) n.2 k).1] at hA hO
        obtain ⟨q, hq⟩ : ∃ q, q = runsR 127 k n.2 := ⟨_, rfl⟩
        have hql : q.1.length = k := by rw [hq]; exact (runsR_le 127 (by omega) n.2 k).1
        have hqb : Bd q.1 := by
          intro r hr
          rw [hq] at hr
          have := (runsR_le 127 (by omega) n.2 k).2.2 r hr
          omega
        rw [← hq] at hA hO HL
        clear hq
        have hD := HD.out
        rw [HL.out.1, HL.out.2] at hD
        obtain ⟨er, her⟩ : ∃ er, er = q.2.2 := ⟨_, rfl⟩
        obtain ⟨L, hL⟩ : ∃ L : Lab, L = ⟨((a.1 : Nat) : Int), ((b.1 : Nat) : Int), c.1, d.1, q.1⟩ := ⟨_, rfl⟩
        obtain ⟨E, hE⟩ : ∃ E, E = encL L tr := ⟨_, rfl⟩
        have hcells : labCells L (.slice A k cap) = [.int .i64 ((a.1 : Nat) : Int), .int .i64 ((b.1 : Nat) : Int), .string c.1, .string d.1, .slice A k cap] := by rw [hL]
        rw [← hL, ← her, ← hE] at hD
        rw [← hcells] at hA
        have hLe : L.ext = q.1 := by rw [hL]
        have hown : OwnF w wr (.slice A k cap) L.ext := by rw [hLe]; exact hO
        have hLb : Bd L.ext := by rw [hLe]; exact hqb
        have hLl : L.ext.length ≤ 3000 := by rw [hLe]; omega
        have HENC := fun W (hv : RunsAt W (.slice A k cap) L.ext) => hid (refEncode_any L (.slice A k cap) tr hLl W hv)
        rw [← hE] at HENC
        have hlink : ((a.1 : Nat) : Int) = L.id ∧ ((b.1 : Nat) : Int) = L.unit ∧ c.1 = L.name ∧ d.1 = L.note := by rw [hL]; exact ⟨rfl, rfl, rfl, rfl⟩
        have HLBD := hid hLb
        have HA := hid hA
        have HO := hid hown
        have HDF := hid hD
        have c1 := hA.2.1.cell (i := 1) rfl
        rw [← her] at c1
        have plt := hA.2.1.lt
        have l0 := hA.2.2.1.cell (i := 0) rfl
        have l1 := hA.2.2.1.cell (i := 1) rfl
        have l2 := hA.2.2.1.cell (i := 2) rfl
        have l3 := hA.2.2.1.cell (i := 3) rfl
        have l4 := hA.2.2.1.cell (i := 4) rfl
        have llt := hA.2.2.1.lt
        have hRX := hA.1
        have HRX := hid hRX
        have r0 := HRX.out.cell (i := 0) rfl
        have r1 := HRX.out.cell (i := 1) rfl
        have r2 := HRX.out.cell (i := 2) rfl
        have r3 := HRX.out.cell (i := 3) rfl
        have r4 := HRX.out.cell (i := 4) rfl
        have rf0 := HRX.out.frozen 0
        have rf1 := HRX.out.frozen 1
        have rf2 := HRX.out.frozen 2
        have rf3 := HRX.out.frozen 3
        have rf4 := HRX.out.frozen 4
        have rlt := HRX.out.lt
        have HB := hid hA.2.2.2.1
        clear hA hO hown hD hE hL hLe hLb hcells her HL HD hlink hqb hql hRX
        by_cases z3 : er = 0
        rotate_left
        · have HDD : Hid (D = (zeroL, 11)) := by show _ = _; rw [HDF.out, if_neg (fun h => z3 h.1)]
          have d2 : ((er : Int) == 0) = false := by simp; omega
          clear HENC
          go_wp2_with fail
          rw [HDD.out]
          have hS : Upds (fun j => j = rb) wr (((((wr.setCell ⟨rb, 0, none⟩ (.int .i64 0)).setCell ⟨rb, 1, none⟩ (.int .i64 0)).setCell ⟨rb, 2, none⟩ (.string ⟨#[]⟩)).setCell ⟨rb, 3, none⟩ (.string ⟨#[]⟩)).setCell ⟨rb, 4, none⟩ (.slice none 0 0)) := ((((Upds.set1 wr rb 0 (.int .i64 0)).trans (Upds.set1 _ rb 1 (.int .i64 0))).trans (Upds.set1 _ rb 2 (.string ⟨#[]⟩))).trans (Upds.set1 _ rb 3 (.string ⟨#[]⟩))).trans (Upds.set1 _ rb 4 (.slice none 0 0))
          have hrow := (Row.set (Row.set (Row.set (Row.set (Row.set HRX.out 0 (.int .i64 0)) 1 (.int .i64 0)) 2 (.string ⟨#[]⟩)) 3 (.string ⟨#[]⟩)) 4 (.slice none 0 0))
          have hbel := HB.out.trans (hS.below HB.out.size (fun j e => e ▸ HRB0.out))
          have s0 := hrow.cell (i := 0) rfl
          have s1 := hrow.cell (i := 1) rfl
          have s2 := hrow.cell (i := 2) rfl
          have s3 := hrow.cell (i := 3) rfl
          have s4 := hrow.cell (i := 4) rfl
          refine bodyPost_ret (v := .tuple #[labV zeroL (.slice none 0 0), .int .i64 11]) ?_ rfl ⟨.slice none 0 0, rfl, zero_runs _, hbel⟩
          simp [results, Try.results19, go_sem, s0, s1, s2, s3, s4, zeroL]
        subst z3
        have HE1 := HENC wr (OwnRuns.at HO.out.1 HLBD.out)
        go_wp2_with fail
        refine HE1.out.mono ?_
        clear HE1 HENC
        rintro e w9 ⟨rfl, hb⟩
        have HB9 := hid (HB.out.trans (hb.mono HB.out.size))
        have hA9 := HA.out.below hb
        have HRY := hid hA9.1
        have HO9 := hid (HO.out.upd (F := fun _ => False) (Upds.of_below hb (Nat.le_refl _)) (fun _ _ h => h))
        clear hb l0 l1 l2 l3 l4 llt c1 plt r0 r1 r2 r3 r4 rf0 rf1 rf2 rf3 rf4 rlt
        have l0 := hA9.2.2.1.cell (i := 0) rfl
        have l1 := hA9.2.2.1.cell (i := 1) rfl
        have l2 := hA9.2.2.1.cell (i := 2) rfl
        have l3 := hA9.2.2.1.cell (i := 3) rfl
        have l4 := hA9.2.2.1.cell (i := 4) rfl
        have llt := hA9.2.2.1.lt
        clear hA9
        have r0 := HRY.out.cell (i := 0) rfl
        have r1 := HRY.out.cell (i := 1) rfl
        have r2 := HRY.out.cell (i := 2) rfl
        have r3 := HRY.out.cell (i := 3) rfl
        have r4 := HRY.out.cell (i := 4) rfl
        have rf0 := HRY.out.frozen 0
        have rf1 := HRY.out.frozen 1
        have rf2 := HRY.out.frozen 2
        have rf3 := HRY.out.frozen 3
        have rf4 := HRY.out.frozen 4
        have rlt := HRY.out.lt
        cases q2 : (E.toList == s.toList) with
        | false =>
          have HDD : Hid (D = (zeroL, 11)) := by show _ = _; rw [HDF.out, if_neg (fun h => by rw [h.2] at q2; rw [str_eq] at q2; cases q2)]
          go_wp2_with fail
          rw [HDD.out]
          have hS : Upds (fun j => j = rb) w9 (((((w9.setCell ⟨rb, 0, none⟩ (.int .i64 0)).setCell ⟨rb, 1, none⟩ (.int .i64 0)).setCell ⟨rb, 2, none⟩ (.string ⟨#[]⟩)).setCell ⟨rb, 3, none⟩ (.string ⟨#[]⟩)).setCell ⟨rb, 4, none⟩ (.slice none 0 0)) := ((((Upds.set1 w9 rb 0 (.int .i64 0)).trans (Upds.set1 _ rb 1 (.int .i64 0))).trans (Upds.set1 _ rb 2 (.string ⟨#[]⟩))).trans (Upds.set1 _ rb 3 (.string ⟨#[]⟩))).trans (Upds.set1 _ rb 4 (.slice none 0 0))
          have hrow := (Row.set (Row.set (Row.set (Row.set (Row.set HRY.out 0 (.int .i64 0)) 1 (.int .i64 0)) 2 (.string ⟨#[]⟩)) 3 (.string ⟨#[]⟩)) 4 (.slice none 0 0))
          have hbel := HB9.out.trans (hS.below HB9.out.size (fun j e => e ▸ HRB0.out))
          have s0 := hrow.cell (i := 0) rfl
          have s1 := hrow.cell (i := 1) rfl
          have s2 := hrow.cell (i := 2) rfl
          have s3 := hrow.cell (i := 3) rfl
          have s4 := hrow.cell (i := 4) rfl
          refine bodyPost_ret (v := .tuple #[labV zeroL (.slice none 0 0), .int .i64 11]) ?_ rfl ⟨.slice none 0 0, rfl, zero_runs _, hbel⟩
          simp [results, Try.results19, go_sem, s0, s1, s2, s3, s4, zeroL]
        | true =>
          have hEs : E = s := by
            apply Classical.byContradiction
            intro hne
            rw [str_ne hne] at q2
            cases q2
          have HDD : Hid (D = (L, 0)) := by show _ = _; rw [HDF.out, if_pos (by simp [hEs])]
          clear hEs
          go_wp2_with fail
          rw [HDD.out]
          have hS : Upds (fun j => j = rb) w9 (((((w9.setCell ⟨rb, 0, none⟩ (.int .i64 L.id)).setCell ⟨rb, 1, none⟩ (.int .i64 L.unit)).setCell ⟨rb, 2, none⟩ (.string L.name)).setCell ⟨rb, 3, none⟩ (.string L.note)).setCell ⟨rb, 4, none⟩ (.slice A k cap)) := ((((Upds.set1 w9 rb 0 (.int .i64 L.id)).trans (Upds.set1 _ rb 1 (.int .i64 L.unit))).trans (Upds.set1 _ rb 2 (.string L.name))).trans (Upds.set1 _ rb 3 (.string L.note))).trans (Upds.set1 _ rb 4 (.slice A k cap))
          have hrow := (Row.set (Row.set (Row.set (Row.set (Row.set HRY.out 0 (.int .i64 L.id)) 1 (.int .i64 L.unit)) 2 (.string L.name)) 3 (.string L.note)) 4 (.slice A k cap))
          have hbel := HB9.out.trans (hS.below HB9.out.size (fun j e => e ▸ HRB0.out))
          have s0 := hrow.cell (i := 0) rfl
          have s1 := hrow.cell (i := 1) rfl
          have s2 := hrow.cell (i := 2) rfl
          have s3 := hrow.cell (i := 3) rfl
          have s4 := hrow.cell (i := 4) rfl
          have hv4 := OwnRuns.at (HO9.out.upd hS (HO9.out.not HRY.out (by decide))).1 HLBD.out
          refine bodyPost_ret (v := .tuple #[labV L (.slice A k cap), .int .i64 0]) ?_ rfl ⟨.slice A k cap, rfl, hv4, hbel⟩
          simp [results, Try.results19, go_sem, s0, s1, s2, s3, s4]
end Go.Proofs.Ytabbkgbgldgfeaa
