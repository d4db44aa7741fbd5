import Derived.Test.YtabbkgbgldgfeaaLabT7
/-! Decode. -/
namespace Go.Proofs.Ytabbkgbgldgfeaa
open Go.Lib Go.ChangeShapes Go.WideShapes Go.ChangeAt Go.RowKit

def decL (s : ByteArray) (tr : Int) : Lab × Int := if decOk s tr then ((readL 128 s).1, 0) else (zeroL, 11)
theorem decOk_test (s : ByteArray) (tr : Int) : decOk s tr ↔ (s ≠ ⟨#[]⟩ ∧ encL (readL 128 s).1 tr = s) := by
  constructor
  · intro h
    obtain ⟨h1, h2⟩ := (decOk_iff s tr _).1 ⟨h, rfl⟩
    exact ⟨h2 ▸ (encL_ne _ tr).2 h1, h2⟩
  · rintro ⟨h1, h2⟩
    have hg := (encL_ne (readL 128 s).1 tr).1 (by rw [h2]; exact h1)
    exact ((decOk_iff s tr _).2 ⟨hg, h2⟩).1
def DecPost (s : ByteArray) (tr : Int) (w : World) (e : Ending) (w' : World) : Prop :=
  ∃ v, e = .returned (.tuple #[labV (decL s tr).1 v, .int .i64 (decL s tr).2]) ∧ RunsAt w' v (decL s tr).1.ext ∧ Below w.heap.size w w'
theorem readL_bd (s : ByteArray) : Bd (readL 128 s).1.ext ∧ (readL 128 s).1.ext.length ≤ 16 := by
  have h1 : ∀ st : St, ∀ k, k ≤ 16 → Bd (runsR 128 k st).1 ∧ (runsR 128 k st).1.length ≤ 16 := by
    intro st k hk
    have h := runsR_le 128 (by omega) st k
    exact ⟨fun r hr => by have := h.2.2 r hr; omega, by rw [h.1]; exact hk⟩
  unfold readL
  exact h1 _ _ (cntR_le 16 _).1
theorem decL_len (s : ByteArray) (tr : Int) : (decL s tr).1.ext.length ≤ 16 := by
  unfold decL; split
  · exact (readL_bd s).2
  · simp [zeroL]
set_option maxRecDepth 100000 in
set_option maxHeartbeats 2000000 in
theorem decode_lab (s : ByteArray) (hs : s.size ≤ 1000000) (tr : Int) (h1 : -9223372036854775808 ≤ tr ∧ tr ≤ 9223372036854775807) (w : World) :
    Calls Try.prog 18 #[.string s, .int .i64 tr] w (DecPost s tr w) := by
  obtain ⟨D, hD⟩ : ∃ D, D = decL s tr := ⟨_, rfl⟩
  unfold DecPost
  rw [← hD]
  unfold decL at hD
  obtain ⟨w0, hw0⟩ : ∃ w0, w0 = w.alloc (.cells #[.int .i64 0, .int .i64 0, .string ⟨#[]⟩, .string ⟨#[]⟩, .slice none 0 0] 24) := ⟨_, rfl⟩
  obtain ⟨rb, hrb⟩ : ∃ b, b = w.heap.size := ⟨_, rfl⟩
  have HR0 : Hid (Row w0 rb 24 (labCells zeroL (.slice none 0 0))) := by show Row _ _ _ _; rw [hw0, hrb]; exact Row.new w (labCells zeroL (.slice none 0 0)) _
  have HB0 : Hid (Below w.heap.size w w0) := by show Below _ _ _; rw [hw0]; exact (Below.refl _ _).alloc (Nat.le_refl _) _
  have HRB0 : Hid (w.heap.size ≤ rb) := by show _ ≤ _; omega
  have HREAD := hid (read_lab s hs w0)
  have HRB := readL_bd s
  have HENC := fun v W (hv : RunsAt W v (readL 128 s).1.ext) => hid (encode_lab (readL 128 s).1 v tr h1 (by omega) W hv)
  have htest := decOk_test s tr
  obtain ⟨L, hL⟩ : ∃ L, L = (readL 128 s).1 := ⟨_, rfl⟩
  rw [← hL] at hD HREAD HRB HENC htest
  have HBD := hid HRB.1
  have HW0 := hid hw0
  have HRBE := hid hrb
  clear HRB hw0 hrb
  have step : ∀ (b1 : Bool), s.toList.isEmpty = b1 → ∀ (b2 : Bool), ((encL L tr).toList == s.toList) = b2 → (D = if b1 = false ∧ b2 = true then (L, 0) else (zeroL, 11)) →
      Calls Try.prog 18 #[.string s, .int .i64 tr] w fun e w' => ∃ v, e = .returned (.tuple #[labV D.1 v, .int .i64 D.2]) ∧ RunsAt w' v D.1.ext ∧ Below w.heap.size w w' := by
    clear htest hL hD
    intro b1 q1 b2 q2 hD
    obtain ⟨E, hE⟩ : ∃ E, E = encL L tr := ⟨_, rfl⟩
    rw [← hE] at HENC q2
    have HD := hid hD
    clear hD hE
    go_enter Try.func18, Try.ntmps18
    go_upto_region 1 with fail
    rw [← HW0.out, ← HRBE.out]
    go_wp2_with fail
    refine HREAD.out.mono ?_
    rintro e w1 ⟨v, rfl, ho, hb⟩
    have HV1 := hid (OwnRuns.at ho HBD.out)
    have HO1 := hid ho
    obtain ⟨A, cap, rfl⟩ := ho.shape
    have HR1 := HR0.out.upd (F := fun _ => False) (Upds.of_below hb (Nat.le_refl _)) (fun h => h)
    have HB1 := hid (HB0.out.trans (hb.mono HB0.out.size))
    obtain ⟨lb, hlb⟩ : ∃ b, b = w1.heap.size := ⟨_, rfl⟩
    obtain ⟨w2, hw2⟩ : ∃ w2, w2 = w1.alloc (.cells #[.int .i64 L.id, .int .i64 L.unit, .string L.name, .string L.note, .slice A L.ext.length cap] 24) := ⟨_, rfl⟩
    have hl2 : Row w2 lb 24 (labCells L (.slice A L.ext.length cap)) := by rw [hw2, hlb]; exact Row.new w1 (labCells L (.slice A L.ext.length cap)) _
    have hr2 : Row w2 rb 24 (labCells zeroL (.slice none 0 0)) := by rw [hw2]; exact HR1.alloc _
    have hb2 : Below w1.heap.size w1 w2 := by rw [hw2]; exact (Below.refl _ _).alloc (Nat.le_refl _) _
    have HV2 := hid (HV1.out.below hb2 (Nat.le_refl _))
    have HO2 := hid (OwnRuns.below HO1.out hb2 (Nat.le_refl _))
    have HB2 := hid (HB1.out.trans (hb2.mono HB1.out.size))
    have HL2 := hid hl2
    have HR2 := hid hr2
    have HW2 := hid hw2
    have HLB := hid hlb
    have HENC2 := HENC _ w2 HV2.out
    clear hw2 hlb hl2 hr2 hb2 hb ho HR1 HENC HREAD HV1
    have l0 := HL2.out.cell (i := 0) rfl
    have l1 := HL2.out.cell (i := 1) rfl
    have l2 := HL2.out.cell (i := 2) rfl
    have l3 := HL2.out.cell (i := 3) rfl
    have l4 := HL2.out.cell (i := 4) rfl
    have llt := HL2.out.lt
    have r0 := HR2.out.cell (i := 0) rfl
    have r1 := HR2.out.cell (i := 1) rfl
    have r2 := HR2.out.cell (i := 2) rfl
    have r3 := HR2.out.cell (i := 3) rfl
    have r4 := HR2.out.cell (i := 4) rfl
    have f0 := HR2.out.frozen 0
    have f1 := HR2.out.frozen 1
    have f2 := HR2.out.frozen 2
    have f3 := HR2.out.frozen 3
    have f4 := HR2.out.frozen 4
    have rlt := HR2.out.lt
    go_upto_region 2 with fail
    rw [← HW2.out, ← HLB.out]
    have HRX := HR2
    cases b1 with
    | true =>
      have HDD : Hid (D = (zeroL, 11)) := by show _ = _; rw [HD.out]; simp
      go_wp2_with fail
      rw [HDD.out]
      have hS : Upds (fun j => j = rb) w2 (((((w2.setCell ⟨rb, 0, none⟩ (.int .i64 0)).setCell ⟨rb, 1, none⟩ (.int .i64 0)).setCell ⟨rb, 2, none⟩ (.string ⟨#[]⟩)).setCell ⟨rb, 3, none⟩ (.string ⟨#[]⟩)).setCell ⟨rb, 4, none⟩ (.slice none 0 0)) := ((((Upds.set1 w2 rb 0 (.int .i64 0)).trans (Upds.set1 _ rb 1 (.int .i64 0))).trans (Upds.set1 _ rb 2 (.string ⟨#[]⟩))).trans (Upds.set1 _ rb 3 (.string ⟨#[]⟩))).trans (Upds.set1 _ rb 4 (.slice none 0 0))
      have hrow := (Row.set (Row.set (Row.set (Row.set (Row.set HRX.out 0 (.int .i64 0)) 1 (.int .i64 0)) 2 (.string ⟨#[]⟩)) 3 (.string ⟨#[]⟩)) 4 (.slice none 0 0))
      have hbel := HB2.out.trans (hS.below HB2.out.size (fun j e => e ▸ HRB0.out))
      have s0 := hrow.cell (i := 0) rfl
      have s1 := hrow.cell (i := 1) rfl
      have s2 := hrow.cell (i := 2) rfl
      have s3 := hrow.cell (i := 3) rfl
      have s4 := hrow.cell (i := 4) rfl
      refine bodyPost_ret (v := .tuple #[labV zeroL (.slice none 0 0), .int .i64 11]) ?_ rfl ⟨.slice none 0 0, rfl, zero_runs _, hbel⟩
      simp [results, Try.results18, go_sem, s0, s1, s2, s3, s4, zeroL]
    | false =>
      go_wp2_with fail
      refine HENC2.out.mono ?_
      rintro e w3 ⟨rfl, hb⟩
      have HO3 := hid (OwnRuns.below HO2.out hb (Nat.le_refl _))
      have HL3 := hid (HL2.out.upd (F := fun _ => False) (Upds.of_below hb (Nat.le_refl _)) (fun h => h))
      have HRX := hid (HR2.out.upd (F := fun _ => False) (Upds.of_below hb (Nat.le_refl _)) (fun h => h))
      have HB3 := hid (HB2.out.trans (hb.mono HB2.out.size))
      clear hb l0 l1 l2 l3 l4 llt r0 r1 r2 r3 r4 f0 f1 f2 f3 f4 rlt HV2 HL2 HR2
      have l0 := HL3.out.cell (i := 0) rfl
      have l1 := HL3.out.cell (i := 1) rfl
      have l2 := HL3.out.cell (i := 2) rfl
      have l3 := HL3.out.cell (i := 3) rfl
      have l4 := HL3.out.cell (i := 4) rfl
      have llt := HL3.out.lt
      have r0 := HRX.out.cell (i := 0) rfl
      have r1 := HRX.out.cell (i := 1) rfl
      have r2 := HRX.out.cell (i := 2) rfl
      have r3 := HRX.out.cell (i := 3) rfl
      have r4 := HRX.out.cell (i := 4) rfl
      have f0 := HRX.out.frozen 0
      have f1 := HRX.out.frozen 1
      have f2 := HRX.out.frozen 2
      have f3 := HRX.out.frozen 3
      have f4 := HRX.out.frozen 4
      have rlt := HRX.out.lt
      cases b2 with
      | false =>
        have HDD : Hid (D = (zeroL, 11)) := by show _ = _; rw [HD.out]; simp
        go_wp2_with fail
        rw [HDD.out]
        have hS : Upds (fun j => j = rb) w3 (((((w3.setCell ⟨rb, 0, none⟩ (.int .i64 0)).setCell ⟨rb, 1, none⟩ (.int .i64 0)).setCell ⟨rb, 2, none⟩ (.string ⟨#[]⟩)).setCell ⟨rb, 3, none⟩ (.string ⟨#[]⟩)).setCell ⟨rb, 4, none⟩ (.slice none 0 0)) := ((((Upds.set1 w3 rb 0 (.int .i64 0)).trans (Upds.set1 _ rb 1 (.int .i64 0))).trans (Upds.set1 _ rb 2 (.string ⟨#[]⟩))).trans (Upds.set1 _ rb 3 (.string ⟨#[]⟩))).trans (Upds.set1 _ rb 4 (.slice none 0 0))
        have hrow := (Row.set (Row.set (Row.set (Row.set (Row.set HRX.out 0 (.int .i64 0)) 1 (.int .i64 0)) 2 (.string ⟨#[]⟩)) 3 (.string ⟨#[]⟩)) 4 (.slice none 0 0))
        have hbel := HB3.out.trans (hS.below HB3.out.size (fun j e => e ▸ HRB0.out))
        have s0 := hrow.cell (i := 0) rfl
        have s1 := hrow.cell (i := 1) rfl
        have s2 := hrow.cell (i := 2) rfl
        have s3 := hrow.cell (i := 3) rfl
        have s4 := hrow.cell (i := 4) rfl
        refine bodyPost_ret (v := .tuple #[labV zeroL (.slice none 0 0), .int .i64 11]) ?_ rfl ⟨.slice none 0 0, rfl, zero_runs _, hbel⟩
        simp [results, Try.results18, go_sem, s0, s1, s2, s3, s4, zeroL]
      | true =>
        have HDD : Hid (D = (L, 0)) := by show _ = _; rw [HD.out]; simp
        go_wp2_with fail
        rw [HDD.out]
        have hS : Upds (fun j => j = rb) w3 (((((w3.setCell ⟨rb, 0, none⟩ (.int .i64 L.id)).setCell ⟨rb, 1, none⟩ (.int .i64 L.unit)).setCell ⟨rb, 2, none⟩ (.string L.name)).setCell ⟨rb, 3, none⟩ (.string L.note)).setCell ⟨rb, 4, none⟩ (.slice A L.ext.length cap)) := ((((Upds.set1 w3 rb 0 (.int .i64 L.id)).trans (Upds.set1 _ rb 1 (.int .i64 L.unit))).trans (Upds.set1 _ rb 2 (.string L.name))).trans (Upds.set1 _ rb 3 (.string L.note))).trans (Upds.set1 _ rb 4 (.slice A L.ext.length cap))
        have hrow := (Row.set (Row.set (Row.set (Row.set (Row.set HRX.out 0 (.int .i64 L.id)) 1 (.int .i64 L.unit)) 2 (.string L.name)) 3 (.string L.note)) 4 (.slice A L.ext.length cap))
        have hbel := HB3.out.trans (hS.below HB3.out.size (fun j e => e ▸ HRB0.out))
        have s0 := hrow.cell (i := 0) rfl
        have s1 := hrow.cell (i := 1) rfl
        have s2 := hrow.cell (i := 2) rfl
        have s3 := hrow.cell (i := 3) rfl
        have s4 := hrow.cell (i := 4) rfl
        have hv4 := OwnRuns.at (OwnRuns.upd HO3.out hS (fun k hk => by
          obtain ⟨c2, h2⟩ := SliceIs.row HO3.out k hk
          exact Row.ne h2 HRX.out (by decide))) HBD.out
        refine bodyPost_ret (v := .tuple #[labV L (.slice A L.ext.length cap), .int .i64 0]) ?_ rfl ⟨.slice A L.ext.length cap, rfl, hv4, hbel⟩
        simp [results, Try.results18, go_sem, s0, s1, s2, s3, s4]
  exact step _ rfl _ rfl (by
    rw [hD]
    have e1 : s.toList.isEmpty = false ↔ s ≠ ⟨#[]⟩ := by
      constructor
      · rintro h rfl
        rw [ByteArray.toList_eq] at h
        cases h
      · intro h
        cases he : s.toList.isEmpty with
        | false => rfl
        | true =>
          exfalso
          apply h
          rw [List.isEmpty_iff] at he
          have h2 := ByteArray.toList_eq (bs := s)
          rw [he] at h2
          exact ByteArray.ext (Array.toList_inj.1 h2.symm)
    have e2 : ((encL L tr).toList == s.toList) = true ↔ encL L tr = s := by
      constructor
      · intro h
        apply Classical.byContradiction
        intro hne
        rw [str_ne hne] at h
        cases h
      · rintro rfl; exact str_eq _
    by_cases hk : decOk s tr
    · rw [if_pos hk, if_pos ⟨e1.2 (htest.1 hk).1, e2.2 (htest.1 hk).2⟩]
    · rw [if_neg hk, if_neg (fun h => hk (htest.2 ⟨e1.1 h.1, e2.1 h.2⟩))])
end Go.Proofs.Ytabbkgbgldgfeaa
