import Derived.Test.YtiehchbaiikjiaaRefR2
/-! The reference device's looks: Content, Read. -/
namespace Go.Proofs.Ytiehchbaiikjiaa
open Go.Lib Go.ChangeShapes Go.WideShapes Go.ChangeAt Go.RowKit

theorem lastOf_step (l : List PW) (s k : Nat) (hk : k < l.length) : lastOf (l.take (k + 1)) s = if l[k].sec = s then some l[k].dat else lastOf (l.take k) s := by
  unfold lastOf
  rw [List.take_succ_eq_append_getElem hk, List.reverse_append]
  show (List.find? _ (l[k] :: (l.take k).reverse)).map _ = _
  rw [List.find?_cons]
  by_cases h : l[k].sec = s
  · rw [if_pos h, show (l[k].sec == s) = true from beq_iff_eq.2 h]; rfl
  · rw [if_neg h, show (l[k].sec == s) = false from beq_eq_false_iff_ne.2 h]
set_option maxRecDepth 100000 in
theorem rcontent_any (R : RV) (D : DS) (i : Nat) (hi : i < D.n) (w : World) (hX : RefIs w R D) (few : D.pend.length ≤ 100000) :
    Calls Try.prog 64 #[R.agg D, .int .i64 i] w fun e w' => e = .returned (.string (D.content i)) ∧ Upds (fun _ => False) w w' := by
  have HP := hid hX.pendRow
  have hst := hX.st.cell i (.string (D.sec i).st) (by unfold stCells; rw [List.getElem?_map, List.getElem?_range hi]; rfl) (by omega)
  have HST := hid hst
  have hn := hX.ok.most
  clear hX hst
  unfold RV.agg
  obtain ⟨m, hm⟩ : ∃ m, m = D.n := ⟨_, rfl⟩
  rw [← hm] at hi hn ⊢
  clear hm
  obtain ⟨w1, hw1⟩ : ∃ w1, w1 = w.alloc (.cells #[.slice (some ⟨R.sg, 0, none⟩) m R.scap, .slice (some ⟨R.og, 0, none⟩) m R.ocap, .slice R.pa D.pend.length R.pc, .slice (some ⟨R.fg, 0, none⟩) 5 R.fcap, .bool D.failed, .int .i64 D.fuse, .slice R.va R.vn R.vc] 32) := ⟨_, rfl⟩
  have hr1 : Row w1 w.heap.size 32 [.slice (some ⟨R.sg, 0, none⟩) m R.scap, .slice (some ⟨R.og, 0, none⟩) m R.ocap, .slice R.pa D.pend.length R.pc, .slice (some ⟨R.fg, 0, none⟩) 5 R.fcap, .bool D.failed, .int .i64 D.fuse, .slice R.va R.vn R.vc] := by
    rw [hw1]; exact Row.new w [.slice (some ⟨R.sg, 0, none⟩) m R.scap, .slice (some ⟨R.og, 0, none⟩) m R.ocap, .slice R.pa D.pend.length R.pc, .slice (some ⟨R.fg, 0, none⟩) 5 R.fcap, .bool D.failed, .int .i64 D.fuse, .slice R.va R.vn R.vc] _
  have hu1 : Upds (fun _ => False) w w1 := by rw [hw1]; exact Upds.alloc _ _
  have HR1 := hid hr1
  have HU1 := hid hu1
  have HW1 := hid hw1
  clear hr1 hu1 hw1
  go_enter Try.func64, Try.ntmps64
  go_wp2_with fail
  rw [← HW1.out]
  go_loopw [5] (fun s5 wr => ∃ k : Nat, k ≤ D.pend.length ∧ s5 = .int .i64 ((k : Int) - 1) ∧ lastOf (D.pend.take k) i = lastOf D.pend i ∧ Upds (fun _ => False) w1 wr) (fun s5 _ => (RowKit.intOf s5 + 1).toNat)
  case atStart => exact ⟨D.pend.length, Nat.le_refl _, rfl, by rw [List.take_length], Upds.refl _ _⟩
  case round =>
    obtain ⟨k, hk, rfl, hl, hu⟩ := hrel
    have HU := hid hu
    have hr := HR1.out.upd hu (fun h => h)
    have d2 := hr.cell (i := 2) rfl
    rcases k with _ | j
    · have d0 := hr.cell (i := 0) rfl
      have HC : Hid (D.content i = (D.sec i).st) := by
        show _ = _; unfold DS.content; rw [← hl]; rfl
      have c0 := hu.cell (fun h => h) (HU1.out.cell (fun h => h) HST.out)
      clear hu hr hl d2
      rw [show ((0 : Nat) : Int) - 1 = -1 from rfl]
      go_wp2_with fail
      go_ret
      exact ⟨by rw [HC.out]; rfl, HU1.out.trans HU.out⟩
    · have hlt : j < D.pend.length := by omega
      rw [show ((j + 1 : Nat) : Int) - 1 = (j : Int) by omega]
      obtain ⟨pb, cur, hpa, hrow, htk⟩ := HP.out (by omega)
      rw [hpa] at d2
      have hp := PwAt.of_take htk j hlt
      have hrk := (hrow.upd HU1.out (fun h => h)).upd hu (fun h => h)
      have c1 : wr.cell? ⟨pb, j * 3 + 1, none⟩ = some (.int .i64 D.pend[j].sec) := hrk.cell hp.sec
      have c2 : wr.cell? ⟨pb, j * 3 + 2, none⟩ = some (.string D.pend[j].dat) := hrk.cell hp.dat
      rw [lastOf_step _ _ _ hlt] at hl
      obtain ⟨p, hpe⟩ : ∃ p, p = D.pend[j] := ⟨_, rfl⟩
      rw [← hpe] at c1 c2 hl
      clear hp hrk hpe hu htk hrow hpa hr
      by_cases hps : p.sec = i
      · have hb : ((p.sec : Int) == (i : Int)) = true := by rw [hps]; exact beq_self_eq_true _
        rw [if_pos hps] at hl
        have HC : Hid (D.content i = p.dat) := by show _ = _; unfold DS.content; rw [← hl]; rfl
        subst hps
        clear hl
        go_wp2_with fail
        go_ret
        exact ⟨by rw [HC.out]; rfl, HU1.out.trans HU.out⟩
      · have hb : ((p.sec : Int) == (i : Int)) = false := beq_eq_false_iff_ne.2 (by omega)
        rw [if_neg hps] at hl
        have HL := hid hl
        clear hl
        go_wp2_with fail
        go_roundw
        case rel => exact ⟨j, by omega, by go_num, HL.out, HU.out⟩
        case measure => simp [RowKit.intOf]
set_option maxRecDepth 100000 in
theorem rread_any (R : RV) (D : DS) (i : Int) (w : World) (hX : RefIs w R D) (few : D.pend.length ≤ 100000) :
    Calls Try.prog 32 #[R.agg D, .int .i64 i] w (ReadPost (D.read i) w) := by
  have HX := hid hX
  clear hX
  obtain ⟨w1, hw1⟩ : ∃ w1, w1 = w.alloc (.cells #[.slice (some ⟨R.sg, 0, none⟩) D.n R.scap, .slice (some ⟨R.og, 0, none⟩) D.n R.ocap, .slice R.pa D.pend.length R.pc, .slice (some ⟨R.fg, 0, none⟩) 5 R.fcap, .bool D.failed, .int .i64 D.fuse, .slice R.va R.vn R.vc] 32) := ⟨_, rfl⟩
  have hr1 : Row w1 w.heap.size 32 (R.cells D) := by
    rw [hw1]; exact Row.new w (R.cells D) _
  have hu1 : Upds (fun _ => False) w w1 := by rw [hw1]; exact Upds.alloc _ _
  have HR1 := hid hr1
  have HU1 := hid hu1
  have HW1 := hid hw1
  clear hr1 hu1 hw1
  by_cases h : 0 ≤ i ∧ i < D.n
  · have hd : decide (0 ≤ i ∧ i < (D.n : Int)) = true := decide_eq_true h
    have HDc := hid hd
    by_cases hf : D.failed = true
    · have HRD : Hid (D.read i = (⟨#[]⟩, 10)) := by show _ = _; unfold DS.read; rw [if_pos (show D.has i from h), if_pos hf]
      have HF := hid hf
      clear hd h hf
      unfold RV.agg
      go_enter Try.func32, Try.ntmps32
      go_wp2_with fail
      rw [← HW1.out]
      refine (rthere_any R D i w1).mono ?_
      rintro e w2 ⟨rfl, hu⟩
      rw [HDc.out]
      have d4 := (HR1.out.upd hu (fun h => h)).cell (i := 4) rfl
      rw [HF.out] at d4
      have HU2 := hid (HU1.out.trans hu)
      clear hu
      go_wp2_with fail
      exact bodyPost_ret (v := .tuple #[.string ⟨#[]⟩, .int .i64 10]) (by simp [results, Try.f32, go_sem]) rfl ⟨by rw [HRD.out], HU2.out⟩
    · obtain ⟨k, rfl⟩ := Int.eq_ofNat_of_zero_le h.1
      have hk : k < D.n := by omega
      have HRD : Hid (D.read k = (D.content k, 0)) := by show _ = _; unfold DS.read; rw [if_pos (show D.has (k : Int) from h), if_neg hf]; rfl
      have HF : Hid (D.failed = false) := by show _ = _; simpa using hf
      clear hd h hf
      unfold RV.agg
      go_enter Try.func32, Try.ntmps32
      go_wp2_with fail
      rw [← HW1.out]
      refine (rthere_any R D k w1).mono ?_
      rintro e w2 ⟨rfl, hu⟩
      rw [HDc.out]
      have hr2 := HR1.out.upd hu (fun h => h)
      have d0 := hr2.cell (i := 0) rfl
      have d1 := hr2.cell (i := 1) rfl
      have d2 := hr2.cell (i := 2) rfl
      have d3 := hr2.cell (i := 3) rfl
      have d4 := hr2.cell (i := 4) rfl
      have d5 := hr2.cell (i := 5) rfl
      have d6 := hr2.cell (i := 6) rfl
      rw [HF.out] at d4
      have HX2 := hid ((HX.out.calm HU1.out).calm hu)
      have HU2 := hid (HU1.out.trans hu)
      clear hu hr2
      go_wp2_with fail
      rw [← HF.out]
      refine (rcontent_any R D k hk w2 HX2.out few).mono ?_
      rintro e w3 ⟨rfl, hu⟩
      have HU3 := hid (HU2.out.trans hu)
      clear hu
      go_wp2_with fail
      exact bodyPost_ret (v := .tuple #[.string (D.content k), .int .i64 0]) (by simp [results, Try.f32, go_sem]) rfl ⟨by rw [HRD.out], HU3.out⟩
  · have hd : decide (0 ≤ i ∧ i < (D.n : Int)) = false := decide_eq_false h
    have HDc := hid hd
    have HRD : Hid (D.read i = (⟨#[]⟩, 2)) := by show _ = _; unfold DS.read; rw [if_neg (show ¬ D.has i from h)]
    clear hd h
    unfold RV.agg
    go_enter Try.func32, Try.ntmps32
    go_wp2_with fail
    rw [← HW1.out]
    refine (rthere_any R D i w1).mono ?_
    rintro e w2 ⟨rfl, hu⟩
    rw [HDc.out]
    have HU2 := hid (HU1.out.trans hu)
    clear hu
    go_wp2_with fail
    exact bodyPost_ret (v := .tuple #[.string ⟨#[]⟩, .int .i64 2]) (by simp [results, Try.f32, go_sem]) rfl ⟨by rw [HRD.out], HU2.out⟩
end Go.Proofs.Ytiehchbaiikjiaa
