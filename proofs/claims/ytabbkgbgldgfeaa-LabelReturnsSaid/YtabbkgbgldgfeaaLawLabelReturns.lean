/- The slot of a valid label has a track, and decoding it returns the label; names of at most 100 bytes, notes of at most 500 bytes, 30 extents. -/
import Derived.Test.YtabbkgbgldgfeaaRows
import Derived.WalkKit
import Derived.ProofKit
import Derived.OpenShut
import Derived.ShutString
import Derived.ChangeOld
import Derived.Below
import Derived.Test.YtabbkgbgldgfeaaLabF
namespace Go.Proofs.Ytabbkgbgldgfeaa
open Go.Lib Go.ChangeShapes Go.WideShapes Go.ChangeAt Go.RowKit
open Go.ChangeMaps (open_string shut_string)
set_option linter.unusedVariables false
set_option maxRecDepth 100000 in
set_option maxHeartbeats 4000000 in
theorem walk_LabelReturns (l : Lab) (v : Value) (tr : Int) {w : World} (hl : LabAt w l v) (h : -9223372036854775808 ≤ tr ∧ tr ≤ 9223372036854775807) :
    Calls Try.prog 7 #[labV l v, .int .i64 tr] w fun e w' => e = .returned (.bool true) ∧ Below w.heap.size w w' := by
  obtain ⟨hr, hi, hu, hn, ht⟩ := hl
  have HR := hid hr
  clear hi hu hn ht hr
  have hb0 : HeldB w w.heap.size l v (w.alloc (.cells #[.int .i64 l.id, .int .i64 l.unit, .string l.name, .string l.note, v] 24)) := ⟨Row.new w (labCells l v) _, (Below.refl _ _).alloc (Nat.le_refl _) _⟩
  have HT0 := hid hb0
  obtain ⟨w0, hw0⟩ : ∃ w0, w0 = w.alloc (.cells #[.int .i64 l.id, .int .i64 l.unit, .string l.name, .string l.note, v] 24) := ⟨_, rfl⟩
  rw [← hw0] at HT0
  have HW0 := hid hw0
  obtain ⟨b, hb⟩ : ∃ b, b = w.heap.size := ⟨_, rfl⟩
  have HBE := hid hb
  have HT0 : Hid (HeldB w b l v w0) := by show HeldB _ _ _ _ _; rw [hb]; exact HT0.out
  have F1 := fun W (hW : Below w.heap.size w W) => hid (few_lab l v W (HR.out.below hW (Nat.le_refl _)))
  clear hw0 hb hb0
  by_cases g1 : fewL l
  rotate_left
  · rw [decide_eq_false g1] at F1
    go_enter Try.func7, Try.ntmps7
    go_upto_region 1 with fail
    rw [← HW0.out, ← HBE.out]
    go_wp2_with fail
    refine (labAwake_any _).mono ?_
    rintro e w1 ⟨rfl, hb⟩
    have HT1 := hid (HT0.out.below hb)
    clear hb
    have pl0 := HT1.out.1.cell (i := 0) rfl
    have pl1 := HT1.out.1.cell (i := 1) rfl
    have pl2 := HT1.out.1.cell (i := 2) rfl
    have pl3 := HT1.out.1.cell (i := 3) rfl
    have pl4 := HT1.out.1.cell (i := 4) rfl
    have pl5 := HT1.out.1.lt
    go_wp2_with fail
    refine (F1 w1 HT1.out.2).out.mono ?_
    rintro e w2 ⟨rfl, hb⟩
    have HT2 := hid (HT1.out.below hb)
    clear hb
    clear pl0 pl1 pl2 pl3 pl4 pl5
    go_wp2_with fail
    refine (labAwake_any _).mono ?_
    rintro e w3 ⟨rfl, hb⟩
    have HT3 := hid (HT2.out.below hb)
    clear hb
    go_wp2_with fail
    go_ret
    exact ⟨rfl, HT3.out.2⟩
  rw [decide_eq_true g1] at F1
  obtain ⟨e1, e2, e3⟩ := g1
  obtain ⟨E, hE⟩ : ∃ E, E = encL l tr := ⟨_, rfl⟩
  have N1 := fun W (hW : Below w.heap.size w W) => hid (encode_lab l v tr h (by omega) W (HR.out.below hW (Nat.le_refl _)))
  have V1 := fun W (hW : Below w.heap.size w W) => hid (valid_lab l v tr h (by omega) W (HR.out.below hW (Nat.le_refl _)))
  rw [← hE] at N1
  by_cases g3 : okL l tr
  rotate_left
  · rw [decide_eq_false g3] at V1
    by_cases gg : goodL l tr
    rotate_left
    · have hEe : E = ⟨#[]⟩ := by rw [hE]; unfold encL; rw [if_neg gg]
      subst hEe
      have q0 : (ByteArray.mk #[]).toList.isEmpty = true := by rw [ByteArray.toList_eq]; rfl
      clear hE e1 e2 e3
      go_enter Try.func7, Try.ntmps7
      go_upto_region 1 with fail
      rw [← HW0.out, ← HBE.out]
      go_wp2_with fail
      refine (labAwake_any _).mono ?_
      rintro e w1 ⟨rfl, hb⟩
      have HT1 := hid (HT0.out.below hb)
      clear hb
      have pl0 := HT1.out.1.cell (i := 0) rfl
      have pl1 := HT1.out.1.cell (i := 1) rfl
      have pl2 := HT1.out.1.cell (i := 2) rfl
      have pl3 := HT1.out.1.cell (i := 3) rfl
      have pl4 := HT1.out.1.cell (i := 4) rfl
      have pl5 := HT1.out.1.lt
      go_wp2_with fail
      refine (F1 w1 HT1.out.2).out.mono ?_
      rintro e w2 ⟨rfl, hb⟩
      have HT2 := hid (HT1.out.below hb)
      clear hb
      clear pl0 pl1 pl2 pl3 pl4 pl5
      have pl0 := HT2.out.1.cell (i := 0) rfl
      have pl1 := HT2.out.1.cell (i := 1) rfl
      have pl2 := HT2.out.1.cell (i := 2) rfl
      have pl3 := HT2.out.1.cell (i := 3) rfl
      have pl4 := HT2.out.1.cell (i := 4) rfl
      have pl5 := HT2.out.1.lt
      go_wp2_with fail
      refine (N1 w2 HT2.out.2).out.mono ?_
      rintro e w3 ⟨rfl, hb⟩
      have HT3 := hid (HT2.out.below hb)
      clear hb
      clear pl0 pl1 pl2 pl3 pl4 pl5
      have pl0 := HT3.out.1.cell (i := 0) rfl
      have pl1 := HT3.out.1.cell (i := 1) rfl
      have pl2 := HT3.out.1.cell (i := 2) rfl
      have pl3 := HT3.out.1.cell (i := 3) rfl
      have pl4 := HT3.out.1.cell (i := 4) rfl
      have pl5 := HT3.out.1.lt
      go_wp2_with fail
      refine (V1 w3 HT3.out.2).out.mono ?_
      rintro e w4 ⟨rfl, hb⟩
      have HT4 := hid (HT3.out.below hb)
      clear hb
      clear pl0 pl1 pl2 pl3 pl4 pl5
      go_wp2_with fail
      go_ret
      exact ⟨rfl, HT4.out.2⟩
    · have hz : eqL l zeroL := gg.2.elim id (fun h2 => absurd h2 g3)
      have Z1 := fun W (hW : Below w.heap.size w W) => hid (labEqual_any l zeroL v (.slice none 0 0) (by omega) (by simp [zeroL]) W (HR.out.below hW (Nat.le_refl _)) (zero_runs W))
      rw [decide_eq_true hz] at Z1
      have q0 : E.toList.isEmpty = false := by
        have := gg.size
        rw [← hE] at this
        rw [isEmpty_size, decide_eq_false_iff_not]; omega
      clear hE e1 e2 e3 hz gg
      go_enter Try.func7, Try.ntmps7
      go_upto_region 1 with fail
      rw [← HW0.out, ← HBE.out]
      go_wp2_with fail
      refine (labAwake_any _).mono ?_
      rintro e w1 ⟨rfl, hb⟩
      have HT1 := hid (HT0.out.below hb)
      clear hb
      have pl0 := HT1.out.1.cell (i := 0) rfl
      have pl1 := HT1.out.1.cell (i := 1) rfl
      have pl2 := HT1.out.1.cell (i := 2) rfl
      have pl3 := HT1.out.1.cell (i := 3) rfl
      have pl4 := HT1.out.1.cell (i := 4) rfl
      have pl5 := HT1.out.1.lt
      go_wp2_with fail
      refine (F1 w1 HT1.out.2).out.mono ?_
      rintro e w2 ⟨rfl, hb⟩
      have HT2 := hid (HT1.out.below hb)
      clear hb
      clear pl0 pl1 pl2 pl3 pl4 pl5
      have pl0 := HT2.out.1.cell (i := 0) rfl
      have pl1 := HT2.out.1.cell (i := 1) rfl
      have pl2 := HT2.out.1.cell (i := 2) rfl
      have pl3 := HT2.out.1.cell (i := 3) rfl
      have pl4 := HT2.out.1.cell (i := 4) rfl
      have pl5 := HT2.out.1.lt
      go_wp2_with fail
      refine (N1 w2 HT2.out.2).out.mono ?_
      rintro e w3 ⟨rfl, hb⟩
      have HT3 := hid (HT2.out.below hb)
      clear hb
      clear pl0 pl1 pl2 pl3 pl4 pl5
      have pl0 := HT3.out.1.cell (i := 0) rfl
      have pl1 := HT3.out.1.cell (i := 1) rfl
      have pl2 := HT3.out.1.cell (i := 2) rfl
      have pl3 := HT3.out.1.cell (i := 3) rfl
      have pl4 := HT3.out.1.cell (i := 4) rfl
      have pl5 := HT3.out.1.lt
      go_wp2_with fail
      refine (V1 w3 HT3.out.2).out.mono ?_
      rintro e w4 ⟨rfl, hb⟩
      have HT4 := hid (HT3.out.below hb)
      clear hb
      clear pl0 pl1 pl2 pl3 pl4 pl5
      have pl0 := HT4.out.1.cell (i := 0) rfl
      have pl1 := HT4.out.1.cell (i := 1) rfl
      have pl2 := HT4.out.1.cell (i := 2) rfl
      have pl3 := HT4.out.1.cell (i := 3) rfl
      have pl4 := HT4.out.1.cell (i := 4) rfl
      have pl5 := HT4.out.1.lt
      go_wp2_with fail
      refine (Z1 w4 HT4.out.2).out.mono ?_
      rintro e w5 ⟨rfl, hb⟩
      have HT5 := hid (HT4.out.below hb)
      clear hb
      clear pl0 pl1 pl2 pl3 pl4 pl5
      go_wp2_with fail
      go_ret
      exact ⟨rfl, HT5.out.2⟩
  rw [decide_eq_true g3] at V1
  have gg : goodL l tr := ⟨g3.1, .inr g3⟩
  have hsz : E.size = 1024 := by rw [hE]; exact gg.size
  have hdec : decL E tr = (l, 0) := by
    have h2 := (decOk_iff E tr l).2 ⟨gg, hE.symm⟩
    unfold decL
    rw [if_pos h2.1, h2.2]
  have X1 := fun W => hid (decode_lab E (by omega) tr h W)
  unfold DecPost at X1
  rw [hdec] at X1
  have hlen : l.ext.length ≤ 3000 := by omega
  have HOK := hid g3
  clear hE hdec gg e1 e2 e3 g3
  go_enter Try.func7, Try.ntmps7
  go_upto_region 1 with fail
  rw [← HW0.out, ← HBE.out]
  go_wp2_with fail
  refine (labAwake_any _).mono ?_
  rintro e w1 ⟨rfl, hb⟩
  have HT1 := hid (HT0.out.below hb)
  clear hb
  have pl0 := HT1.out.1.cell (i := 0) rfl
  have pl1 := HT1.out.1.cell (i := 1) rfl
  have pl2 := HT1.out.1.cell (i := 2) rfl
  have pl3 := HT1.out.1.cell (i := 3) rfl
  have pl4 := HT1.out.1.cell (i := 4) rfl
  have pl5 := HT1.out.1.lt
  go_wp2_with fail
  refine (F1 w1 HT1.out.2).out.mono ?_
  rintro e w2 ⟨rfl, hb⟩
  have HT2 := hid (HT1.out.below hb)
  clear hb
  clear pl0 pl1 pl2 pl3 pl4 pl5
  have pl0 := HT2.out.1.cell (i := 0) rfl
  have pl1 := HT2.out.1.cell (i := 1) rfl
  have pl2 := HT2.out.1.cell (i := 2) rfl
  have pl3 := HT2.out.1.cell (i := 3) rfl
  have pl4 := HT2.out.1.cell (i := 4) rfl
  have pl5 := HT2.out.1.lt
  go_wp2_with fail
  refine (N1 w2 HT2.out.2).out.mono ?_
  rintro e w3 ⟨rfl, hb⟩
  have HT3 := hid (HT2.out.below hb)
  clear hb
  clear pl0 pl1 pl2 pl3 pl4 pl5
  have pl0 := HT3.out.1.cell (i := 0) rfl
  have pl1 := HT3.out.1.cell (i := 1) rfl
  have pl2 := HT3.out.1.cell (i := 2) rfl
  have pl3 := HT3.out.1.cell (i := 3) rfl
  have pl4 := HT3.out.1.cell (i := 4) rfl
  have pl5 := HT3.out.1.lt
  go_wp2_with fail
  refine (V1 w3 HT3.out.2).out.mono ?_
  rintro e w4 ⟨rfl, hb⟩
  have HT4 := hid (HT3.out.below hb)
  clear hb
  clear pl0 pl1 pl2 pl3 pl4 pl5
  go_wp2_with fail
  refine (X1 w4).out.mono ?_
  rintro e w5 ⟨v5, rfl, hr5, hb⟩
  have HT5 := hid (HT4.out.below hb)
  obtain ⟨A5, cap5, rfl, hq1, hq2, hq3⟩ := hr5
  have HR5 : Hid (RunsAt w5 (.slice A5 l.ext.length cap5) l.ext) := ⟨A5, cap5, rfl, hq1, hq2, hq3⟩
  clear hb hq1 hq2 hq3 X1 N1 V1 F1
  obtain ⟨c, hc⟩ : ∃ c, c = w5.heap.size := ⟨_, rfl⟩
  obtain ⟨w6, hw6⟩ : ∃ w6, w6 = w5.alloc (.cells #[.int .i64 l.id, .int .i64 l.unit, .string l.name, .string l.note, .slice A5 l.ext.length cap5] 24) := ⟨_, rfl⟩
  have hbw : Below w5.heap.size w5 w6 := by rw [hw6]; exact (Below.refl _ _).alloc (Nat.le_refl _) _
  have HT6 := hid (HT5.out.below hbw)
  have hc6 : Row w6 c 24 (labCells l (.slice A5 l.ext.length cap5)) := by rw [hw6, hc]; exact Row.new w5 (labCells l (.slice A5 l.ext.length cap5)) _
  have HC6 : Hid (HeldB w c l (.slice A5 l.ext.length cap5) w6) := ⟨hc6, HT6.out.2⟩
  have HR6 := hid (HR5.out.below hbw (Nat.le_refl _))
  have HW6 := hid hw6
  have HCE := hid hc
  clear hbw hc6 hw6 hc
  have hlq : (decide ((1024 : Int) = (E.size : Int))) = true := by simp; omega
  go_upto_region 7 with fail
  rw [← HW6.out, ← HCE.out]
  have pl0 := HT6.out.1.cell (i := 0) rfl
  have pl1 := HT6.out.1.cell (i := 1) rfl
  have pl2 := HT6.out.1.cell (i := 2) rfl
  have pl3 := HT6.out.1.cell (i := 3) rfl
  have pl4 := HT6.out.1.cell (i := 4) rfl
  have pl5 := HT6.out.1.lt
  have cl0 := HC6.out.1.cell (i := 0) rfl
  have cl1 := HC6.out.1.cell (i := 1) rfl
  have cl2 := HC6.out.1.cell (i := 2) rfl
  have cl3 := HC6.out.1.cell (i := 3) rfl
  have cl4 := HC6.out.1.cell (i := 4) rfl
  have cl5 := HC6.out.1.lt
  have Y1 := hid (labEqual_any l l (.slice A5 l.ext.length cap5) v (by omega) (by omega) w6 HR6.out (HR.out.below HT6.out.2 (Nat.le_refl _)))
  rw [decide_eq_true ((eqL_iff l l).2 rfl)] at Y1
  have Y2 := fun W (hW : Below w6.heap.size w6 W) => hid (valid_lab l (.slice A5 l.ext.length cap5) tr h hlen W (HR6.out.below hW (Nat.le_refl _)))
  rw [decide_eq_true HOK.out] at Y2
  go_wp2_with fail
  refine Y1.out.mono ?_
  rintro e w7 ⟨rfl, hb⟩
  have HT7 := hid (HT6.out.below hb)
  have HC7 := hid (HC6.out.below hb)
  have Y3 := Y2 w7 hb
  clear hb Y2 pl0 pl1 pl2 pl3 pl4 pl5 cl0 cl1 cl2 cl3 cl4 cl5
  have cl0 := HC7.out.1.cell (i := 0) rfl
  have cl1 := HC7.out.1.cell (i := 1) rfl
  have cl2 := HC7.out.1.cell (i := 2) rfl
  have cl3 := HC7.out.1.cell (i := 3) rfl
  have cl4 := HC7.out.1.cell (i := 4) rfl
  have cl5 := HC7.out.1.lt
  go_wp2_with fail
  refine Y3.out.mono ?_
  rintro e w8 ⟨rfl, hb⟩
  have HT8 := hid (HT7.out.below hb)
  clear hb
  go_wp2_with fail
  go_ret
  exact ⟨rfl, HT8.out.2⟩
namespace labelReturns
theorem own : ownKnob Try.prog.godebug = none := by kernel_rfl
theorem laidOut : laidOutB Try.prog = true := by kernel_rfl
set_option linter.unusedVariables false
set_option maxRecDepth 100000 in
theorem lifted (os : Os) (started : os.Started) (H : Type) (enc : TypeId × Value → H) :
    ReturnsInHanded {} Try.checked os 7 .any (Rows.labelReturnsSpec.pre6 enc Try.prog Try.f7 Rows.labelReturnsRow.domain false) (Rows.labelReturnsSpec.post enc Try.prog Try.f7 false true false false) := by
  refine returnsInHanded_of_change (C := Try.checked) own started (by kernel_rfl) Try.func7
    (ChangeSpec.witness6 (enc := enc) (C := Try.checked) false ⟨#[], #[.agg #[.int .i64 0, .int .i64 0, .string ByteArray.empty, .string ByteArray.empty, .slice none 0 0], .int .i64 0], []⟩ 8 (by kernel_rfl) (by kernel_rfl) (by kernel_rfl) (by kernel_rfl)) ?_
  intro W base args ds gs before hval0 hW hcnd _
  have hval : ∀ (j : Nat) t v, Try.f7.params[j]? = some t → args[j]? = some v → Value.okWide Try.prog W .any base t v := hval0
  have hW' := hW
  obtain ⟨p, q, hA0, hV, rfl, hfz, hnd⟩ := hW
  have hA : DataW.TrodAll enc Try.prog W 0 (fun _ => true) true Try.f7.params.toList args.toList ds p := hA0
  rw [Try.params7] at hA hval
  obtain ⟨v0, vs0, d0, ds0, p0, q0, hargs, rfl, rfl, h0, r0⟩ := trodAll_cons hA
  obtain ⟨v1, vs1, d1, ds1, p1, q1, rfl, rfl, rfl, h1, r1⟩ := trodAll_cons r0
  obtain ⟨rfl, rfl, rfl⟩ := trodAll_nil r1
  obtain rfl : args = #[v0, v1] := by cases args; simp_all
  obtain ⟨rfl, rfl⟩ := trodVars_none hV
  obtain ⟨cs0, rfl, hz0⟩ := okWide_struct Try.underlying24 (hval 0 24 v0 rfl rfl)
  have k0 := h0
  have lt0 : ∀ x ∈ p0, x.block < W.heap.size := by obtain ⟨m, hm⟩ := k0; exact DataW.trod_lt m _ _ _ hm
  obtain ⟨fuel0, hf0⟩ := h0
  obtain ⟨L0, V0, hcs0, hat0⟩ := lab_open hf0
  obtain rfl : cs0 = #[.int .i64 L0.id, .int .i64 L0.unit, .string L0.name, .string L0.note, V0] := Array.toList_inj.1 hcs0
  obtain ⟨a1, rfl, rfl, rfl, w1⟩ := open_int Try.underlying3 (hval 1 3 v1 rfl rfl) h1
  clear hA0 hval0
  refine (walk_LabelReturns L0 V0 a1 hat0 (bounds_i64 w1) (w := W)).mono fun e W' ⟨he, bel⟩ => ?_
  subst he
  exact ⟨_, rfl, _, _, _, [], _, [], hW', trodAll_mk1 (shut_bool Try.underlying4 _), (trodAll_cons_mk (Below.trod laidOut (by kernel_rfl) (of_decide_eq_true (by kernel_rfl)) k0 bel lt0) (trodAll_cons_mk (shut_int Try.underlying3 w1) trodAll_mk0)), rfl, bel.frame _, fun h => by cases h⟩
theorem over : Rows.labelReturnsRow.holds Try.pinned (OpenSpec.ofChange Rows.labelReturnsSpec) :=
  OpenClaim.holds_of_wide 7 Try.f7 rfl rfl rfl rfl rfl rfl rfl ⟨rfl, rfl, rfl, rfl, rfl⟩ rfl rfl rfl rfl rfl (by kernel_rfl) Try.func7 (by kernel_rfl)
    (of_decide_eq_true (by kernel_rfl)) (by unfold Func.isWrapper; first | (rw [if_pos (by decide +kernel)]; kernel_rfl) | (rw [if_neg (by decide +kernel)]; exact ⟨rfl, rfl⟩))
    (fun os started H enc _ => lifted os started H enc)
theorem proved : Rows.LabelReturnsSaid := over
end labelReturns

end Go.Proofs.Ytabbkgbgldgfeaa
