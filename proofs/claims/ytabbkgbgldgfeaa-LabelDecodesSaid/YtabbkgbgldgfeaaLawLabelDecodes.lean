/- For all bytes, Decode answers the label or the error that the specification answers; at most 1100 bytes. -/
import Derived.Test.YtabbkgbgldgfeaaRows
import Derived.WalkKit
import Derived.ProofKit
import Derived.OpenShut
import Derived.ShutString
import Derived.ChangeOld
import Derived.Below
import Derived.Test.YtabbkgbgldgfeaaLabF
import Derived.Test.YtabbkgbgldgfeaaLabR4
namespace Go.Proofs.Ytabbkgbgldgfeaa
open Go.Lib Go.ChangeShapes Go.WideShapes Go.ChangeAt Go.RowKit
open Go.ChangeMaps (open_string shut_string)
set_option linter.unusedVariables false
set_option maxRecDepth 100000 in
set_option maxHeartbeats 4000000 in
theorem walk_LabelDecodes (s : ByteArray) (tr : Int) (hs : s.size ≤ maxLen) (h : -9223372036854775808 ≤ tr ∧ tr ≤ 9223372036854775807) {w : World} :
    Calls Try.prog 4 #[.string s, .int .i64 tr] w fun e w' => e = .returned (.bool true) ∧ Below w.heap.size w w' := by
  clear hs
  by_cases h2 : s.size ≤ 1100
  rotate_left
  · have d2 : decide ((1100 : Int) < (s.size : Int)) = true := by simp; omega
    clear h
    go_enter Try.func4, Try.ntmps4
    go_wp2_with fail
    refine (labAwake_any _).mono ?_
    rintro e w1 ⟨rfl, hb⟩
    have B1 := hid (hb)
    clear hb
    go_wp2_with fail
    refine (labAwake_any _).mono ?_
    rintro e w2 ⟨rfl, hb⟩
    have B2 := hid (B1.out.trans (hb.mono B1.out.size))
    clear hb
    go_wp2_with fail
    go_ret
    exact ⟨rfl, B2.out⟩
  have d2 : decide ((1100 : Int) < (s.size : Int)) = false := by simp; omega
  have C1 := fun W => hid (decode_lab s (by omega) tr h W)
  have C2 := fun W => hid (refDecode_any s (by omega) tr W)
  unfold DecPost at C1 C2
  have hlen := decL_len s tr
  obtain ⟨K, hK⟩ : ∃ K, K = decL s tr := ⟨_, rfl⟩
  rw [← hK] at C1 C2 hlen
  obtain ⟨L, er⟩ := K
  simp only at C1 C2 hlen
  have C6 := fun W v u (hv : RunsAt W v L.ext) (hu : RunsAt W u L.ext) => hid (refLabEqual_any L L v u (by omega) (by omega) W hv hu)
  rw [decide_eq_true ((eqL_iff L L).2 rfl)] at C6
  have q5 : (er == er) = true := by simp
  clear hK h2 h
  go_enter Try.func4, Try.ntmps4
  go_wp2_with fail
  refine (labAwake_any _).mono ?_
  rintro e w1 ⟨rfl, hb⟩
  have B1 := hid (hb)
  clear hb
  go_wp2_with fail
  refine (C1 _).out.mono ?_
  rintro e w2 ⟨v5, rfl, hr5, hb⟩
  have B2 := hid (B1.out.trans (hb.mono B1.out.size))
  clear hb
  obtain ⟨A1, cap1, rfl, hq1, hq2, hq3⟩ := hr5
  have HR1 : Hid (RunsAt w2 (.slice A1 L.ext.length cap1) L.ext) := ⟨A1, cap1, rfl, hq1, hq2, hq3⟩
  clear hq1 hq2 hq3
  obtain ⟨c1, hc⟩ : ∃ c, c = w2.heap.size := ⟨_, rfl⟩
  obtain ⟨w3, hw3⟩ : ∃ w3, w3 = w2.alloc (.cells #[.int .i64 L.id, .int .i64 L.unit, .string L.name, .string L.note, .slice A1 L.ext.length cap1] 24) := ⟨_, rfl⟩
  have hbw : Below w2.heap.size w2 w3 := by rw [hw3]; exact (Below.refl _ _).alloc (Nat.le_refl _) _
  have hc3 : Row w3 c1 24 (labCells L (.slice A1 L.ext.length cap1)) := by rw [hw3, hc]; exact Row.new w2 (labCells L (.slice A1 L.ext.length cap1)) _
  have HC1 := hid hc3
  have HRR1 := hid (HR1.out.below hbw (Nat.le_refl _))
  have HWW1 := hid hw3
  have HCE1 := hid hc
  have B3 := hid (B2.out.trans (hbw.mono B2.out.size))
  clear hbw hc3 hw3 hc HR1
  go_upto_region 4 with fail
  rw [← HWW1.out, ← HCE1.out]
  go_wp2_with fail
  refine (C2 _).out.mono ?_
  rintro e w4 ⟨v5, rfl, hr5, hb⟩
  have B4 := hid (B3.out.trans (hb.mono B3.out.size))
  have HC4 := hid (HC1.out.upd (F := fun _ => False) (Upds.of_below hb (Nat.le_refl _)) (fun h => h))
  have HR4 := hid (HRR1.out.below hb (Nat.le_refl _))
  clear hb HC1 HRR1
  obtain ⟨A2, cap2, rfl, hq1, hq2, hq3⟩ := hr5
  have HR2 : Hid (RunsAt w4 (.slice A2 L.ext.length cap2) L.ext) := ⟨A2, cap2, rfl, hq1, hq2, hq3⟩
  clear hq1 hq2 hq3
  obtain ⟨c2, hc⟩ : ∃ c, c = w4.heap.size := ⟨_, rfl⟩
  obtain ⟨w5, hw3⟩ : ∃ w3, w3 = w4.alloc (.cells #[.int .i64 L.id, .int .i64 L.unit, .string L.name, .string L.note, .slice A2 L.ext.length cap2] 24) := ⟨_, rfl⟩
  have hbw : Below w4.heap.size w4 w5 := by rw [hw3]; exact (Below.refl _ _).alloc (Nat.le_refl _) _
  have hc3 : Row w5 c2 24 (labCells L (.slice A2 L.ext.length cap2)) := by rw [hw3, hc]; exact Row.new w4 (labCells L (.slice A2 L.ext.length cap2)) _
  have HC2 := hid hc3
  have HRR2 := hid (HR2.out.below hbw (Nat.le_refl _))
  have HWW2 := hid hw3
  have HCE2 := hid hc
  have B5 := hid (B4.out.trans (hbw.mono B4.out.size))
  have HC5 := hid (HC4.out.upd (F := fun _ => False) (Upds.of_below hbw (Nat.le_refl _)) (fun h => h))
  have HR5 := hid (HR4.out.below hbw (Nat.le_refl _))
  clear hbw hc3 hw3 hc HC4 HR4
  go_upto_region 5 with fail
  rw [← HWW2.out, ← HCE2.out]
  have a0 := HC5.out.cell (i := 0) rfl
  have a1 := HC5.out.cell (i := 1) rfl
  have a2 := HC5.out.cell (i := 2) rfl
  have a3 := HC5.out.cell (i := 3) rfl
  have a4 := HC5.out.cell (i := 4) rfl
  have alt := HC5.out.lt
  have b0 := HC2.out.cell (i := 0) rfl
  have b1 := HC2.out.cell (i := 1) rfl
  have b2 := HC2.out.cell (i := 2) rfl
  have b3 := HC2.out.cell (i := 3) rfl
  have b4 := HC2.out.cell (i := 4) rfl
  have blt := HC2.out.lt
  have C7 := C6 w5 _ _ HR5.out HRR2.out
  clear C6
  go_wp2_with fail
  refine C7.out.mono ?_
  rintro e w6 ⟨rfl, hb⟩
  have B6 := hid (B5.out.trans (hb.mono B5.out.size))
  clear hb
  go_wp2_with fail
  go_ret
  exact ⟨rfl, B6.out⟩
namespace labelDecodes
theorem own : ownKnob Try.prog.godebug = none := by kernel_rfl
set_option linter.unusedVariables false
set_option maxRecDepth 100000 in
theorem lifted (os : Os) (started : os.Started) (H : Type) (enc : TypeId × Value → H) :
    ReturnsInHanded {} Try.checked os 4 .any (Rows.labelDecodesSpec.pre6 enc Try.prog Try.f4 Rows.labelDecodesRow.domain false) (Rows.labelDecodesSpec.post enc Try.prog Try.f4 false true false false) := by
  refine returnsInHanded_of_change (C := Try.checked) own started (by kernel_rfl) Try.func4
    (ChangeSpec.witness6 (enc := enc) (C := Try.checked) false ⟨#[], #[.string ByteArray.empty, .int .i64 0], []⟩ 8 (by kernel_rfl) (by kernel_rfl) (by kernel_rfl) (by kernel_rfl)) ?_
  intro W base args ds gs before hval0 hW hcnd _
  have hval : ∀ (j : Nat) t v, Try.f4.params[j]? = some t → args[j]? = some v → Value.okWide Try.prog W .any base t v := hval0
  have hW' := hW
  obtain ⟨p, q, hA0, hV, rfl, hfz, hnd⟩ := hW
  have hA : DataW.TrodAll enc Try.prog W 0 (fun _ => true) true Try.f4.params.toList args.toList ds p := hA0
  rw [Try.params4] at hA hval
  obtain ⟨v0, vs0, d0, ds0, p0, q0, hargs, rfl, rfl, h0, r0⟩ := trodAll_cons hA
  obtain ⟨v1, vs1, d1, ds1, p1, q1, rfl, rfl, rfl, h1, r1⟩ := trodAll_cons r0
  obtain ⟨rfl, rfl, rfl⟩ := trodAll_nil r1
  obtain rfl : args = #[v0, v1] := by cases args; simp_all
  obtain ⟨rfl, rfl⟩ := trodVars_none hV
  obtain ⟨a0, rfl, rfl, rfl, w0⟩ := open_string Try.underlying9 (hval 0 9 v0 rfl rfl) h0
  obtain ⟨a1, rfl, rfl, rfl, w1⟩ := open_int Try.underlying3 (hval 1 3 v1 rfl rfl) h1
  clear hA0 hval0
  refine (walk_LabelDecodes a0 a1 w0 (bounds_i64 w1) (w := W)).mono fun e W' ⟨he, bel⟩ => ?_
  subst he
  exact ⟨_, rfl, _, _, _, [], _, [], hW', trodAll_mk1 (shut_bool Try.underlying4 _), (trodAll_cons_mk (shut_string Try.underlying9 w0) (trodAll_cons_mk (shut_int Try.underlying3 w1) trodAll_mk0)), rfl, bel.frame _, fun h => by cases h⟩
theorem over : Rows.labelDecodesRow.holds Try.pinned (OpenSpec.ofChange Rows.labelDecodesSpec) :=
  OpenClaim.holds_of_wide 4 Try.f4 rfl rfl rfl rfl rfl rfl rfl ⟨rfl, rfl, rfl, rfl, rfl⟩ rfl rfl rfl rfl rfl (by kernel_rfl) Try.func4 (by kernel_rfl)
    (of_decide_eq_true (by kernel_rfl)) (by unfold Func.isWrapper; first | (rw [if_pos (by decide +kernel)]; kernel_rfl) | (rw [if_neg (by decide +kernel)]; exact ⟨rfl, rfl⟩))
    (fun os started H enc _ => lifted os started H enc)
theorem proved : Rows.LabelDecodesSaid := over
end labelDecodes

end Go.Proofs.Ytabbkgbgldgfeaa
