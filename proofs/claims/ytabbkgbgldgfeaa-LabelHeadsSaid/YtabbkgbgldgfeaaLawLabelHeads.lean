/- For all names, numbers and bytes, ValidName, EncodeHead and DecodeHead answer what the specification answers; names of at most 30 bytes, at most 1100 bytes. -/
import Derived.Test.YtabbkgbgldgfeaaRows
import Derived.WalkKit
import Derived.ProofKit
import Derived.OpenShut
import Derived.ShutString
import Derived.ChangeOld
import Derived.Below
import Derived.Test.YtabbkgbgldgfeaaLabF
import Derived.Test.YtabbkgbgldgfeaaLabH3
namespace Go.Proofs.Ytabbkgbgldgfeaa
open Go.Lib Go.ChangeShapes Go.WideShapes Go.ChangeAt Go.RowKit
open Go.ChangeMaps (open_string shut_string)
set_option linter.unusedVariables false
set_option maxRecDepth 100000 in
set_option maxHeartbeats 2000000 in
theorem walk_LabelHeads (s : ByteArray) (tr : Int) (t : ByteArray) (hs : s.size ≤ maxLen) (h : -9223372036854775808 ≤ tr ∧ tr ≤ 9223372036854775807) (ht : t.size ≤ maxLen) {w : World} :
    Calls Try.prog 5 #[.string s, .int .i64 tr, .string t] w fun e w' => e = .returned (.bool true) ∧ Below w.heap.size w w' := by
  clear hs ht
  by_cases h1 : s.size ≤ 30
  rotate_left
  · have d1 : decide ((30 : Int) < (s.size : Int)) = true := by simp; omega
    clear h
    go_enter Try.func5, Try.ntmps5
    go_wp2_with fail
    refine (labAwake_any _).mono ?_
    rintro e w1 ⟨rfl, hb⟩
    have B1 := hid (hb)
    clear hb
    go_wp2_with fail
    refine (labAwake_any _).mono ?_
    rintro e w2 ⟨rfl, hb⟩
    have B2 := hid (B1.out.trans (hb.mono B1.out.size))
    clear hb
    go_wp2_with fail
    go_ret
    exact ⟨rfl, B2.out⟩
  have d1 : decide ((30 : Int) < (s.size : Int)) = false := by simp; omega
  by_cases h2 : t.size ≤ 1100
  rotate_left
  · have d2 : decide ((1100 : Int) < (t.size : Int)) = true := by simp; omega
    clear h
    go_enter Try.func5, Try.ntmps5
    go_wp2_with fail
    refine (labAwake_any _).mono ?_
    rintro e w1 ⟨rfl, hb⟩
    have B1 := hid (hb)
    clear hb
    go_wp2_with fail
    refine (labAwake_any _).mono ?_
    rintro e w2 ⟨rfl, hb⟩
    have B2 := hid (B1.out.trans (hb.mono B1.out.size))
    clear hb
    go_wp2_with fail
    go_ret
    exact ⟨rfl, B2.out⟩
  have d2 : decide ((1100 : Int) < (t.size : Int)) = false := by simp; omega
  have C1 := fun W => hid (decodeHead_any t (by omega) W)
  have C2 := fun W => hid (refDecodeHead_any t (by omega) W)
  have C3 := fun W => hid (validName_any s (by omega) W)
  have C4 := fun W => hid (refValidName_any s (by omega) W)
  have C5 := fun W => hid (encodeHead_any s (by omega) tr h W)
  have C6 := fun W => hid (refEncodeHead_any s (by omega) tr W)
  unfold HeadPost at C1 C2
  obtain ⟨D, hD⟩ : ∃ D, D = decH t := ⟨_, rfl⟩
  rw [← hD] at C1 C2
  obtain ⟨R, hR⟩ : ∃ R, R = decide (nameOk s) := ⟨_, rfl⟩
  rw [← hR] at C3 C4
  obtain ⟨E, hE⟩ : ∃ E, E = encH s tr := ⟨_, rfl⟩
  rw [← hE] at C5 C6
  obtain ⟨x, y, z⟩ := D
  simp only at C1 C2
  have q1 : (R == R) = true := by simp
  have q2 : (E.toList == E.toList) = true := str_eq E
  have q3 : (x.toList == x.toList) = true := str_eq x
  have q4 : (y == y) = true := by simp
  have q5 : (z == z) = true := by simp
  clear hD hR hE h h1 h2
  go_enter Try.func5, Try.ntmps5
  go_wp2_with fail
  refine (labAwake_any _).mono ?_
  rintro e w1 ⟨rfl, hb⟩
  have B1 := hid (hb)
  clear hb
  go_wp2_with fail
  refine (C1 _).out.mono ?_
  rintro e w2 ⟨rfl, hb⟩
  have B2 := hid (B1.out.trans (hb.mono B1.out.size))
  clear hb
  go_wp2_with fail
  refine (C2 _).out.mono ?_
  rintro e w3 ⟨rfl, hb⟩
  have B3 := hid (B2.out.trans (hb.mono B2.out.size))
  clear hb
  go_wp2_with fail
  refine (C3 _).out.mono ?_
  rintro e w94 ⟨rfl, rfl⟩
  go_wp2_with fail
  refine (C4 _).out.mono ?_
  rintro e w94 ⟨rfl, rfl⟩
  go_wp2_with fail
  refine (C5 _).out.mono ?_
  rintro e w4 ⟨rfl, hb⟩
  have B4 := hid (B3.out.trans (hb.mono B3.out.size))
  clear hb
  go_wp2_with fail
  refine (C6 _).out.mono ?_
  rintro e w5 ⟨rfl, hb⟩
  have B5 := hid (B4.out.trans (hb.mono B4.out.size))
  clear hb
  go_wp2_with fail
  go_ret
  exact ⟨rfl, B5.out⟩
namespace labelHeads
theorem own : ownKnob Try.prog.godebug = none := by kernel_rfl
set_option linter.unusedVariables false
set_option maxRecDepth 100000 in
theorem lifted (os : Os) (started : os.Started) (H : Type) (enc : TypeId × Value → H) :
    ReturnsInHanded {} Try.checked os 5 .any (Rows.labelHeadsSpec.pre6 enc Try.prog Try.f5 Rows.labelHeadsRow.domain false) (Rows.labelHeadsSpec.post enc Try.prog Try.f5 false true false false) := by
  refine returnsInHanded_of_change (C := Try.checked) own started (by kernel_rfl) Try.func5
    (ChangeSpec.witness6 (enc := enc) (C := Try.checked) false ⟨#[], #[.string ByteArray.empty, .int .i64 0, .string ByteArray.empty], []⟩ 8 (by kernel_rfl) (by kernel_rfl) (by kernel_rfl) (by kernel_rfl)) ?_
  intro W base args ds gs before hval0 hW hcnd _
  have hval : ∀ (j : Nat) t v, Try.f5.params[j]? = some t → args[j]? = some v → Value.okWide Try.prog W .any base t v := hval0
  have hW' := hW
  obtain ⟨p, q, hA0, hV, rfl, hfz, hnd⟩ := hW
  have hA : DataW.TrodAll enc Try.prog W 0 (fun _ => true) true Try.f5.params.toList args.toList ds p := hA0
  rw [Try.params5] at hA hval
  obtain ⟨v0, vs0, d0, ds0, p0, q0, hargs, rfl, rfl, h0, r0⟩ := trodAll_cons hA
  obtain ⟨v1, vs1, d1, ds1, p1, q1, rfl, rfl, rfl, h1, r1⟩ := trodAll_cons r0
  obtain ⟨v2, vs2, d2, ds2, p2, q2, rfl, rfl, rfl, h2, r2⟩ := trodAll_cons r1
  obtain ⟨rfl, rfl, rfl⟩ := trodAll_nil r2
  obtain rfl : args = #[v0, v1, v2] := by cases args; simp_all
  obtain ⟨rfl, rfl⟩ := trodVars_none hV
  obtain ⟨a0, rfl, rfl, rfl, w0⟩ := open_string Try.underlying9 (hval 0 9 v0 rfl rfl) h0
  obtain ⟨a1, rfl, rfl, rfl, w1⟩ := open_int Try.underlying3 (hval 1 3 v1 rfl rfl) h1
  obtain ⟨a2, rfl, rfl, rfl, w2⟩ := open_string Try.underlying9 (hval 2 9 v2 rfl rfl) h2
  clear hA0 hval0
  refine (walk_LabelHeads a0 a1 a2 w0 (bounds_i64 w1) w2 (w := W)).mono fun e W' ⟨he, bel⟩ => ?_
  subst he
  exact ⟨_, rfl, _, _, _, [], _, [], hW', trodAll_mk1 (shut_bool Try.underlying4 _), (trodAll_cons_mk (shut_string Try.underlying9 w0) (trodAll_cons_mk (shut_int Try.underlying3 w1) (trodAll_cons_mk (shut_string Try.underlying9 w2) trodAll_mk0))), rfl, bel.frame _, fun h => by cases h⟩
theorem over : Rows.labelHeadsRow.holds Try.pinned (OpenSpec.ofChange Rows.labelHeadsSpec) :=
  OpenClaim.holds_of_wide 5 Try.f5 rfl rfl rfl rfl rfl rfl rfl ⟨rfl, rfl, rfl, rfl, rfl⟩ rfl rfl rfl rfl rfl (by kernel_rfl) Try.func5 (by kernel_rfl)
    (of_decide_eq_true (by kernel_rfl)) (by unfold Func.isWrapper; first | (rw [if_pos (by decide +kernel)]; kernel_rfl) | (rw [if_neg (by decide +kernel)]; exact ⟨rfl, rfl⟩))
    (fun os started H enc _ => lifted os started H enc)
theorem proved : Rows.LabelHeadsSaid := over
end labelHeads

end Go.Proofs.Ytabbkgbgldgfeaa
