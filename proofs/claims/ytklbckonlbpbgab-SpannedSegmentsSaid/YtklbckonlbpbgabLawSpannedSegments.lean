/- Statement SpannedSegments: Segments returns the segments or the error of the specification. For all numbers, and at most 1100 bytes, which is the statement's own bound. -/
import Derived.Test.YtklbckonlbpbgabRows
import Derived.WalkKit
import Derived.ProofKit
import Derived.OpenShut
import Derived.ShutString
import Derived.ChangeOld
import Derived.Below
import Derived.Test.YtklbckonlbpbgabSlices
import Derived.Test.YtklbckonlbpbgabOpen
import Derived.Test.YtklbckonlbpbgabSpnT7
import Derived.Test.YtklbckonlbpbgabSpnS5
namespace Go.Proofs.Ytklbckonlbpbgab
open Go.Lib Go.ChangeShapes Go.WideShapes Go.ChangeAt Go.RowKit
open Go.ChangeMaps (open_string shut_string)
set_option linter.unusedVariables false
set_option maxRecDepth 100000 in
theorem long_SpannedSegments (L B : Int) (d : ByteArray) (w : World) (hz : d.size ≤ 9223372036854775807) (hd : ¬ d.size ≤ 1100) :
    Calls Try.prog 3 #[.int .i64 L, .int .i64 B, .string d] w (Gives (.bool true) w) := by
  go_enter Try.func3, Try.ntmps3
  go_wp2_with fail
  refine (sawake_any _).mono ?_
  rintro e w1 ⟨rfl, hb⟩
  have B1 := hid (hb)
  clear hb
  go_wp2_with fail
  refine (sawake_any _).mono ?_
  rintro e w2 ⟨rfl, hb⟩
  have B2 := hid (B1.out.trans (hb.mono B1.out.size))
  clear hb
  go_wp2_with fail
  go_ret
  exact ⟨rfl, B2.out⟩
set_option maxRecDepth 100000 in
set_option maxHeartbeats 4000000 in
theorem short_SpannedSegments (L B : Int) (d : ByteArray) (hB : B ≤ 9223372036854775807) (w : World) (hd : d.size ≤ 1100) :
    Calls Try.prog 3 #[.int .i64 L, .int .i64 B, .string d] w (Gives (.bool true) w) := by
  by_cases hft : sfits L B
  · obtain ⟨x, b, rfl, rfl, _⟩ := hft.nat
    obtain ⟨r, U0, R0, hlen⟩ := segments_alike x b hft d (by omega)
    cases r with
    | none =>
      have U : ∀ W, Hid (Calls Try.prog 11 #[.int .i64 x, .int .i64 b, .string d] W (Gives (.tuple #[.slice none 0 0, .int .i64 11]) W)) := fun W => hid (U0 W)
      have R : ∀ W, Hid (Calls Try.prog 12 #[.int .i64 x, .int .i64 b, .string d] W (Gives (.tuple #[.slice none 0 0, .int .i64 11]) W)) := fun W => hid (R0 W)
      clear hft U0 R0 hlen
      go_enter Try.func3, Try.ntmps3
      go_wp2_with fail
      refine (sawake_any _).mono ?_
      rintro e w1 ⟨rfl, hb⟩
      have B1 := hid (hb)
      clear hb
      go_wp2_with fail
      refine ((U _).out).mono ?_
      rintro e w2 ⟨rfl, hb⟩
      have B2 := hid (B1.out.trans (hb.mono B1.out.size))
      clear hb
      go_wp2_with fail
      refine ((R _).out).mono ?_
      rintro e w3 ⟨rfl, hb⟩
      have B3 := hid (B2.out.trans (hb.mono B2.out.size))
      clear hb
      go_wp2_with fail
      have Hv1 : Hid (SegsAt w3 (.slice none 0 0) []) := hid (SegsAt.nil _)
      have Hv2 := Hv1
      refine (segs_conv _ [] (by simp) _ Hv1.out).mono ?_
      rintro e w4 ⟨v3, rfl, h1, hb⟩
      replace Hv1 := hid (Hv1.out.below hb (Nat.le_refl _))
      replace Hv2 := hid (Hv2.out.below hb (Nat.le_refl _))
      have B4 := hid (B3.out.trans (hb.mono B3.out.size))
      have Hv3 := hid h1
      clear h1 hb
      go_wp2_with fail
      refine (segs_same _ _ [] _ Hv3.out Hv2.out).mono ?_
      rintro e w5 ⟨rfl, hb⟩
      replace Hv1 := hid (Hv1.out.below hb (Nat.le_refl _))
      replace Hv2 := hid (Hv2.out.below hb (Nat.le_refl _))
      replace Hv3 := hid (Hv3.out.below hb (Nat.le_refl _))
      have B5 := hid (B4.out.trans (hb.mono B4.out.size))
      clear hb
      go_wp2_with fail
      go_ret
      exact ⟨rfl, B5.out⟩
    | some l =>
      have U : ∀ W, Hid (Calls Try.prog 11 #[.int .i64 x, .int .i64 b, .string d] W (fun e w' => ∃ v, e = .returned (.tuple #[v, .int .i64 0]) ∧ SegsAt w' v l ∧ Below W.heap.size W w')) := fun W => hid (U0 W)
      have R : ∀ W, Hid (Calls Try.prog 12 #[.int .i64 x, .int .i64 b, .string d] W (fun e w' => ∃ v, e = .returned (.tuple #[v, .int .i64 0]) ∧ SegsAt w' v l ∧ Below W.heap.size W w')) := fun W => hid (R0 W)
      have hll := hlen l rfl
      clear hft U0 R0 hlen
      go_enter Try.func3, Try.ntmps3
      go_wp2_with fail
      refine (sawake_any _).mono ?_
      rintro e w1 ⟨rfl, hb⟩
      have B1 := hid (hb)
      clear hb
      go_wp2_with fail
      refine ((U _).out).mono ?_
      rintro e w2 ⟨v1, rfl, h1, hb⟩
      have B2 := hid (B1.out.trans (hb.mono B1.out.size))
      have Hv1 := hid h1
      clear h1 hb
      go_wp2_with fail
      refine ((R _).out).mono ?_
      rintro e w3 ⟨v2, rfl, h1, hb⟩
      replace Hv1 := hid (Hv1.out.below hb (Nat.le_refl _))
      have B3 := hid (B2.out.trans (hb.mono B2.out.size))
      have Hv2 := hid h1
      clear h1 hb
      go_wp2_with fail
      refine (segs_conv _ l (by omega) _ Hv1.out).mono ?_
      rintro e w4 ⟨v3, rfl, h1, hb⟩
      replace Hv1 := hid (Hv1.out.below hb (Nat.le_refl _))
      replace Hv2 := hid (Hv2.out.below hb (Nat.le_refl _))
      have B4 := hid (B3.out.trans (hb.mono B3.out.size))
      have Hv3 := hid h1
      clear h1 hb
      go_wp2_with fail
      refine (segs_same _ _ l _ Hv3.out Hv2.out).mono ?_
      rintro e w5 ⟨rfl, hb⟩
      replace Hv1 := hid (Hv1.out.below hb (Nat.le_refl _))
      replace Hv2 := hid (Hv2.out.below hb (Nat.le_refl _))
      replace Hv3 := hid (Hv3.out.below hb (Nat.le_refl _))
      have B5 := hid (B4.out.trans (hb.mono B4.out.size))
      clear hb
      go_wp2_with fail
      go_ret
      exact ⟨rfl, B5.out⟩
  · have U := fun W => hid (ssegs_bad L B hB hft d W)
    have R := fun W => hid (refSsegs_bad L B hB hft d W)
    clear hft
    go_enter Try.func3, Try.ntmps3
    go_wp2_with fail
    refine (sawake_any _).mono ?_
    rintro e w1 ⟨rfl, hb⟩
    have B1 := hid (hb)
    clear hb
    go_wp2_with fail
    refine ((U _).out).mono ?_
    rintro e w2 ⟨rfl, hb⟩
    have B2 := hid (B1.out.trans (hb.mono B1.out.size))
    clear hb
    go_wp2_with fail
    refine ((R _).out).mono ?_
    rintro e w3 ⟨rfl, hb⟩
    have B3 := hid (B2.out.trans (hb.mono B2.out.size))
    clear hb
    go_wp2_with fail
    have Hv1 : Hid (SegsAt w3 (.slice none 0 0) []) := hid (SegsAt.nil _)
    have Hv2 := Hv1
    refine (segs_conv _ [] (by simp) _ Hv1.out).mono ?_
    rintro e w4 ⟨v3, rfl, h1, hb⟩
    replace Hv1 := hid (Hv1.out.below hb (Nat.le_refl _))
    replace Hv2 := hid (Hv2.out.below hb (Nat.le_refl _))
    have B4 := hid (B3.out.trans (hb.mono B3.out.size))
    have Hv3 := hid h1
    clear h1 hb
    go_wp2_with fail
    refine (segs_same _ _ [] _ Hv3.out Hv2.out).mono ?_
    rintro e w5 ⟨rfl, hb⟩
    replace Hv1 := hid (Hv1.out.below hb (Nat.le_refl _))
    replace Hv2 := hid (Hv2.out.below hb (Nat.le_refl _))
    replace Hv3 := hid (Hv3.out.below hb (Nat.le_refl _))
    have B5 := hid (B4.out.trans (hb.mono B4.out.size))
    clear hb
    go_wp2_with fail
    go_ret
    exact ⟨rfl, B5.out⟩
theorem walk_SpannedSegments (L : Int) (B : Int) (d : ByteArray) (w : World) (hL : -9223372036854775808 ≤ L ∧ L ≤ 9223372036854775807) (hB : -9223372036854775808 ≤ B ∧ B ≤ 9223372036854775807) (hd : d.size ≤ maxLen) :
    Calls Try.prog 3 #[.int .i64 L, .int .i64 B, .string d] w fun e w' => e = .returned (.bool true) ∧ Below w.heap.size w w' := by
  unfold maxLen at hd
  by_cases hs : d.size ≤ 1100
  · exact short_SpannedSegments L B d hB.2 w hs
  · exact long_SpannedSegments L B d w (by omega) hs
namespace spannedSegments
theorem own : ownKnob Try.prog.godebug = none := by kernel_rfl
set_option linter.unusedVariables false
set_option maxRecDepth 100000 in
theorem lifted (os : Os) (started : os.Started) (H : Type) (enc : TypeId × Value → H) :
    ReturnsInHanded {} Try.checked os 3 .any (Rows.spannedSegmentsSpec.pre6 enc Try.prog Try.f3 Rows.spannedSegmentsRow.domain false) (Rows.spannedSegmentsSpec.post enc Try.prog Try.f3 false true false false) := by
  refine returnsInHanded_of_change (C := Try.checked) own started (by kernel_rfl) Try.func3
    (ChangeSpec.witness6 (enc := enc) (C := Try.checked) false ⟨#[], #[.int .i64 0, .int .i64 0, .string ByteArray.empty], []⟩ 8 (by kernel_rfl) (by kernel_rfl) (by kernel_rfl) (by kernel_rfl)) ?_
  intro W base args ds gs before hval0 hW hcnd _
  have hval : ∀ (j : Nat) t v, Try.f3.params[j]? = some t → args[j]? = some v → Value.okWide Try.prog W .any base t v := hval0
  have hW' := hW
  obtain ⟨p, q, hA0, hV, rfl, hfz, hnd⟩ := hW
  have hA : DataW.TrodAll enc Try.prog W 0 (fun _ => true) true Try.f3.params.toList args.toList ds p := hA0
  rw [Try.params3] at hA hval
  obtain ⟨v0, vs0, d0, ds0, p0, q0, hargs, rfl, rfl, h0, r0⟩ := trodAll_cons hA
  obtain ⟨v1, vs1, d1, ds1, p1, q1, rfl, rfl, rfl, h1, r1⟩ := trodAll_cons r0
  obtain ⟨v2, vs2, d2, ds2, p2, q2, rfl, rfl, rfl, h2, r2⟩ := trodAll_cons r1
  obtain ⟨rfl, rfl, rfl⟩ := trodAll_nil r2
  obtain rfl : args = #[v0, v1, v2] := by cases args; simp_all
  obtain ⟨rfl, rfl⟩ := trodVars_none hV
  obtain ⟨a0, rfl, rfl, rfl, w0⟩ := open_int Try.underlying3 (hval 0 3 v0 rfl rfl) h0
  obtain ⟨a1, rfl, rfl, rfl, w1⟩ := open_int Try.underlying3 (hval 1 3 v1 rfl rfl) h1
  obtain ⟨a2, rfl, rfl, rfl, w2⟩ := open_string Try.underlying9 (hval 2 9 v2 rfl rfl) h2
  clear hA0 hval0
  refine (walk_SpannedSegments a0 a1 a2 (bounds_i64 w0) (bounds_i64 w1) w2 (w := W)).mono fun e W' ⟨he, bel⟩ => ?_
  subst he
  exact ⟨_, rfl, _, _, _, [], _, [], hW', trodAll_mk1 (shut_bool Try.underlying4 _), (trodAll_cons_mk (shut_int Try.underlying3 w0) (trodAll_cons_mk (shut_int Try.underlying3 w1) (trodAll_cons_mk (shut_string Try.underlying9 w2) trodAll_mk0))), rfl, bel.frame _, fun h => by cases h⟩
theorem over : Rows.spannedSegmentsRow.holds Try.pinned (OpenSpec.ofChange Rows.spannedSegmentsSpec) :=
  OpenClaim.holds_of_wide 3 Try.f3 rfl rfl rfl rfl rfl rfl rfl ⟨rfl, rfl, rfl, rfl, rfl⟩ rfl rfl rfl rfl rfl (by kernel_rfl) Try.func3 (by kernel_rfl)
    (of_decide_eq_true (by kernel_rfl)) (by unfold Func.isWrapper; first | (rw [if_pos (by decide +kernel)]; kernel_rfl) | (rw [if_neg (by decide +kernel)]; exact ⟨rfl, rfl⟩))
    (fun os started H enc _ => lifted os started H enc)
theorem proved : Rows.SpannedSegmentsSaid := over
end spannedSegments

end Go.Proofs.Ytklbckonlbpbgab
