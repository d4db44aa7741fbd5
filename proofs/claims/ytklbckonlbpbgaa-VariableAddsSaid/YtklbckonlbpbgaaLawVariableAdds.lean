/- Statement VariableAdds: Room and Add return what the specification says. For all numbers, and at most 1100 bytes each, which is the statement's own bound. -/
import Derived.Test.YtklbckonlbpbgaaRows
import Derived.WalkKit
import Derived.ProofKit
import Derived.OpenShut
import Derived.ShutString
import Derived.ChangeOld
import Derived.Below
import Derived.Test.YtklbckonlbpbgaaSlices
import Derived.Test.YtklbckonlbpbgaaOpen
import Derived.Test.YtklbckonlbpbgaaVarT7
import Derived.Test.YtklbckonlbpbgaaVarR5
namespace Go.Proofs.Ytklbckonlbpbgaa
open Go.Lib Go.ChangeShapes Go.WideShapes Go.ChangeAt Go.RowKit
open Go.ChangeMaps (open_string shut_string)
set_option linter.unusedVariables false
set_option maxRecDepth 100000 in
set_option maxHeartbeats 4000000 in
theorem long_VariableAdds (L B : Int) (d r : ByteArray) (w : World) (hz : d.size ≤ 9223372036854775807) (hy : r.size ≤ 9223372036854775807) (hd : ¬ (d.size ≤ 1100 ∧ r.size ≤ 1100)) :
    Calls Try.prog 5 #[.int .i64 L, .int .i64 B, .string d, .string r] w (Gives (.bool true) w) := by
  by_cases h1 : d.size ≤ 1100
  · have h2 : ¬ r.size ≤ 1100 := fun h => hd ⟨h1, h⟩
    clear hd
    go_enter Try.func5, Try.ntmps5
    go_wp2_with fail
    refine (vawake_any _).mono ?_
    rintro e w1 ⟨rfl, hb⟩
    have B1 := hid (hb)
    clear hb
    go_wp2_with fail
    refine (vawake_any _).mono ?_
    rintro e w2 ⟨rfl, hb⟩
    have B2 := hid (B1.out.trans (hb.mono B1.out.size))
    clear hb
    go_wp2_with fail
    go_ret
    exact ⟨rfl, B2.out⟩
  · clear hd
    go_enter Try.func5, Try.ntmps5
    go_wp2_with fail
    refine (vawake_any _).mono ?_
    rintro e w1 ⟨rfl, hb⟩
    have B1 := hid (hb)
    clear hb
    go_wp2_with fail
    refine (vawake_any _).mono ?_
    rintro e w2 ⟨rfl, hb⟩
    have B2 := hid (B1.out.trans (hb.mono B1.out.size))
    clear hb
    go_wp2_with fail
    go_ret
    exact ⟨rfl, B2.out⟩
set_option maxRecDepth 100000 in
set_option maxHeartbeats 4000000 in
theorem chain_yes (L B R : Int) (d r p : ByteArray) (w : World) (hd : d.size ≤ 1100) (hr : r.size ≤ 1100)
    (hA : ∀ W, Calls Try.prog 20 #[.int .i64 L, .int .i64 B, .string d, .string r] W (Gives (.tuple #[.string p, .bool true]) W))
    (hA2 : ∀ W, Calls Try.prog 21 #[.int .i64 L, .int .i64 B, .string d, .string r] W (Gives (.tuple #[.string p, .bool true]) W))
    (hR : ∀ W, Calls Try.prog 22 #[.int .i64 L, .int .i64 B, .string d] W (Gives (.int .i64 R) W))
    (hR2 : ∀ W, Calls Try.prog 23 #[.int .i64 L, .int .i64 B, .string d] W (Gives (.int .i64 R) W)) :
    Calls Try.prog 5 #[.int .i64 L, .int .i64 B, .string d, .string r] w (Gives (.bool true) w) := by
  have A1 := fun W => hid (hA W)
  have A2 := fun W => hid (hA2 W)
  have R1 := fun W => hid (hR W)
  have R2 := fun W => hid (hR2 W)
  have q2 : (R == R) = true := by simp
  have q1 : (p.toList == p.toList) = true := by simp
  clear hA hA2 hR hR2
  go_enter Try.func5, Try.ntmps5
  go_wp2_with fail
  refine (vawake_any _).mono ?_
  rintro e w1 ⟨rfl, hb⟩
  have B1 := hid (hb)
  clear hb
  go_wp2_with fail
  refine ((A1 _).out).mono ?_
  rintro e w2 ⟨rfl, hb⟩
  have B2 := hid (B1.out.trans (hb.mono B1.out.size))
  clear hb
  go_wp2_with fail
  refine ((A2 _).out).mono ?_
  rintro e w3 ⟨rfl, hb⟩
  have B3 := hid (B2.out.trans (hb.mono B2.out.size))
  clear hb
  go_wp2_with fail
  refine ((R1 _).out).mono ?_
  rintro e w4 ⟨rfl, hb⟩
  have B4 := hid (B3.out.trans (hb.mono B3.out.size))
  clear hb
  go_wp2_with fail
  refine ((R2 _).out).mono ?_
  rintro e w5 ⟨rfl, hb⟩
  have B5 := hid (B4.out.trans (hb.mono B4.out.size))
  clear hb
  go_wp2_with fail
  go_ret
  exact ⟨rfl, B5.out⟩
set_option maxRecDepth 100000 in
set_option maxHeartbeats 4000000 in
theorem chain_no (L B R : Int) (d r : ByteArray) (w : World) (hd : d.size ≤ 1100) (hr : r.size ≤ 1100)
    (hA : ∀ W, Calls Try.prog 20 #[.int .i64 L, .int .i64 B, .string d, .string r] W (Gives (.tuple #[.string ⟨#[]⟩, .bool false]) W))
    (hA2 : ∀ W, Calls Try.prog 21 #[.int .i64 L, .int .i64 B, .string d, .string r] W (Gives (.tuple #[.string ⟨#[]⟩, .bool false]) W))
    (hR : ∀ W, Calls Try.prog 22 #[.int .i64 L, .int .i64 B, .string d] W (Gives (.int .i64 R) W))
    (hR2 : ∀ W, Calls Try.prog 23 #[.int .i64 L, .int .i64 B, .string d] W (Gives (.int .i64 R) W)) :
    Calls Try.prog 5 #[.int .i64 L, .int .i64 B, .string d, .string r] w (Gives (.bool true) w) := by
  have A1 := fun W => hid (hA W)
  have A2 := fun W => hid (hA2 W)
  have R1 := fun W => hid (hR W)
  have R2 := fun W => hid (hR2 W)
  have q2 : (R == R) = true := by simp
  clear hA hA2 hR hR2
  go_enter Try.func5, Try.ntmps5
  go_wp2_with fail
  refine (vawake_any _).mono ?_
  rintro e w1 ⟨rfl, hb⟩
  have B1 := hid (hb)
  clear hb
  go_wp2_with fail
  refine ((A1 _).out).mono ?_
  rintro e w2 ⟨rfl, hb⟩
  have B2 := hid (B1.out.trans (hb.mono B1.out.size))
  clear hb
  go_wp2_with fail
  refine ((A2 _).out).mono ?_
  rintro e w3 ⟨rfl, hb⟩
  have B3 := hid (B2.out.trans (hb.mono B2.out.size))
  clear hb
  go_wp2_with fail
  refine ((R1 _).out).mono ?_
  rintro e w4 ⟨rfl, hb⟩
  have B4 := hid (B3.out.trans (hb.mono B3.out.size))
  clear hb
  go_wp2_with fail
  refine ((R2 _).out).mono ?_
  rintro e w5 ⟨rfl, hb⟩
  have B5 := hid (B4.out.trans (hb.mono B4.out.size))
  clear hb
  go_wp2_with fail
  go_ret
  exact ⟨rfl, B5.out⟩
theorem short_VariableAdds (L B : Int) (d r : ByteArray) (hB : B ≤ 9223372036854775807) (w : World) (hd : d.size ≤ 1100) (hr : r.size ≤ 1100) :
    Calls Try.prog 5 #[.int .i64 L, .int .i64 B, .string d, .string r] w (Gives (.bool true) w) := by
  by_cases hft : vfits L B
  · obtain ⟨x, b, rfl, rfl, hx1, hx2, hx3, hx4⟩ := hft.nat
    by_cases h0 : d.size = 0
    · obtain rfl := empty_of h0
      by_cases hle : r.size ≤ x
      · exact chain_yes _ _ x _ r _ w hd hr (fun W => vadd_new x b x r (by omega) (fun W => vroom_new x b hft W) (by omega) W) (fun W => refVadd_new x b hft r hle W) (fun W => vroom_new x b hft W) (fun W => refVroom_new x b hft W)
      · exact chain_no _ _ x _ r w hd hr (fun W => vadd_no x b x _ r (by omega) (fun W => vroom_new x b hft W) (by omega) W) (fun W => refVadd_no x b x _ r (by omega) (fun W => refVroom_new x b hft W) (by omega) W) (fun W => vroom_new x b hft W) (fun W => refVroom_new x b hft W)
    · by_cases hn : ∃ l, isV x b l d
      · obtain ⟨l, hn⟩ := hn
        by_cases hle : (r.size : Int) ≤ roomI x b d
        · exact chain_yes _ _ (roomI x b d) d r _ w hd hr (fun W => vadd_more x b _ l d r hn.1 (by omega) (by omega) (fun W => vroom_ok x b hft d l hn W) hle W) (fun W => refVadd_more x b hft l d r hn hle W) (fun W => vroom_ok x b hft d l hn W) (fun W => refVroom_ok x b hft d l hn W)
        · exact chain_no _ _ (roomI x b d) d r w hd hr (fun W => vadd_no x b _ _ r (by omega) (fun W => vroom_ok x b hft d l hn W) (by omega) W) (fun W => refVadd_no x b _ _ r (by omega) (fun W => refVroom_ok x b hft d l hn W) (by omega) W) (fun W => vroom_ok x b hft d l hn W) (fun W => refVroom_ok x b hft d l hn W)
      · exact chain_no _ _ (-1) d r w hd hr (fun W => vadd_no x b _ _ r (by omega) (fun W => vroom_no x b hft d (by omega) (by omega) hn W) (by omega) W) (fun W => refVadd_no x b _ _ r (by omega) (fun W => refVroom_no x b hft d (by omega) (by omega) hn W) (by omega) W) (fun W => vroom_no x b hft d (by omega) (by omega) hn W) (fun W => refVroom_no x b hft d (by omega) (by omega) hn W)
  · exact chain_no _ _ (-1) d r w hd hr (fun W => vadd_no L B _ _ r (by omega) (fun W => vroom_bad L B hB hft d W) (by omega) W) (fun W => refVadd_no L B _ _ r (by omega) (fun W => refVroom_bad L B hB hft d W) (by omega) W) (fun W => vroom_bad L B hB hft d W) (fun W => refVroom_bad L B hB hft d W)
theorem walk_VariableAdds (L : Int) (B : Int) (d : ByteArray) (r : ByteArray) (w : World) (hL : -9223372036854775808 ≤ L ∧ L ≤ 9223372036854775807) (hB : -9223372036854775808 ≤ B ∧ B ≤ 9223372036854775807) (hd : d.size ≤ maxLen) (hr : r.size ≤ maxLen) :
    Calls Try.prog 5 #[.int .i64 L, .int .i64 B, .string d, .string r] w fun e w' => e = .returned (.bool true) ∧ Below w.heap.size w w' := by
  unfold maxLen at hd hr
  by_cases hs : d.size ≤ 1100 ∧ r.size ≤ 1100
  · exact short_VariableAdds L B d r hB.2 w hs.1 hs.2
  · exact long_VariableAdds L B d r w (by omega) (by omega) hs
namespace variableAdds
theorem own : ownKnob Try.prog.godebug = none := by kernel_rfl
set_option linter.unusedVariables false
set_option maxRecDepth 100000 in
theorem lifted (os : Os) (started : os.Started) (H : Type) (enc : TypeId × Value → H) :
    ReturnsInHanded {} Try.checked os 5 .any (Rows.variableAddsSpec.pre6 enc Try.prog Try.f5 Rows.variableAddsRow.domain false) (Rows.variableAddsSpec.post enc Try.prog Try.f5 false true false false) := by
  refine returnsInHanded_of_change (C := Try.checked) own started (by kernel_rfl) Try.func5
    (ChangeSpec.witness6 (enc := enc) (C := Try.checked) false ⟨#[], #[.int .i64 0, .int .i64 0, .string ByteArray.empty, .string ByteArray.empty], []⟩ 8 (by kernel_rfl) (by kernel_rfl) (by kernel_rfl) (by kernel_rfl)) ?_
  intro W base args ds gs before hval0 hW hcnd _
  have hval : ∀ (j : Nat) t v, Try.f5.params[j]? = some t → args[j]? = some v → Value.okWide Try.prog W .any base t v := hval0
  have hW' := hW
  obtain ⟨p, q, hA0, hV, rfl, hfz, hnd⟩ := hW
  have hA : DataW.TrodAll enc Try.prog W 0 (fun _ => true) true Try.f5.params.toList args.toList ds p := hA0
  rw [Try.params5] at hA hval
  obtain ⟨v0, vs0, d0, ds0, p0, q0, hargs, rfl, rfl, h0, r0⟩ := trodAll_cons hA
  obtain ⟨v1, vs1, d1, ds1, p1, q1, rfl, rfl, rfl, h1, r1⟩ := trodAll_cons r0
  obtain ⟨v2, vs2, d2, ds2, p2, q2, rfl, rfl, rfl, h2, r2⟩ := trodAll_cons r1
  obtain ⟨v3, vs3, d3, ds3, p3, q3, rfl, rfl, rfl, h3, r3⟩ := trodAll_cons r2
  obtain ⟨rfl, rfl, rfl⟩ := trodAll_nil r3
  obtain rfl : args = #[v0, v1, v2, v3] := by cases args; simp_all
  obtain ⟨rfl, rfl⟩ := trodVars_none hV
  obtain ⟨a0, rfl, rfl, rfl, w0⟩ := open_int Try.underlying3 (hval 0 3 v0 rfl rfl) h0
  obtain ⟨a1, rfl, rfl, rfl, w1⟩ := open_int Try.underlying3 (hval 1 3 v1 rfl rfl) h1
  obtain ⟨a2, rfl, rfl, rfl, w2⟩ := open_string Try.underlying9 (hval 2 9 v2 rfl rfl) h2
  obtain ⟨a3, rfl, rfl, rfl, w3⟩ := open_string Try.underlying9 (hval 3 9 v3 rfl rfl) h3
  clear hA0 hval0
  refine (walk_VariableAdds a0 a1 a2 a3 (bounds_i64 w0) (bounds_i64 w1) w2 w3 (w := W)).mono fun e W' ⟨he, bel⟩ => ?_
  subst he
  exact ⟨_, rfl, _, _, _, [], _, [], hW', trodAll_mk1 (shut_bool Try.underlying4 _), (trodAll_cons_mk (shut_int Try.underlying3 w0) (trodAll_cons_mk (shut_int Try.underlying3 w1) (trodAll_cons_mk (shut_string Try.underlying9 w2) (trodAll_cons_mk (shut_string Try.underlying9 w3) trodAll_mk0)))), rfl, bel.frame _, fun h => by cases h⟩
theorem over : Rows.variableAddsRow.holds Try.pinned (OpenSpec.ofChange Rows.variableAddsSpec) :=
  OpenClaim.holds_of_wide 5 Try.f5 rfl rfl rfl rfl rfl rfl rfl ⟨rfl, rfl, rfl, rfl, rfl⟩ rfl rfl rfl rfl rfl (by kernel_rfl) Try.func5 (by kernel_rfl)
    (of_decide_eq_true (by kernel_rfl)) (by unfold Func.isWrapper; first | (rw [if_pos (by decide +kernel)]; kernel_rfl) | (rw [if_neg (by decide +kernel)]; exact ⟨rfl, rfl⟩))
    (fun os started H enc _ => lifted os started H enc)
theorem proved : Rows.VariableAddsSaid := over
end variableAdds

end Go.Proofs.Ytklbckonlbpbgaa
