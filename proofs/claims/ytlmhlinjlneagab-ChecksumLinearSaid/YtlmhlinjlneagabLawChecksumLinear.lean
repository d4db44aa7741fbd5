/- Statement ChecksumLinear: the sum of the exclusive or of three texts of the same length is the exclusive or of their sums; for all texts of at most 300 bytes, which is the statement's own bound. -/
import Derived.Test.YtlmhlinjlneagabRows
import Derived.WalkKit
import Derived.ProofKit
import Derived.OpenShut
import Derived.ShutString
import Derived.ChangeOld
import Derived.Below
import Derived.Test.YtlmhlinjlneagabCrcM2
namespace Go.Proofs.Ytlmhlinjlneagab
open Go.Lib Go.ChangeShapes Go.WideShapes Go.ChangeAt Go.RowKit
open Go.ChangeMaps (open_string shut_string)

set_option maxRecDepth 100000 in
theorem long_ChecksumLinear (a b c : ByteArray) (h : ¬ (a.size ≤ 300 ∧ b.size ≤ 300 ∧ c.size ≤ 300)) (w : World) :
    Calls Try.prog 6 #[.string a, .string b, .string c] w fun e w' => e = .returned (.bool true) ∧ Below w.heap.size w w' := by
  by_cases h1 : a.size ≤ 300
  · by_cases h2 : b.size ≤ 300
    · have h3 : ¬ c.size ≤ 300 := fun h3 => h ⟨h1, h2, h3⟩
      clear h
      go_enter Try.func6, Try.ntmps6
      go_wp2_with fail
      refine (cawake_any _).mono ?_
      rintro e w1 ⟨rfl, hb1⟩
      go_wp2_with fail
      refine (cawake_any _).mono ?_
      rintro e w2 ⟨rfl, hb2⟩
      go_wp2_with fail
      go_ret
      exact ⟨rfl, hb1.trans (hb2.mono hb1.size)⟩
    · clear h
      go_enter Try.func6, Try.ntmps6
      go_wp2_with fail
      refine (cawake_any _).mono ?_
      rintro e w1 ⟨rfl, hb1⟩
      go_wp2_with fail
      refine (cawake_any _).mono ?_
      rintro e w2 ⟨rfl, hb2⟩
      go_wp2_with fail
      go_ret
      exact ⟨rfl, hb1.trans (hb2.mono hb1.size)⟩
  · clear h
    go_enter Try.func6, Try.ntmps6
    go_wp2_with fail
    refine (cawake_any _).mono ?_
    rintro e w1 ⟨rfl, hb1⟩
    go_wp2_with fail
    refine (cawake_any _).mono ?_
    rintro e w2 ⟨rfl, hb2⟩
    go_wp2_with fail
    go_ret
    exact ⟨rfl, hb1.trans (hb2.mono hb1.size)⟩

set_option maxRecDepth 100000 in
set_option maxHeartbeats 1000000 in
theorem lin_a (a b c : ByteArray) (ka : a.size ≤ 300) (kb : b.size ≤ 300) (kc : c.size ≤ 300) (h1 : a.size ≤ b.size) (h2 : a.size ≤ c.size) (w : World) :
    Calls Try.prog 6 #[.string a, .string b, .string c] w fun e w' => e = .returned (.bool true) ∧ Below w.heap.size w w' := by
  obtain ⟨B, hB⟩ : ∃ B, B = b.extract 0 a.size := ⟨_, rfl⟩
  have zB : B.size = a.size := by rw [hB]; simp; omega
  have hB' := hB.symm
  clear hB
  obtain ⟨C, hC⟩ : ∃ C, C = c.extract 0 a.size := ⟨_, rfl⟩
  have zC : C.size = a.size := by rw [hC]; simp; omega
  have hC' := hC.symm
  clear hC
  obtain ⟨X, hX⟩ : ∃ X, X = (⟨(xorL a 0 B).toArray⟩ : ByteArray) := ⟨_, rfl⟩
  obtain ⟨Y, hY⟩ : ∃ Y, Y = (⟨(xorL X 0 C).toArray⟩ : ByteArray) := ⟨_, rfl⟩
  have hXs : X.size = a.size := by rw [hX]; exact xorL_len _ _ _
  have hYs : Y.size = X.size := by rw [hY]; exact xorL_len _ _ _
  have HS := hid (sum_three a B C X Y (by omega) (by omega) hX hY)
  have hx1 := xor_u32 (sumS a) (sumS B) (sumS_lt _) (sumS_lt _)
  have hx2 := xor_u32 (sumS a ^^^ sumS B) (sumS C) (xor_lt (sumS_lt _) (sumS_lt _)) (sumS_lt _)
  have HX := hid hX
  have HY := hid hY
  have lA : a.size ≤ 300 := by omega
  have lB : B.size ≤ 300 := by omega
  have lC : C.size ≤ 300 := by omega
  have lX : X.size ≤ 300 := by omega
  have lY : Y.size ≤ 300 := by omega
  clear hX hY hXs hYs
  go_enter Try.func6, Try.ntmps6
  go_wp2_with fail
  refine (cawake_any _).mono ?_
  rintro e w1 ⟨rfl, hb1⟩
  go_wp2_with fail
  all_goals
    go_quiet (fail)
    go_wp2_with fail
    refine (xor_any a B 0 (by omega) (by omega) (by omega) _).mono ?_
    rintro e w2 ⟨rfl, hb2⟩
    rw [← HX.out]
    go_wp2_with fail
    refine (xor_any X C 0 (by omega) (by omega) (by omega) _).mono ?_
    rintro e w3 ⟨rfl, hb3⟩
    rw [← HY.out]
    go_wp2_with fail
    refine (sum_any Y (by omega) _).mono ?_
    rintro e w4 ⟨rfl, hb4⟩
    rw [show crc 0 Y.data.toList = sumS Y from rfl, HS.out]
    go_wp2_with fail
    refine (sum_any a (by omega) _).mono ?_
    rintro e w5 ⟨rfl, hb5⟩
    rw [show crc 0 a.data.toList = sumS a from rfl]
    go_wp2_with fail
    refine (sum_any B (by omega) _).mono ?_
    rintro e w6 ⟨rfl, hb6⟩
    rw [show crc 0 B.data.toList = sumS B from rfl]
    go_wp2_with fail
    refine (sum_any C (by omega) _).mono ?_
    rintro e w7 ⟨rfl, hb7⟩
    rw [show crc 0 C.data.toList = sumS C from rfl]
    go_wp2_with fail
    go_ret
    have z0 : w1.heap.size ≤ (w1.drewN nq).heap.size := Nat.le_refl _
    have z1 := hb1.size
    have z2 := hb2.size
    have z3 := hb3.size
    have z4 := hb4.size
    have z5 := hb5.size
    have z6 := hb6.size
    have hb1' := below_drewN hb1 nq
    have z1' := hb1'.size
    exact ⟨by simp, (((((hb1'.trans (hb2.mono z1')).trans (hb3.mono (by omega))).trans (hb4.mono (by omega))).trans (hb5.mono (by omega))).trans (hb6.mono (by omega))).trans (hb7.mono (by omega))⟩

set_option maxRecDepth 100000 in
set_option maxHeartbeats 1000000 in
theorem lin_b (a b c : ByteArray) (ka : a.size ≤ 300) (kb : b.size ≤ 300) (kc : c.size ≤ 300) (h1 : b.size < a.size) (h2 : b.size ≤ c.size) (w : World) :
    Calls Try.prog 6 #[.string a, .string b, .string c] w fun e w' => e = .returned (.bool true) ∧ Below w.heap.size w w' := by
  obtain ⟨A, hA⟩ : ∃ A, A = a.extract 0 b.size := ⟨_, rfl⟩
  have zA : A.size = b.size := by rw [hA]; simp; omega
  have hA' := hA.symm
  clear hA
  obtain ⟨C, hC⟩ : ∃ C, C = c.extract 0 b.size := ⟨_, rfl⟩
  have zC : C.size = b.size := by rw [hC]; simp; omega
  have hC' := hC.symm
  clear hC
  obtain ⟨X, hX⟩ : ∃ X, X = (⟨(xorL A 0 b).toArray⟩ : ByteArray) := ⟨_, rfl⟩
  obtain ⟨Y, hY⟩ : ∃ Y, Y = (⟨(xorL X 0 C).toArray⟩ : ByteArray) := ⟨_, rfl⟩
  have hXs : X.size = A.size := by rw [hX]; exact xorL_len _ _ _
  have hYs : Y.size = X.size := by rw [hY]; exact xorL_len _ _ _
  have HS := hid (sum_three A b C X Y (by omega) (by omega) hX hY)
  have hx1 := xor_u32 (sumS A) (sumS b) (sumS_lt _) (sumS_lt _)
  have hx2 := xor_u32 (sumS A ^^^ sumS b) (sumS C) (xor_lt (sumS_lt _) (sumS_lt _)) (sumS_lt _)
  have HX := hid hX
  have HY := hid hY
  have lA : A.size ≤ 300 := by omega
  have lB : b.size ≤ 300 := by omega
  have lC : C.size ≤ 300 := by omega
  have lX : X.size ≤ 300 := by omega
  have lY : Y.size ≤ 300 := by omega
  clear hX hY hXs hYs
  go_enter Try.func6, Try.ntmps6
  go_wp2_with fail
  refine (cawake_any _).mono ?_
  rintro e w1 ⟨rfl, hb1⟩
  go_wp2_with fail
  all_goals
    go_quiet (fail)
    go_wp2_with fail
    refine (xor_any A b 0 (by omega) (by omega) (by omega) _).mono ?_
    rintro e w2 ⟨rfl, hb2⟩
    rw [← HX.out]
    go_wp2_with fail
    refine (xor_any X C 0 (by omega) (by omega) (by omega) _).mono ?_
    rintro e w3 ⟨rfl, hb3⟩
    rw [← HY.out]
    go_wp2_with fail
    refine (sum_any Y (by omega) _).mono ?_
    rintro e w4 ⟨rfl, hb4⟩
    rw [show crc 0 Y.data.toList = sumS Y from rfl, HS.out]
    go_wp2_with fail
    refine (sum_any A (by omega) _).mono ?_
    rintro e w5 ⟨rfl, hb5⟩
    rw [show crc 0 A.data.toList = sumS A from rfl]
    go_wp2_with fail
    refine (sum_any b (by omega) _).mono ?_
    rintro e w6 ⟨rfl, hb6⟩
    rw [show crc 0 b.data.toList = sumS b from rfl]
    go_wp2_with fail
    refine (sum_any C (by omega) _).mono ?_
    rintro e w7 ⟨rfl, hb7⟩
    rw [show crc 0 C.data.toList = sumS C from rfl]
    go_wp2_with fail
    go_ret
    have z0 : w1.heap.size ≤ (w1.drewN nq).heap.size := Nat.le_refl _
    have z1 := hb1.size
    have z2 := hb2.size
    have z3 := hb3.size
    have z4 := hb4.size
    have z5 := hb5.size
    have z6 := hb6.size
    have hb1' := below_drewN hb1 nq
    have z1' := hb1'.size
    exact ⟨by simp, (((((hb1'.trans (hb2.mono z1')).trans (hb3.mono (by omega))).trans (hb4.mono (by omega))).trans (hb5.mono (by omega))).trans (hb6.mono (by omega))).trans (hb7.mono (by omega))⟩

set_option maxRecDepth 100000 in
set_option maxHeartbeats 1000000 in
theorem lin_c (a b c : ByteArray) (ka : a.size ≤ 300) (kb : b.size ≤ 300) (kc : c.size ≤ 300) (h1 : c.size < a.size) (h2 : c.size < b.size) (w : World) :
    Calls Try.prog 6 #[.string a, .string b, .string c] w fun e w' => e = .returned (.bool true) ∧ Below w.heap.size w w' := by
  obtain ⟨A, hA⟩ : ∃ A, A = a.extract 0 c.size := ⟨_, rfl⟩
  have zA : A.size = c.size := by rw [hA]; simp; omega
  have hA' := hA.symm
  clear hA
  obtain ⟨B, hB⟩ : ∃ B, B = b.extract 0 c.size := ⟨_, rfl⟩
  have zB : B.size = c.size := by rw [hB]; simp; omega
  have hB' := hB.symm
  clear hB
  obtain ⟨X, hX⟩ : ∃ X, X = (⟨(xorL A 0 B).toArray⟩ : ByteArray) := ⟨_, rfl⟩
  obtain ⟨Y, hY⟩ : ∃ Y, Y = (⟨(xorL X 0 c).toArray⟩ : ByteArray) := ⟨_, rfl⟩
  have hXs : X.size = A.size := by rw [hX]; exact xorL_len _ _ _
  have hYs : Y.size = X.size := by rw [hY]; exact xorL_len _ _ _
  have HS := hid (sum_three A B c X Y (by omega) (by omega) hX hY)
  have hx1 := xor_u32 (sumS A) (sumS B) (sumS_lt _) (sumS_lt _)
  have hx2 := xor_u32 (sumS A ^^^ sumS B) (sumS c) (xor_lt (sumS_lt _) (sumS_lt _)) (sumS_lt _)
  have HX := hid hX
  have HY := hid hY
  have lA : A.size ≤ 300 := by omega
  have lB : B.size ≤ 300 := by omega
  have lC : c.size ≤ 300 := by omega
  have lX : X.size ≤ 300 := by omega
  have lY : Y.size ≤ 300 := by omega
  clear hX hY hXs hYs
  go_enter Try.func6, Try.ntmps6
  go_wp2_with fail
  refine (cawake_any _).mono ?_
  rintro e w1 ⟨rfl, hb1⟩
  go_wp2_with fail
  all_goals
    go_quiet (fail)
    go_wp2_with fail
    refine (xor_any A B 0 (by omega) (by omega) (by omega) _).mono ?_
    rintro e w2 ⟨rfl, hb2⟩
    rw [← HX.out]
    go_wp2_with fail
    refine (xor_any X c 0 (by omega) (by omega) (by omega) _).mono ?_
    rintro e w3 ⟨rfl, hb3⟩
    rw [← HY.out]
    go_wp2_with fail
    refine (sum_any Y (by omega) _).mono ?_
    rintro e w4 ⟨rfl, hb4⟩
    rw [show crc 0 Y.data.toList = sumS Y from rfl, HS.out]
    go_wp2_with fail
    refine (sum_any A (by omega) _).mono ?_
    rintro e w5 ⟨rfl, hb5⟩
    rw [show crc 0 A.data.toList = sumS A from rfl]
    go_wp2_with fail
    refine (sum_any B (by omega) _).mono ?_
    rintro e w6 ⟨rfl, hb6⟩
    rw [show crc 0 B.data.toList = sumS B from rfl]
    go_wp2_with fail
    refine (sum_any c (by omega) _).mono ?_
    rintro e w7 ⟨rfl, hb7⟩
    rw [show crc 0 c.data.toList = sumS c from rfl]
    go_wp2_with fail
    go_ret
    have z0 : w1.heap.size ≤ (w1.drewN nq).heap.size := Nat.le_refl _
    have z1 := hb1.size
    have z2 := hb2.size
    have z3 := hb3.size
    have z4 := hb4.size
    have z5 := hb5.size
    have z6 := hb6.size
    have hb1' := below_drewN hb1 nq
    have z1' := hb1'.size
    exact ⟨by simp, (((((hb1'.trans (hb2.mono z1')).trans (hb3.mono (by omega))).trans (hb4.mono (by omega))).trans (hb5.mono (by omega))).trans (hb6.mono (by omega))).trans (hb7.mono (by omega))⟩

theorem walk_ChecksumLinear (a b c : ByteArray) (_w0 : a.size ≤ maxLen) (_w1 : b.size ≤ maxLen) (_w2 : c.size ≤ maxLen) (w : World) :
    Calls Try.prog 6 #[.string a, .string b, .string c] w fun e w' => e = .returned (.bool true) ∧ Below w.heap.size w w' := by
  by_cases h : a.size ≤ 300 ∧ b.size ≤ 300 ∧ c.size ≤ 300
  · obtain ⟨ka, kb, kc⟩ := h
    by_cases h1 : a.size ≤ b.size ∧ a.size ≤ c.size
    · exact lin_a a b c ka kb kc h1.1 h1.2 w
    · by_cases h2 : b.size ≤ c.size
      · exact lin_b a b c ka kb kc (by omega) h2 w
      · exact lin_c a b c ka kb kc (by omega) (by omega) w
  · exact long_ChecksumLinear a b c h w

namespace checksumLinear
theorem own : ownKnob Try.prog.godebug = none := by kernel_rfl
set_option linter.unusedVariables false
set_option maxRecDepth 100000 in
theorem lifted (os : Os) (started : os.Started) (H : Type) (enc : TypeId × Value → H) :
    ReturnsInHanded {} Try.checked os 6 .any (Rows.checksumLinearSpec.pre6 enc Try.prog Try.f6 Rows.checksumLinearRow.domain false) (Rows.checksumLinearSpec.post enc Try.prog Try.f6 false true false false) := by
  refine returnsInHanded_of_change (C := Try.checked) own started (by kernel_rfl) Try.func6
    (ChangeSpec.witness6 (enc := enc) (C := Try.checked) false ⟨#[], #[.string ByteArray.empty, .string ByteArray.empty, .string ByteArray.empty], []⟩ 8 (by kernel_rfl) (by kernel_rfl) (by kernel_rfl) (by kernel_rfl)) ?_
  intro W base args ds gs before hval0 hW hcnd _
  have hval : ∀ (j : Nat) t v, Try.f6.params[j]? = some t → args[j]? = some v → Value.okWide Try.prog W .any base t v := hval0
  have hW' := hW
  obtain ⟨p, q, hA0, hV, rfl, hfz, hnd⟩ := hW
  have hA : DataW.TrodAll enc Try.prog W 0 (fun _ => true) true Try.f6.params.toList args.toList ds p := hA0
  rw [Try.params6] at hA hval
  obtain ⟨v0, vs0, d0, ds0, p0, q0, hargs, rfl, rfl, h0, r0⟩ := trodAll_cons hA
  obtain ⟨v1, vs1, d1, ds1, p1, q1, rfl, rfl, rfl, h1, r1⟩ := trodAll_cons r0
  obtain ⟨v2, vs2, d2, ds2, p2, q2, rfl, rfl, rfl, h2, r2⟩ := trodAll_cons r1
  obtain ⟨rfl, rfl, rfl⟩ := trodAll_nil r2
  obtain rfl : args = #[v0, v1, v2] := by cases args; simp_all
  obtain ⟨rfl, rfl⟩ := trodVars_none hV
  obtain ⟨a0, rfl, rfl, rfl, w0⟩ := open_string Try.underlying9 (hval 0 9 v0 rfl rfl) h0
  obtain ⟨a1, rfl, rfl, rfl, w1⟩ := open_string Try.underlying9 (hval 1 9 v1 rfl rfl) h1
  obtain ⟨a2, rfl, rfl, rfl, w2⟩ := open_string Try.underlying9 (hval 2 9 v2 rfl rfl) h2
  clear hA0 hval0
  refine (walk_ChecksumLinear a0 a1 a2 w0 w1 w2 (w := W)).mono fun e W' ⟨he, bel⟩ => ?_
  subst he
  exact ⟨_, rfl, _, _, _, [], _, [], hW', trodAll_mk1 (shut_bool Try.underlying4 _), (trodAll_cons_mk (shut_string Try.underlying9 w0) (trodAll_cons_mk (shut_string Try.underlying9 w1) (trodAll_cons_mk (shut_string Try.underlying9 w2) trodAll_mk0))), rfl, bel.frame _, fun h => by cases h⟩
theorem over : Rows.checksumLinearRow.holds Try.pinned (OpenSpec.ofChange Rows.checksumLinearSpec) :=
  OpenClaim.holds_of_wide 6 Try.f6 rfl rfl rfl rfl rfl rfl rfl ⟨rfl, rfl, rfl, rfl, rfl⟩ rfl rfl rfl rfl rfl (by kernel_rfl) Try.func6 (by kernel_rfl)
    (of_decide_eq_true (by kernel_rfl)) (by unfold Func.isWrapper; first | (rw [if_pos (by decide +kernel)]; kernel_rfl) | (rw [if_neg (by decide +kernel)]; exact ⟨rfl, rfl⟩))
    (fun os started H enc _ => lifted os started H enc)
theorem proved : Rows.ChecksumLinearSaid := over
end checksumLinear

end Go.Proofs.Ytlmhlinjlneagab
