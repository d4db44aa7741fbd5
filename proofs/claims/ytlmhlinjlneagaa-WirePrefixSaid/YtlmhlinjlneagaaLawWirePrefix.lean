/- Statement WirePrefix: no encoding of a number is the beginning of the encoding of another one, and a greater number has no shorter encoding. For every two numbers of 64 bits, no condition. -/
import Derived.Test.YtlmhlinjlneagaaRows
import Derived.WalkKit
import Derived.ProofKit
import Derived.OpenShut
import Derived.ShutString
import Derived.ChangeOld
import Derived.Below
import Derived.Test.YtlmhlinjlneagaaWireT5
import Derived.Test.YtlmhlinjlneagaaWireM3
import Derived.Deep.QuietTactic
import Derived.BigQuiet
namespace Go.Proofs.Ytlmhlinjlneagaa
open Go.Lib Go.ChangeShapes Go.WideShapes Go.ChangeAt Go.RowKit
open Go.ChangeMaps (open_string shut_string)

set_option maxRecDepth 100000 in
theorem prefix_lt (a b : Nat) (ha : Hid (a < 18446744073709551616)) (hb : Hid (b < 18446744073709551616)) (X Y : ByteArray) (hX : Hid (X = ⟨(enc 9 a).toArray⟩)) (hY : Hid (Y = ⟨(enc 9 b).toArray⟩))
    (hx1 : 1 ≤ X.size) (hx2 : X.size ≤ 10) (hy1 : 1 ≤ Y.size) (hy2 : Y.size ≤ 10) (hle : X.size ≤ Y.size) (hab : a < b) (HC : Hid ((X.toList == (Y.extract 0 X.size).toList) = false)) (w : World) :
    Calls Try.prog 9 #[.int .u64 a, .int .u64 b] w fun e w' => e = .returned (.bool true) ∧ Below w.heap.size w w' := by
  have hab1 : ((a : Int) == b) = false := by simp; omega
  have hab2 : (a : Int) < b := by omega
  go_enter Try.func9, Try.ntmps9
  go_wp2_with fail
  refine (awake_any _).mono ?_
  rintro e w1 ⟨rfl, hb1⟩
  go_wp2_with fail
  refine (app_empty a ha _).mono ?_
  rintro e w2 ⟨rfl, hb2⟩
  rw [← hX.out]
  go_wp2_with fail
  refine (app_empty b hb _).mono ?_
  rintro e w3 ⟨rfl, hb3⟩
  rw [← hY.out]
  go_wp2_with fail
  go_quiet (fail)
  go_wp2_with fail
  go_ret
  exact ⟨by rw [HC.out]; rfl, below_drewN ((hb1.trans (hb2.mono hb1.size)).trans (hb3.mono (by have := hb1.size; have := hb2.size; omega))) _⟩

set_option maxRecDepth 100000 in
theorem prefix_gt (a b : Nat) (ha : Hid (a < 18446744073709551616)) (hb : Hid (b < 18446744073709551616)) (X Y : ByteArray) (hX : Hid (X = ⟨(enc 9 a).toArray⟩)) (hY : Hid (Y = ⟨(enc 9 b).toArray⟩))
    (hx1 : 1 ≤ X.size) (hx2 : X.size ≤ 10) (hy1 : 1 ≤ Y.size) (hy2 : Y.size ≤ 10) (hle : Y.size ≤ X.size) (hab : b < a) (HC : Hid (((X.extract 0 Y.size).toList == Y.toList) = false)) (HC' : Hid ((X.toList == (Y.extract 0 X.size).toList) = false)) (w : World) :
    Calls Try.prog 9 #[.int .u64 a, .int .u64 b] w fun e w' => e = .returned (.bool true) ∧ Below w.heap.size w w' := by
  have hab1 : ((a : Int) == b) = false := by simp; omega
  have hab2 : (b : Int) < a := by omega
  go_enter Try.func9, Try.ntmps9
  go_wp2_with fail
  refine (awake_any _).mono ?_
  rintro e w1 ⟨rfl, hb1⟩
  go_wp2_with fail
  refine (app_empty a ha _).mono ?_
  rintro e w2 ⟨rfl, hb2⟩
  rw [← hX.out]
  go_wp2_with fail
  refine (app_empty b hb _).mono ?_
  rintro e w3 ⟨rfl, hb3⟩
  rw [← hY.out]
  go_wp2_with fail
  all_goals
    go_quiet (fail)
    go_wp2_with fail
    go_ret
    exact ⟨by first | (rw [HC.out]; rfl) | (rw [HC'.out]; rfl), below_drewN ((hb1.trans (hb2.mono hb1.size)).trans (hb3.mono (by have := hb1.size; have := hb2.size; omega))) _⟩

set_option maxRecDepth 100000 in
theorem prefix_eq (a : Nat) (ha : Hid (a < 18446744073709551616)) (X : ByteArray) (hX : Hid (X = ⟨(enc 9 a).toArray⟩))
    (hx1 : 1 ≤ X.size) (hx2 : X.size ≤ 10) (w : World) :
    Calls Try.prog 9 #[.int .u64 a, .int .u64 a] w fun e w' => e = .returned (.bool true) ∧ Below w.heap.size w w' := by
  go_enter Try.func9, Try.ntmps9
  go_wp2_with fail
  refine (awake_any _).mono ?_
  rintro e w1 ⟨rfl, hb1⟩
  go_wp2_with fail
  refine (app_empty a ha _).mono ?_
  rintro e w2 ⟨rfl, hb2⟩
  rw [← hX.out]
  go_wp2_with fail
  refine (app_empty a ha _).mono ?_
  rintro e w3 ⟨rfl, hb3⟩
  rw [← hX.out]
  go_wp2_with fail
  all_goals
    go_quiet (fail)
    go_wp2_with fail
    go_ret
    exact ⟨by simp, below_drewN ((hb1.trans (hb2.mono hb1.size)).trans (hb3.mono (by have := hb1.size; have := hb2.size; omega))) _⟩

theorem enc_size (n : Nat) : (ByteArray.mk (enc 9 n).toArray).size = (enc 9 n).length := by simp [ByteArray.size]
theorem walk_WirePrefix (a0 a1 : Int) (h0 : 0 ≤ a0 ∧ a0 ≤ 18446744073709551615) (h1 : 0 ≤ a1 ∧ a1 ≤ 18446744073709551615) (w : World) :
    Calls Try.prog 9 #[.int .u64 a0, .int .u64 a1] w fun e w' => e = .returned (.bool true) ∧ Below w.heap.size w w' := by
  obtain ⟨a, rfl⟩ := Int.eq_ofNat_of_zero_le h0.1
  obtain ⟨b, rfl⟩ := Int.eq_ofNat_of_zero_le h1.1
  have ha : a < 18446744073709551616 := by omega
  have hb : b < 18446744073709551616 := by omega
  have p1 := enc_pos 9 a
  have p2 := enc_len 9 a
  have p3 := enc_pos 9 b
  have p4 := enc_len 9 b
  have s1 := enc_size a
  have s2 := enc_size b
  rcases Nat.lt_trichotomy a b with h | h | h
  · have hm := enc_mono 9 a b (by omega)
    exact prefix_lt a b ha hb _ _ rfl rfl (by omega) (by omega) (by omega) (by omega) (by omega) h (enc_cmp a b ha hb (by omega) _ _ rfl rfl) w
  · subst h
    exact prefix_eq a ha _ rfl (by omega) (by omega) w
  · have hm := enc_mono 9 b a (by omega)
    exact prefix_gt a b ha hb _ _ rfl rfl (by omega) (by omega) (by omega) (by omega) (by omega) h (by
      have := enc_cmp b a hb ha (by omega) _ _ rfl rfl
      rw [Bool.beq_comm] at this
      exact this) (enc_cmp a b ha hb (by omega) _ _ rfl rfl) w

namespace wirePrefix
theorem own : ownKnob Try.prog.godebug = none := by kernel_rfl
set_option linter.unusedVariables false
set_option maxRecDepth 100000 in
theorem lifted (os : Os) (started : os.Started) (H : Type) (enc : TypeId × Value → H) :
    ReturnsInHanded {} Try.checked os 9 .any (Rows.wirePrefixSpec.pre6 enc Try.prog Try.f9 Rows.wirePrefixRow.domain false) (Rows.wirePrefixSpec.post enc Try.prog Try.f9 false true false false) := by
  refine returnsInHanded_of_change (C := Try.checked) own started (by kernel_rfl) Try.func9
    (ChangeSpec.witness6 (enc := enc) (C := Try.checked) false ⟨#[], #[.int .u64 0, .int .u64 0], []⟩ 8 (by kernel_rfl) (by kernel_rfl) (by kernel_rfl) (by kernel_rfl)) ?_
  intro W base args ds gs before hval0 hW hcnd _
  have hval : ∀ (j : Nat) t v, Try.f9.params[j]? = some t → args[j]? = some v → Value.okWide Try.prog W .any base t v := hval0
  have hW' := hW
  obtain ⟨p, q, hA0, hV, rfl, hfz, hnd⟩ := hW
  have hA : DataW.TrodAll enc Try.prog W 0 (fun _ => true) true Try.f9.params.toList args.toList ds p := hA0
  rw [Try.params9] at hA hval
  obtain ⟨v0, vs0, d0, ds0, p0, q0, hargs, rfl, rfl, h0, r0⟩ := trodAll_cons hA
  obtain ⟨v1, vs1, d1, ds1, p1, q1, rfl, rfl, rfl, h1, r1⟩ := trodAll_cons r0
  obtain ⟨rfl, rfl, rfl⟩ := trodAll_nil r1
  obtain rfl : args = #[v0, v1] := by cases args; simp_all
  obtain ⟨rfl, rfl⟩ := trodVars_none hV
  obtain ⟨a0, rfl, rfl, rfl, w0⟩ := open_int Try.underlying22 (hval 0 22 v0 rfl rfl) h0
  obtain ⟨a1, rfl, rfl, rfl, w1⟩ := open_int Try.underlying22 (hval 1 22 v1 rfl rfl) h1
  clear hA0 hval0
  refine (walk_WirePrefix a0 a1 (bounds_u64 w0) (bounds_u64 w1) (w := W)).mono fun e W' ⟨he, bel⟩ => ?_
  subst he
  exact ⟨_, rfl, _, _, _, [], _, [], hW', trodAll_mk1 (shut_bool Try.underlying4 _), (trodAll_cons_mk (shut_int Try.underlying22 w0) (trodAll_cons_mk (shut_int Try.underlying22 w1) trodAll_mk0)), rfl, bel.frame _, fun h => by cases h⟩
theorem over : Rows.wirePrefixRow.holds Try.pinned (OpenSpec.ofChange Rows.wirePrefixSpec) :=
  OpenClaim.holds_of_wide 9 Try.f9 rfl rfl rfl rfl rfl rfl rfl ⟨rfl, rfl, rfl, rfl, rfl⟩ rfl rfl rfl rfl rfl (by kernel_rfl) Try.func9 (by kernel_rfl)
    (of_decide_eq_true (by kernel_rfl)) (by unfold Func.isWrapper; first | (rw [if_pos (by decide +kernel)]; kernel_rfl) | (rw [if_neg (by decide +kernel)]; exact ⟨rfl, rfl⟩))
    (fun os started H enc _ => lifted os started H enc)
theorem proved : Rows.WirePrefixSaid := over
end wirePrefix

end Go.Proofs.Ytlmhlinjlneagaa
