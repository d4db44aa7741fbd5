/- Statement WireLimits: Count and Text accept a number up to most, and refuse a greater one before they look for the bytes. For every number and every most; no condition. -/
import Derived.Test.YtlmhlinjlneagaaRows
import Derived.WalkKit
import Derived.ProofKit
import Derived.OpenShut
import Derived.ShutString
import Derived.ChangeOld
import Derived.Below
import Derived.Test.YtlmhlinjlneagaaWireT8
import Derived.Test.YtlmhlinjlneagaaWireM4
namespace Go.Proofs.Ytlmhlinjlneagaa
open Go.Lib Go.ChangeShapes Go.WideShapes Go.ChangeAt Go.RowKit
open Go.ChangeMaps (open_string shut_string)

set_option maxRecDepth 100000 in
theorem limits_case (n N : Nat) (hN : (n : Int) % 1099511627776 = (N : Int)) (hN1 : N < 1099511627776) (most : Int) (m0 : -9223372036854775808 ≤ most) (m1 : most ≤ 9223372036854775807) (X : ByteArray) (hX : Hid (X = ⟨(enc 9 N).toArray⟩)) (hd : Hid (dec X.data.toList 0 0 = some (N, X.size))) (hXs : X.size ≤ 10) (w : World) :
    Calls Try.prog 10 #[.int .u64 n, .int .i64 most] w fun e w' => e = .returned (.bool true) ∧ Below w.heap.size w w' := by
  have HN : Hid (N < 18446744073709551616) := by show N < _; omega
  have M0 := hid m0
  have M1 := hid m1
  clear m0 m1
  have hemp : (X.extract X.size X.size).size = 0 := by simp
  have HS := hid hemp
  clear hemp
  have hw : IntKind.i64.wrap (N : Int) = N := IntWalk.i64_in _ (by omega)
  go_enter Try.func10, Try.ntmps10
  go_wp2_with fail
  refine (awake_any _).mono ?_
  rintro e w1 ⟨rfl, hb1⟩
  go_wp2_with fail
  refine (app_empty N HN _).mono ?_
  rintro e w2 ⟨rfl, hb2⟩
  rw [← hX.out]
  go_wp2_with fail
  refine (newReader_any _ _).mono ?_
  rintro e w3 ⟨rfl, rfl⟩
  go_wp2_with fail
  refine (newReader_any _ _).mono ?_
  rintro e w4 ⟨rfl, rfl⟩
  have ra := hid ((Rd.made w2 X).alloc (.cells #[.string X, .int .i64 0] 79))
  have rb := hid (Rd.made (w2.alloc (.cells #[.string X, .int .i64 0] 79)) X)
  have HB := hid ((((hb1.trans (hb2.mono hb1.size)).alloc (by have := hb1.size; have := hb2.size; omega) (.cells #[.string X, .int .i64 0] 79))).alloc (by have := hb1.size; have := hb2.size; simp; omega) (.cells #[.string X, .int .i64 0] 79))
  have HL : Hid (w.heap.size ≤ w2.heap.size) := by have := hb1.size; have := hb2.size; show _ ≤ _; omega
  clear hb1 hb2
  go_wp2_with fail
  refine (count_any w2.heap.size X (by omega) most M0.out M1.out _ ra.out).mono ?_
  intro e w5 hx
  obtain ⟨hu5, hx⟩ := hx
  rw [hd.out] at hx
  obtain ⟨_, hx⟩ := hx
  have hsz : (w2.alloc (.cells #[.string X, .int .i64 0] 79)).heap.size = w2.heap.size + 1 := by simp
  have rb5 := hid (hu5.rd rb.out (by rw [hsz]; omega))
  rw [hsz] at rb5
  have HB5 := hid (HB.out.trans (hu5.below HL.out (by have := HL.out; simp; omega)))
  have HS5 := hid hu5.size
  clear hu5 hsz
  by_cases hm : most < (N : Int)
  · have HM := hid hm
    rw [if_pos hm] at hx
    obtain ⟨rfl, r5⟩ := hx
    have R5 := hid r5
    clear r5 hm
    go_wp2_with fail
    refine (text_any (w2.heap.size + 1) X (by omega) most M0.out M1.out _ rb5.out).mono ?_
    intro e w6 hy
    obtain ⟨hu6, hy⟩ := hy
    rw [hd.out] at hy
    obtain ⟨_, hy⟩ := hy
    rw [if_pos HM.out] at hy
    obtain ⟨rfl, r6⟩ := hy
    have R6 := hid r6
    have R5' := hid (hu6.rd R5.out (by omega))
    have HB6 := hid (HB5.out.trans (hu6.below (by have := HL.out; omega) (by have := HL.out; have := HS5.out; simp at this; omega)))
    clear hu6 r6
    by_cases hneg : most < 0
    · go_wp2_with fail
      refine (end_any _ _ _ _ R5'.out).mono ?_
      rintro e w7 ⟨rfl, rfl⟩
      go_wp2_with fail
      refine (end_any _ _ _ _ R6.out).mono ?_
      rintro e w7 ⟨rfl, rfl⟩
      go_wp2_with fail
      go_ret
      exact ⟨rfl, HB6.out⟩
    · have hm2 : most < (N : Int) := HM.out
      go_wp2_with fail
      refine (end_any _ _ _ _ R5'.out).mono ?_
      rintro e w7 ⟨rfl, rfl⟩
      go_wp2_with fail
      refine (end_any _ _ _ _ R6.out).mono ?_
      rintro e w7 ⟨rfl, rfl⟩
      go_wp2_with fail
      go_ret
      exact ⟨rfl, HB6.out⟩
  · have HM := hid hm
    rw [if_neg hm] at hx
    obtain ⟨rfl, r5⟩ := hx
    have R5 := hid r5
    have hm1 : ¬ most < 0 := by omega
    clear r5 hm
    go_wp2_with fail
    refine (text_any (w2.heap.size + 1) X (by omega) most M0.out M1.out _ rb5.out).mono ?_
    intro e w6 hy
    obtain ⟨hu6, hy⟩ := hy
    rw [hd.out] at hy
    obtain ⟨_, hy⟩ := hy
    rw [if_neg (by have := HM.out; omega), Nat.sub_self] at hy
    have R5' := hid (hu6.rd R5.out (by omega))
    have HB6 := hid (HB5.out.trans (hu6.below (by have := HL.out; omega) (by have := HL.out; have := HS5.out; simp at this; omega)))
    clear hu6
    have hm2 : ¬ most < (N : Int) := by have := HM.out; omega
    by_cases hz : 0 < N
    · rw [if_pos hz] at hy
      obtain ⟨rfl, r6⟩ := hy
      have R6 := hid r6
      have hz0 : ((N : Int) == 0) = false := by simp; omega
      clear r6
      go_wp2_with fail
      refine (end_any _ _ _ _ R5'.out).mono ?_
      rintro e w7 ⟨rfl, rfl⟩
      rw [if_pos HS.out]
      go_wp2_with fail
      refine (end_any _ _ _ _ R6.out).mono ?_
      rintro e w7 ⟨rfl, rfl⟩
      go_wp2_with fail
      refine (end_any _ _ _ _ R6.out).mono ?_
      rintro e w7 ⟨rfl, rfl⟩
      go_wp2_with fail
      go_ret
      exact ⟨rfl, HB6.out⟩
    · obtain rfl : N = 0 := by omega
      rw [if_neg (by omega)] at hy
      obtain ⟨rfl, r6⟩ := hy
      have R6 := hid r6
      clear r6
      go_wp2_with fail
      refine (end_any _ _ _ _ R5'.out).mono ?_
      rintro e w7 ⟨rfl, rfl⟩
      rw [if_pos HS.out]
      go_wp2_with fail
      refine (end_any _ _ _ _ R6.out).mono ?_
      rintro e w7 ⟨rfl, rfl⟩
      rw [if_pos (by simp)]
      go_wp2_with fail
      go_ret
      exact ⟨rfl, HB6.out⟩

theorem walk_WireLimits (a0 a1 : Int) (h0 : 0 ≤ a0 ∧ a0 ≤ 18446744073709551615) (h1 : -9223372036854775808 ≤ a1 ∧ a1 ≤ 9223372036854775807) (w : World) :
    Calls Try.prog 10 #[.int .u64 a0, .int .i64 a1] w fun e w' => e = .returned (.bool true) ∧ Below w.heap.size w w' := by
  obtain ⟨n, rfl⟩ := Int.eq_ofNat_of_zero_le h0.1
  have hl := enc_len 9 (n % 1099511627776)
  have hd := dec_enc9 (n % 1099511627776) (by omega) []
  rw [List.append_nil] at hd
  refine limits_case n (n % 1099511627776) (by omega) (by omega) a1 h1.1 h1.2 _ rfl ?_ (by simp [ByteArray.size]; omega) w
  show dec (ByteArray.mk (enc 9 (n % 1099511627776)).toArray).data.toList 0 0 = some (_, (ByteArray.mk (enc 9 (n % 1099511627776)).toArray).size)
  simpa [ByteArray.size] using hd
namespace wireLimits
theorem own : ownKnob Try.prog.godebug = none := by kernel_rfl
set_option linter.unusedVariables false
set_option maxRecDepth 100000 in
theorem lifted (os : Os) (started : os.Started) (H : Type) (enc : TypeId × Value → H) :
    ReturnsInHanded {} Try.checked os 10 .any (Rows.wireLimitsSpec.pre6 enc Try.prog Try.f10 Rows.wireLimitsRow.domain false) (Rows.wireLimitsSpec.post enc Try.prog Try.f10 false true false false) := by
  refine returnsInHanded_of_change (C := Try.checked) own started (by kernel_rfl) Try.func10
    (ChangeSpec.witness6 (enc := enc) (C := Try.checked) false ⟨#[], #[.int .u64 0, .int .i64 0], []⟩ 8 (by kernel_rfl) (by kernel_rfl) (by kernel_rfl) (by kernel_rfl)) ?_
  intro W base args ds gs before hval0 hW hcnd _
  have hval : ∀ (j : Nat) t v, Try.f10.params[j]? = some t → args[j]? = some v → Value.okWide Try.prog W .any base t v := hval0
  have hW' := hW
  obtain ⟨p, q, hA0, hV, rfl, hfz, hnd⟩ := hW
  have hA : DataW.TrodAll enc Try.prog W 0 (fun _ => true) true Try.f10.params.toList args.toList ds p := hA0
  rw [Try.params10] at hA hval
  obtain ⟨v0, vs0, d0, ds0, p0, q0, hargs, rfl, rfl, h0, r0⟩ := trodAll_cons hA
  obtain ⟨v1, vs1, d1, ds1, p1, q1, rfl, rfl, rfl, h1, r1⟩ := trodAll_cons r0
  obtain ⟨rfl, rfl, rfl⟩ := trodAll_nil r1
  obtain rfl : args = #[v0, v1] := by cases args; simp_all
  obtain ⟨rfl, rfl⟩ := trodVars_none hV
  obtain ⟨a0, rfl, rfl, rfl, w0⟩ := open_int Try.underlying22 (hval 0 22 v0 rfl rfl) h0
  obtain ⟨a1, rfl, rfl, rfl, w1⟩ := open_int Try.underlying3 (hval 1 3 v1 rfl rfl) h1
  clear hA0 hval0
  refine (walk_WireLimits a0 a1 (bounds_u64 w0) (bounds_i64 w1) (w := W)).mono fun e W' ⟨he, bel⟩ => ?_
  subst he
  exact ⟨_, rfl, _, _, _, [], _, [], hW', trodAll_mk1 (shut_bool Try.underlying4 _), (trodAll_cons_mk (shut_int Try.underlying22 w0) (trodAll_cons_mk (shut_int Try.underlying3 w1) trodAll_mk0)), rfl, bel.frame _, fun h => by cases h⟩
theorem over : Rows.wireLimitsRow.holds Try.pinned (OpenSpec.ofChange Rows.wireLimitsSpec) :=
  OpenClaim.holds_of_wide 10 Try.f10 rfl rfl rfl rfl rfl rfl rfl ⟨rfl, rfl, rfl, rfl, rfl⟩ rfl rfl rfl rfl rfl (by kernel_rfl) Try.func10 (by kernel_rfl)
    (of_decide_eq_true (by kernel_rfl)) (by unfold Func.isWrapper; first | (rw [if_pos (by decide +kernel)]; kernel_rfl) | (rw [if_neg (by decide +kernel)]; exact ⟨rfl, rfl⟩))
    (fun os started H enc _ => lifted os started H enc)
theorem proved : Rows.WireLimitsSaid := over
end wireLimits


end Go.Proofs.Ytlmhlinjlneagaa
