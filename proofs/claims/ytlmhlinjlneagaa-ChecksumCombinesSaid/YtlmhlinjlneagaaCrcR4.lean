import Derived.Test.YtlmhlinjlneagaaCrcT6
import Derived.Test.YtlmhlinjlneagaaCrcR1
namespace Go.Proofs.Ytlmhlinjlneagaa
open Go.Lib Go.ChangeShapes Go.WideShapes Go.ChangeAt Go.RowKit

theorem shr_bit (a k : Nat) : (a : Int) / 2 ^ k % 2 = if a.testBit k then 1 else 0 := by
  have h := Nat.testBit_eq_decide_div_mod_eq (x := a) (i := k)
  have e : (a : Int) / 2 ^ k % 2 = ((a / 2 ^ k % 2 : Nat) : Int) := by
    rw [Int.natCast_emod, Int.natCast_ediv, Int.natCast_pow]; rfl
  rw [e, h]
  by_cases h2 : a / 2 ^ k % 2 = 1
  · rw [decide_eq_true h2, h2]; rfl
  · rw [decide_eq_false h2, show a / 2 ^ k % 2 = 0 by omega]; rfl

set_option maxRecDepth 100000 in
set_option maxHeartbeats 1000000 in
theorem times_any (a b : Nat) (_ha : Hid (a < 4294967296)) (hb : Hid (b < 4294967296)) (w : World) :
    Calls Try.prog 64 #[.int .u32 a, .int .u32 b] w fun e w' => e = .returned (.int .u32 (mulS 32 a b : Nat)) ∧ w = w' := by
  go_enter Try.func64, Try.ntmps64
  go_wp2_with fail
  go_loop [1, 5, 6] (fun y p i => ∃ (j v q : Nat) (x : Int), j ≤ 32 ∧ y = .int .u32 v ∧ p = .int .u32 q ∧ i = .int .i64 x ∧ x = 31 - (j : Int) ∧ v = shk j b ∧ q = mulS j a b) (fun _ _ i => (intOf i + 1).toNat)
  case atStart => exact ⟨0, b, 0, 31, by omega, rfl, rfl, rfl, rfl, by unfold shk; rfl, rfl⟩
  case round =>
    obtain ⟨j, v, q, x, hj, rfl, rfl, rfl, hx, hv, hq⟩ := hrel
    have HV := hid hv
    have HQ := hid hq
    have HVL : Hid (v < 4294967296) := by rw [hv]; exact shk_lt j hb.out
    have HQL : Hid (q < 4294967296) := by rw [hq]; exact mulS_lt j a hb.out
    clear hv hq
    by_cases hj32 : j = 32
    · have hx0 : x < 0 := by omega
      have HJ := hid hj32
      clear hj32 hx
      go_wp2_with fail
      go_ret
      exact ⟨by rw [← HJ.out, ← HQ.out]; rfl, rfl⟩
    · obtain ⟨k, rfl⟩ := Int.eq_ofNat_of_zero_le (show 0 ≤ x by omega)
      have hk : k ≤ 31 := by omega
      have hjk : 31 - j = k := by omega
      have HX := hid hx
      have HJK := hid hjk
      have hsb := shr_bit a k
      have htm : ((a : Int) / 2 ^ k).tmod 2 = (a : Int) / 2 ^ k % 2 := Int.tmod_eq_emod_of_nonneg (Int.ediv_nonneg (by omega) (Int.pow_nonneg (by decide)))
      clear hx hjk
      by_cases hbit : a.testBit k = true
      · rw [if_pos hbit] at hsb
        rw [hsb] at htm
        have HB := hid hbit
        have hxor := xor_u32 q v HQL.out HVL.out
        clear hbit
        go_wp2_with fail
        refine (refshift_any v HVL _).mono ?_
        rintro e w' ⟨rfl, rfl⟩
        go_wp2_with fail
        go_round
        case rel => exact ⟨j + 1, shN v, q ^^^ v, (k : Int) - 1, by omega, rfl, rfl, by go_num, by have := HX.out; omega, by rw [HV.out, shk_add]; rfl, by rw [mulS, HJK.out, HB.out, if_pos rfl, ← HQ.out, ← HV.out]⟩
        case measure => first | (simp [intOf]; omega) | simp [intOf]
      · rw [if_neg hbit] at hsb
        rw [hsb] at htm
        have HB : Hid (a.testBit k = false) := by show _ = _; simpa using hbit
        clear hbit
        go_wp2_with fail
        refine (refshift_any v HVL _).mono ?_
        rintro e w' ⟨rfl, rfl⟩
        go_wp2_with fail
        go_round
        case rel => exact ⟨j + 1, shN v, q, (k : Int) - 1, by omega, rfl, rfl, by go_num, by have := HX.out; omega, by rw [HV.out, shk_add]; rfl, by rw [mulS, HJK.out, HB.out, ← HQ.out]; simp⟩
        case measure => first | (simp [intOf]; omega) | simp [intOf]

set_option maxRecDepth 100000 in
set_option maxHeartbeats 1000000 in
theorem refcombine_pos (a b n : Nat) (ha : Hid (a < 4294967296)) (hb : Hid (b < 4294967296)) (hn : n < 9223372036854775808) (w : World) :
    Calls Try.prog 46 #[.int .u32 a, .int .u32 b, .int .i64 n] w fun e w' => e = .returned (.int .u32 (shk (8 * n) a ^^^ b : Nat)) ∧ w = w' := by
  have HN := hid hn
  clear hn
  go_enter Try.func46, Try.ntmps46
  go_wp2_with fail
  go_loop [0, 2, 7] (fun x i p => ∃ k u m q : Nat, x = .int .u32 u ∧ i = .int .i64 k ∧ p = .int .u32 q ∧ k ≤ n ∧ u < 4294967296 ∧ q = shk m unit ∧ shk (m * k) u = shk (8 * n) a) (fun _ i _ => (intOf i).toNat)
  case atStart => exact ⟨n, a, 8, 8388608, rfl, rfl, rfl, Nat.le_refl _, ha.out, first_power.symm, rfl⟩
  case round =>
    obtain ⟨k, u, m, q, rfl, rfl, rfl, hk, hu, hq, he⟩ := hrel
    have HU := hid hu
    have HQ := hid hq
    have HE := hid he
    have HQL : Hid (q < 4294967296) := by rw [hq]; exact shk_lt m unit_lt
    have hk63 : (k : Int) ≤ 9223372036854775807 := by have := HN.out; omega
    have HKN := hid hk
    clear hu hq he hk
    by_cases h0 : k = 0
    · have hxor := xor_u32 u b HU.out hb.out
      subst h0
      have HF : Hid (u = shk (8 * n) a) := by have := HE.out; rw [Nat.mul_zero] at this; show _ = _; rw [← this]; unfold shk; rfl
      go_wp2_with fail
      go_ret
      exact ⟨by rw [← HF.out]; rfl, rfl⟩
    · have h0' : (0 : Int) < k := by omega
      rcases Nat.mod_two_eq_zero_or_one k with h2 | h2
      · have hand : (k : Int) % 2 = 0 := by omega
        have H2 := hid h2
        clear h2
        go_wp2_with fail
        refine (times_any q q HQL HQL _).mono ?_
        rintro e w' ⟨rfl, rfl⟩
        go_wp2_with fail
        go_round
        case rel => exact ⟨k / 2, u, 2 * m, mulS 32 q q, rfl, by go_num, rfl, by have := HKN.out; omega, HU.out, by rw [HQ.out]; exact square m, by rw [comb_even _ _ _ H2.out]; exact HE.out⟩
        case measure => simp [intOf]; omega
      · have hand : (k : Int) % 2 = 1 := by omega
        have H2 := hid h2
        clear h2
        go_wp2_with fail
        refine (times_any q u HQL HU _).mono ?_
        rintro e w' ⟨rfl, rfl⟩
        go_wp2_with fail
        refine (times_any q q HQL HQL _).mono ?_
        rintro e w' ⟨rfl, rfl⟩
        go_wp2_with fail
        go_round
        case rel => exact ⟨k / 2, mulS 32 q u, 2 * m, mulS 32 q q, rfl, by go_num, rfl, by have := HKN.out; omega, mulS_lt 32 q HU.out, by rw [HQ.out]; exact square m, by rw [mul_comm q u HQL.out HU.out, HQ.out, mul_power u m HU.out, comb_odd _ _ _ H2.out]; exact HE.out⟩
        case measure => simp [intOf]; omega

set_option maxRecDepth 100000 in
theorem refcombine_neg (a b : Nat) (n : Int) (ha : Hid (a < 4294967296)) (hb : Hid (b < 4294967296)) (hn : n ≤ 0) (w : World) :
    Calls Try.prog 46 #[.int .u32 a, .int .u32 b, .int .i64 n] w fun e w' => e = .returned (.int .u32 (a ^^^ b : Nat)) ∧ w = w' := by
  have hxor := xor_u32 a b ha.out hb.out
  go_enter Try.func46, Try.ntmps46
  go_wp2_with fail
  go_loop [0, 2, 7] (fun x i p => x = .int .u32 a ∧ i = .int .i64 n ∧ p = .int .u32 8388608) (fun _ _ _ => 0)
  case atStart => exact ⟨rfl, rfl, rfl⟩
  case round =>
    obtain ⟨rfl, rfl, rfl⟩ := hrel
    go_wp2_with fail
    go_ret
    exact ⟨rfl, rfl⟩
theorem refcombine_any (a b : Nat) (n : Int) (ha : Hid (a < 4294967296)) (hb : Hid (b < 4294967296)) (hn : n ≤ 9223372036854775807) (w : World) :
    Calls Try.prog 46 #[.int .u32 a, .int .u32 b, .int .i64 n] w fun e w' => e = .returned (.int .u32 (shk (8 * n.toNat) a ^^^ b : Nat)) ∧ w = w' := by
  by_cases h : n ≤ 0
  · rw [show n.toNat = 0 by omega]
    exact refcombine_neg a b n ha hb h w
  · obtain ⟨k, rfl⟩ := Int.eq_ofNat_of_zero_le (show 0 ≤ n by omega)
    exact refcombine_pos a b k ha hb (by omega) w
end Go.Proofs.Ytlmhlinjlneagaa
