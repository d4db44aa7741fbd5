import Derived.Test.YtlmhlinjlneagaaCrcT5
namespace Go.Proofs.Ytlmhlinjlneagaa
open Go.Lib Go.ChangeShapes Go.WideShapes Go.ChangeAt Go.RowKit
theorem wraps_i64' (n : Int) (h₀ : 0 ≤ n) (h₁ : n < 2 ^ 63) : IntKind.i64.wrap n = n := by rw [IntKind.wrap_i64]; omega
theorem and_one_i64 (n : Nat) (hn : n < 9223372036854775808) : bits .and .i64 (n : Int) 1 = ((n % 2 : Nat) : Int) := by
  have := bits_mask .i64 63 (by decide) wraps_i64' 1 (by decide) (n : Int) (by omega) (by omega)
  rw [show ((2 : Int) ^ 1 - 1) = 1 from rfl] at this
  rw [this]; omega

set_option maxRecDepth 100000 in
set_option maxHeartbeats 1000000 in
theorem combine_pos (a b n : Nat) (ha : Hid (a < 4294967296)) (hb : Hid (b < 4294967296)) (hn : n < 9223372036854775808) (w : World) :
    Calls Try.prog 45 #[.int .u32 a, .int .u32 b, .int .i64 n] w fun e w' => e = .returned (.int .u32 (shk (8 * n) a ^^^ b : Nat)) ∧ w = w' := by
  have HN := hid hn
  clear hn
  go_enter Try.func45, Try.ntmps45
  go_wp2_with fail
  go_loop [0, 2, 7] (fun x i p => ∃ k u m q : Nat, x = .int .u32 u ∧ i = .int .i64 k ∧ p = .int .u32 q ∧ k ≤ n ∧ u < 4294967296 ∧ q = shk m unit ∧ shk (m * k) u = shk (8 * n) a) (fun _ i _ => (intOf i).toNat)
  case atStart => exact ⟨n, a, 8, 8388608, rfl, rfl, rfl, Nat.le_refl _, ha.out, first_power.symm, rfl⟩
  case round =>
    obtain ⟨k, u, m, q, rfl, rfl, rfl, hk, hu, hq, he⟩ := hrel
    have HU := hid hu
    have HQ := hid hq
    have HE := hid he
    have HQL : Hid (q < 4294967296) := by rw [hq]; exact shk_lt m unit_lt
    have HK : Hid (k < 9223372036854775808) := by have := HN.out; show k < _; omega
    have HKN := hid hk
    clear hu hq he hk
    by_cases h0 : k = 0
    · have hxor := xor_u32 u b HU.out hb.out
      subst h0
      have HF : Hid (u = shk (8 * n) a) := by have := HE.out; rw [Nat.mul_zero] at this; show _ = _; rw [← this]; unfold shk; rfl
      go_wp2_with fail
      go_ret
      exact ⟨by rw [← HF.out]; rfl, rfl⟩
    · have h0' : (0 : Int) < k := by omega
      have hand := and_one_i64 k HK.out
      rcases Nat.mod_two_eq_zero_or_one k with h2 | h2
      · rw [h2] at hand
        have H2 := hid h2
        clear h2
        go_wp2_with fail
        refine (multiply_any q q HQL HQL _).mono ?_
        rintro e w' ⟨rfl, rfl⟩
        go_wp2_with fail
        go_round
        case rel => exact ⟨k / 2, u, 2 * m, mulS 32 q q, rfl, by go_num, rfl, by have := HKN.out; omega, HU.out, by rw [HQ.out]; exact square m, by rw [comb_even _ _ _ H2.out]; exact HE.out⟩
        case measure => simp [intOf]; omega
      · rw [h2] at hand
        have H2 := hid h2
        clear h2
        go_wp2_with fail
        refine (multiply_any u q HU HQL _).mono ?_
        rintro e w' ⟨rfl, rfl⟩
        go_wp2_with fail
        refine (multiply_any q q HQL HQL _).mono ?_
        rintro e w' ⟨rfl, rfl⟩
        go_wp2_with fail
        go_round
        case rel => exact ⟨k / 2, mulS 32 u q, 2 * m, mulS 32 q q, rfl, by go_num, rfl, by have := HKN.out; omega, mulS_lt 32 u HQL.out, by rw [HQ.out]; exact square m, by rw [HQ.out, mul_power u m HU.out, comb_odd _ _ _ H2.out]; exact HE.out⟩
        case measure => simp [intOf]; omega

set_option maxRecDepth 100000 in
theorem combine_neg (a b : Nat) (n : Int) (ha : Hid (a < 4294967296)) (hb : Hid (b < 4294967296)) (hn : n ≤ 0) (w : World) :
    Calls Try.prog 45 #[.int .u32 a, .int .u32 b, .int .i64 n] w fun e w' => e = .returned (.int .u32 (a ^^^ b : Nat)) ∧ w = w' := by
  have hxor := xor_u32 a b ha.out hb.out
  go_enter Try.func45, Try.ntmps45
  go_wp2_with fail
  go_loop [0, 2, 7] (fun x i p => x = .int .u32 a ∧ i = .int .i64 n ∧ p = .int .u32 8388608) (fun _ _ _ => 0)
  case atStart => exact ⟨rfl, rfl, rfl⟩
  case round =>
    obtain ⟨rfl, rfl, rfl⟩ := hrel
    go_wp2_with fail
    go_ret
    exact ⟨rfl, rfl⟩
theorem combine_any (a b : Nat) (n : Int) (ha : Hid (a < 4294967296)) (hb : Hid (b < 4294967296)) (hn : n ≤ 9223372036854775807) (w : World) :
    Calls Try.prog 45 #[.int .u32 a, .int .u32 b, .int .i64 n] w fun e w' => e = .returned (.int .u32 (shk (8 * n.toNat) a ^^^ b : Nat)) ∧ w = w' := by
  by_cases h : n ≤ 0
  · rw [show n.toNat = 0 by omega]
    exact combine_neg a b n ha hb h w
  · obtain ⟨k, rfl⟩ := Int.eq_ofNat_of_zero_le (show 0 ≤ n by omega)
    exact combine_pos a b k ha hb (by omega) w
end Go.Proofs.Ytlmhlinjlneagaa
