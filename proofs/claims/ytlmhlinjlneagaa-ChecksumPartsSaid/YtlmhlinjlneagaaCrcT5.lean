import Derived.Test.YtlmhlinjlneagaaCrcT3
import Derived.Test.YtlmhlinjlneagaaCrcM4
import Derived.Deep.LoopGhost
namespace Go.Proofs.Ytlmhlinjlneagaa
open Go.Lib Go.ChangeShapes Go.WideShapes Go.ChangeAt Go.RowKit

set_option maxRecDepth 100000 in
set_option maxHeartbeats 1000000 in
theorem multiply_any (a b : Nat) (ha : Hid (a < 4294967296)) (hb : Hid (b < 4294967296)) (w : World) :
    Calls Try.prog 63 #[.int .u32 a, .int .u32 b] w fun e w' => e = .returned (.int .u32 (mulS 32 a b : Nat)) ∧ w = w' := by
  go_enter Try.func63, Try.ntmps63
  go_wp2_with fail
  go_loopg [0, 1, 5] 32 (fun g x y p wr => ∃ j u v q : Nat, g + j = 32 ∧ x = .int .u32 u ∧ y = .int .u32 v ∧ p = .int .u32 q ∧ u = a * 2 ^ j % 4294967296 ∧ v = shk j b ∧ q = mulS j a b ∧ w = wr)
  case atStart => exact ⟨0, a, b, 0, rfl, rfl, rfl, rfl, by rw [Nat.pow_zero, Nat.mul_one, Nat.mod_eq_of_lt ha.out], by unfold shk; rfl, rfl, rfl⟩
  case round =>
    obtain ⟨j, u, v, q, hj, rfl, rfl, rfl, hu, hv, hq, rfl⟩ := hrel
    have HU := hid hu
    have HV := hid hv
    have HQ := hid hq
    have hu32 : (u : Int) ≤ 4294967295 := by rw [hu]; omega
    have HVL : Hid (v < 4294967296) := by rw [hv]; exact shk_lt j hb.out
    have HQL : Hid (q < 4294967296) := by rw [hq]; exact mulS_lt j a hb.out
    have HJ := hid hj
    clear hu hv hq hj
    by_cases h0 : u = 0
    · have hz : ((u : Int) == 0) = true := by simp [h0]
      have H0 := hid h0
      clear h0
      go_wp2_with fail
      go_ret
      have hd := mulS_done a b j (by rw [← HU.out, H0.out]) (32 - j) (by have := HJ.out; omega)
      rw [show j + (32 - j) = 32 by have := HJ.out; omega] at hd
      exact ⟨by rw [hd, ← HQ.out]; rfl, rfl⟩
    · have hz : ((u : Int) == 0) = false := by simp; omega
      have hj31 : j ≤ 31 := by
        rcases Nat.lt_or_ge j 32 with h | h
        · omega
        · exfalso
          apply h0
          have := HJ.out
          rw [HU.out, show j = 32 by omega]
          omega
      have hjg : gk = (31 - j) + 1 := by have := HJ.out; omega
      have HG := hid hjg
      clear h0 hjg
      have htb := top_bit a j hj31
      rw [← HU.out] at htb
      by_cases hbit : a.testBit (31 - j) = true
      · rw [if_pos hbit] at htb
        have hd : (u : Int) / 2147483648 = 1 := by omega
        have HB := hid hbit
        have hxor := xor_u32 q v HQL.out HVL.out
        clear hbit htb
        go_wp2_with fail
        refine (shiftBit_any v HVL _).mono ?_
        rintro e w' ⟨rfl, rfl⟩
        go_wp2_with fail
        go_roundg (31 - j)
        case measure => rw [HG.out]; omega
        case rel => exact ⟨j + 1, u * 2 % 4294967296, shN v, q ^^^ v, by omega, by go_num, rfl, rfl, by rw [HU.out]; exact next_a a j, by rw [HV.out, shk_add]; rfl, by rw [mulS, HB.out, if_pos rfl, ← HQ.out, ← HV.out], rfl⟩
      · have hbf : a.testBit (31 - j) = false := by simpa using hbit
        rw [if_neg hbit] at htb
        have hd : (u : Int) / 2147483648 = 0 := by omega
        have HB := hid hbf
        clear hbit htb hbf
        go_wp2_with fail
        refine (shiftBit_any v HVL _).mono ?_
        rintro e w' ⟨rfl, rfl⟩
        go_wp2_with fail
        go_roundg (31 - j)
        case measure => rw [HG.out]; omega
        case rel => exact ⟨j + 1, u * 2 % 4294967296, shN v, q, by omega, by go_num, rfl, rfl, by rw [HU.out]; exact next_a a j, by rw [HV.out, shk_add]; rfl, by rw [mulS, HB.out, ← HQ.out]; simp, rfl⟩
end Go.Proofs.Ytlmhlinjlneagaa
