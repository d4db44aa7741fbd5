import Derived.Test.YtlmhlinjlneagaaRows
import Derived.WalkKit
import Derived.ProofKit
import Derived.OpenShut
import Derived.ShutString
import Derived.WalkLawsBesides
import Derived.WalkSpells
import Derived.Outline
import Derived.LoopTactic
import Derived.Lib.Hide
import Derived.Laws.BytesArg
import Derived.BigQuiet
import Derived.Deep.QuietTactic
import Derived.Test.YtlmhlinjlneagaaCrcM1
namespace Go.Proofs.Ytlmhlinjlneagaa
open Go.Lib Go.ChangeShapes Go.WideShapes Go.ChangeAt Go.RowKit

theorem xor_u32 (a b : Nat) (ha : a < 4294967296) (hb : b < 4294967296) : bits .xor .u32 (a : Int) (b : Int) = ((a ^^^ b : Nat) : Int) := u32_xor_nat a b ha hb
theorem xor_pol (n : Nat) (hn : n < 4294967296) (h : n % 2 = 1) : bits .xor .u32 ((n : Int) / 2) 2197175160 = (shN n : Nat) := by
  have e : (n : Int) / 2 = ((n / 2 : Nat) : Int) := by omega
  rw [e, show (2197175160 : Int) = ((pol : Nat) : Int) from rfl, xor_u32 _ _ (by omega) (by decide), shN, if_pos h]
theorem sh_even (n : Nat) (h : n % 2 = 0) : (n : Int) / 2 = (shN n : Nat) := by
  rw [shN, if_neg (by omega)]; omega
theorem and_one (n : Nat) (hn : n < 4294967296) : bits .and .u32 (n : Int) 1 = ((n % 2 : Nat) : Int) := by
  rw [show (1 : Int) = ((1 : Nat) : Int) from rfl, u32_and_nat _ _ hn (by decide), Nat.and_one_is_mod]
theorem not_u32 (n : Nat) (hn : n < 4294967296) : bits .xor .u32 IntKind.u32.max (n : Int) = ((n ^^^ ones : Nat) : Int) := by
  rw [show IntKind.u32.max = ((ones : Nat) : Int) from by decide +kernel, xor_u32 _ _ (by decide) hn, Nat.xor_comm]

set_option maxRecDepth 100000 in
theorem shiftBit_any (n : Nat) (hn : Hid (n < 4294967296)) (w : World) :
    Calls Try.prog 67 #[.int .u32 n] w fun e w' => e = .returned (.int .u32 (shN n : Nat)) ∧ w = w' := by
  have ha := and_one n hn.out
  rcases Nat.mod_two_eq_zero_or_one n with h | h
  · rw [h] at ha
    have HX := hid (sh_even n h)
    clear h
    go_enter Try.func67, Try.ntmps67
    go_wp2
    go_ret
    exact ⟨by rw [← HX.out]; rfl, rfl⟩
  · rw [h] at ha
    have HX := hid (xor_pol n hn.out h)
    clear h
    go_enter Try.func67, Try.ntmps67
    go_wp2
    go_ret
    exact ⟨by rw [← HX.out]; rfl, rfl⟩
def rems (k : Nat) : Array Value := ((List.range 16).map fun j => Value.int .u32 (if j < k then shk 4 j else 0 : Nat)).toArray
theorem rems_size (k : Nat) : (rems k).size = 16 := by simp [rems]
theorem rems_get (k i : Nat) (hi : i < 16) : (rems k)[i]? = some (.int .u32 (if i < k then shk 4 i else 0 : Nat)) := by simp [rems, hi]
theorem rems_set (k : Nat) (_hk : k < 16) : (rems k).setIfInBounds k (.int .u32 (shk 4 k : Nat)) = rems (k + 1) := by
  apply Array.ext_getElem?
  intro i
  by_cases hi : i < 16
  · rw [Array.getElem?_setIfInBounds, rems_get _ _ hi, rems_get _ _ hi]
    by_cases h : k = i
    · subst h; rw [if_pos rfl, if_pos (by rw [rems_size]; omega), if_pos (by omega)]
    · rw [if_neg h]
      by_cases h2 : i < k
      · rw [if_pos h2, if_pos (by omega)]
      · rw [if_neg h2, if_neg (by omega)]
  · rw [Array.getElem?_eq_none (by simp [rems_size]; omega), Array.getElem?_eq_none (by simp [rems_size]; omega)]
def tabL : Array Value := #[.int .u32 (shk 4 0 : Nat), .int .u32 (shk 4 1 : Nat), .int .u32 (shk 4 2 : Nat), .int .u32 (shk 4 3 : Nat), .int .u32 (shk 4 4 : Nat), .int .u32 (shk 4 5 : Nat), .int .u32 (shk 4 6 : Nat), .int .u32 (shk 4 7 : Nat), .int .u32 (shk 4 8 : Nat), .int .u32 (shk 4 9 : Nat), .int .u32 (shk 4 10 : Nat), .int .u32 (shk 4 11 : Nat), .int .u32 (shk 4 12 : Nat), .int .u32 (shk 4 13 : Nat), .int .u32 (shk 4 14 : Nat), .int .u32 (shk 4 15 : Nat)]
theorem rems_end : rems 16 = tabL := rfl
theorem rems_begin : rems 0 = Array.replicate 16 (.int .u32 0) := rfl

set_option maxRecDepth 100000 in
set_option maxHeartbeats 1000000 in
theorem remainders_any (w : World) :
    Calls Try.prog 60 #[] w fun e w' => e = .returned (.agg tabL) ∧ Below w.heap.size w w' := by
  go_enter Try.func60, Try.ntmps60
  go_wp2_with fail
  go_loopw [4] (fun i wr => ∃ k : Nat, k ≤ 16 ∧ i = .int .i64 k ∧ wr = (w.alloc (.cells (rems 0) 85)).alloc (.cells (rems k) 85)) (fun i _ => 16 - (intOf i).toNat)
  case atStart => exact ⟨0, by omega, rfl, by rfl⟩
  case round =>
    obtain ⟨k, hk, rfl, rfl⟩ := hrel
    have hsz := rems_size k
    by_cases hlt : k < 16
    · have hset := rems_set k hlt
      have hd5 : decide ((k : Int) < 16) = true := by simp; omega
      have hw : IntKind.u32.wrap (k : Int) = k := IntWalk.u32_in _ (by omega)
      go_wp2_with fail
      go_loop [3, 9] (fun r i => ∃ m x : Nat, m ≤ 4 ∧ i = .int .i64 m ∧ r = .int .u32 x ∧ x < 4294967296 ∧ shk (4 - m) x = shk 4 k) (fun _ i => 4 - (intOf i).toNat)
      case atStart => exact ⟨0, k, by omega, rfl, rfl, by omega, rfl⟩
      case round =>
        obtain ⟨m, x, hm, rfl, rfl, hx, he⟩ := hrel
        have HX := hid hx
        have HE := hid he
        clear hx he
        by_cases hm4 : m < 4
        · go_wp2_with fail
          refine (shiftBit_any x HX _).mono ?_
          rintro e w' ⟨rfl, rfl⟩
          go_wp2_with fail
          go_round
          case rel => exact ⟨m + 1, shN x, by omega, by go_num, rfl, shN_lt HX.out, by have := HE.out; rw [show 4 - m = (4 - (m + 1)) + 1 by omega, shk] at this; exact this⟩
          case measure => simp [intOf]; omega
        · have hx4 : (x : Int) = (shk 4 k : Nat) := by
            have := HE.out
            rw [show 4 - m = 0 by omega, shk] at this
            rw [this]
          obtain rfl : m = 4 := by omega
          obtain ⟨v, hv⟩ : ∃ v, (rems k)[k]? = some v := ⟨_, Array.getElem?_eq_getElem (by omega)⟩
          go_wp2_with fail
          go_roundw
          case rel => exact ⟨k + 1, by omega, by go_num, rfl⟩
          case measure => simp [intOf]; omega
    · obtain rfl : k = 16 := by omega
      rw [rems_end, rems_begin]
      unfold tabL
      go_wp2_with fail
      refine bodyPost_ret (v := .agg tabL) (by simp [results, Try.results60, go_sem, tabL]) rfl ⟨rfl, ?_⟩
      exact ((Below.refl _ w).alloc (Nat.le_refl _) _).alloc (by simp) _
end Go.Proofs.Ytlmhlinjlneagaa
