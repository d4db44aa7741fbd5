import Derived.Test.YtlmhlinjlneagaaWireM4
/-! Plain mathematics: numbers for integers, and back. -/
namespace Go.Proofs.Ytlmhlinjlneagaa
/-- the integer that a number stands for -/
def zag (n : Nat) : Int := if n % 2 = 0 then ((n / 2 : Nat) : Int) else -((n / 2 : Nat) : Int) - 1
theorem zag_bits (n : Nat) (h : n < 18446744073709551616) :
    bits BinOp.xor IntKind.i64 ((n : Int) / 2) (RowKit.wrap64 (-RowKit.wrap64 (bits BinOp.and IntKind.u64 (n : Int) 1))) = zag n := by
  have e : bits BinOp.and IntKind.u64 (n : Int) 1 = ((n % 2 : Nat) : Int) := by
    rw [show (1 : Int) = ((1 : Nat) : Int) from rfl, u64_and_nat _ _ h (by decide), Nat.and_one_is_mod]
  rw [e]
  unfold zag
  rcases Nat.mod_two_eq_zero_or_one n with h2 | h2
  · rw [h2, if_pos rfl, show RowKit.wrap64 (-RowKit.wrap64 ((0 : Nat) : Int)) = 0 from by decide +kernel, xor_zero _ (by omega) (by omega)]
    omega
  · rw [h2, if_neg (by decide), show RowKit.wrap64 (-RowKit.wrap64 ((1 : Nat) : Int)) = -1 from by decide +kernel, xor_ones _ (by omega) (by omega)]
    omega
theorem zag_zero : bits BinOp.xor IntKind.i64 0 (RowKit.wrap64 (-RowKit.wrap64 (bits BinOp.and IntKind.u64 0 1))) = 0 := zag_bits 0 (by decide)
theorem zag_bounds (n : Nat) (h : n < 18446744073709551616) : -9223372036854775808 ≤ zag n ∧ zag n ≤ 9223372036854775807 := by
  unfold zag; split <;> omega
theorem zig_zag (n : Nat) : zig (zag n) = n := by
  unfold zag zig
  split <;> split <;> omega
theorem zag_zig (n : Int) : zag (zig n) = n := by
  unfold zag zig
  split <;> split <;> omega
end Go.Proofs.Ytlmhlinjlneagaa
