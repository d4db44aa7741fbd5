import Derived.Test.YtlmhlinjlneagaaWireM1
import Derived.Laws.BitsAllLaws
import Derived.IntWalk
import Derived.RowKit
/-! Plain mathematics of reading numbers. -/
namespace Go.Proofs.Ytlmhlinjlneagaa
/-- the number that the bytes begin with, and how many bytes it takes -/
def dec : List UInt8 → Nat → Nat → Option (Nat × Nat)
  | [], _, _ => none
  | b :: l, i, acc =>
    if 10 ≤ i then none else if i = 9 ∧ 1 < b.toNat then none else
    if 128 ≤ b.toNat then dec l (i + 1) (acc + b.toNat % 128 * 128 ^ i) else
    if b.toNat = 0 ∧ 0 < i then none else some (acc + b.toNat % 128 * 128 ^ i, i + 1)
theorem dec_at (s : ByteArray) (k m : Nat) (h : k < s.size) : dec (s.data.toList.drop k) k m =
    if 10 ≤ k then none else if k = 9 ∧ 1 < s[k].toNat then none else
    if 128 ≤ s[k].toNat then dec (s.data.toList.drop (k + 1)) (k + 1) (m + s[k].toNat % 128 * 128 ^ k) else
    if s[k].toNat = 0 ∧ 0 < k then none else some (m + s[k].toNat % 128 * 128 ^ k, k + 1) := by
  rw [List.drop_eq_getElem_cons (by simpa using h), dec]
  rfl
theorem pow128 (k : Nat) : 2 ^ (7 * k) = 128 ^ k := by rw [Nat.pow_mul]
theorem digit_lt (k x : Nat) (hk : k ≤ 9) (h9 : k = 9 → x ≤ 1) : x % 128 * 128 ^ k < 18446744073709551616 := by
  rcases Nat.lt_or_ge k 9 with h | h
  · have h1 : 128 ^ k ≤ 128 ^ 8 := Nat.pow_le_pow_right (by decide) (by omega)
    have h2 : x % 128 < 128 := Nat.mod_lt _ (by decide)
    have h3 : x % 128 * 128 ^ k ≤ 127 * 128 ^ 8 := Nat.mul_le_mul (by omega) h1
    have h4 : 127 * 128 ^ 8 < 18446744073709551616 := by decide
    omega
  · obtain rfl : k = 9 := by omega
    have := h9 rfl
    have h2 : x % 128 ≤ 1 := Nat.le_trans (Nat.mod_le _ _) this
    have h4 : 128 ^ 9 < 18446744073709551616 := by decide
    have h3 : x % 128 * 128 ^ 9 ≤ 1 * 128 ^ 9 := Nat.mul_le_mul_right _ h2
    omega
theorem digit_acc (k m x : Nat) (hm : m < 128 ^ k) : m + x % 128 * 128 ^ k < 128 ^ (k + 1) := by
  have h2 : x % 128 ≤ 127 := by omega
  have h3 : x % 128 * 128 ^ k ≤ 127 * 128 ^ k := Nat.mul_le_mul_right _ h2
  have h4 : 128 ^ (k + 1) = 128 * 128 ^ k := Nat.pow_succ'
  omega
theorem acc_eq (k m x : Nat) (hk : k ≤ 9) (hx : x < 256) (h9 : k = 9 → x ≤ 1) (hm : m < 128 ^ k) :
    bits BinOp.or IntKind.u64 (m : Int) (IntKind.u64.wrap (IntKind.u64.wrap (bits BinOp.and IntKind.u8 (x : Int) 127) * 2 ^ (7 * k))) = ((m + x % 128 * 128 ^ k : Nat) : Int) := by
  have e1 : bits BinOp.and IntKind.u8 (x : Int) 127 = ((x % 128 : Nat) : Int) := by
    rw [show (127 : Int) = ((127 : Nat) : Int) from rfl, u8_and_nat _ _ hx (by decide), Nat.and_two_pow_sub_one_eq_mod x 7]
  have hd := digit_lt k x hk h9
  have hm64 : m < 18446744073709551616 := by
    have h1 : 128 ^ k ≤ 128 ^ 9 := Nat.pow_le_pow_right (by decide) hk
    have h4 : 128 ^ 9 < 18446744073709551616 := by decide
    omega
  rw [e1, IntWalk.u64_in ((x % 128 : Nat) : Int) (by omega)]
  have e2 : ((x % 128 : Nat) : Int) * 2 ^ (7 * k) = ((x % 128 * 128 ^ k : Nat) : Int) := by
    rw [← pow128]; simp
  rw [e2, IntWalk.u64_in ((x % 128 * 128 ^ k : Nat) : Int) (by omega), u64_or_nat _ _ hm64 hd]
  congr 1
  have := Nat.two_pow_add_eq_or_of_lt (i := 7 * k) (b := m) (by rw [pow128]; exact hm) (x % 128)
  rw [pow128] at this
  rw [Nat.or_comm, Nat.mul_comm, ← this, Nat.add_comm]
theorem acc_zero (k m : Nat) (hk : k ≤ 9) (hm : m < 128 ^ k) :
    bits BinOp.or IntKind.u64 (m : Int) (IntKind.u64.wrap (IntKind.u64.wrap (bits BinOp.and IntKind.u8 0 127) * 2 ^ (7 * k))) = ((m + 0 % 128 * 128 ^ k : Nat) : Int) :=
  acc_eq k m 0 hk (by omega) (by omega) hm
end Go.Proofs.Ytlmhlinjlneagaa
namespace Go.Proofs.Ytlmhlinjlneagaa
/-- the number that stands for an integer -/
def zig (n : Int) : Nat := if n < 0 then 2 * (-(n + 1)).toNat + 1 else 2 * n.toNat
theorem zig_lt (n : Int) (h0 : -9223372036854775808 ≤ n) (h1 : n ≤ 9223372036854775807) : zig n < 18446744073709551616 := by
  unfold zig; split <;> omega
theorem xor_ones (x : Int) (h0 : -9223372036854775808 ≤ x) (h1 : x ≤ 9223372036854775807) : bits .xor .i64 x (-1) = -1 - x := by
  have e : BitVec.ofInt 64 x ^^^ BitVec.ofInt 64 (-1) = ~~~ (BitVec.ofInt 64 x) := by
    have : BitVec.ofInt 64 (-1) = BitVec.allOnes 64 := by decide
    rw [this, BitVec.xor_allOnes]
  have e2 : (BitVec.ofInt 64 x).toNat = (x % 18446744073709551616).toNat := by simp [BitVec.toNat_ofInt]
  show IntKind.i64.wrap ((BitVec.ofInt 64 x ^^^ BitVec.ofInt 64 (-1)).toNat : Int) = _
  rw [e, BitVec.toNat_not, e2, IntKind.wrap_i64]
  omega
theorem xor_zero (x : Int) (h0 : -9223372036854775808 ≤ x) (h1 : x ≤ 9223372036854775807) : bits .xor .i64 x 0 = x := by
  have e : BitVec.ofInt 64 x ^^^ BitVec.ofInt 64 0 = BitVec.ofInt 64 x := by
    have : BitVec.ofInt 64 0 = 0#64 := by decide
    rw [this, BitVec.xor_zero]
  have e2 : (BitVec.ofInt 64 x).toNat = (x % 18446744073709551616).toNat := by simp [BitVec.toNat_ofInt]
  show IntKind.i64.wrap ((BitVec.ofInt 64 x ^^^ BitVec.ofInt 64 0).toNat : Int) = _
  rw [e, e2, IntKind.wrap_i64]
  omega
theorem zig_bits (n : Int) (h0 : -9223372036854775808 ≤ n) (h1 : n ≤ 9223372036854775807) :
    IntKind.u64.wrap (bits BinOp.xor IntKind.i64 (RowKit.wrap64 (n * 2)) (n / 9223372036854775808)) = (zig n : Int) := by
  unfold RowKit.wrap64
  by_cases h : n < 0
  · have e : n / 9223372036854775808 = -1 := by omega
    rw [e, xor_ones _ (by omega) (by omega), IntKind.wrap_u64, zig, if_pos h]
    omega
  · have e : n / 9223372036854775808 = 0 := by omega
    rw [e, xor_zero _ (by omega) (by omega), IntKind.wrap_u64, zig, if_neg h]
    omega
end Go.Proofs.Ytlmhlinjlneagaa
