import Derived.Laws.BytesArg
import Derived.Laws.BitsAllLaws
import Derived.IntWalk
import Derived.RowKit
import Derived.Laws.Strings
import Derived.Test.YtabbkgbgldgfeaaRows
import Derived.WalkKit
import Derived.ProofKit
import Derived.OpenShut
import Derived.ShutString
import Derived.WalkLawsBesides
import Derived.WalkSpells
import Derived.Outline
import Derived.LoopTactic
import Derived.Lib.Hide
import Derived.Deep.RegionWith
import Derived.BigQuiet
import Derived.Deep.QuietTactic
import Derived.RegionTactic
import Derived.BigRegion
import Derived.Test.YtabbkgbgldgfeaaSlices
import Derived.ChangeAlike
/-! Plain mathematics of the encodings of numbers. -/
namespace Go.Proofs.Ytabbkgbgldgfeaa
/-- the encoding -/
def enc : Nat → Nat → List UInt8
  | 0, n => [UInt8.ofNat n]
  | k + 1, n => if n < 128 then [UInt8.ofNat n] else UInt8.ofNat (n % 128 + 128) :: enc k (n / 128)
def encK : Nat → Nat → List UInt8
  | 0, n => [UInt8.ofNat n]
  | k + 1, n => UInt8.ofNat (n % 128 + 128) :: encK k (n / 128)
def encN (n k j : Nat) : Nat := if j < k then n / 128 ^ j % 128 + 128 else n / 128 ^ k
def encI (n k : Nat) : List Int := (List.range (k + 1)).map fun j => (encN n k j : Int)
theorem encI_len (n k : Nat) : (encI n k).length = k + 1 := by simp [encI]
theorem encK_range (k : Nat) : ∀ n, encK k n = (List.range (k + 1)).map fun j => UInt8.ofNat (encN n k j) := by
  induction k with
  | zero => intro n; simp [encK, encN, List.range_succ]
  | succ k ih =>
    intro n
    rw [encK, ih, List.range_succ_eq_map (n := k + 1), List.map_cons, List.map_map]
    congr 1
    · simp [encN]
    · apply List.map_congr_left
      intro j _
      have e1 : n / 128 / 128 ^ j = n / 128 ^ (j + 1) := by rw [Nat.div_div_eq_div_mul, ← Nat.pow_succ']
      have e2 : n / 128 / 128 ^ k = n / 128 ^ (k + 1) := by rw [Nat.div_div_eq_div_mul, ← Nat.pow_succ']
      simp [encN, e1, e2]
theorem enc_eq (k : Nat) : ∀ f n, k ≤ f → (k = 0 ∨ 128 ≤ n / 128 ^ (k - 1)) → n / 128 ^ k < 128 → enc f n = encK k n := by
  induction k with
  | zero =>
    intro f n _ _ h
    simp at h
    cases f <;> simp [enc, encK, h]
  | succ k ih =>
    intro f n hf h1 h2
    obtain ⟨f, rfl⟩ : ∃ g, f = g + 1 := ⟨f - 1, by omega⟩
    have h1' : 128 ≤ n / 128 ^ k := h1.resolve_left (by omega)
    have hn : 128 ≤ n := Nat.le_trans h1' (Nat.div_le_self _ _)
    have e2 : n / 128 / 128 ^ k = n / 128 ^ (k + 1) := by rw [Nat.div_div_eq_div_mul, ← Nat.pow_succ']
    rw [enc, if_neg (by omega), encK, ih f (n / 128) (by omega) _ (by omega)]
    by_cases hk : k = 0
    · exact .inl hk
    · right
      rw [Nat.div_div_eq_div_mul, ← Nat.pow_succ', (by omega : (k - 1).succ = k)]
      exact h1'
theorem enc_str (n k : Nat) (hk : k ≤ 9) (h1 : k = 0 ∨ 128 ≤ n / 128 ^ (k - 1)) (h2 : n / 128 ^ k < 128) : strOfNums (encI n k) = ⟨(enc 9 n).toArray⟩ := by
  rw [enc_eq k 9 n hk h1 h2, encK_range]
  simp [strOfNums, encI, List.map_map]
/-- the tenth digit is the last one -/
theorem last_digit (n k m : Nat) (h : n < 18446744073709551616) (hk : k ≤ 9) (hm : m = n / 128 ^ k) (h3 : 128 ≤ m) : k ≤ 8 := by
  rcases Nat.lt_or_ge 8 k with h8 | h8
  · obtain rfl : k = 9 := by omega
    rw [hm] at h3
    have : n / 128 ^ 9 < 128 := by rw [Nat.div_lt_iff_lt_mul (by decide)]; omega
    omega
  · exact h8
end Go.Proofs.Ytabbkgbgldgfeaa
/-! Plain mathematics of reading numbers. -/
namespace Go.Proofs.Ytabbkgbgldgfeaa
/-- the number that the bytes begin with, and how many bytes it takes -/
def dec : List UInt8 → Nat → Nat → Option (Nat × Nat)
  | [], _, _ => none
  | b :: l, i, acc =>
    if 10 ≤ i then none else if i = 9 ∧ 1 < b.toNat then none else
    if 128 ≤ b.toNat then dec l (i + 1) (acc + b.toNat % 128 * 128 ^ i) else
    if b.toNat = 0 ∧ 0 < i then none else some (acc + b.toNat % 128 * 128 ^ i, i + 1)
theorem dec_at (s : ByteArray) (k m : Nat) (h : k < s.size) : dec (s.data.toList.drop k) k m =
    if 10 ≤ k then none else if k = 9 ∧ 1 < s[k].toNat then none else
    if 128 ≤ s[k].toNat then dec (s.data.toList.drop (k + 1)) (k + 1) (m + s[k].toNat % 128 * 128 ^ k) else
    if s[k].toNat = 0 ∧ 0 < k then none else some (m + s[k].toNat % 128 * 128 ^ k, k + 1) := by
  rw [List.drop_eq_getElem_cons (by simpa using h), dec]
  rfl
theorem pow128 (k : Nat) : 2 ^ (7 * k) = 128 ^ k := by rw [Nat.pow_mul]
theorem digit_lt (k x : Nat) (hk : k ≤ 9) (h9 : k = 9 → x ≤ 1) : x % 128 * 128 ^ k < 18446744073709551616 := by
  rcases Nat.lt_or_ge k 9 with h | h
  · have h1 : 128 ^ k ≤ 128 ^ 8 := Nat.pow_le_pow_right (by decide) (by omega)
    have h2 : x % 128 < 128 := Nat.mod_lt _ (by decide)
    have h3 : x % 128 * 128 ^ k ≤ 127 * 128 ^ 8 := Nat.mul_le_mul (by omega) h1
    have h4 : 127 * 128 ^ 8 < 18446744073709551616 := by decide
    omega
  · obtain rfl : k = 9 := by omega
    have := h9 rfl
    have h2 : x % 128 ≤ 1 := Nat.le_trans (Nat.mod_le _ _) this
    have h4 : 128 ^ 9 < 18446744073709551616 := by decide
    have h3 : x % 128 * 128 ^ 9 ≤ 1 * 128 ^ 9 := Nat.mul_le_mul_right _ h2
    omega
theorem digit_acc (k m x : Nat) (hm : m < 128 ^ k) : m + x % 128 * 128 ^ k < 128 ^ (k + 1) := by
  have h2 : x % 128 ≤ 127 := by omega
  have h3 : x % 128 * 128 ^ k ≤ 127 * 128 ^ k := Nat.mul_le_mul_right _ h2
  have h4 : 128 ^ (k + 1) = 128 * 128 ^ k := Nat.pow_succ'
  omega
theorem acc_eq (k m x : Nat) (hk : k ≤ 9) (hx : x < 256) (h9 : k = 9 → x ≤ 1) (hm : m < 128 ^ k) :
    bits BinOp.or IntKind.u64 (m : Int) (IntKind.u64.wrap (IntKind.u64.wrap (bits BinOp.and IntKind.u8 (x : Int) 127) * 2 ^ (7 * k))) = ((m + x % 128 * 128 ^ k : Nat) : Int) := by
  have e1 : bits BinOp.and IntKind.u8 (x : Int) 127 = ((x % 128 : Nat) : Int) := by
    rw [show (127 : Int) = ((127 : Nat) : Int) from rfl, u8_and_nat _ _ hx (by decide), Nat.and_two_pow_sub_one_eq_mod x 7]
  have hd := digit_lt k x hk h9
  have hm64 : m < 18446744073709551616 := by
    have h1 : 128 ^ k ≤ 128 ^ 9 := Nat.pow_le_pow_right (by decide) hk
    have h4 : 128 ^ 9 < 18446744073709551616 := by decide
    omega
  rw [e1, IntWalk.u64_in ((x % 128 : Nat) : Int) (by omega)]
  have e2 : ((x % 128 : Nat) : Int) * 2 ^ (7 * k) = ((x % 128 * 128 ^ k : Nat) : Int) := by
    rw [← pow128]; simp
  rw [e2, IntWalk.u64_in ((x % 128 * 128 ^ k : Nat) : Int) (by omega), u64_or_nat _ _ hm64 hd]
  congr 1
  have := Nat.two_pow_add_eq_or_of_lt (i := 7 * k) (b := m) (by rw [pow128]; exact hm) (x % 128)
  rw [pow128] at this
  rw [Nat.or_comm, Nat.mul_comm, ← this, Nat.add_comm]
theorem acc_zero (k m : Nat) (hk : k ≤ 9) (hm : m < 128 ^ k) :
    bits BinOp.or IntKind.u64 (m : Int) (IntKind.u64.wrap (IntKind.u64.wrap (bits BinOp.and IntKind.u8 0 127) * 2 ^ (7 * k))) = ((m + 0 % 128 * 128 ^ k : Nat) : Int) :=
  acc_eq k m 0 hk (by omega) (by omega) hm
end Go.Proofs.Ytabbkgbgldgfeaa
namespace Go.Proofs.Ytabbkgbgldgfeaa
/-- the number that stands for an integer -/
def zig (n : Int) : Nat := if n < 0 then 2 * (-(n + 1)).toNat + 1 else 2 * n.toNat
theorem zig_lt (n : Int) (h0 : -9223372036854775808 ≤ n) (h1 : n ≤ 9223372036854775807) : zig n < 18446744073709551616 := by
  unfold zig; split <;> omega
theorem xor_ones (x : Int) (h0 : -9223372036854775808 ≤ x) (h1 : x ≤ 9223372036854775807) : bits .xor .i64 x (-1) = -1 - x := by
  have e : BitVec.ofInt 64 x ^^^ BitVec.ofInt 64 (-1) = ~~~ (BitVec.ofInt 64 x) := by
    have : BitVec.ofInt 64 (-1) = BitVec.allOnes 64 := by decide
    rw [this, BitVec.xor_allOnes]
  have e2 : (BitVec.ofInt 64 x).toNat = (x % 18446744073709551616).toNat := by simp [BitVec.toNat_ofInt]
  show IntKind.i64.wrap ((BitVec.ofInt 64 x ^^^ BitVec.ofInt 64 (-1)).toNat : Int) = _
  rw [e, BitVec.toNat_not, e2, IntKind.wrap_i64]
  omega
theorem xor_zero (x : Int) (h0 : -9223372036854775808 ≤ x) (h1 : x ≤ 9223372036854775807) : bits .xor .i64 x 0 = x := by
  have e : BitVec.ofInt 64 x ^^^ BitVec.ofInt 64 0 = BitVec.ofInt 64 x := by
    have : BitVec.ofInt 64 0 = 0#64 := by decide
    rw [this, BitVec.xor_zero]
  have e2 : (BitVec.ofInt 64 x).toNat = (x % 18446744073709551616).toNat := by simp [BitVec.toNat_ofInt]
  show IntKind.i64.wrap ((BitVec.ofInt 64 x ^^^ BitVec.ofInt 64 0).toNat : Int) = _
  rw [e, e2, IntKind.wrap_i64]
  omega
theorem zig_bits (n : Int) (h0 : -9223372036854775808 ≤ n) (h1 : n ≤ 9223372036854775807) :
    IntKind.u64.wrap (bits BinOp.xor IntKind.i64 (RowKit.wrap64 (n * 2)) (n / 9223372036854775808)) = (zig n : Int) := by
  unfold RowKit.wrap64
  by_cases h : n < 0
  · have e : n / 9223372036854775808 = -1 := by omega
    rw [e, xor_ones _ (by omega) (by omega), IntKind.wrap_u64, zig, if_pos h]
    omega
  · have e : n / 9223372036854775808 = 0 := by omega
    rw [e, xor_zero _ (by omega) (by omega), IntKind.wrap_u64, zig, if_neg h]
    omega
end Go.Proofs.Ytabbkgbgldgfeaa
/-! Plain mathematics: no encoding is the beginning of another one. -/
namespace Go.Proofs.Ytabbkgbgldgfeaa
theorem ofNat_inj (a b : Nat) (ha : a < 256) (hb : b < 256) (h : UInt8.ofNat a = UInt8.ofNat b) : a = b := by
  have := congrArg UInt8.toNat h
  simp at this
  omega
theorem enc_pos (f n : Nat) : 1 ≤ (enc f n).length := by
  cases f with
  | zero => simp [enc]
  | succ k => rw [enc]; split <;> simp
theorem enc_prefix (f : Nat) : ∀ a b, a < 128 ^ (f + 1) → b < 128 ^ (f + 1) → enc f a <+: enc f b → a = b := by
  induction f with
  | zero =>
    intro a b ha hb h
    simp [enc] at h
    exact ofNat_inj a b (by omega) (by omega) h
  | succ k ih =>
    intro a b ha hb h
    rw [enc, enc] at h
    have ha' : a / 128 < 128 ^ (k + 1) := by rw [Nat.div_lt_iff_lt_mul (by decide)]; rw [Nat.pow_succ] at ha; exact ha
    have hb' : b / 128 < 128 ^ (k + 1) := by rw [Nat.div_lt_iff_lt_mul (by decide)]; rw [Nat.pow_succ] at hb; exact hb
    by_cases h1 : a < 128 <;> by_cases h2 : b < 128
    · rw [if_pos h1, if_pos h2] at h
      simp at h
      exact ofNat_inj a b (by omega) (by omega) h
    · rw [if_pos h1, if_neg h2] at h
      rw [List.cons_prefix_cons] at h
      exact absurd (ofNat_inj a (b % 128 + 128) (by omega) (by omega) h.1) (by omega)
    · rw [if_neg h1, if_pos h2] at h
      rw [List.cons_prefix_cons] at h
      exact absurd (ofNat_inj (a % 128 + 128) b (by omega) (by omega) h.1) (by omega)
    · rw [if_neg h1, if_neg h2] at h
      rw [List.cons_prefix_cons] at h
      have e1 := ofNat_inj _ _ (by omega) (by omega) h.1
      have e2 := ih _ _ ha' hb' h.2
      omega
theorem enc_mono (f : Nat) : ∀ a b, a ≤ b → (enc f a).length ≤ (enc f b).length := by
  induction f with
  | zero => intro a b _; simp [enc]
  | succ k ih =>
    intro a b h
    rw [enc, enc]
    by_cases h1 : a < 128 <;> by_cases h2 : b < 128
    · rw [if_pos h1, if_pos h2]; simp
    · rw [if_pos h1, if_neg h2]; simp
    · omega
    · rw [if_neg h1, if_neg h2]
      have := ih (a / 128) (b / 128) (by omega)
      simp
      exact this
theorem extract_list (Y : ByteArray) (n : Nat) : (Y.extract 0 n).data.toList = Y.data.toList.take n := by
  rw [ByteArray.data_extract]; simp
theorem enc_cmp (a b : Nat) (ha : a < 18446744073709551616) (hb : b < 18446744073709551616) (hne : a ≠ b) (X Y : ByteArray) (hX : X = ⟨(enc 9 a).toArray⟩) (hY : Y = ⟨(enc 9 b).toArray⟩) :
    (X.toList == (Y.extract 0 X.size).toList) = false := by
  rw [beq_eq_false_iff_ne, ByteArray.toList_eq, ByteArray.toList_eq, extract_list]
  intro h
  apply hne
  apply enc_prefix 9 a b (by omega) (by omega)
  subst hX hY
  simp only [] at h
  rw [h]
  exact List.take_prefix _ _
end Go.Proofs.Ytabbkgbgldgfeaa
/-! Plain mathematics: what was encoded is read again. -/
namespace Go.Proofs.Ytabbkgbgldgfeaa
theorem dec_one (n i acc : Nat) (r : List UInt8) (hi : i ≤ 9) (h : n * 128 ^ i < 18446744073709551616) (h1 : n < 128) (hp : 0 < i → 0 < n) :
    dec (UInt8.ofNat n :: r) i acc = some (acc + n * 128 ^ i, i + 1) := by
  have e : (UInt8.ofNat n).toNat = n := by simp; omega
  rw [dec, e, if_neg (by omega), if_neg, if_neg (by omega), if_neg (by omega), Nat.mod_eq_of_lt h1]
  rintro ⟨rfl, h2⟩
  have : 2 * 128 ^ 9 ≤ n * 128 ^ 9 := Nat.mul_le_mul_right _ h2
  have h4 : 2 * 128 ^ 9 = 18446744073709551616 := by decide
  omega
theorem dec_enc (f : Nat) : ∀ n i acc r, i + f ≤ 9 → n * 128 ^ i < 18446744073709551616 → n < 128 ^ (f + 1) → (0 < i → 0 < n) →
    dec (enc f n ++ r) i acc = some (acc + n * 128 ^ i, i + (enc f n).length) := by
  induction f with
  | zero =>
    intro n i acc r hi h h1 hp
    simp only [enc, List.cons_append, List.nil_append, List.length_cons, List.length_nil]
    exact dec_one n i acc r (by omega) h (by omega) hp
  | succ k ih =>
    intro n i acc r hi h h1 hp
    rw [enc]
    by_cases hn : n < 128
    · rw [if_pos hn]
      exact dec_one n i acc r (by omega) h hn hp
    · rw [if_neg hn, List.cons_append, dec]
      have e : (UInt8.ofNat (n % 128 + 128)).toNat = n % 128 + 128 := by simp; omega
      have hq : n / 128 * 128 ^ (i + 1) + n % 128 * 128 ^ i = n * 128 ^ i := by
        have : n / 128 * 128 ^ (i + 1) = n / 128 * 128 * 128 ^ i := by rw [Nat.pow_succ', Nat.mul_assoc]
        rw [this, ← Nat.add_mul]
        congr 1
        omega
      rw [e, if_neg (by omega), if_neg (by omega), if_pos (by omega)]
      rw [ih (n / 128) (i + 1) _ r (by omega) (by omega) (by rw [Nat.div_lt_iff_lt_mul (by decide)]; rw [Nat.pow_succ] at h1; exact h1) (by omega)]
      have e2 : (n % 128 + 128) % 128 = n % 128 := by omega
      rw [e2, List.length_cons]
      congr 2 <;> omega
theorem dec_enc9 (n : Nat) (h : n < 18446744073709551616) (r : List UInt8) : dec (enc 9 n ++ r) 0 0 = some (n, (enc 9 n).length) := by
  have := dec_enc 9 n 0 0 r (by omega) (by omega) (by omega) (by omega)
  simpa using this
end Go.Proofs.Ytabbkgbgldgfeaa
/-! Plain mathematics: numbers for integers, and back. -/
namespace Go.Proofs.Ytabbkgbgldgfeaa
/-- the integer that a number stands for -/
def zag (n : Nat) : Int := if n % 2 = 0 then ((n / 2 : Nat) : Int) else -((n / 2 : Nat) : Int) - 1
theorem zag_bits (n : Nat) (h : n < 18446744073709551616) :
    bits BinOp.xor IntKind.i64 ((n : Int) / 2) (RowKit.wrap64 (-RowKit.wrap64 (bits BinOp.and IntKind.u64 (n : Int) 1))) = zag n := by
  have e : bits BinOp.and IntKind.u64 (n : Int) 1 = ((n % 2 : Nat) : Int) := by
    rw [show (1 : Int) = ((1 : Nat) : Int) from rfl, u64_and_nat _ _ h (by decide), Nat.and_one_is_mod]
  rw [e]
  unfold zag
  rcases Nat.mod_two_eq_zero_or_one n with h2 | h2
  · rw [h2, if_pos rfl, show RowKit.wrap64 (-RowKit.wrap64 ((0 : Nat) : Int)) = 0 from by decide +kernel, xor_zero _ (by omega) (by omega)]
    omega
  · rw [h2, if_neg (by decide), show RowKit.wrap64 (-RowKit.wrap64 ((1 : Nat) : Int)) = -1 from by decide +kernel, xor_ones _ (by omega) (by omega)]
    omega
theorem zag_zero : bits BinOp.xor IntKind.i64 0 (RowKit.wrap64 (-RowKit.wrap64 (bits BinOp.and IntKind.u64 0 1))) = 0 := zag_bits 0 (by decide)
theorem zag_bounds (n : Nat) (h : n < 18446744073709551616) : -9223372036854775808 ≤ zag n ∧ zag n ≤ 9223372036854775807 := by
  unfold zag; split <;> omega
theorem zig_zag (n : Nat) : zig (zag n) = n := by
  unfold zag zig
  split <;> split <;> omega
theorem zag_zig (n : Int) : zag (zig n) = n := by
  unfold zag zig
  split <;> split <;> omega
end Go.Proofs.Ytabbkgbgldgfeaa
/-! Plain mathematics: what is read is the encoding of what was read. -/
namespace Go.Proofs.Ytabbkgbgldgfeaa
theorem ofNat_toNat (b : UInt8) (n : Nat) (h : n = b.toNat) : UInt8.ofNat n = b := by subst h; simp
theorem enc_small (f n : Nat) (h : n < 128) : enc f n = [UInt8.ofNat n] := by
  cases f with
  | zero => rfl
  | succ k => rw [enc, if_pos h]
theorem dec_strict (l : List UInt8) : ∀ i acc v c, dec l i acc = some (v, c) →
    ∃ m r, i ≤ 9 ∧ v = acc + m * 128 ^ i ∧ m < 2 * 128 ^ (9 - i) ∧ (0 < i → 0 < m) ∧ l = enc (9 - i) m ++ r ∧ c = i + (enc (9 - i) m).length := by
  induction l with
  | nil => intro i acc v c h; simp [dec] at h
  | cons b l ih =>
    intro i acc v c h
    have hb := b.toNat_lt
    rw [dec] at h
    by_cases h1 : 10 ≤ i
    · rw [if_pos h1] at h; cases h
    rw [if_neg h1] at h
    by_cases h2 : i = 9 ∧ 1 < b.toNat
    · rw [if_pos h2] at h; cases h
    rw [if_neg h2] at h
    by_cases h3 : 128 ≤ b.toNat
    · rw [if_pos h3] at h
      obtain ⟨m, r, g1, g2, g3, g4, g5, g6⟩ := ih _ _ _ _ h
      have hm := g4 (by omega)
      have e : 9 - i = (9 - (i + 1)) + 1 := by omega
      have ed : (b.toNat % 128 + 128 * m) / 128 = m := by omega
      have em : (b.toNat % 128 + 128 * m) % 128 = b.toNat % 128 := by omega
      have ee : enc (9 - i) (b.toNat % 128 + 128 * m) = b :: enc (9 - (i + 1)) m := by
        rw [e, enc, if_neg (by omega), ed, em, ofNat_toNat b _ (by omega)]
      refine ⟨b.toNat % 128 + 128 * m, r, by omega, ?_, ?_, by omega, ?_, ?_⟩
      · rw [g2, Nat.add_mul, Nat.pow_succ]
        have : 128 * m * 128 ^ i = m * (128 ^ i * 128) := by rw [Nat.mul_comm 128 m, Nat.mul_assoc, Nat.mul_comm 128]
        omega
      · rw [e, Nat.pow_succ]
        have : m + 1 ≤ 2 * 128 ^ (9 - (i + 1)) := g3
        have h5 : 128 * (m + 1) ≤ 128 * (2 * 128 ^ (9 - (i + 1))) := Nat.mul_le_mul_left _ this
        omega
      · rw [ee, g5]; rfl
      · rw [ee, g6, List.length_cons]; omega
    · rw [if_neg h3] at h
      by_cases h4 : b.toNat = 0 ∧ 0 < i
      · rw [if_pos h4] at h; cases h
      rw [if_neg h4] at h
      simp only [Option.some.injEq, Prod.mk.injEq] at h
      have ee : enc (9 - i) b.toNat = [b] := by rw [enc_small _ _ (by omega), ofNat_toNat b _ rfl]
      refine ⟨b.toNat, l, by omega, ?_, ?_, by omega, by rw [ee]; rfl, by rw [ee, List.length_singleton]; exact h.2.symm⟩
      · rw [← h.1, Nat.mod_eq_of_lt (by omega)]
      · rcases Nat.lt_or_ge i 9 with h9 | h9
        · have e : 9 - i = (8 - i) + 1 := by omega
          have : 1 ≤ 128 ^ (8 - i) := Nat.one_le_pow _ _ (by decide)
          rw [e, Nat.pow_succ]; omega
        · have e : i = 9 := by omega
          subst e
          simp; omega
theorem dec_strict0 (s : ByteArray) (n c : Nat) (h : dec s.data.toList 0 0 = some (n, c)) : n < 18446744073709551616 ∧ c = (enc 9 n).length ∧ ∃ r, s.data.toList = enc 9 n ++ r := by
  obtain ⟨m, r, _, g2, g3, _, g5, g6⟩ := dec_strict _ _ _ _ _ h
  obtain rfl : n = m := by simpa using g2
  refine ⟨by simpa using g3, by simpa using g6, r, by simpa using g5⟩
theorem extract_tail (s : ByteArray) (a : Nat) : (s.extract a s.size).data.toList = s.data.toList.drop a := by
  rw [ByteArray.data_extract, Array.toList_extract, List.extract_eq_take_drop]
  exact List.take_of_length_le (by rw [List.length_drop]; exact Nat.le_refl _)
end Go.Proofs.Ytabbkgbgldgfeaa
namespace Go.Proofs.Ytabbkgbgldgfeaa
open Go.Lib Go.ChangeShapes Go.WideShapes Go.ChangeAt Go.RowKit

def grp (n : Nat) (k : Nat) : Array Value := ((List.range 10).map fun j => Value.int .u8 (if j < k then (n / 128^j % 128 + 128 : Nat) else 0)).toArray
theorem grp_size (n k : Nat) : (grp n k).size = 10 := by simp [grp]
theorem or128 : ∀ b : Fin 256, bits BinOp.or IntKind.u8 ((b.val : Nat) : Int) 128 = ((b.val % 128 + 128 : Nat) : Int) := by decide +kernel
theorem grp_get (n k i : Nat) (hi : i < 10) : (grp n k)[i]? = some (.int .u8 (if i < k then (n / 128^i % 128 + 128 : Nat) else 0)) := by
  simp [grp, hi]
theorem grp_set (n k m : Nat) (_hk : k ≤ 9) (hm : m = n / 128 ^ k) : (grp n k).setIfInBounds k (.int .u8 (bits BinOp.or IntKind.u8 ((m : Int) % 256) 128)) = grp n (k + 1) := by
  have hb := or128 ⟨m % 256, by omega⟩
  have e : ((m : Int) % 256) = ((m % 256 : Nat) : Int) := by omega
  rw [e, hb]
  apply Array.ext_getElem?
  intro i
  by_cases hi : i < 10
  · rw [Array.getElem?_setIfInBounds, grp_get _ _ _ hi, grp_get _ _ _ hi]
    by_cases h : k = i
    · subst h; simp [grp_size, hi, ← hm]
    · simp only [h, if_false]
      by_cases h2 : i < k
      · simp [h2, Nat.lt_succ_of_lt h2]
      · have h3 : ¬ i < k + 1 := by omega
        rw [if_neg h2, if_neg h3]
  · rw [Array.getElem?_eq_none (by simp [grp_size]; omega), Array.getElem?_eq_none (by simp [grp_size]; omega)]

def grpL (n k : Nat) : Array Value := (grp n k).setIfInBounds k (.int .u8 (n / 128 ^ k : Nat))
theorem grp_last (n k m : Nat) (hm : m = n / 128 ^ k) : (grp n k).setIfInBounds k (.int .u8 m) = grpL n k := by
  unfold grpL; rw [← hm]
theorem conv_last (n k : Nat) (w : World) (hk : k ≤ 9) (h1 : k = 0 ∨ 128 ≤ n / 128 ^ (k - 1)) (h2 : n / 128 ^ k < 128) : (convert 78 9 (.slice (some ⟨w.heap.size, 0, none⟩) (k + 1) 10)).run Try.prog (w.alloc (.cells (grpL n k) 107)) = .ok (.string ⟨(enc 9 n).toArray⟩) (w.alloc (.cells (grpL n k) 107)) := by
  have h := run_convert_bytes_arg (P := Try.prog) (w := w.alloc (.cells (grpL n k) 107)) 78 5 Try.underlying78 Try.underlying5 w.heap.size 0 (k + 1) 10 (encI n k) (encI_len n k) (fun i hi => by
    rw [World.cell?_alloc_new, Nat.zero_add, grpL, Array.getElem?_setIfInBounds, grp_get _ _ _ (by omega), grp_size]
    by_cases h : k = i
    · subst h; rw [if_pos rfl, if_pos (by omega)]; simp [encI, encN]
    · rw [if_neg h, if_pos (by omega)]; simp [encI, encN, hi, (by omega : i < k)]) 9 Try.underlying9
  rw [h, enc_str n k hk h1 h2]
set_option maxRecDepth 100000 in
theorem slice_groups (k : Nat) (hk : k ≤ 9) (wx : World) (b : Nat) : (Instr.sliceAt 107 (.pointer (some ⟨b, 0, none⟩)) none (some (.int .i64 ((k : Int) + 1))) none).run Try.prog wx = .ok (.slice (some ⟨b, 0, none⟩) (k + 1) 10) wx := by
  have h := run_sliceAt_array_h (P := Try.prog) wx 107 ⟨b, 0, none⟩ Try.underlying107 .i64 ((k : Int) + 1) (by omega) (by show (k : Int) + 1 ≤ 10; omega)
  rw [h]
  have hs : (sizeOf (Try.prog.elem 107)).run Try.prog wx = .ok 1 wx := by kernel_rfl
  rw [hs]
  have e : ((k : Int) + 1).toNat = k + 1 := by omega
  simp [Result.andThen, slicedAt, e, Addr.add]
  show Try.prog.arrayLen 107 = 10
  kernel_rfl
set_option maxRecDepth 100000 in
set_option maxHeartbeats 400000 in
theorem encode_any (n : Nat) (h1 : Hid (n < 18446744073709551616)) (w : World) :
    Calls Try.prog 76 #[.int .u64 n] w fun e w' => e = .returned (.string ⟨(enc 9 n).toArray⟩) ∧ Below w.heap.size w w' := by
  go_enter Try.func76, Try.ntmps76
  go_wp2
  go_loopw [0, 4] (fun v i wr => ∃ k m : Nat, k ≤ 9 ∧ i = .int .i64 k ∧ v = .int .u64 m ∧ m = n / 128 ^ k ∧ (k = 0 ∨ 128 ≤ n / 128 ^ (k - 1)) ∧ wr = w.alloc (.cells (grp n k) 107)) (fun _ i _ => 10 - (intOf i).toNat)
  case atStart => exact ⟨0, n, by omega, rfl, rfl, by simp, .inl rfl, by rfl⟩
  case round =>
    obtain ⟨k, m, hk, rfl, rfl, hm, hp, rfl⟩ := hrel
    have hsz := grp_size n k
    have hset := grp_set n k m hk hm
    have HM := hid hm
    have HP := hid hp
    clear hm hp
    by_cases hlt : 128 ≤ m
    · have hk8 : k ≤ 8 := last_digit n k m h1.out hk HM.out hlt
      obtain ⟨v, hv⟩ : ∃ v, (grp n k)[k]? = some v := ⟨_, Array.getElem?_eq_getElem (by omega)⟩
      go_wp2
      go_roundw
      case rel => exact ⟨k + 1, m / 128, by omega, by go_num, by go_num, by rw [HM.out, Nat.pow_succ, Nat.div_div_eq_div_mul], .inr (by rw [Nat.add_sub_cancel, ← HM.out]; exact hlt), rfl⟩
      case measure => simp [intOf]; omega
    · have hset2 := grp_last n k m HM.out
      clear hset
      have hconv := conv_last n k w hk HP.out (by rw [← HM.out]; omega)
      have hsl := slice_groups k hk (w.alloc (.cells (grpL n k) 107)) w.heap.size
      obtain ⟨v, hv⟩ : ∃ v, (grp n k)[k]? = some v := ⟨_, Array.getElem?_eq_getElem (by omega)⟩
      go_wp2
      go_ret
      exact ⟨rfl, (Below.refl _ _).alloc (Nat.le_refl _) _⟩
end Go.Proofs.Ytabbkgbgldgfeaa
namespace Go.Proofs.Ytabbkgbgldgfeaa
open Go.Lib Go.ChangeShapes Go.WideShapes Go.ChangeAt Go.RowKit

theorem conv_one {b : Nat} (c : Nat) (w : World) (hc : w.cell? ⟨b, 0, none⟩ = some (.int .u8 c)) : (convert 78 9 (.slice (some ⟨b, 0, none⟩) 1 1)).run Try.prog w = .ok (.string ⟨#[UInt8.ofNat c]⟩) w := by
  have h := run_convert_bytes_arg (P := Try.prog) (w := w) 78 5 Try.underlying78 Try.underlying5 b 0 1 1 [(c : Int)] rfl (fun i hi => by
    obtain rfl : i = 0 := by omega
    simpa using hc) 9 Try.underlying9
  rw [h]; rfl

set_option maxRecDepth 100000 in
set_option maxHeartbeats 400000 in
theorem number_small (n : Nat) (hn : n < 128) (w : World) :
    Calls Try.prog 55 #[.int .u64 n] w fun e w' => e = .returned (.string ⟨#[UInt8.ofNat n]⟩) ∧ Below w.heap.size w w' := by
  have hc := conv_one (b := w.heap.size) n (w.alloc (.cells #[.int .u8 n] 5)) (by simp)
  go_enter Try.func55, Try.ntmps55
  go_wp2
  go_ret
  exact ⟨rfl, (Below.refl _ _).alloc (Nat.le_refl _) _⟩

theorem enc_len (k n : Nat) : (enc k n).length ≤ k + 1 := by
  induction k generalizing n with
  | zero => simp [enc]
  | succ k ih => rw [enc]; split <;> simp; have := ih (n / 128); omega
theorem _root_.Go.RowKit.Below.drew_left {B : Nat} {a w : World} (h : Below B a.drew w) : Below B a w := ⟨h.os, h.tape, h.output, h.size, h.block⟩
theorem conv_two {c : Nat} {w w' : World} (hg : Below (w.alloc (.cells #[.int .u8 c] 5)).drew.heap.size (w.alloc (.cells #[.int .u8 c] 5)).drew w') : (convert 78 9 (.slice (some ⟨w.heap.size, 0, none⟩) 1 1)).run Try.prog w' = .ok (.string ⟨#[UInt8.ofNat c]⟩) w' :=
  conv_one (b := w.heap.size) c w' ((hg.cell (p := ⟨w.heap.size, 0, none⟩) (by simp)).trans (by simp))
set_option maxRecDepth 100000 in
set_option maxHeartbeats 1000000 in
theorem number_step (k n : Nat) (hn : 128 ≤ n) (h64 : n < 18446744073709551616) (hk : k ≤ 9) (w : World) (H : Hid (∀ w, Calls Try.prog 55 #[.int .u64 (n / 128 : Nat)] w fun e w' => e = .returned (.string ⟨(enc k (n / 128)).toArray⟩) ∧ Below w.heap.size w w')) :
    Calls Try.prog 55 #[.int .u64 n] w fun e w' => e = .returned (.string ⟨(UInt8.ofNat (n % 128 + 128) :: enc k (n / 128)).toArray⟩) ∧ Below w.heap.size w w' := by
  obtain ⟨c, hc⟩ : ∃ c, c = n % 128 + 128 := ⟨_, rfl⟩
  obtain ⟨q, hq⟩ : ∃ q, q = n / 128 := ⟨_, rfl⟩
  have e1 : IntKind.u8.wrap (IntKind.u64.wrap ((n : Int).tmod 128 + 128)) = (c : Int) := by
    have e : ((n : Int).tmod 128 + 128) = (c : Int) := by rw [Int.tmod_eq_emod_of_nonneg (by omega)]; omega
    rw [e, IntWalk.u64_in _ (by omega), IntWalk.u8_in _ (by omega)]
  have e2 : IntKind.u64.wrap ((n : Int) / 128) = (q : Int) := by
    rw [IntWalk.u64_in _ (by omega)]; omega
  rw [← hc]
  rw [← hq] at H ⊢
  have hn' := hid hn
  clear hc hq hn h64
  have hb : decide ((n : Int) < 128) = false := by have := hn'.out; simp; omega
  go_enter Try.func55, Try.ntmps55
  go_wp2_with fail
  have hadd : ∀ w, (Op.stringOp .add ⟨#[UInt8.ofNat c]⟩ ⟨(enc k q).toArray⟩).run Try.prog w = .ok (.string ⟨(UInt8.ofNat c :: enc k q).toArray⟩) w := by
    intro w
    have h := run_string_add_lists (P := Try.prog) w [UInt8.ofNat c] (enc k q) (by simp) (by have := enc_len k q; omega)
    simpa using h
  have hc1 := conv_one (b := w.heap.size) c (w.alloc (.cells #[.int .u8 c] 5)).drew (by simp)
  go_region_with (go_at_call 55; refine (H.out _).mono ?_; rintro e w' ⟨rfl, hg⟩; (try have hc2 := conv_two hg); have hc3 := conv_one (b := w'.heap.size) c (w'.alloc (.cells #[.int .u8 c] 5)) (by simp))
  all_goals
    go_wp2
    go_ret
  · exact ⟨rfl, (((Below.refl _ w).alloc (Nat.le_refl _) _).drew).trans (hg.mono (by simp))⟩
  · exact ⟨rfl, (((Below.refl _ w).alloc (Nat.le_refl _) _).drew).trans (hg.mono (by simp))⟩
  · exact ⟨rfl, (hg.drew_left).alloc hg.size _⟩
theorem number_k (k : Nat) : ∀ (n : Nat) (w : World), k ≤ 9 → n < 128 ^ (k + 1) → n < 18446744073709551616 → Calls Try.prog 55 #[.int .u64 n] w fun e w' => e = .returned (.string ⟨(enc k n).toArray⟩) ∧ Below w.heap.size w w' := by
  induction k with
  | zero =>
    intro n w _ h _
    simpa [enc] using number_small n (by omega) w
  | succ k ih =>
    intro n w hk h h64
    rw [enc]
    split
    · exact number_small n ‹_› w
    · exact number_step k n (by omega) h64 (by omega) w (fun w => ih (n / 128) w (by omega) (by rw [Nat.div_lt_iff_lt_mul (by decide)]; rw [Nat.pow_succ] at h; exact h) (by omega))
theorem number_any (n : Nat) (h : n < 18446744073709551616) (w : World) : Calls Try.prog 55 #[.int .u64 n] w fun e w' => e = .returned (.string ⟨(enc 9 n).toArray⟩) ∧ Below w.heap.size w w' :=
  number_k 9 n w (by omega) (by omega) h
end Go.Proofs.Ytabbkgbgldgfeaa
namespace Go.Proofs.Ytabbkgbgldgfeaa
open Go.Lib Go.ChangeShapes Go.WideShapes Go.ChangeAt Go.RowKit

def NumPost (b : Nat) (s : ByteArray) (w : World) (e : Ending) (w' : World) : Prop :=
  match dec s.data.toList 0 0 with
  | none => e = .returned (.tuple #[.int .u64 0, .int .i64 11]) ∧ w' = w
  | some (n, c) => c ≤ s.size ∧ e = .returned (.tuple #[.int .u64 n, .int .i64 0]) ∧ w' = w.setCell ⟨b, 0, none⟩ (.string (s.extract c s.size))

set_option maxRecDepth 100000 in
set_option maxHeartbeats 1000000 in
theorem rnumber_any (b : Nat) (s : ByteArray) (hs : s.size ≤ 9223372036854775807) (w : World) (hc : w.cell? ⟨b, 0, none⟩ = some (.string s)) (hf : w.frozen? ⟨b, 0, none⟩ = false) :
    Calls Try.prog 92 #[.pointer (some ⟨b, 0, none⟩)] w (NumPost b s w) := by
  rcases Nat.lt_or_ge s.size 10 with hmin | hmin
  all_goals
    go_enter Try.func92, Try.ntmps92
    go_wp2
  all_goals
    go_loop [4, 13] (fun v i => ∃ k m : Nat, k ≤ s.size ∧ k ≤ 10 ∧ i = .int .i64 k ∧ v = .int .u64 m ∧ m < 128 ^ k ∧ dec s.data.toList 0 0 = dec (s.data.toList.drop k) k m) (fun _ i => 10 - (intOf i).toNat)
    case atStart => exact ⟨0, 0, by omega, by omega, rfl, rfl, by simp, rfl⟩
    case round =>
      obtain ⟨k, m, hk, hk10, rfl, rfl, hmb, hm⟩ := hrel
      have HM := hid hm
      have HB := hid hmb
      clear hm hmb
      by_cases hlt : k < s.size ∧ k < 10
      · obtain ⟨hlt, hk9⟩ := hlt
        have HA := hid (fun (h9 : k = 9 → s[k].toNat ≤ 1) => acc_eq k m s[k].toNat (by omega) s[k].toNat_lt h9 HB.out)
        have HZ := hid (acc_zero k m (by omega) HB.out)
        have HD := hid (dec_at s k m hlt)
        by_cases h9 : k = 9
        · have HK := hid h9
          have hkb : ((k : Int) == 9) = true := by simp [h9]
          clear h9
          by_cases h1 : s[k].toNat ≤ 1
          · have h1' : ¬ 1 < (s[k].toNat : Int) := by omega
            go_wp2
            · go_ret2
              have h : s[k].toNat = 0 := by assumption
              have h9 := HK.out
              unfold NumPost; rw [HM.out, HD.out, if_neg (by omega), if_neg (by omega), if_neg (by omega), if_pos (by omega)]
              exact ⟨rfl, rfl⟩
            · exact absurd HK.out (by omega)
            · go_ret2
              have h' : ¬ s[k].toNat = 0 := by assumption
              have h9 := HK.out
              unfold NumPost; rw [HM.out, HD.out, if_neg (by omega), if_neg (by omega), if_neg (by omega), if_neg (by omega)]
              refine ⟨by omega, by rw [HA.out (by omega)]; rfl, rfl⟩
          · have h1' : 1 < (s[k].toNat : Int) := by omega
            go_wp2
            go_ret2
            have h9 := HK.out
            unfold NumPost; rw [HM.out, HD.out, if_neg (by omega), if_pos (by omega)]
            exact ⟨rfl, rfl⟩
        · have h9' : ¬ (k : Int) = 9 := by omega
          go_wp2
          · go_round
            case rel =>
              have h : 128 ≤ (s[k].toNat : Int) := by assumption
              exact ⟨k + 1, m + s[k].toNat % 128 * 128 ^ k, by omega, by omega, by go_num, by rw [HA.out (by omega)], digit_acc _ _ _ HB.out, by rw [HM.out, HD.out, if_neg (by omega), if_neg (by omega), if_pos (by omega)]⟩
            case measure => simp [intOf]; omega
          · go_ret2
            have h : s[k].toNat = 0 := by assumption
            unfold NumPost; rw [HM.out, HD.out, if_neg (by omega), if_neg (by omega), if_neg (by omega), if_pos (by omega)]
            exact ⟨rfl, rfl⟩
          · go_ret2
            have h : s[k].toNat = 0 := by assumption
            unfold NumPost; rw [HM.out, HD.out, if_neg (by omega), if_neg (by omega), if_neg (by omega), if_neg (by omega), h]
            refine ⟨by omega, by rw [HZ.out]; rfl, rfl⟩
          · go_ret2
            have h : (s[k].toNat : Int) < 128 := by assumption
            have h' : ¬ s[k].toNat = 0 := by assumption
            unfold NumPost; rw [HM.out, HD.out, if_neg (by omega), if_neg (by omega), if_neg (by omega), if_neg (by omega)]
            refine ⟨by omega, by rw [HA.out (by omega)]; rfl, rfl⟩
      · go_wp2
        go_ret2
        unfold NumPost; rw [HM.out]
        rcases Nat.lt_or_ge k s.size with h | h
        · rw [dec_at s k m h, if_pos (by omega)]; exact ⟨rfl, rfl⟩
        · rw [List.drop_eq_nil_of_le (by simpa using h)]; exact ⟨rfl, rfl⟩
end Go.Proofs.Ytabbkgbgldgfeaa
namespace Go.Proofs.Ytabbkgbgldgfeaa
open Go.Lib Go.ChangeShapes Go.WideShapes Go.ChangeAt Go.RowKit

theorem str_add (a : ByteArray) (l : List UInt8) (ha : a.size ≤ 1000000) (hl : l.length ≤ 1000000) (w : World) : (Op.stringOp .add a ⟨l.toArray⟩).run Try.prog w = .ok (.string (a ++ ⟨l.toArray⟩)) w :=
  by
  have e : (ByteArray.mk l.toArray).size = l.length := by simp [ByteArray.size]
  exact run_string_add_sum w _ _ (by rw [e]; omega)

set_option maxRecDepth 100000 in
theorem appendNumber_any (s : ByteArray) (hs : s.size ≤ 1000000) (n : Nat) (h1 : Hid (n < 18446744073709551616)) (w : World) :
    Calls Try.prog 52 #[.string s, .int .u64 n] w fun e w' => e = .returned (.string (s ++ ⟨(enc 9 n).toArray⟩)) ∧ Below w.heap.size w w' := by
  have hadd := str_add s (enc 9 n) hs (by have := enc_len 9 n; omega)
  go_enter Try.func52, Try.ntmps52
  go_wp2_with (go_at_call 76; refine (encode_any n h1 _).mono ?_; rintro e w' ⟨rfl, hb⟩)
  go_ret
  exact ⟨rfl, hb⟩

theorem newReader_any (s : ByteArray) (w : World) : Calls Try.prog 61 #[.string s] w fun e w' => e = .returned (.pointer (some ⟨w.heap.size, 0, none⟩)) ∧ w' = w.alloc (.cells #[.string s, .int .i64 0] 83) := by
  go_enter Try.func61, Try.ntmps61
  go_wp2
  go_ret
  exact ⟨rfl, rfl⟩

def Rd (w : World) (b : Nat) (s : ByteArray) (e : Nat) : Prop := w.heap[b]? = some (.cells #[.string s, .int .i64 e] 83 (0, 0))

theorem Rd.left {w : World} {b : Nat} {s : ByteArray} {e : Nat} (h : Rd w b s e) : w.cell? ⟨b, 0, none⟩ = some (.string s) := by
  unfold Rd at h; simp [World.cell?, h]
theorem Rd.err {w : World} {b : Nat} {s : ByteArray} {e : Nat} (h : Rd w b s e) : w.cell? ⟨b, 1, none⟩ = some (.int .i64 e) := by
  unfold Rd at h; simp [World.cell?, h]
theorem Rd.frozen {w : World} {b : Nat} {s : ByteArray} {e : Nat} (h : Rd w b s e) (i : Nat) : w.frozen? ⟨b, i, none⟩ = false := by
  unfold Rd at h; simp [World.frozen?, h]
theorem Rd.set0 {w : World} {b : Nat} {s : ByteArray} {e : Nat} (h : Rd w b s e) (t : ByteArray) : Rd (w.setCell ⟨b, 0, none⟩ (.string t)) b t e := by
  unfold Rd at h ⊢; simp [World.setCell, Array.getElem?_modify, h]
theorem Rd.set1 {w : World} {b : Nat} {s : ByteArray} {e : Nat} (h : Rd w b s e) (f : Nat) : Rd (w.setCell ⟨b, 1, none⟩ (.int .i64 f)) b s f := by
  unfold Rd at h ⊢; simp [World.setCell, Array.getElem?_modify, h]

/-- only block b has turned, and new blocks have come -/
structure Upd (b : Nat) (w w' : World) : Prop where
  os : w'.os = w.os
  tape : w'.tape = w.tape
  output : w'.output = w.output
  size : w.heap.size ≤ w'.heap.size
  block : ∀ k, k < w.heap.size → k ≠ b → w'.heap[k]? = w.heap[k]?
theorem Upd.refl (b : Nat) (w : World) : Upd b w w := ⟨rfl, rfl, rfl, Nat.le_refl _, fun _ _ _ => rfl⟩
theorem Upd.trans {b : Nat} {u v w : World} (h : Upd b u v) (k : Upd b v w) : Upd b u w :=
  ⟨k.os.trans h.os, k.tape.trans h.tape, k.output.trans h.output, Nat.le_trans h.size k.size, fun i hi hb => (k.block i (Nat.lt_of_lt_of_le hi h.size) hb).trans (h.block i hi hb)⟩
theorem Upd.set {b : Nat} (w : World) (o : Nat) (v : Value) : Upd b w (w.setCell ⟨b, o, none⟩ v) :=
  ⟨rfl, rfl, rfl, by simp [World.setCell], fun k _ hb => Below.heap_setCell w _ _ _ hb⟩
theorem Upd.alloc {b : Nat} (w : World) (o : Obj) : Upd b w (w.alloc o) :=
  ⟨rfl, rfl, rfl, by simp, fun k hk _ => Below.heap_alloc w o k hk⟩
theorem Upd.below {b B : Nat} {w w' : World} (h : Upd b w w') (hb : B ≤ b) (hB : B ≤ w.heap.size) : Below B w w' :=
  ⟨h.os, h.tape, h.output, h.size, fun k hk => h.block k (by omega) (by omega)⟩

/-- what reading a number does to a reader -/
def NumRead (b : Nat) (s : ByteArray) (w : World) (e : Ending) (w' : World) : Prop :=
  match dec s.data.toList 0 0 with
  | none => e = .returned (.int .u64 0) ∧ Rd w' b ByteArray.empty 11 ∧ Upd b w w'
  | some (n, c) => c ≤ s.size ∧ e = .returned (.int .u64 n) ∧ Rd w' b (s.extract c s.size) 0 ∧ Upd b w w'

set_option maxRecDepth 100000 in
theorem read_stop (b : Nat) (s : ByteArray) (e : Nat) (he : e ≠ 0) (f : Value) (w : World) (h : Rd w b s e) :
    Calls Try.prog 79 #[.pointer (some ⟨b, 0, none⟩), f] w fun x w' => x = .returned (.int .u64 0) ∧ w = w' := by
  have h1 := h.err
  have he' : ((e : Int) == 0) = false := by simp [he]
  have he2 : ¬ (e : Int) = 0 := by omega
  go_enter Try.func79, Try.ntmps79
  go_wp2
  go_ret
  exact ⟨rfl, rfl⟩

set_option maxRecDepth 100000 in
theorem read_number (b : Nat) (s : ByteArray) (hs : s.size ≤ 9223372036854775807) (w : World) (h : Rd w b s 0) :
    Calls Try.prog 79 #[.pointer (some ⟨b, 0, none⟩), .func (.func 92) #[.pointer (some ⟨b, 0, none⟩)] #[]] w (NumRead b s w) := by
  have h0 := h.left
  have h1 := h.err
  have hf := h.frozen 0
  have HR := hid h
  have HN := hid (rnumber_any b s hs w h0 hf)
  clear h hs
  go_enter Try.func79, Try.ntmps79
  go_wp2_with fail
  refine HN.out.mono ?_
  intro x w' hx
  unfold NumPost at hx
  have HP : Hid (NumRead b s w = NumRead b s w) := rfl
  cases hd : dec s.data.toList 0 0 with
  | none =>
    rw [hd] at hx
    obtain ⟨rfl, rfl⟩ := hx
    have HD := hid hd
    clear hd
    have hf0 := HR.out.frozen 0
    have hf1 := HR.out.frozen 1
    go_wp2_with fail
    go_ret
    unfold NumRead
    rw [HD.out]
    exact ⟨rfl, (HR.out.set0 _).set1 11, (Upd.set _ _ _).trans (Upd.set _ _ _)⟩
  | some p =>
    obtain ⟨n, c⟩ := p
    rw [hd] at hx
    obtain ⟨hc, rfl, rfl⟩ := hx
    have HD := hid hd
    clear hd
    go_wp2_with fail
    go_ret
    unfold NumRead
    rw [HD.out]
    exact ⟨hc, rfl, HR.out.set0 _, Upd.set _ _ _⟩
end Go.Proofs.Ytabbkgbgldgfeaa
namespace Go.Proofs.Ytabbkgbgldgfeaa
open Go.Lib Go.ChangeShapes Go.WideShapes Go.ChangeAt Go.RowKit

theorem app_x0 (w : World) : Calls Try.prog 52 #[.string ⟨#[120]⟩, .int .u64 0] w fun e w' => e = .returned (.string ⟨#[120, 0]⟩) ∧ Below w.heap.size w w' :=
  (appendNumber_any ⟨#[120]⟩ (by decide) 0 (by show 0 < _; omega) w).mono fun e w' ⟨he, hb⟩ => ⟨he.trans (by kernel_rfl), hb⟩
theorem app_127 (w : World) : Calls Try.prog 52 #[.string ⟨#[]⟩, .int .u64 127] w fun e w' => e = .returned (.string ⟨#[127]⟩) ∧ Below w.heap.size w w' :=
  (appendNumber_any ⟨#[]⟩ (by decide) 127 (by show 127 < _; omega) w).mono fun e w' ⟨he, hb⟩ => ⟨he.trans (by kernel_rfl), hb⟩
theorem app_300 (w : World) : Calls Try.prog 52 #[.string ⟨#[]⟩, .int .u64 300] w fun e w' => e = .returned (.string ⟨#[172, 2]⟩) ∧ Below w.heap.size w w' :=
  (appendNumber_any ⟨#[]⟩ (by decide) 300 (by show 300 < _; omega) w).mono fun e w' ⟨he, hb⟩ => ⟨he.trans (by kernel_rfl), hb⟩
theorem app_empty (n : Nat) (h : Hid (n < 18446744073709551616)) (w : World) : Calls Try.prog 52 #[.string ⟨#[]⟩, .int .u64 n] w fun e w' => e = .returned (.string ⟨(enc 9 n).toArray⟩) ∧ Below w.heap.size w w' :=
  (appendNumber_any ⟨#[]⟩ (by decide) n h w).mono fun e w' ⟨he, hb⟩ => ⟨he.trans (by congr 2), hb⟩

end Go.Proofs.Ytabbkgbgldgfeaa
namespace Go.Proofs.Ytabbkgbgldgfeaa
open Go.Lib Go.ChangeShapes Go.WideShapes Go.ChangeAt Go.RowKit

/-- what 'limited' does -/
def LimPost (b : Nat) (s : ByteArray) (most : Int) (w : World) (e : Ending) (w' : World) : Prop :=
  match dec s.data.toList 0 0 with
  | none => e = .returned (.tuple #[.int .u64 0, .int .i64 11]) ∧ w' = w
  | some (n, c) => c ≤ s.size ∧ e = .returned (.tuple #[.int .u64 (if most < (n : Int) then 0 else n : Nat), .int .i64 (if most < (n : Int) then 8 else 0 : Nat)]) ∧ w' = w.setCell ⟨b, 0, none⟩ (.string (s.extract c s.size))

set_option maxRecDepth 100000 in
theorem limited_any (b : Nat) (s : ByteArray) (hs : s.size ≤ 9223372036854775807) (most : Int) (m0 : -9223372036854775808 ≤ most) (m1 : most ≤ 9223372036854775807) (w : World) (h : Rd w b s 0) :
    Calls Try.prog 81 #[.pointer (some ⟨b, 0, none⟩), .int .i64 most] w (LimPost b s most w) := by
  have h0 := h.left
  have hf := h.frozen 0
  have HN := hid (rnumber_any b s hs w h0 hf)
  clear h hs
  go_enter Try.func81, Try.ntmps81
  go_wp2_with fail
  refine HN.out.mono ?_
  intro x w' hx
  unfold NumPost at hx
  cases hd : dec s.data.toList 0 0 with
  | none =>
    rw [hd] at hx
    obtain ⟨rfl, rfl⟩ := hx
    have HD := hid hd
    clear hd
    go_wp2_with fail
    go_ret2
    unfold LimPost; rw [HD.out]; exact ⟨rfl, rfl⟩
  | some p =>
    obtain ⟨n, c⟩ := p
    rw [hd] at hx
    obtain ⟨hc, rfl, rfl⟩ := hx
    have HD := hid hd
    clear hd
    by_cases hm : most < 0
    · go_wp2_with fail
      go_ret2
      unfold LimPost; rw [HD.out]; exact ⟨hc, by rw [if_pos (by omega), if_pos (by omega)]; rfl, rfl⟩
    · obtain ⟨m, rfl⟩ := Int.eq_ofNat_of_zero_le (show 0 ≤ most by omega)
      have hw : IntKind.u64.wrap (m : Int) = m := IntWalk.u64_in _ (by omega)
      by_cases hmn : m < n
      · have hmn' : (m : Int) < n := by omega
        go_wp2_with fail
        go_ret2
        unfold LimPost; rw [HD.out]; exact ⟨hc, by rw [if_pos (by omega), if_pos (by omega)]; rfl, rfl⟩
      · have hmn' : ¬ (m : Int) < n := by omega
        go_wp2_with fail
        go_ret2
        unfold LimPost; rw [HD.out]; exact ⟨hc, by rw [if_neg (by omega), if_neg (by omega)]; rfl, rfl⟩

set_option maxRecDepth 100000 in
theorem countTake_any (b p q : Nat) (s : ByteArray) (hs : s.size ≤ 9223372036854775807) (most : Int) (m0 : -9223372036854775808 ≤ most) (m1 : most ≤ 9223372036854775807) (w : World) (h : Rd w b s 0)
    (hp : w.cell? ⟨p, 0, none⟩ = some (.pointer (some ⟨b, 0, none⟩))) (hq : w.cell? ⟨q, 0, none⟩ = some (.int .i64 most)) :
    Calls Try.prog 82 #[.pointer (some ⟨p, 0, none⟩), .pointer (some ⟨q, 0, none⟩)] w (LimPost b s most w) := by
  have HL := hid (limited_any b s hs most m0 m1 w h)
  clear h hs
  go_enter Try.func82, Try.ntmps82
  go_wp2_with fail
  refine HL.out.mono ?_
  intro x w' hx
  have HX := hid hx
  obtain ⟨n, f, rfl⟩ : ∃ n f : Nat, x = .returned (.tuple #[.int .u64 n, .int .i64 f]) := by
    unfold LimPost at hx
    cases hd : dec s.data.toList 0 0 with
    | none => rw [hd] at hx; exact ⟨0, 11, hx.1⟩
    | some p => rw [hd] at hx; exact ⟨_, _, hx.2.1⟩
  clear hx
  go_wp2_with fail
  go_ret2
  exact HX.out

/-- what Count does to a reader without an error -/
def CntRead (b : Nat) (s : ByteArray) (most : Int) (w : World) (e : Ending) (w' : World) : Prop :=
  match dec s.data.toList 0 0 with
  | none => e = .returned (.int .u64 0) ∧ Rd w' b ByteArray.empty 11 ∧ Upd b w w'
  | some (n, c) => c ≤ s.size ∧ Upd b w w' ∧ if most < (n : Int) then e = .returned (.int .u64 0) ∧ Rd w' b ByteArray.empty 8 else e = .returned (.int .u64 n) ∧ Rd w' b (s.extract c s.size) 0

set_option maxRecDepth 100000 in
theorem read_count (b p q : Nat) (s : ByteArray) (hs : s.size ≤ 9223372036854775807) (most : Int) (m0 : -9223372036854775808 ≤ most) (m1 : most ≤ 9223372036854775807) (w : World) (h : Rd w b s 0)
    (hp : w.cell? ⟨p, 0, none⟩ = some (.pointer (some ⟨b, 0, none⟩))) (hq : w.cell? ⟨q, 0, none⟩ = some (.int .i64 most)) :
    Calls Try.prog 79 #[.pointer (some ⟨b, 0, none⟩), .func (.func 82) #[] #[.pointer (some ⟨p, 0, none⟩), .pointer (some ⟨q, 0, none⟩)]] w (CntRead b s most w) := by
  have h0 := h.left
  have h1 := h.err
  have hf := h.frozen 0
  have HR := hid h
  have HN := hid (countTake_any b p q s hs most m0 m1 w h hp hq)
  clear h hs hp hq
  go_enter Try.func79, Try.ntmps79
  go_wp2_with fail
  refine HN.out.mono ?_
  intro x w' hx
  unfold LimPost at hx
  cases hd : dec s.data.toList 0 0 with
  | none =>
    rw [hd] at hx
    obtain ⟨rfl, rfl⟩ := hx
    have HD := hid hd
    clear hd
    have hf0 := HR.out.frozen 0
    have hf1 := HR.out.frozen 1
    go_wp2_with fail
    go_ret
    unfold CntRead
    rw [HD.out]
    exact ⟨rfl, (HR.out.set0 _).set1 11, (Upd.set _ _ _).trans (Upd.set _ _ _)⟩
  | some p =>
    obtain ⟨n, c⟩ := p
    rw [hd] at hx
    obtain ⟨hc, rfl, rfl⟩ := hx
    have HD := hid hd
    clear hd
    have hf1 := HR.out.frozen 1
    by_cases hm : most < (n : Int)
    · rw [if_pos hm, if_pos hm]
      go_wp2_with fail
      go_ret
      unfold CntRead
      rw [HD.out]
      refine ⟨hc, ((Upd.set _ _ _).trans (Upd.set _ _ _)).trans (Upd.set _ _ _), ?_⟩
      rw [if_pos hm]
      exact ⟨rfl, ((HR.out.set0 _).set0 _).set1 8⟩
    · rw [if_neg (by omega), if_neg (by omega)]
      go_wp2_with fail
      go_ret
      unfold CntRead
      rw [HD.out]
      refine ⟨hc, Upd.set _ _ _, ?_⟩
      rw [if_neg (by omega)]
      exact ⟨rfl, HR.out.set0 _⟩
end Go.Proofs.Ytabbkgbgldgfeaa
namespace Go.Proofs.Ytabbkgbgldgfeaa
open Go.Lib Go.ChangeShapes Go.WideShapes Go.ChangeAt Go.RowKit

theorem Rd.alloc {w : World} {b : Nat} {s : ByteArray} {e : Nat} (h : Rd w b s e) (o : Obj) : Rd (w.alloc o) b s e := by
  have hb : b < w.heap.size := by
    unfold Rd at h
    rcases Nat.lt_or_ge b w.heap.size with h' | h'
    · exact h'
    · rw [Array.getElem?_eq_none h'] at h; cases h
  unfold Rd at h ⊢
  rw [Below.heap_alloc _ _ _ hb]; exact h
theorem Rd.lt {w : World} {b : Nat} {s : ByteArray} {e : Nat} (h : Rd w b s e) : b < w.heap.size := by
  unfold Rd at h
  rcases Nat.lt_or_ge b w.heap.size with h' | h'
  · exact h'
  · rw [Array.getElem?_eq_none h'] at h; cases h

theorem Upd.rd {b c : Nat} {w w' : World} {s : ByteArray} {e : Nat} (h : Upd b w w') (hr : Rd w c s e) (hc : c ≠ b) : Rd w' c s e := (h.block c hr.lt hc).trans hr
theorem Below.rd {B c : Nat} {w w' : World} {s : ByteArray} {e : Nat} (h : Below B w w') (hr : Rd w c s e) (hc : c < B) : Rd w' c s e := (h.block c hc).trans hr
theorem Rd.made (w : World) (s : ByteArray) : Rd (w.alloc (.cells #[.string s, .int .i64 0] 83)) w.heap.size s 0 := (MapKept.heap_alloc w _).1
set_option maxRecDepth 100000 in
theorem count_stop (b : Nat) (s : ByteArray) (e : Nat) (he : e ≠ 0) (most : Int) (w : World) (h : Rd w b s e) :
    Calls Try.prog 63 #[.pointer (some ⟨b, 0, none⟩), .int .i64 most] w fun x w' => x = .returned (.int .i64 0) ∧ Rd w' b s e ∧ Upd b w w' := by
  have HR := hid h
  clear h
  go_enter Try.func63, Try.ntmps63
  go_wp2_with fail
  refine (read_stop b s e he _ _ ((HR.out.alloc _).alloc _)).mono ?_
  rintro x w' ⟨rfl, rfl⟩
  go_wp2_with fail
  go_ret
  exact ⟨rfl, (HR.out.alloc _).alloc _, (Upd.alloc _ _).trans (Upd.alloc _ _)⟩

/-- what Count answers -/
def CountDone (b : Nat) (s : ByteArray) (most : Int) (w : World) (e : Ending) (w' : World) : Prop :=
  Upd b w w' ∧ match dec s.data.toList 0 0 with
  | none => e = .returned (.int .i64 0) ∧ Rd w' b ByteArray.empty 11
  | some (n, c) => c ≤ s.size ∧ if most < (n : Int) then e = .returned (.int .i64 0) ∧ Rd w' b ByteArray.empty 8 else e = .returned (.int .i64 n) ∧ Rd w' b (s.extract c s.size) 0

set_option maxRecDepth 100000 in
theorem count_any (b : Nat) (s : ByteArray) (hs : s.size ≤ 9223372036854775807) (most : Int) (m0 : -9223372036854775808 ≤ most) (m1 : most ≤ 9223372036854775807) (w : World) (h : Rd w b s 0) :
    Calls Try.prog 63 #[.pointer (some ⟨b, 0, none⟩), .int .i64 most] w (CountDone b s most w) := by
  have HC := fun W (hW : Rd W b s 0) hp hq => hid (read_count b w.heap.size (w.heap.size + 1) s hs most m0 m1 W hW hp hq)
  have HR := hid h
  have M1 := hid m1
  clear h m0 m1 hs
  go_enter Try.func63, Try.ntmps63
  go_wp2_with fail
  refine (HC _ ((HR.out.alloc _).alloc _) (by simp) (by simp)).mono ?_
  intro x w' hx
  have hu : Upd b w ((w.alloc (.cells #[.pointer (some ⟨b, 0, none⟩)] 66)).alloc (.cells #[.int .i64 most] 3)) := (Upd.alloc _ _).trans (Upd.alloc _ _)
  clear HC
  unfold CntRead at hx
  cases hd : dec s.data.toList 0 0 with
  | none =>
    rw [hd] at hx
    obtain ⟨rfl, hr, hv⟩ := hx
    have HD := hid hd
    have HU := hid (hu.trans hv)
    have HV := hid hr
    clear hd hu hv hr
    go_wp2_with fail
    go_ret
    unfold CountDone; rw [HD.out]
    exact ⟨HU.out, rfl, HV.out⟩
  | some p =>
    obtain ⟨n, c⟩ := p
    rw [hd] at hx
    obtain ⟨hc, hv, hx⟩ := hx
    have HD := hid hd
    have HU := hid (hu.trans hv)
    clear hd hu hv
    by_cases hm : most < (n : Int)
    · rw [if_pos hm] at hx
      obtain ⟨rfl, hr⟩ := hx
      have HV := hid hr
      clear hr
      go_wp2_with fail
      go_ret
      unfold CountDone; rw [HD.out]
      exact ⟨HU.out, hc, by rw [if_pos hm]; exact ⟨rfl, HV.out⟩⟩
    · rw [if_neg hm] at hx
      obtain ⟨rfl, hr⟩ := hx
      have HV := hid hr
      have hw : IntKind.i64.wrap (n : Int) = n := IntWalk.i64_in _ (by have := M1.out; omega)
      clear hr
      go_wp2_with fail
      go_ret
      unfold CountDone; rw [HD.out]
      exact ⟨HU.out, hc, by rw [if_neg (by omega)]; exact ⟨rfl, HV.out⟩⟩

/-- only blocks b and t have turned -/
structure UpdT (b t : Nat) (w w' : World) : Prop where
  os : w'.os = w.os
  tape : w'.tape = w.tape
  output : w'.output = w.output
  size : w.heap.size ≤ w'.heap.size
  block : ∀ k, k < w.heap.size → k ≠ b → k ≠ t → w'.heap[k]? = w.heap[k]?
theorem UpdT.refl (b t : Nat) (w : World) : UpdT b t w w := ⟨rfl, rfl, rfl, Nat.le_refl _, fun _ _ _ _ => rfl⟩
theorem UpdT.trans {b t : Nat} {u v w : World} (h : UpdT b t u v) (k : UpdT b t v w) : UpdT b t u w :=
  ⟨k.os.trans h.os, k.tape.trans h.tape, k.output.trans h.output, Nat.le_trans h.size k.size, fun i hi hb ht => (k.block i (Nat.lt_of_lt_of_le hi h.size) hb ht).trans (h.block i hi hb ht)⟩
theorem Upd.wide {b t : Nat} {w w' : World} (h : Upd b w w') : UpdT b t w w' := ⟨h.os, h.tape, h.output, h.size, fun k hk hb _ => h.block k hk hb⟩
theorem UpdT.flip {b t : Nat} {w w' : World} (h : UpdT b t w w') : UpdT t b w w' := ⟨h.os, h.tape, h.output, h.size, fun k hk hb ht => h.block k hk ht hb⟩
theorem UpdT.drewN {b t n : Nat} {w w' : World} (h : UpdT b t w w') : UpdT b t w (w'.drewN n) := ⟨h.os, h.tape, h.output, h.size, h.block⟩

/-- what the reading of a text does: the reader, the variable of the text, the ending -/
def TxtPost (b t : Nat) (s : ByteArray) (most : Int) (w : World) (e : Ending) (w' : World) : Prop :=
  UpdT b t w w' ∧ match dec s.data.toList 0 0 with
  | none => e = .returned (.tuple #[.int .u64 0, .int .i64 11]) ∧ Rd w' b s 0 ∧ w'.cell? ⟨t, 0, none⟩ = w.cell? ⟨t, 0, none⟩
  | some (n, c) => c ≤ s.size ∧
    if most < (n : Int) then e = .returned (.tuple #[.int .u64 0, .int .i64 8]) ∧ Rd w' b (s.extract c s.size) 0 ∧ w'.cell? ⟨t, 0, none⟩ = w.cell? ⟨t, 0, none⟩
    else if s.size - c < n then e = .returned (.tuple #[.int .u64 0, .int .i64 11]) ∧ Rd w' b (s.extract c s.size) 0 ∧ w'.cell? ⟨t, 0, none⟩ = w.cell? ⟨t, 0, none⟩
    else e = .returned (.tuple #[.int .u64 n, .int .i64 0]) ∧ Rd w' b ((s.extract c s.size).extract n (s.size - c)) 0 ∧ w'.cell? ⟨t, 0, none⟩ = some (.string ((s.extract c s.size).extract 0 n))

theorem txt_end {W : World} {b t : Nat} {R T : ByteArray} (ht : t ≠ b) (h : Rd W b R 0) (hc : W.cell? ⟨t, 0, none⟩ = some (.string T)) (x y : ByteArray) :
    UpdT b t W ((W.setCell ⟨t, 0, none⟩ (.string x)).setCell ⟨b, 0, none⟩ (.string y)).drew ∧ Rd ((W.setCell ⟨t, 0, none⟩ (.string x)).setCell ⟨b, 0, none⟩ (.string y)).drew b y 0 ∧ ((W.setCell ⟨t, 0, none⟩ (.string x)).setCell ⟨b, 0, none⟩ (.string y)).drew.cell? ⟨t, 0, none⟩ = some (.string x) := by
  have h1 : Rd (W.setCell ⟨t, 0, none⟩ (.string x)) b R 0 := (Below.heap_setCell W ⟨t, 0, none⟩ _ b (fun e => ht e.symm)).trans h
  refine ⟨((Upd.set (b := t) W 0 (.string x)).wide.flip.trans (Upd.set (b := b) _ 0 (.string y)).wide).drewN (n := 1), h1.set0 y, ?_⟩
  refine (World.cell?_setCell_other (W.setCell ⟨t, 0, none⟩ (.string x)) _ _ _ (fun e => ht (congrArg Addr.block e).symm)).trans ?_
  exact World.cell?_setCell_same _ _ _ hc
set_option maxRecDepth 100000 in
theorem textTake_any (b p q t : Nat) (ht : t ≠ b) (hpt : p ≠ t) (hpb : p ≠ b) (hqb : q ≠ b) (s : ByteArray) (hs : s.size ≤ 9223372036854775807) (most : Int) (m0 : -9223372036854775808 ≤ most) (m1 : most ≤ 9223372036854775807) (w : World) (h : Rd w b s 0)
    (hp : w.cell? ⟨p, 0, none⟩ = some (.pointer (some ⟨b, 0, none⟩))) (hq : w.cell? ⟨q, 0, none⟩ = some (.int .i64 most)) (T : ByteArray) (hc : w.cell? ⟨t, 0, none⟩ = some (.string T)) (hf : w.frozen? ⟨t, 0, none⟩ = false) :
    Calls Try.prog 80 #[.pointer (some ⟨p, 0, none⟩), .pointer (some ⟨q, 0, none⟩), .pointer (some ⟨t, 0, none⟩)] w (TxtPost b t s most w) := by
  have HL := hid (limited_any b s hs most m0 m1 w h)
  have HR := hid h
  have TN := hid ht
  clear h
  go_enter Try.func80, Try.ntmps80
  go_wp2_with fail
  refine HL.out.mono ?_
  intro x w' hx
  unfold LimPost at hx
  cases hd : dec s.data.toList 0 0 with
  | none =>
    rw [hd] at hx
    obtain ⟨rfl, rfl⟩ := hx
    have HD := hid hd
    clear hd
    go_wp2_with fail
    go_ret2
    unfold TxtPost; rw [HD.out]; exact ⟨UpdT.refl _ _ _, rfl, HR.out, rfl⟩
  | some z =>
    obtain ⟨n, c⟩ := z
    rw [hd] at hx
    obtain ⟨hcs, rfl, rfl⟩ := hx
    have HD := hid hd
    clear hd
    have HV := hid ((HR.out).set0 (s.extract c s.size))
    have HU := hid ((Upd.set (b := b) w 0 (.string (s.extract c s.size))).wide (t := t))
    have ha : (w.setCell ⟨b, 0, none⟩ (.string (s.extract c s.size))).cell? ⟨t, 0, none⟩ = some (.string T) := (World.cell?_setCell_other _ _ _ _ (by simp only [ne_eq, Addr.mk.injEq]; omega)).trans hc
    have hb : (w.setCell ⟨b, 0, none⟩ (.string (s.extract c s.size))).cell? ⟨p, 0, none⟩ = some (.pointer (some ⟨b, 0, none⟩)) := (World.cell?_setCell_other _ _ _ _ (by simp only [ne_eq, Addr.mk.injEq]; omega)).trans hp
    have hfr : (w.setCell ⟨b, 0, none⟩ (.string (s.extract c s.size))).frozen? ⟨t, 0, none⟩ = false := (World.frozen?_setCell _ _ _ _).trans hf
    have HC := hid hc
    obtain ⟨R, hR⟩ : ∃ R, R = s.extract c s.size := ⟨_, rfl⟩
    have hRs : R.size = s.size - c := by rw [hR]; simp
    rw [← hR] at HV HU ha hb hfr ⊢
    have HE := hid hR
    have HS := hid hRs
    clear hR hRs hc hp hq hf
    obtain ⟨W, hW⟩ : ∃ W, W = w.setCell ⟨b, 0, none⟩ (.string R) := ⟨_, rfl⟩
    rw [← hW] at HV HU ha hb hfr ⊢
    clear hW
    have hl := HV.out.left
    have hfb := HV.out.frozen 0
    by_cases hm : most < (n : Int)
    · rw [if_pos hm, if_pos hm]
      go_wp2_with fail
      go_ret2
      unfold TxtPost; rw [HD.out]; refine ⟨HU.out, hcs, ?_⟩
      rw [if_pos hm, ← HE.out]; exact ⟨rfl, HV.out, ha.trans HC.out.symm⟩
    · rw [if_neg hm, if_neg hm]
      have hu : IntKind.u64.wrap (R.size : Int) = R.size := IntWalk.u64_in _ (by have := HS.out; omega)
      by_cases hn : R.size < n
      · have hn' : (R.size : Int) < n := by omega
        go_wp2_with fail
        go_ret2
        unfold TxtPost; rw [HD.out]; refine ⟨HU.out, hcs, ?_⟩
        rw [if_neg (by omega), if_pos (by have := HS.out; omega), ← HE.out]; exact ⟨rfl, HV.out, ha.trans HC.out.symm⟩
      · have hn' : ¬ (R.size : Int) < n := by omega
        have f1 : ∀ v, (W.setCell ⟨t, 0, none⟩ v).cell? ⟨p, 0, none⟩ = some (.pointer (some ⟨b, 0, none⟩)) := fun v => (World.cell?_setCell_other _ _ _ _ (by simp only [ne_eq, Addr.mk.injEq]; omega)).trans hb
        have f2 : ∀ v, (W.setCell ⟨t, 0, none⟩ v).cell? ⟨b, 0, none⟩ = some (.string R) := fun v => (World.cell?_setCell_other _ _ _ _ (by simp only [ne_eq, Addr.mk.injEq]; omega)).trans hl
        have f3 : ∀ v, (W.setCell ⟨t, 0, none⟩ v).frozen? ⟨b, 0, none⟩ = false := fun v => (World.frozen?_setCell _ _ _ _).trans hfb
        go_wp2_with fail
        go_region
        go_wp2_with fail
        go_ret2
        unfold TxtPost; rw [HD.out]
        have hz := txt_end (W := W) (R := R) TN.out HV.out ha (R.extract 0 n) (R.extract n R.size)
        refine ⟨HU.out.trans hz.1, hcs, ?_⟩
        rw [if_neg (by omega), if_neg (by have := HS.out; omega), ← HE.out, ← HS.out]; exact ⟨rfl, hz.2.1, hz.2.2⟩
end Go.Proofs.Ytabbkgbgldgfeaa
namespace Go.Proofs.Ytabbkgbgldgfeaa
open Go.Lib Go.ChangeShapes Go.WideShapes Go.ChangeAt Go.RowKit

/-- the reading of a text, through 'read' -/
def TxtRead (b t : Nat) (s : ByteArray) (most : Int) (w : World) (e : Ending) (w' : World) : Prop :=
  ∃ n : Nat, e = .returned (.int .u64 n) ∧ UpdT b t w w' ∧ match dec s.data.toList 0 0 with
  | none => Rd w' b ByteArray.empty 11 ∧ w'.cell? ⟨t, 0, none⟩ = w.cell? ⟨t, 0, none⟩
  | some (n, c) => c ≤ s.size ∧
    if most < (n : Int) then Rd w' b ByteArray.empty 8 ∧ w'.cell? ⟨t, 0, none⟩ = w.cell? ⟨t, 0, none⟩
    else if s.size - c < n then Rd w' b ByteArray.empty 11 ∧ w'.cell? ⟨t, 0, none⟩ = w.cell? ⟨t, 0, none⟩
    else Rd w' b ((s.extract c s.size).extract n (s.size - c)) 0 ∧ w'.cell? ⟨t, 0, none⟩ = some (.string ((s.extract c s.size).extract 0 n))

theorem fail_end {W : World} {b t : Nat} {R : ByteArray} (ht : t ≠ b) (h : Rd W b R 0) (f : Nat) :
    UpdT b t W ((W.setCell ⟨b, 0, none⟩ (.string ByteArray.empty)).setCell ⟨b, 1, none⟩ (.int .i64 f)) ∧ Rd ((W.setCell ⟨b, 0, none⟩ (.string ByteArray.empty)).setCell ⟨b, 1, none⟩ (.int .i64 f)) b ByteArray.empty f ∧ ((W.setCell ⟨b, 0, none⟩ (.string ByteArray.empty)).setCell ⟨b, 1, none⟩ (.int .i64 f)).cell? ⟨t, 0, none⟩ = W.cell? ⟨t, 0, none⟩ := by
  refine ⟨((Upd.set (b := b) W 0 _).trans (Upd.set (b := b) _ 1 _)).wide, (h.set0 _).set1 f, ?_⟩
  refine (World.cell?_setCell_other _ _ _ _ (fun e => ht (congrArg Addr.block e).symm)).trans ?_
  exact World.cell?_setCell_other _ _ _ _ (fun e => ht (congrArg Addr.block e).symm)

set_option maxRecDepth 100000 in
theorem read_text (b p q t : Nat) (ht : t ≠ b) (hpt : p ≠ t) (hpb : p ≠ b) (hqb : q ≠ b) (s : ByteArray) (hs : s.size ≤ 9223372036854775807) (most : Int) (m0 : -9223372036854775808 ≤ most) (m1 : most ≤ 9223372036854775807) (w : World) (h : Rd w b s 0)
    (hp : w.cell? ⟨p, 0, none⟩ = some (.pointer (some ⟨b, 0, none⟩))) (hq : w.cell? ⟨q, 0, none⟩ = some (.int .i64 most)) (T : ByteArray) (hc : w.cell? ⟨t, 0, none⟩ = some (.string T)) (hf : w.frozen? ⟨t, 0, none⟩ = false) :
    Calls Try.prog 79 #[.pointer (some ⟨b, 0, none⟩), .func (.func 80) #[] #[.pointer (some ⟨p, 0, none⟩), .pointer (some ⟨q, 0, none⟩), .pointer (some ⟨t, 0, none⟩)]] w (TxtRead b t s most w) := by
  have h1 := h.err
  have HN := hid (textTake_any b p q t ht hpt hpb hqb s hs most m0 m1 w h hp hq T hc hf)
  have TN := hid ht
  have KC := hid hc
  clear h hs hp hq hf ht hpt hpb hqb hc
  go_enter Try.func79, Try.ntmps79
  go_wp2_with fail
  refine HN.out.mono ?_
  intro x w' hx
  unfold TxtPost at hx
  cases hd : dec s.data.toList 0 0 with
  | none =>
    rw [hd] at hx
    obtain ⟨hu, rfl, hr, hcc⟩ := hx
    have HD := hid hd
    have HU := hid hu
    have HR := hid hr
    have HC := hid hcc
    have g0 := hr.left
    have g1 := hr.err
    have g2 := hr.frozen 0
    have g3 := hr.frozen 1
    clear hd hu hr hcc
    go_wp2_with fail
    go_ret
    have hz := fail_end TN.out HR.out 11
    unfold TxtRead
    rw [HD.out]
    exact ⟨0, rfl, HU.out.trans hz.1, hz.2.1, hz.2.2.trans HC.out⟩
  | some z =>
    obtain ⟨n, c⟩ := z
    rw [hd] at hx
    obtain ⟨hu, hcs, hx⟩ := hx
    have HD := hid hd
    have HU := hid hu
    clear hd hu
    by_cases hm : most < (n : Int)
    · rw [if_pos hm] at hx
      obtain ⟨rfl, hr, hcc⟩ := hx
      have HR := hid hr
      have HC := hid hcc
      have g0 := hr.left
      have g1 := hr.err
      have g2 := hr.frozen 0
      have g3 := hr.frozen 1
      clear hr hcc
      go_wp2_with fail
      go_ret
      have hz := fail_end TN.out HR.out 8
      unfold TxtRead
      rw [HD.out]
      refine ⟨0, rfl, HU.out.trans hz.1, hcs, ?_⟩
      rw [if_pos hm]
      exact ⟨hz.2.1, hz.2.2.trans HC.out⟩
    · rw [if_neg hm] at hx
      by_cases hn : s.size - c < n
      · rw [if_pos hn] at hx
        obtain ⟨rfl, hr, hcc⟩ := hx
        have HR := hid hr
        have HC := hid hcc
        have HM := hid hm
        have g0 := hr.left
        have g1 := hr.err
        have g2 := hr.frozen 0
        have g3 := hr.frozen 1
        clear hr hcc hm
        go_wp2_with fail
        go_ret
        have hz := fail_end TN.out HR.out 11
        unfold TxtRead
        rw [HD.out]
        refine ⟨0, rfl, HU.out.trans hz.1, hcs, ?_⟩
        rw [if_neg (by have := HM.out; omega), if_pos hn]
        exact ⟨hz.2.1, hz.2.2.trans HC.out⟩
      · rw [if_neg hn] at hx
        obtain ⟨rfl, hr, hcc⟩ := hx
        have HR := hid hr
        have HC := hid hcc
        have HM := hid hm
        have HX := hid hn
        clear hr hcc hm hn
        go_wp2_with fail
        go_ret
        unfold TxtRead
        rw [HD.out]
        refine ⟨n, rfl, HU.out, hcs, ?_⟩
        rw [if_neg (by have := HM.out; omega), if_neg (by have := HX.out; omega)]
        exact ⟨HR.out, HC.out⟩

section
variable (w : World) (x : Value) (s : TypeId) (y : Value) (t : TypeId) (z : Value) (u : TypeId)
theorem three_third : (((w.alloc (.cells #[x] s)).alloc (.cells #[y] t)).alloc (.cells #[z] u)).cell? ⟨w.heap.size + 1 + 1, 0, none⟩ = some z := by
  have h := World.cell?_alloc_new (w := ((w.alloc (.cells #[x] s)).alloc (.cells #[y] t))) #[z] u 0
  simp only [World.size_alloc] at h
  exact h
theorem three_free : (((w.alloc (.cells #[x] s)).alloc (.cells #[y] t)).alloc (.cells #[z] u)).frozen? ⟨w.heap.size + 1 + 1, 0, none⟩ = false := by
  have h := (MapKept.heap_alloc ((w.alloc (.cells #[x] s)).alloc (.cells #[y] t)) (.cells #[z] u)).1
  simp only [World.size_alloc] at h
  simp only [World.frozen?, h]
  simp
theorem three_second : (((w.alloc (.cells #[x] s)).alloc (.cells #[y] t)).alloc (.cells #[z] u)).cell? ⟨w.heap.size + 1, 0, none⟩ = some y := by
  refine (World.cell?_alloc_lt _ _ _ (by simp)).trans ?_
  have h := World.cell?_alloc_new (w := (w.alloc (.cells #[x] s))) #[y] t 0
  simp only [World.size_alloc] at h
  exact h
theorem three_first : (((w.alloc (.cells #[x] s)).alloc (.cells #[y] t)).alloc (.cells #[z] u)).cell? ⟨w.heap.size, 0, none⟩ = some x := by
  refine (World.cell?_alloc_lt _ _ _ (by simp; omega)).trans ?_
  refine (World.cell?_alloc_lt _ _ _ (by simp)).trans ?_
  exact World.cell?_alloc_new (w := w) #[x] s 0
end
/-- what Text answers -/
def TextDone (b : Nat) (s : ByteArray) (most : Int) (w : World) (e : Ending) (w' : World) : Prop :=
  Upd b w w' ∧ match dec s.data.toList 0 0 with
  | none => e = .returned (.string ⟨#[]⟩) ∧ Rd w' b ByteArray.empty 11
  | some (n, c) => c ≤ s.size ∧
    if most < (n : Int) then e = .returned (.string ⟨#[]⟩) ∧ Rd w' b ByteArray.empty 8
    else if s.size - c < n then e = .returned (.string ⟨#[]⟩) ∧ Rd w' b ByteArray.empty 11
    else e = .returned (.string ((s.extract c s.size).extract 0 n)) ∧ Rd w' b ((s.extract c s.size).extract n (s.size - c)) 0

set_option maxRecDepth 100000 in
theorem text_stop (b : Nat) (s : ByteArray) (e : Nat) (he : e ≠ 0) (most : Int) (w : World) (h : Rd w b s e) :
    Calls Try.prog 62 #[.pointer (some ⟨b, 0, none⟩), .int .i64 most] w fun x w' => x = .returned (.string ⟨#[]⟩) ∧ Rd w' b s e ∧ Upd b w w' := by
  have HR := hid h
  clear h
  go_enter Try.func62, Try.ntmps62
  go_wp2_with fail
  refine (read_stop b s e he _ _ (((HR.out.alloc _).alloc _).alloc _)).mono ?_
  rintro x w' ⟨rfl, rfl⟩
  go_wp2_with fail
  go_ret
  exact ⟨rfl, ((HR.out.alloc _).alloc _).alloc _, ((Upd.alloc _ _).trans (Upd.alloc _ _)).trans (Upd.alloc _ _)⟩

theorem UpdT.toUpd {b t : Nat} {w v w' : World} (h0 : Upd b w v) (h : UpdT b t v w') (ht : w.heap.size ≤ t) : Upd b w w' :=
  ⟨h.os.trans h0.os, h.tape.trans h0.tape, h.output.trans h0.output, Nat.le_trans h0.size h.size, fun k hk hb => (h.block k (Nat.lt_of_lt_of_le hk h0.size) hb (by omega)).trans (h0.block k hk hb)⟩

set_option maxRecDepth 100000 in
theorem text_any (b : Nat) (s : ByteArray) (hs : s.size ≤ 9223372036854775807) (most : Int) (m0 : -9223372036854775808 ≤ most) (m1 : most ≤ 9223372036854775807) (w : World) (h : Rd w b s 0) :
    Calls Try.prog 62 #[.pointer (some ⟨b, 0, none⟩), .int .i64 most] w (TextDone b s most w) := by
  have hlt := h.lt
  have HC := fun W (hW : Rd W b s 0) hp hq hc hf => hid (read_text b w.heap.size (w.heap.size + 1) (w.heap.size + 1 + 1) (by omega) (by omega) (by omega) (by omega) s hs most m0 m1 W hW hp hq ⟨#[]⟩ hc hf)
  have HR := hid h
  clear h m0 m1 hs
  go_enter Try.func62, Try.ntmps62
  go_wp2_with fail
  refine (HC _ (((HR.out.alloc _).alloc _).alloc _) (three_first _ _ _ _ _ _ _) (three_second _ _ _ _ _ _ _) (three_third _ _ _ _ _ _ _) (three_free _ _ _ _ _ _ _)).mono ?_
  intro x w' hx
  unfold TxtRead at hx
  have hu0 : Upd b w (((w.alloc (.cells #[.pointer (some ⟨b, 0, none⟩)] 66)).alloc (.cells #[.int .i64 most] 3)).alloc (.cells #[.string ⟨#[]⟩] 9)) := ((Upd.alloc _ _).trans (Upd.alloc _ _)).trans (Upd.alloc _ _)
  have ht0 := three_third w (.pointer (some ⟨b, 0, none⟩)) 66 (.int .i64 most) 3 (.string ⟨#[]⟩) 9
  obtain ⟨r, rfl, hu, hx⟩ := hx
  have HU := hid (UpdT.toUpd hu0 hu (by omega))
  have HT := hid ht0
  clear HC hu hu0 ht0 hlt
  cases hd : dec s.data.toList 0 0 with
  | none =>
    rw [hd] at hx
    obtain ⟨hr, hc⟩ := hx
    have hc' := hc.trans HT.out
    have HD := hid hd
    have HV := hid hr
    clear hd hr hc
    go_wp2_with fail
    go_ret
    unfold TextDone; rw [HD.out]
    exact ⟨HU.out, rfl, HV.out⟩
  | some z =>
    obtain ⟨n, c⟩ := z
    rw [hd] at hx
    obtain ⟨hcs, hx⟩ := hx
    have HD := hid hd
    clear hd
    by_cases hm : most < (n : Int)
    · rw [if_pos hm] at hx
      obtain ⟨hr, hc⟩ := hx
      have hc' := hc.trans HT.out
      have HV := hid hr
      have HM := hid hm
      clear hr hc hm
      go_wp2_with fail
      go_ret
      unfold TextDone; rw [HD.out]
      exact ⟨HU.out, hcs, by rw [if_pos HM.out]; exact ⟨rfl, HV.out⟩⟩
    · rw [if_neg hm] at hx
      by_cases hn : s.size - c < n
      · rw [if_pos hn] at hx
        obtain ⟨hr, hc⟩ := hx
        have hc' := hc.trans HT.out
        have HV := hid hr
        have HM := hid hm
        have HX := hid hn
        clear hr hc hm hn
        go_wp2_with fail
        go_ret
        unfold TextDone; rw [HD.out]
        exact ⟨HU.out, hcs, by rw [if_neg (by have := HM.out; omega), if_pos HX.out]; exact ⟨rfl, HV.out⟩⟩
      · rw [if_neg hn] at hx
        obtain ⟨hr, hc'⟩ := hx
        have HV := hid hr
        have HM := hid hm
        have HX := hid hn
        clear hr hm hn
        go_wp2_with fail
        go_ret
        unfold TextDone; rw [HD.out]
        exact ⟨HU.out, hcs, by rw [if_neg (by have := HM.out; omega), if_neg (by have := HX.out; omega)]; exact ⟨rfl, HV.out⟩⟩
end Go.Proofs.Ytabbkgbgldgfeaa
namespace Go.Proofs.Ytabbkgbgldgfeaa
open Go.Lib Go.ChangeShapes Go.WideShapes Go.ChangeAt Go.RowKit

/-- the encoding as a string -/
def encS (n : Nat) : ByteArray := ⟨(enc 9 n).toArray⟩
theorem encS_size (n : Nat) : 1 ≤ (encS n).size ∧ (encS n).size ≤ 10 := by
  have := enc_len 9 n
  have := enc_pos 9 n
  simp [encS, ByteArray.size]; omega
theorem add_ok (a b : ByteArray) (ha : a.size ≤ 1000000) (hb : b.size ≤ 1000000) (w : World) : (Op.stringOp .add a b).run Try.prog w = .ok (.string (a ++ b)) w :=
  run_string_add_sum w _ _ (by omega)

/-- a truth value's byte -/
def boolS (x : Bool) : ByteArray := if x then ⟨#[1]⟩ else ⟨#[0]⟩
theorem boolS_size (x : Bool) : (boolS x).size = 1 := by cases x <;> rfl
set_option maxRecDepth 100000 in
theorem appendText_any (s t : ByteArray) (hs : s.size ≤ 900000) (ht : t.size ≤ 100000) (w : World) :
    Calls Try.prog 53 #[.string s, .string t] w fun e w' => e = .returned (.string (s ++ (encS t.size ++ t))) ∧ Below w.heap.size w w' := by
  have he := encS_size t.size
  have h1 := add_ok s (encS t.size) (by omega) (by omega)
  have h2 := add_ok (s ++ encS t.size) t (by rw [ByteArray.size_append]; omega) (by omega)
  have HT : Hid (t.size < 18446744073709551616) := by show t.size < _; omega
  have hu : IntKind.u64.wrap (t.size : Int) = t.size := IntWalk.u64_in _ (by omega)
  clear he
  go_enter Try.func53, Try.ntmps53
  go_wp2_with fail
  refine (encode_any t.size HT _).mono ?_
  rintro e w1 ⟨rfl, hb⟩
  rw [show (ByteArray.mk (enc 9 t.size).toArray) = encS t.size from rfl]
  go_wp2_with fail
  go_ret
  exact ⟨by rw [← ByteArray.append_assoc]; rfl, hb⟩

set_option maxRecDepth 100000 in
theorem refText_any (t : ByteArray) (ht : t.size ≤ 100000) (w : World) :
    Calls Try.prog 56 #[.string t] w fun e w' => e = .returned (.string (encS t.size ++ t)) ∧ Below w.heap.size w w' := by
  have he := encS_size t.size
  have h1 := add_ok (encS t.size) t (by omega) (by omega)
  have HT : Hid (t.size < 18446744073709551616) := by show t.size < _; omega
  have hu : IntKind.u64.wrap (t.size : Int) = t.size := IntWalk.u64_in _ (by omega)
  clear he
  go_enter Try.func56, Try.ntmps56
  go_wp2_with fail
  refine (number_any t.size HT.out _).mono ?_
  rintro e w1 ⟨rfl, hb⟩
  rw [show (ByteArray.mk (enc 9 t.size).toArray) = encS t.size from rfl]
  go_wp2_with fail
  go_ret
  exact ⟨rfl, hb⟩
end Go.Proofs.Ytabbkgbgldgfeaa
namespace Go.Proofs.Ytabbkgbgldgfeaa
open Go.Lib Go.ChangeShapes Go.WideShapes Go.ChangeAt Go.RowKit

/-- the value of the first byte, if it is a truth value -/
def decB : List UInt8 → Option Nat
  | [] => none
  | b :: _ => if 1 < b.toNat then none else some b.toNat
def BitPost (b : Nat) (s : ByteArray) (w : World) (e : Ending) (w' : World) : Prop :=
  match decB s.data.toList with
  | none => e = .returned (.tuple #[.int .u64 0, .int .i64 11]) ∧ w' = w
  | some n => n ≤ 1 ∧ 1 ≤ s.size ∧ e = .returned (.tuple #[.int .u64 n, .int .i64 0]) ∧ w' = w.setCell ⟨b, 0, none⟩ (.string (s.extract 1 s.size))

theorem decB_at (s : ByteArray) (h : 0 < s.size) : decB s.data.toList = if 1 < s[0].toNat then none else some s[0].toNat := by
  obtain ⟨⟨l⟩⟩ := s
  cases l with
  | nil => simp [ByteArray.size] at h
  | cons x l => rfl
theorem isEmpty_size (s : ByteArray) : s.toList.isEmpty = decide (s.size = 0) := by
  rw [ByteArray.toList_eq, Bool.eq_iff_iff]
  rw [List.isEmpty_iff, ← List.length_eq_zero_iff]
  simp only [decide_eq_true_eq]
  rfl

/-- what the reading of a truth value does to a reader -/
def BitRead (b : Nat) (s : ByteArray) (w : World) (e : Ending) (w' : World) : Prop :=
  Upd b w w' ∧ match decB s.data.toList with
  | none => e = .returned (.int .u64 0) ∧ Rd w' b ByteArray.empty 11
  | some n => n ≤ 1 ∧ 1 ≤ s.size ∧ e = .returned (.int .u64 n) ∧ Rd w' b (s.extract 1 s.size) 0

/-- what Bool answers -/
def BoolDone (b : Nat) (s : ByteArray) (w : World) (e : Ending) (w' : World) : Prop :=
  Upd b w w' ∧ match decB s.data.toList with
  | none => e = .returned (.bool false) ∧ Rd w' b ByteArray.empty 11
  | some n => n ≤ 1 ∧ 1 ≤ s.size ∧ e = .returned (.bool (n == 1)) ∧ Rd w' b (s.extract 1 s.size) 0

/-- what Int answers -/
def IntDone (b : Nat) (s : ByteArray) (w : World) (e : Ending) (w' : World) : Prop :=
  Upd b w w' ∧ match dec s.data.toList 0 0 with
  | none => e = .returned (.int .i64 0) ∧ Rd w' b ByteArray.empty 11
  | some (n, c) => c ≤ s.size ∧ e = .returned (.int .i64 (zag n)) ∧ Rd w' b (s.extract c s.size) 0

end Go.Proofs.Ytabbkgbgldgfeaa
namespace Go.Proofs.Ytabbkgbgldgfeaa
open Go.Lib Go.ChangeShapes Go.WideShapes Go.ChangeAt Go.RowKit

/-- the encoding of a value of some kind -/
def encV (k : Int) (n : Nat) (i : Int) (x : Bool) (t : ByteArray) : ByteArray :=
  if k % 4 = 0 then encS n else if k % 4 = 1 then encS (zig i) else if k % 4 = 2 then boolS x else encS t.size ++ t
def pre (E : Nat → ByteArray) : Nat → ByteArray
  | 0 => ⟨#[]⟩
  | k + 1 => pre E k ++ E k
def suf (E : Nat → ByteArray) : Nat → Nat → ByteArray
  | 0, _ => ⟨#[]⟩
  | d + 1, k => E k ++ suf E d (k + 1)
theorem append_empty' (a : ByteArray) : a ++ ⟨#[]⟩ = a := by
  apply ByteArray.ext
  rw [ByteArray.data_append]; simp
theorem empty_append' (a : ByteArray) : (⟨#[]⟩ : ByteArray) ++ a = a := by
  apply ByteArray.ext
  rw [ByteArray.data_append]; simp
theorem pre_suf (E : Nat → ByteArray) (d : Nat) : ∀ k, pre E k ++ suf E d k = pre E (k + d) := by
  induction d with
  | zero => intro k; rw [suf, append_empty']; rfl
  | succ d ih => intro k; rw [suf, ← ByteArray.append_assoc, show pre E k ++ E k = pre E (k + 1) from rfl, ih]; congr 1; omega
theorem suf_all (E : Nat → ByteArray) (n : Nat) : suf E n 0 = pre E n := by
  have := pre_suf E n 0
  rw [show pre E 0 = ⟨#[]⟩ from rfl, empty_append', Nat.zero_add] at this
  exact this
theorem encV_size (k : Int) (n : Nat) (i : Int) (x : Bool) (t : ByteArray) (ht : t.size ≤ 200) : (encV k n i x t).size ≤ 210 := by
  have h1 := encS_size n
  have h2 := encS_size (zig i)
  have h3 := boolS_size x
  have h4 := encS_size t.size
  unfold encV
  split
  · omega
  · split
    · omega
    · split
      · omega
      · rw [ByteArray.size_append]; omega
theorem pre_size (E : Nat → ByteArray) (k : Nat) (h : ∀ i, i < k → (E i).size ≤ 210) : (pre E k).size ≤ 210 * k := by
  induction k with
  | zero => exact Nat.le_refl _
  | succ k ih =>
    have h1 := ih (fun i hi => h i (by omega))
    have h2 := h k (by omega)
    rw [pre, ByteArray.size_append]; omega
theorem suf_size (E : Nat → ByteArray) (d k : Nat) (h : ∀ i, k ≤ i → i < k + d → (E i).size ≤ 210) : (suf E d k).size ≤ 210 * d := by
  induction d generalizing k with
  | zero => exact Nat.le_refl _
  | succ d ih =>
    have h1 := ih (k + 1) (fun i hi hj => h i (by omega) (by omega))
    have h2 := h k (by omega) (by omega)
    rw [suf, ByteArray.size_append]; omega
theorem choose_of {α : Type} [Inhabited α] {p : Nat → α → Prop} {len : Nat} (h : ∀ i, i < len → ∃ x, p i x) : ∃ f : Nat → α, ∀ i, i < len → p i (f i) :=
  ⟨fun i => if hi : i < len then Classical.choose (h i hi) else default, fun i hi => by
    show p i (if hi : i < len then Classical.choose (h i hi) else default)
    rw [dif_pos hi]; exact Classical.choose_spec (h i hi)⟩

theorem dec_app (n : Nat) (hn : n < 18446744073709551616) (S R : ByteArray) (h : S = encS n ++ R) : dec S.data.toList 0 0 = some (n, (encS n).size) ∧ (encS n).size ≤ S.size ∧ S.extract (encS n).size S.size = R := by
  subst h
  refine ⟨?_, by rw [ByteArray.size_append]; omega, ?_⟩
  · rw [ByteArray.data_append, Array.toList_append]
    exact dec_enc9 n hn _
  · apply ByteArray.ext
    apply Array.toList_inj.1
    rw [extract_tail, ByteArray.data_append, Array.toList_append]
    exact List.drop_left' rfl
theorem text_next (b : Nat) (t : ByteArray) (ht : t.size ≤ 9223372036854775807) (S R : ByteArray) (hS : S = (encS t.size ++ t) ++ R) (hs : S.size ≤ 9223372036854775807) (w : World) (h : Rd w b S 0) :
    Calls Try.prog 62 #[.pointer (some ⟨b, 0, none⟩), .int .i64 t.size] w fun x w' => x = .returned (.string t) ∧ Rd w' b R 0 ∧ Upd b w w' := by
  rw [ByteArray.append_assoc] at hS
  obtain ⟨h1, h2, h3⟩ := dec_app t.size (by omega) S (t ++ R) hS
  have hz : S.size - (encS t.size).size = (t ++ R).size := by rw [← h3]; simp
  refine (text_any b S hs t.size (by omega) (by omega) w h).mono ?_
  rintro x w' ⟨hu, hx⟩
  rw [h1] at hx
  obtain ⟨_, hx⟩ := hx
  rw [if_neg (by omega), hz, if_neg (by rw [ByteArray.size_append]; omega), h3] at hx
  obtain ⟨hx, hr⟩ := hx
  have e1 : (t ++ R).extract 0 t.size = t := by
    apply ByteArray.ext
    apply Array.toList_inj.1
    rw [extract_list, ByteArray.data_append, Array.toList_append]
    exact List.take_left' rfl
  have e2 : (t ++ R).extract t.size (t ++ R).size = R := by
    apply ByteArray.ext
    apply Array.toList_inj.1
    rw [extract_tail, ByteArray.data_append, Array.toList_append]
    exact List.drop_left' rfl
  rw [e1] at hx
  rw [e2] at hr
  exact ⟨hx, hr, hu⟩
theorem Upd.cellk {b v i : Nat} {w w' : World} {x : Value} (h : Upd b w w') (hne : v ≠ b) (hc : w.cell? ⟨v, i, none⟩ = some x) : w'.cell? ⟨v, i, none⟩ = some x := by
  have := h.block v (cell_lt hc) hne
  rw [← hc]
  exact World.cell?_of_block this

/-- what Few answers -/
def FewPost (len : Nat) (T : Nat → ByteArray) (w : World) (e : Ending) (w' : World) : Prop :=
  ∃ x : Bool, e = .returned (.bool x) ∧ (x = true → len ≤ 30 ∧ ∀ i, i < len → (T i).size ≤ 200) ∧ w = w'
end Go.Proofs.Ytabbkgbgldgfeaa
namespace Go.Proofs.Ytabbkgbgldgfeaa
open Go.Lib Go.ChangeShapes Go.WideShapes Go.ChangeAt Go.RowKit

/-- a reader of the specification, as a value -/
def rdr (s : ByteArray) (e : Nat) : Value := .agg #[.string s, .int .i64 e]

theorem fail_any (e : Nat) (w : World) : Calls Try.prog 78 #[.int .i64 e] w fun x w' => x = .returned (rdr ⟨#[]⟩ e) ∧ Below w.heap.size w w' := by
  go_enter Try.func78, Try.ntmps78
  go_wp2_with fail
  refine bodyPost_ret (v := rdr ⟨#[]⟩ e) (by simp [results, Try.results78, go_sem, rdr]) rfl ⟨rfl, ?_⟩
  exact (Below.refl _ w).alloc (Nat.le_refl _) _

set_option maxRecDepth 100000 in
theorem refNumber_stop (s : ByteArray) (e : Nat) (he : e ≠ 0) (w : World) : Calls Try.prog 77 #[rdr s e] w fun x w' => x = .returned (.tuple #[.int .u64 0, rdr s e]) ∧ Below w.heap.size w w' := by
  have he2 : ((e : Int) == 0) = false := by simp [he]
  unfold rdr
  go_enter Try.func77, Try.ntmps77
  go_wp2_with fail
  go_region
  go_wp2_with fail
  refine bodyPost_ret (v := .tuple #[.int .u64 0, .agg #[.string s, .int .i64 e]]) (by simp [results, Try.results77, go_sem]) rfl ⟨rfl, ?_⟩
  exact (((Below.refl _ w).alloc (Nat.le_refl _) _).alloc (by simp) _).drew

theorem acc_add (k m x : Nat) (hk : k ≤ 9) (_hx : x < 256) (h9 : k = 9 → x ≤ 1) (hm : m < 128 ^ k) :
    IntKind.u64.wrap ((m : Int) + IntKind.u64.wrap ((x : Int) % 128 * 2 ^ (7 * k))) = ((m + x % 128 * 128 ^ k : Nat) : Int) := by
  have hd := digit_lt k x hk h9
  have hsum : m + x % 128 * 128 ^ k < 18446744073709551616 := by
    have h1 := digit_acc k m x hm
    rcases Nat.lt_or_ge k 9 with h | h
    · have h2 : 128 ^ (k + 1) ≤ 128 ^ 9 := Nat.pow_le_pow_right (by decide) (by omega)
      have h4 : 128 ^ 9 < 18446744073709551616 := by decide
      omega
    · obtain rfl : k = 9 := by omega
      have h2 : x % 128 ≤ 1 := Nat.le_trans (Nat.mod_le _ _) (h9 rfl)
      have h3 : x % 128 * 128 ^ 9 ≤ 1 * 128 ^ 9 := Nat.mul_le_mul_right _ h2
      have h4 : 128 ^ 9 + 128 ^ 9 = 18446744073709551616 := by decide
      omega
  have e2 : (x : Int) % 128 * 2 ^ (7 * k) = ((x % 128 * 128 ^ k : Nat) : Int) := by
    rw [← pow128]; simp
  rw [e2, IntWalk.u64_in ((x % 128 * 128 ^ k : Nat) : Int) (by omega), IntWalk.u64_in _ (by omega)]
  omega
/-- two blocks, the second of two cells, behind something that only adds -/
theorem two_kept {w w2 : World} {A : Array Value} {s t : TypeId} {x y : Value} (hb : Below ((w.alloc (.cells A s)).alloc (.cells #[x, y] t)).heap.size ((w.alloc (.cells A s)).alloc (.cells #[x, y] t)) w2) :
    w2.cell? ⟨w.heap.size + 1, 0, none⟩ = some x ∧ w2.cell? ⟨w.heap.size + 1, 1, none⟩ = some y ∧ w2.frozen? ⟨w.heap.size + 1, 0, none⟩ = false ∧ w2.frozen? ⟨w.heap.size + 1, 1, none⟩ = false := by
  have hh : w2.heap[w.heap.size + 1]? = some (.cells #[x, y] t (0, 0)) := by
    rw [hb.block (w.heap.size + 1) (by simp)]
    have h := (MapKept.heap_alloc (w.alloc (.cells A s)) (.cells #[x, y] t)).1
    simp only [World.size_alloc] at h
    exact h
  simp [World.cell?, World.frozen?, hh]

/-- what reading a number answers -/
def RefNum (s : ByteArray) (w : World) (x : Ending) (w' : World) : Prop :=
  Below w.heap.size w w' ∧ match dec s.data.toList 0 0 with
  | none => x = .returned (.tuple #[.int .u64 0, rdr ⟨#[]⟩ 11])
  | some (n, c) => x = .returned (.tuple #[.int .u64 n, rdr (s.extract c s.size) 0])

set_option maxRecDepth 100000 in
set_option maxHeartbeats 2000000 in
theorem refNumber_any (s : ByteArray) (hs : s.size ≤ 1000000) (w : World) : Calls Try.prog 77 #[rdr s 0] w (RefNum s w) := by
  have HB2 := hid (((Below.refl _ w).alloc (Nat.le_refl _) (.cells #[.string s, .int .i64 0] 61)).alloc (by simp) (.cells #[.string ⟨#[]⟩, .int .i64 0] 61))
  unfold rdr
  go_enter Try.func77, Try.ntmps77
  go_wp2_with fail
  go_loop [4, 5] (fun v i => ∃ k m : Nat, k ≤ s.size ∧ k ≤ 10 ∧ i = .int .i64 k ∧ v = .int .u64 m ∧ m < 128 ^ k ∧ dec s.data.toList 0 0 = dec (s.data.toList.drop k) k m) (fun _ i => 10 - (intOf i).toNat)
  case atStart => exact ⟨0, 0, by omega, by omega, rfl, rfl, by simp, rfl⟩
  case round =>
    obtain ⟨k, m, hk, hk10, rfl, rfl, hmb, hm⟩ := hrel
    have HM := hid hm
    have HB := hid hmb
    clear hm hmb
    by_cases hlt : k < s.size ∧ k < 10
    · obtain ⟨hlt, hk9⟩ := hlt
      have hlt' : (k : Int) < s.size := by omega
      have hk9' : (k : Int) < 10 := by omega
      have HA := hid (fun (h9 : k = 9 → s[k].toNat ≤ 1) => acc_add k m s[k].toNat (by omega) s[k].toNat_lt h9 HB.out)
      have HD := hid (dec_at s k m hlt)
      by_cases hbad : k = 9 ∧ 1 < s[k].toNat
      · have HK := hid hbad
        have hkb : ((k : Int) == 9) = true := by simp [hbad.1]
        have hb1 : 1 < (s[k].toNat : Int) := by have := hbad.2; omega
        clear hbad
        go_wp2_with fail
        refine (fail_any 11 _).mono ?_
        rintro x w2 ⟨rfl, hb⟩
        obtain ⟨g0, g1, g2, g3⟩ := two_kept hb
        have hz := hid (HB2.out.trans (hb.mono HB2.out.size))
        clear hb
        unfold rdr
        go_wp2_with fail
        refine bodyPost_ret (v := .tuple #[.int .u64 0, .agg #[.string ⟨#[]⟩, .int .i64 11]]) (by simp [results, Try.results77, go_sem, g0, g1]) rfl ?_
        unfold RefNum; rw [HM.out, HD.out, if_neg (by omega), if_pos HK.out]
        exact ⟨(hz.out.setCell (by simp) _).setCell (by simp) _, rfl⟩
      · have hx9 : k = 9 → s[k].toNat ≤ 1 := fun h => by
          rcases Nat.lt_or_ge 1 s[k].toNat with h1 | h1
          · exact absurd ⟨h, h1⟩ hbad
          · exact h1
        have HV := hid (HA.out hx9)
        have HG := hid hbad
        obtain ⟨y, hy⟩ : ∃ y, y = m + s[k].toNat % 128 * 128 ^ k := ⟨_, rfl⟩
        have hval := HV.out
        rw [← hy] at hval
        have HY := hid hy
        have HX9 := hid hx9
        clear hbad hx9 hy
        by_cases h128 : 128 ≤ s[k].toNat
        · have h9 : ((k : Int) == 9) = false := by
            have := HX9.out
            simp only [beq_eq_false_iff_ne]; omega
          have h1 : ¬ (s[k].toNat : Int) < 128 := by omega
          go_wp2_with fail
          go_round
          case rel => exact ⟨k + 1, y, by omega, by omega, by go_num, rfl, by rw [HY.out]; exact digit_acc _ _ _ HB.out, by rw [HM.out, HD.out, if_neg (by omega), if_neg HG.out, if_pos h128, ← HY.out]⟩
          case measure => simp [intOf]; omega
        · have h1 : (s[k].toNat : Int) < 128 := by omega
          have hgt : k = 9 → ¬ 1 < (s[k].toNat : Int) := fun h => by have := HX9.out h; omega
          have HGT := hid hgt
          clear hgt
          by_cases h0 : s[k].toNat = 0
          · have e0 : dec (s.data.toList.drop k) k m = if 0 < k then none else some (y, k + 1) := by
              rw [HD.out, if_neg (by omega), if_neg HG.out, if_neg h128, ← HY.out]
              by_cases hp : 0 < k
              · rw [if_pos ⟨h0, hp⟩, if_pos hp]
              · rw [if_neg (by omega), if_neg hp]
            have HE0 := hid e0
            have HZ := hid h0
            have hb0 : ((s[k].toNat : Int) == 0) = true := by simp [h0]
            clear e0 h0
            by_cases hp : 0 < k
            · have hp' : (0 : Int) < k := by omega
              by_cases h9 : k = 9
              · have h9b : ((k : Int) == 9) = true := by simp [h9]
                have hq : ¬ 1 < (s[k].toNat : Int) := HGT.out h9
                clear h9
                go_wp2_with fail
                refine (fail_any 11 _).mono ?_
                rintro x w2 ⟨rfl, hb⟩
                obtain ⟨g0, g1, g2, g3⟩ := two_kept hb
                have hz := hid (HB2.out.trans (hb.mono HB2.out.size))
                clear hb
                unfold rdr
                go_wp2_with fail
                refine bodyPost_ret (v := .tuple #[.int .u64 0, .agg #[.string ⟨#[]⟩, .int .i64 11]]) (by simp [results, Try.results77, go_sem, g0, g1]) rfl ?_
                unfold RefNum; rw [HM.out, HE0.out, if_pos hp]
                exact ⟨(hz.out.setCell (by simp) _).setCell (by simp) _, rfl⟩
              · have h9b : ((k : Int) == 9) = false := by simp only [beq_eq_false_iff_ne]; omega
                clear h9
                go_wp2_with fail
                refine (fail_any 11 _).mono ?_
                rintro x w2 ⟨rfl, hb⟩
                obtain ⟨g0, g1, g2, g3⟩ := two_kept hb
                have hz := hid (HB2.out.trans (hb.mono HB2.out.size))
                clear hb
                unfold rdr
                go_wp2_with fail
                refine bodyPost_ret (v := .tuple #[.int .u64 0, .agg #[.string ⟨#[]⟩, .int .i64 11]]) (by simp [results, Try.results77, go_sem, g0, g1]) rfl ?_
                unfold RefNum; rw [HM.out, HE0.out, if_pos hp]
                exact ⟨(hz.out.setCell (by simp) _).setCell (by simp) _, rfl⟩
            · have hk0 : k = 0 := by omega
              have h9b : ((k : Int) == 9) = false := by simp only [beq_eq_false_iff_ne]; omega
              have hp' : ¬ (0 : Int) < k := by omega
              have HK0 := hid hk0
              clear hk0
              go_wp2_with fail
              go_region
              go_wp2_with fail
              refine bodyPost_ret (v := .tuple #[.int .u64 y, .agg #[.string (s.extract (k + 1) s.size), .int .i64 0]]) (by simp [results, Try.results77, go_sem]) rfl ?_
              unfold RefNum; rw [HM.out, HE0.out, if_neg hp]
              exact ⟨(((Below.refl _ w).alloc (Nat.le_refl _) _).alloc (by simp) _).drew, rfl⟩
          · have HE0 : Hid (dec (s.data.toList.drop k) k m = some (y, k + 1)) := by
              show _ = _
              rw [HD.out, if_neg (by omega), if_neg HG.out, if_neg h128, if_neg (by omega), ← HY.out]
            have hb0 : ((s[k].toNat : Int) == 0) = false := by simp only [beq_eq_false_iff_ne]; omega
            clear h0
            by_cases h9 : k = 9
            · have h9b : ((k : Int) == 9) = true := by simp [h9]
              have hq : ¬ 1 < (s[k].toNat : Int) := HGT.out h9
              clear h9
              go_wp2_with fail
              go_region
              go_wp2_with fail
              refine bodyPost_ret (v := .tuple #[.int .u64 y, .agg #[.string (s.extract (k + 1) s.size), .int .i64 0]]) (by simp [results, Try.results77, go_sem]) rfl ?_
              unfold RefNum; rw [HM.out, HE0.out]
              exact ⟨(((Below.refl _ w).alloc (Nat.le_refl _) _).alloc (by simp) _).drew, rfl⟩
            · have h9b : ((k : Int) == 9) = false := by simp only [beq_eq_false_iff_ne]; omega
              clear h9
              go_wp2_with fail
              go_region
              go_wp2_with fail
              refine bodyPost_ret (v := .tuple #[.int .u64 y, .agg #[.string (s.extract (k + 1) s.size), .int .i64 0]]) (by simp [results, Try.results77, go_sem]) rfl ?_
              unfold RefNum; rw [HM.out, HE0.out]
              exact ⟨(((Below.refl _ w).alloc (Nat.le_refl _) _).alloc (by simp) _).drew, rfl⟩
    · have HE0 : Hid (dec (s.data.toList.drop k) k m = none) := by
        show _ = _
        rcases Nat.lt_or_ge k s.size with h | h
        · rw [dec_at s k m h, if_pos (by omega)]
        · rw [List.drop_eq_nil_of_le (by simpa using h)]; rfl
      by_cases hsz : k < s.size
      · have h1 : (k : Int) < s.size := by omega
        have h2 : ¬ (k : Int) < 10 := by omega
        clear hlt
        go_wp2_with fail
        refine (fail_any 11 _).mono ?_
        rintro x w2 ⟨rfl, hb⟩
        obtain ⟨g0, g1, g2, g3⟩ := two_kept hb
        have hz := hid (HB2.out.trans (hb.mono HB2.out.size))
        clear hb
        unfold rdr
        go_wp2_with fail
        refine bodyPost_ret (v := .tuple #[.int .u64 0, .agg #[.string ⟨#[]⟩, .int .i64 11]]) (by simp [results, Try.results77, go_sem, g0, g1]) rfl ?_
        unfold RefNum; rw [HM.out, HE0.out]
        exact ⟨(hz.out.setCell (by simp) _).setCell (by simp) _, rfl⟩
      · have h1 : ¬ (k : Int) < s.size := by omega
        clear hlt
        go_wp2_with fail
        refine (fail_any 11 _).mono ?_
        rintro x w2 ⟨rfl, hb⟩
        obtain ⟨g0, g1, g2, g3⟩ := two_kept hb
        have hz := hid (HB2.out.trans (hb.mono HB2.out.size))
        clear hb
        unfold rdr
        go_wp2_with fail
        refine bodyPost_ret (v := .tuple #[.int .u64 0, .agg #[.string ⟨#[]⟩, .int .i64 11]]) (by simp [results, Try.results77, go_sem, g0, g1]) rfl ?_
        unfold RefNum; rw [HM.out, HE0.out]
        exact ⟨(hz.out.setCell (by simp) _).setCell (by simp) _, rfl⟩
end Go.Proofs.Ytabbkgbgldgfeaa
namespace Go.Proofs.Ytabbkgbgldgfeaa
open Go.Lib Go.ChangeShapes Go.WideShapes Go.ChangeAt Go.RowKit

/-- a block behind something that only adds -/
theorem cells_kept {w w2 : World} {b : Nat} {x y : Value} {t : TypeId} (hb : Below w.heap.size w w2) (hh : w.heap[b]? = some (.cells #[x, y] t (0, 0))) :
    w2.cell? ⟨b, 0, none⟩ = some x ∧ w2.cell? ⟨b, 1, none⟩ = some y ∧ w2.frozen? ⟨b, 0, none⟩ = false ∧ w2.frozen? ⟨b, 1, none⟩ = false ∧ b < w2.heap.size := by
  have hlt : b < w.heap.size := by
    rcases Nat.lt_or_ge b w.heap.size with h | h
    · exact h
    · rw [Array.getElem?_eq_none h] at hh; cases hh
  have h2 : w2.heap[b]? = some (.cells #[x, y] t (0, 0)) := by rw [hb.block b hlt]; exact hh
  simp [World.cell?, World.frozen?, h2]
  exact Nat.lt_of_lt_of_le hlt hb.size

def RefInt (s : ByteArray) (w : World) (x : Ending) (w' : World) : Prop :=
  Below w.heap.size w w' ∧ match dec s.data.toList 0 0 with
  | none => x = .returned (.tuple #[.int .i64 0, rdr ⟨#[]⟩ 11])
  | some (n, c) => x = .returned (.tuple #[.int .i64 (zag n), rdr (s.extract c s.size) 0])
def RefBool (s : ByteArray) (w : World) (x : Ending) (w' : World) : Prop :=
  Below w.heap.size w w' ∧ match decB s.data.toList with
  | none => x = .returned (.tuple #[.bool false, rdr ⟨#[]⟩ 11])
  | some n => x = .returned (.tuple #[.bool (n == 1), rdr (s.extract 1 s.size) 0])
end Go.Proofs.Ytabbkgbgldgfeaa
namespace Go.Proofs.Ytabbkgbgldgfeaa
open Go.Lib Go.ChangeShapes Go.WideShapes Go.ChangeAt Go.RowKit

set_option maxRecDepth 100000 in
set_option maxHeartbeats 1000000 in
theorem refCount_err (s0 s : ByteArray) (e0 e : Nat) (he : e ≠ 0) (most : Int) (w : World) (hc : ∀ w, Calls Try.prog 77 #[rdr s0 e0] w fun x w' => x = .returned (.tuple #[.int .u64 0, rdr s e]) ∧ Below w.heap.size w w') :
    Calls Try.prog 59 #[rdr s0 e0, .int .i64 most] w fun x w' => x = .returned (.tuple #[.int .i64 0, rdr s e]) ∧ Below w.heap.size w w' := by
  have HC := hid hc
  have he2 : ((e : Int) == 0) = false := by simp [he]
  clear hc he
  unfold rdr at *
  go_enter Try.func59, Try.ntmps59
  go_wp2_with fail
  refine (HC.out _).mono ?_
  rintro x w2 ⟨rfl, hb⟩
  obtain ⟨g0, g1, g2, g3⟩ := two_kept hb
  have hlt : w.heap.size + 1 < w2.heap.size := by have := hb.size; simp at this; omega
  have HW := hid hb
  have HB := hid (((((Below.refl _ w).alloc (Nat.le_refl _) (.cells #[.string s0, .int .i64 e0] 61)).alloc (by simp) (.cells #[.string ⟨#[]⟩, .int .i64 0] 61)).trans (hb.mono (by simp; omega))))
  clear hb
  go_wp2_with fail
  go_region
  go_wp2_with fail
  refine bodyPost_ret (v := .tuple #[.int .i64 0, .agg #[.string s, .int .i64 e]]) (by simp [results, Try.results59, go_sem, g0, g1, hlt]) rfl ⟨rfl, ?_⟩
  exact (((HB.out.setCell (by simp) _).setCell (by simp) _).alloc (by have := HB.out.size; simpa [World.setCell] using this) _).drew

set_option maxRecDepth 100000 in
set_option maxHeartbeats 1000000 in
theorem refCount_more (s0 s : ByteArray) (e0 n : Nat) (most : Int) (m1 : most ≤ 9223372036854775807) (hm : most < (n : Int)) (w : World) (hc : ∀ w, Calls Try.prog 77 #[rdr s0 e0] w fun x w' => x = .returned (.tuple #[.int .u64 n, rdr s 0]) ∧ Below w.heap.size w w') :
    Calls Try.prog 59 #[rdr s0 e0, .int .i64 most] w fun x w' => x = .returned (.tuple #[.int .i64 0, rdr ⟨#[]⟩ 8]) ∧ Below w.heap.size w w' := by
  have HC := hid hc
  clear hc
  unfold rdr at *
  by_cases hneg : most < 0
  · clear hm
    go_enter Try.func59, Try.ntmps59
    go_wp2_with fail
    refine (HC.out _).mono ?_
    rintro x w2 ⟨rfl, hb⟩
    obtain ⟨g0, g1, g2, g3⟩ := two_kept hb
    have hlt : w.heap.size + 1 < w2.heap.size := by have := hb.size; simp at this; omega
    have HW := hid hb
    have HB := hid (((((Below.refl _ w).alloc (Nat.le_refl _) (.cells #[.string s0, .int .i64 e0] 61)).alloc (by simp) (.cells #[.string ⟨#[]⟩, .int .i64 0] 61)).trans (hb.mono (by simp; omega))))
    clear hb
    go_wp2_with fail
    refine (fail_any 8 _).mono ?_
    rintro x w3 ⟨rfl, hb3⟩
    obtain ⟨k0, k1, k2, k3⟩ := two_kept ((HW.out.alloc HW.out.size (.cells #[.string s, .int .i64 0] 61)).trans (hb3.mono (by have := HW.out.size; simp at this ⊢; omega)))
    have hlt3 : w.heap.size + 1 < w3.heap.size := by have := hb3.size; simp at this; omega
    have HB3 := hid ((HB.out.alloc HB.out.size (.cells #[.string s, .int .i64 0] 61)).trans (hb3.mono (by have := HB.out.size; simp; omega)))
    clear hb3
    unfold rdr
    go_wp2_with fail
    refine bodyPost_ret (v := .tuple #[.int .i64 0, .agg #[.string ⟨#[]⟩, .int .i64 8]]) (by simp [results, Try.results59, go_sem, k0, k1]) rfl ⟨rfl, ?_⟩
    exact (HB3.out.setCell (by simp) _).setCell (by simp) _
  · obtain ⟨m, rfl⟩ := Int.eq_ofNat_of_zero_le (show 0 ≤ most by omega)
    have hw : IntKind.u64.wrap (m : Int) = m := IntWalk.u64_in _ (by omega)
    go_enter Try.func59, Try.ntmps59
    go_wp2_with fail
    refine (HC.out _).mono ?_
    rintro x w2 ⟨rfl, hb⟩
    obtain ⟨g0, g1, g2, g3⟩ := two_kept hb
    have hlt : w.heap.size + 1 < w2.heap.size := by have := hb.size; simp at this; omega
    have HW := hid hb
    have HB := hid (((((Below.refl _ w).alloc (Nat.le_refl _) (.cells #[.string s0, .int .i64 e0] 61)).alloc (by simp) (.cells #[.string ⟨#[]⟩, .int .i64 0] 61)).trans (hb.mono (by simp; omega))))
    clear hb
    go_wp2_with fail
    refine (fail_any 8 _).mono ?_
    rintro x w3 ⟨rfl, hb3⟩
    obtain ⟨k0, k1, k2, k3⟩ := two_kept ((HW.out.alloc HW.out.size (.cells #[.string s, .int .i64 0] 61)).trans (hb3.mono (by have := HW.out.size; simp at this ⊢; omega)))
    have hlt3 : w.heap.size + 1 < w3.heap.size := by have := hb3.size; simp at this; omega
    have HB3 := hid ((HB.out.alloc HB.out.size (.cells #[.string s, .int .i64 0] 61)).trans (hb3.mono (by have := HB.out.size; simp; omega)))
    clear hb3
    unfold rdr
    go_wp2_with fail
    refine bodyPost_ret (v := .tuple #[.int .i64 0, .agg #[.string ⟨#[]⟩, .int .i64 8]]) (by simp [results, Try.results59, go_sem, k0, k1]) rfl ⟨rfl, ?_⟩
    exact (HB3.out.setCell (by simp) _).setCell (by simp) _

set_option maxRecDepth 100000 in
set_option maxHeartbeats 1000000 in
theorem refCount_ok (s0 s : ByteArray) (e0 n m : Nat) (m1 : m ≤ 9223372036854775807) (hm : n ≤ m) (w : World) (hc : ∀ w, Calls Try.prog 77 #[rdr s0 e0] w fun x w' => x = .returned (.tuple #[.int .u64 n, rdr s 0]) ∧ Below w.heap.size w w') :
    Calls Try.prog 59 #[rdr s0 e0, .int .i64 m] w fun x w' => x = .returned (.tuple #[.int .i64 n, rdr s 0]) ∧ Below w.heap.size w w' := by
  have HC := hid hc
  have hw : IntKind.u64.wrap (m : Int) = m := IntWalk.u64_in _ (by omega)
  have hw2 : IntKind.i64.wrap (n : Int) = n := IntWalk.i64_in _ (by omega)
  have hmn : ¬ (m : Int) < n := by omega
  have hm0 : ¬ (m : Int) < 0 := by omega
  clear hc hm
  unfold rdr at *
  go_enter Try.func59, Try.ntmps59
  go_wp2_with fail
  refine (HC.out _).mono ?_
  rintro x w2 ⟨rfl, hb⟩
  obtain ⟨g0, g1, g2, g3⟩ := two_kept hb
  have hlt : w.heap.size + 1 < w2.heap.size := by have := hb.size; simp at this; omega
  have HW := hid hb
  have HB := hid (((((Below.refl _ w).alloc (Nat.le_refl _) (.cells #[.string s0, .int .i64 e0] 61)).alloc (by simp) (.cells #[.string ⟨#[]⟩, .int .i64 0] 61)).trans (hb.mono (by simp; omega))))
  clear hb
  go_wp2_with fail
  go_region
  go_wp2_with fail
  refine bodyPost_ret (v := .tuple #[.int .i64 n, .agg #[.string s, .int .i64 0]]) (by simp [results, Try.results59, go_sem, g0, g1, hlt]) rfl ⟨rfl, ?_⟩
  exact (((HB.out.setCell (by simp) _).setCell (by simp) _).alloc (by have := HB.out.size; simpa [World.setCell] using this) _).drew

set_option maxRecDepth 100000 in
set_option maxHeartbeats 1000000 in
theorem refText_err (s0 s : ByteArray) (e0 e : Nat) (he : e ≠ 0) (n : Nat) (most : Int) (w : World) (hc : ∀ w, Calls Try.prog 59 #[rdr s0 e0, .int .i64 most] w fun x w' => x = .returned (.tuple #[.int .i64 n, rdr s e]) ∧ Below w.heap.size w w') :
    Calls Try.prog 60 #[rdr s0 e0, .int .i64 most] w fun x w' => x = .returned (.tuple #[.string ⟨#[]⟩, rdr s e]) ∧ Below w.heap.size w w' := by
  have HC := hid hc
  have he2 : ((e : Int) == 0) = false := by simp [he]
  clear hc he
  unfold rdr at *
  go_enter Try.func60, Try.ntmps60
  go_wp2_with fail
  refine (HC.out _).mono ?_
  rintro x w2 ⟨rfl, hb⟩
  obtain ⟨g0, g1, g2, g3⟩ := two_kept hb
  have hlt : w.heap.size + 1 < w2.heap.size := by have := hb.size; simp at this; omega
  have HW := hid hb
  have HB := hid (((((Below.refl _ w).alloc (Nat.le_refl _) (.cells #[.string s0, .int .i64 e0] 61)).alloc (by simp) (.cells #[.string ⟨#[]⟩, .int .i64 0] 61)).trans (hb.mono (by simp; omega))))
  clear hb
  go_wp2_with fail
  go_region
  go_wp2_with fail
  refine bodyPost_ret (v := .tuple #[.string ⟨#[]⟩, .agg #[.string s, .int .i64 e]]) (by simp [results, Try.results60, go_sem, g0, g1, hlt]) rfl ⟨rfl, ?_⟩
  exact (((HB.out.setCell (by simp) _).setCell (by simp) _).alloc (by have := HB.out.size; simpa [World.setCell] using this) _).drew

set_option maxRecDepth 100000 in
set_option maxHeartbeats 1000000 in
theorem refText_more (s0 s : ByteArray) (e0 n : Nat) (hn : s.size < n) (most : Int) (w : World) (hc : ∀ w, Calls Try.prog 59 #[rdr s0 e0, .int .i64 most] w fun x w' => x = .returned (.tuple #[.int .i64 n, rdr s 0]) ∧ Below w.heap.size w w') :
    Calls Try.prog 60 #[rdr s0 e0, .int .i64 most] w fun x w' => x = .returned (.tuple #[.string ⟨#[]⟩, rdr ⟨#[]⟩ 11]) ∧ Below w.heap.size w w' := by
  have HC := hid hc
  have hn' : (s.size : Int) < n := by omega
  clear hc
  unfold rdr at *
  go_enter Try.func60, Try.ntmps60
  go_wp2_with fail
  refine (HC.out _).mono ?_
  rintro x w2 ⟨rfl, hb⟩
  obtain ⟨g0, g1, g2, g3⟩ := two_kept hb
  have hlt : w.heap.size + 1 < w2.heap.size := by have := hb.size; simp at this; omega
  have HW := hid hb
  have HB := hid (((((Below.refl _ w).alloc (Nat.le_refl _) (.cells #[.string s0, .int .i64 e0] 61)).alloc (by simp) (.cells #[.string ⟨#[]⟩, .int .i64 0] 61)).trans (hb.mono (by simp; omega))))
  clear hb
  go_wp2_with fail
  refine (fail_any 11 _).mono ?_
  rintro x w3 ⟨rfl, hb3⟩
  obtain ⟨k0, k1, k2, k3⟩ := two_kept ((HW.out.alloc HW.out.size (.cells #[.string s, .int .i64 0] 61)).trans (hb3.mono (by have := HW.out.size; simp at this ⊢; omega)))
  have hlt3 : w.heap.size + 1 < w3.heap.size := by have := hb3.size; simp at this; omega
  have HB3 := hid ((HB.out.alloc HB.out.size (.cells #[.string s, .int .i64 0] 61)).trans (hb3.mono (by have := HB.out.size; simp; omega)))
  clear hb3
  unfold rdr
  go_wp2_with fail
  refine bodyPost_ret (v := .tuple #[.string ⟨#[]⟩, .agg #[.string ⟨#[]⟩, .int .i64 11]]) (by simp [results, Try.results60, go_sem, k0, k1]) rfl ⟨rfl, ?_⟩
  exact (HB3.out.setCell (by simp) _).setCell (by simp) _

set_option maxRecDepth 100000 in
set_option maxHeartbeats 1000000 in
theorem refText_ok (s0 s : ByteArray) (e0 n : Nat) (hn : n ≤ s.size) (_hs : s.size ≤ 1000000) (most : Int) (w : World) (hc : ∀ w, Calls Try.prog 59 #[rdr s0 e0, .int .i64 most] w fun x w' => x = .returned (.tuple #[.int .i64 n, rdr s 0]) ∧ Below w.heap.size w w') :
    Calls Try.prog 60 #[rdr s0 e0, .int .i64 most] w fun x w' => x = .returned (.tuple #[.string (s.extract 0 n), rdr (s.extract n s.size) 0]) ∧ Below w.heap.size w w' := by
  have HC := hid hc
  have hn' : ¬ (s.size : Int) < n := by omega
  have hn2 : (n : Int) ≤ s.size := by omega
  obtain ⟨t, ht⟩ : ∃ t, t = s.extract 0 n := ⟨_, rfl⟩
  obtain ⟨u, hu⟩ : ∃ u, u = s.extract n s.size := ⟨_, rfl⟩
  have ht' := ht.symm
  have hu' := hu.symm
  rw [← ht, ← hu]
  clear hc ht hu
  unfold rdr at *
  go_enter Try.func60, Try.ntmps60
  go_wp2_with fail
  refine (HC.out _).mono ?_
  rintro x w2 ⟨rfl, hb⟩
  obtain ⟨g0, g1, g2, g3⟩ := two_kept hb
  have hlt : w.heap.size + 1 < w2.heap.size := by have := hb.size; simp at this; omega
  have HW := hid hb
  have HB := hid (((((Below.refl _ w).alloc (Nat.le_refl _) (.cells #[.string s0, .int .i64 e0] 61)).alloc (by simp) (.cells #[.string ⟨#[]⟩, .int .i64 0] 61)).trans (hb.mono (by simp; omega))))
  clear hb
  go_wp2_with fail
  go_region
  go_wp2_with fail
  refine bodyPost_ret (v := .tuple #[.string t, .agg #[.string u, .int .i64 0]]) (by simp [results, Try.results60, go_sem, g0, g1, hlt]) rfl ⟨rfl, ?_⟩
  exact (((HB.out.setCell (by simp) _).setCell (by simp) _).alloc (by have := HB.out.size; simpa [World.setCell] using this) _).drew

end Go.Proofs.Ytabbkgbgldgfeaa
namespace Go.Proofs.Ytabbkgbgldgfeaa
open Go.Lib Go.ChangeShapes Go.WideShapes Go.ChangeAt Go.RowKit

theorem extract_le (s : ByteArray) (a b n : Nat) (h : s.size ≤ n) : (s.extract a b).size ≤ n := by simp; omega

theorem pairCount (b : Nat) (s : ByteArray) (e : Nat) (m : Int) (m0 : -9223372036854775808 ≤ m) (m1 : m ≤ 9223372036854775807) (hs : s.size ≤ 500) (hi : e ≠ 0 → s.size = 0) : ∃ (v : Nat) (t : ByteArray) (f : Nat),
    (∀ w, Rd w b s e → Calls Try.prog 63 #[.pointer (some ⟨b, 0, none⟩), .int .i64 m] w fun x w' => x = .returned (.int .i64 v) ∧ Rd w' b t f ∧ Upd b w w') ∧
    (∀ w, Calls Try.prog 59 #[rdr s e, .int .i64 m] w fun x w' => x = .returned (.tuple #[.int .i64 v, rdr t f]) ∧ Below w.heap.size w w') ∧ (f ≠ 0 → t.size = 0) ∧ t.size ≤ 500 := by
  by_cases he : e = 0
  · subst he
    clear hi
    cases hd : dec s.data.toList 0 0 with
    | none =>
      refine ⟨0, ⟨#[]⟩, 11, fun w h => (count_any b s (by omega) m m0 m1 w h).mono fun x w' hx => ?_, fun w => refCount_err s ⟨#[]⟩ 0 11 (by decide) m w (fun w => (refNumber_any s (by omega) w).mono fun x w' hx => by unfold RefNum at hx; rw [hd] at hx; exact ⟨hx.2, hx.1⟩), fun _ => rfl, by simp [ByteArray.size]⟩
      unfold CountDone at hx; rw [hd] at hx; exact ⟨hx.2.1, hx.2.2, hx.1⟩
    | some p =>
      obtain ⟨n, c⟩ := p
      by_cases hm : m < (n : Int)
      · refine ⟨0, ⟨#[]⟩, 8, fun w h => (count_any b s (by omega) m m0 m1 w h).mono fun x w' hx => ?_, fun w => refCount_more s (s.extract c s.size) 0 n m m1 hm w (fun w => (refNumber_any s (by omega) w).mono fun x w' hx => by unfold RefNum at hx; rw [hd] at hx; exact ⟨hx.2, hx.1⟩), fun _ => rfl, by simp [ByteArray.size]⟩
        unfold CountDone at hx; rw [hd] at hx; obtain ⟨h1, _, h2⟩ := hx; rw [if_pos hm] at h2; exact ⟨h2.1, h2.2, h1⟩
      · obtain ⟨k, rfl⟩ := Int.eq_ofNat_of_zero_le (show 0 ≤ m by omega)
        refine ⟨n, s.extract c s.size, 0, fun w h => (count_any b s (by omega) k m0 m1 w h).mono fun x w' hx => ?_, fun w => refCount_ok s (s.extract c s.size) 0 n k (by omega) (by omega) w (fun w => (refNumber_any s (by omega) w).mono fun x w' hx => by unfold RefNum at hx; rw [hd] at hx; exact ⟨hx.2, hx.1⟩), fun h => absurd rfl h, extract_le s c s.size 500 hs⟩
        unfold CountDone at hx; rw [hd] at hx; obtain ⟨h1, _, h2⟩ := hx; rw [if_neg hm] at h2; exact ⟨h2.1, h2.2, h1⟩
  · exact ⟨0, s, e, fun w h => count_stop b s e he m w h, fun w => refCount_err s s e e he m w (fun w => refNumber_stop s e he w), hi, hs⟩

theorem pairText (b : Nat) (s : ByteArray) (e : Nat) (m : Int) (m0 : -9223372036854775808 ≤ m) (m1 : m ≤ 9223372036854775807) (hs : s.size ≤ 500) (hi : e ≠ 0 → s.size = 0) : ∃ (v : ByteArray) (t : ByteArray) (f : Nat),
    (∀ w, Rd w b s e → Calls Try.prog 62 #[.pointer (some ⟨b, 0, none⟩), .int .i64 m] w fun x w' => x = .returned (.string v) ∧ Rd w' b t f ∧ Upd b w w') ∧
    (∀ w, Calls Try.prog 60 #[rdr s e, .int .i64 m] w fun x w' => x = .returned (.tuple #[.string v, rdr t f]) ∧ Below w.heap.size w w') ∧ (f ≠ 0 → t.size = 0) ∧ t.size ≤ 500 := by
  by_cases he : e = 0
  · subst he
    clear hi
    cases hd : dec s.data.toList 0 0 with
    | none =>
      refine ⟨⟨#[]⟩, ⟨#[]⟩, 11, fun w h => (text_any b s (by omega) m m0 m1 w h).mono fun x w' hx => ?_, fun w => refText_err s ⟨#[]⟩ 0 11 (by decide) 0 m w (fun w => refCount_err s ⟨#[]⟩ 0 11 (by decide) m w (fun w => (refNumber_any s (by omega) w).mono fun x w' hx => by unfold RefNum at hx; rw [hd] at hx; exact ⟨hx.2, hx.1⟩)), fun _ => rfl, by simp [ByteArray.size]⟩
      unfold TextDone at hx; rw [hd] at hx; exact ⟨hx.2.1, hx.2.2, hx.1⟩
    | some p =>
      obtain ⟨n, c⟩ := p
      by_cases hm : m < (n : Int)
      · refine ⟨⟨#[]⟩, ⟨#[]⟩, 8, fun w h => (text_any b s (by omega) m m0 m1 w h).mono fun x w' hx => ?_, fun w => refText_err s ⟨#[]⟩ 0 8 (by decide) 0 m w (fun w => refCount_more s (s.extract c s.size) 0 n m m1 hm w (fun w => (refNumber_any s (by omega) w).mono fun x w' hx => by unfold RefNum at hx; rw [hd] at hx; exact ⟨hx.2, hx.1⟩)), fun _ => rfl, by simp [ByteArray.size]⟩
        unfold TextDone at hx; rw [hd] at hx; obtain ⟨h1, _, h2⟩ := hx; rw [if_pos hm] at h2; exact ⟨h2.1, h2.2, h1⟩
      · obtain ⟨k, rfl⟩ := Int.eq_ofNat_of_zero_le (show 0 ≤ m by omega)
        have hz : (s.extract c s.size).size = s.size - c := by simp
        by_cases hn : s.size - c < n
        · refine ⟨⟨#[]⟩, ⟨#[]⟩, 11, fun w h => (text_any b s (by omega) k m0 m1 w h).mono fun x w' hx => ?_, fun w => refText_more s (s.extract c s.size) 0 n (by omega) k w (fun w => refCount_ok s (s.extract c s.size) 0 n k (by omega) (by omega) w (fun w => (refNumber_any s (by omega) w).mono fun x w' hx => by unfold RefNum at hx; rw [hd] at hx; exact ⟨hx.2, hx.1⟩)), fun _ => rfl, by simp [ByteArray.size]⟩
          unfold TextDone at hx; rw [hd] at hx; obtain ⟨h1, _, h2⟩ := hx; rw [if_neg hm, if_pos hn] at h2; exact ⟨h2.1, h2.2, h1⟩
        · have hsz := extract_le s c s.size 500 hs
          refine ⟨(s.extract c s.size).extract 0 n, (s.extract c s.size).extract n (s.size - c), 0, fun w h => (text_any b s (by omega) k m0 m1 w h).mono fun x w' hx => ?_, fun w => ?_, fun h => absurd rfl h, extract_le _ n _ 500 hsz⟩
          · unfold TextDone at hx; rw [hd] at hx; obtain ⟨h1, _, h2⟩ := hx; rw [if_neg hm, if_neg hn] at h2; exact ⟨h2.1, h2.2, h1⟩
          · rw [← hz]
            exact refText_ok s (s.extract c s.size) 0 n (by omega) (by omega) k w (fun w => refCount_ok s (s.extract c s.size) 0 n k (by omega) (by omega) w (fun w => (refNumber_any s (by omega) w).mono fun x w' hx => by unfold RefNum at hx; rw [hd] at hx; exact ⟨hx.2, hx.1⟩))
  · exact ⟨⟨#[]⟩, s, e, fun w h => text_stop b s e he m w h, fun w => refText_err s s e e he 0 m w (fun w => refCount_err s s e e he m w (fun w => refNumber_stop s e he w)), hi, hs⟩
end Go.Proofs.Ytabbkgbgldgfeaa
