import Derived.Test.YtlmhlinjlneagaaWireT8
import Derived.Test.YtlmhlinjlneagaaWireM4
namespace Go.Proofs.Ytlmhlinjlneagaa
open Go.Lib Go.ChangeShapes Go.WideShapes Go.ChangeAt Go.RowKit

/-- the encoding as a string -/
def encS (n : Nat) : ByteArray := ⟨(enc 9 n).toArray⟩
theorem encS_size (n : Nat) : 1 ≤ (encS n).size ∧ (encS n).size ≤ 10 := by
  have := enc_len 9 n
  have := enc_pos 9 n
  simp [encS, ByteArray.size]; omega
theorem add_ok (a b : ByteArray) (ha : a.size ≤ 1000000) (hb : b.size ≤ 1000000) (w : World) : (Op.stringOp .add a b).run Try.prog w = .ok (.string (a ++ b)) w :=
  run_string_add_sum w _ _ (by omega)

/-- a truth value's byte -/
def boolS (x : Bool) : ByteArray := if x then ⟨#[1]⟩ else ⟨#[0]⟩
theorem boolS_size (x : Bool) : (boolS x).size = 1 := by cases x <;> rfl
theorem zigzag_any (n : Int) (h0 : -9223372036854775808 ≤ n) (h1 : n ≤ 9223372036854775807) (w : World) :
    Calls Try.prog 52 #[.int .i64 n] w fun e w' => e = .returned (.int .u64 (zig n : Nat)) ∧ w = w' := by
  by_cases h : n < 0
  · have HZ : Hid ((zig n : Int) = 2 * (-(n + 1)) + 1) := by show _ = _; unfold zig; rw [if_pos h]; omega
    go_enter Try.func52, Try.ntmps52
    go_wp2
    go_ret
    exact ⟨by rw [HZ.out]; rfl, rfl⟩
  · have HZ : Hid ((zig n : Int) = 2 * n) := by show _ = _; unfold zig; rw [if_neg h]; omega
    go_enter Try.func52, Try.ntmps52
    go_wp2
    go_ret
    exact ⟨by rw [HZ.out]; rfl, rfl⟩

set_option maxRecDepth 100000 in
theorem refInt_any (n : Int) (h0 : -9223372036854775808 ≤ n) (h1 : n ≤ 9223372036854775807) (w : World) :
    Calls Try.prog 19 #[.int .i64 n] w fun e w' => e = .returned (.string (encS (zig n))) ∧ Below w.heap.size w w' := by
  have HZ := hid (zig_lt n h0 h1)
  go_enter Try.func19, Try.ntmps19
  go_wp2_with fail
  refine (zigzag_any n h0 h1 _).mono ?_
  rintro e w1 ⟨rfl, rfl⟩
  go_wp2_with fail
  refine (number_any (zig n) HZ.out _).mono ?_
  rintro e w1 ⟨rfl, hb⟩
  go_wp2_with fail
  go_ret
  exact ⟨rfl, hb⟩

theorem refBool_any (x : Bool) (w : World) :
    Calls Try.prog 21 #[.bool x] w fun e w' => e = .returned (.string (boolS x)) ∧ w = w' := by
  cases x
  all_goals
    go_enter Try.func21, Try.ntmps21
    go_wp2
    go_ret
    exact ⟨rfl, rfl⟩

set_option maxRecDepth 100000 in
theorem appendBool_any (s : ByteArray) (hs : s.size ≤ 1000000) (x : Bool) (w : World) :
    Calls Try.prog 20 #[.string s, .bool x] w fun e w' => e = .returned (.string (s ++ boolS x)) ∧ w = w' := by
  have h1 := add_ok s ⟨#[1]⟩ hs (by decide)
  have h2 := add_ok s ⟨#[0]⟩ hs (by decide)
  cases x
  all_goals
    go_enter Try.func20, Try.ntmps20
    go_wp2
    go_ret
    exact ⟨rfl, rfl⟩

set_option maxRecDepth 100000 in
theorem appendText_any (s t : ByteArray) (hs : s.size ≤ 900000) (ht : t.size ≤ 100000) (w : World) :
    Calls Try.prog 22 #[.string s, .string t] w fun e w' => e = .returned (.string (s ++ (encS t.size ++ t))) ∧ Below w.heap.size w w' := by
  have he := encS_size t.size
  have h1 := add_ok s (encS t.size) (by omega) (by omega)
  have h2 := add_ok (s ++ encS t.size) t (by rw [ByteArray.size_append]; omega) (by omega)
  have HT : Hid (t.size < 18446744073709551616) := by show t.size < _; omega
  have hu : IntKind.u64.wrap (t.size : Int) = t.size := IntWalk.u64_in _ (by omega)
  clear he
  go_enter Try.func22, Try.ntmps22
  go_wp2_with fail
  refine (encode_any t.size HT _).mono ?_
  rintro e w1 ⟨rfl, hb⟩
  rw [show (ByteArray.mk (enc 9 t.size).toArray) = encS t.size from rfl]
  go_wp2_with fail
  go_ret
  exact ⟨by rw [← ByteArray.append_assoc]; rfl, hb⟩

set_option maxRecDepth 100000 in
theorem refText_any (t : ByteArray) (ht : t.size ≤ 100000) (w : World) :
    Calls Try.prog 23 #[.string t] w fun e w' => e = .returned (.string (encS t.size ++ t)) ∧ Below w.heap.size w w' := by
  have he := encS_size t.size
  have h1 := add_ok (encS t.size) t (by omega) (by omega)
  have HT : Hid (t.size < 18446744073709551616) := by show t.size < _; omega
  have hu : IntKind.u64.wrap (t.size : Int) = t.size := IntWalk.u64_in _ (by omega)
  clear he
  go_enter Try.func23, Try.ntmps23
  go_wp2_with fail
  refine (number_any t.size HT.out _).mono ?_
  rintro e w1 ⟨rfl, hb⟩
  rw [show (ByteArray.mk (enc 9 t.size).toArray) = encS t.size from rfl]
  go_wp2_with fail
  go_ret
  exact ⟨rfl, hb⟩
end Go.Proofs.Ytlmhlinjlneagaa
