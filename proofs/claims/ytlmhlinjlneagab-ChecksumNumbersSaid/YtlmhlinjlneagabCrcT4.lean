import Derived.Test.YtlmhlinjlneagabCrcT3
namespace Go.Proofs.Ytlmhlinjlneagab
open Go.Lib Go.ChangeShapes Go.WideShapes Go.ChangeAt Go.RowKit
/-- the number that four bytes contain -/
def numS (s : ByteArray) : Nat := match s.data.toList with
  | [a, b, c, d] => a.toNat + b.toNat * 256 + c.toNat * 65536 + d.toNat * 16777216
  | _ => 0
theorem numS_no (s : ByteArray) (h : s.size ≠ 4) : numS s = 0 := by
  unfold numS
  split
  · rename_i a b c d he
    exact absurd (show s.size = 4 from congrArg List.length he) h
  · rfl

theorem ret_u32 {a b : Int} (h : a = b) : Ending.returned (.int .u32 a) = Ending.returned (.int .u32 b) := by rw [h]
theorem or_add (x y k : Nat) (hx : x < 2 ^ k) : x ||| y * 2 ^ k = x + y * 2 ^ k := by
  have h := Nat.two_pow_add_eq_or_of_lt (i := k) (b := x) hx y
  rw [Nat.or_comm, Nat.mul_comm, ← h, Nat.add_comm]
theorem or_u32 (x y k : Nat) (hx : x < 2 ^ k) (h1 : x < 4294967296) (h2 : y * 2 ^ k < 4294967296) : bits .or .u32 (x : Int) ((y * 2 ^ k : Nat) : Int) = ((x + y * 2 ^ k : Nat) : Int) := by
  rw [u32_or_nat _ _ h1 h2, or_add _ _ _ hx]
theorem four_or (a b c d : UInt8) : bits .or .u32 (bits .or .u32 (bits .or .u32 ((a.toNat : Int) % 4294967296) ((b.toNat : Int) % 4294967296 * 256 % 4294967296)) ((c.toNat : Int) % 4294967296 * 65536 % 4294967296)) ((d.toNat : Int) % 4294967296 * 16777216 % 4294967296) = (numS ⟨#[a, b, c, d]⟩ : Nat) := by
  have ha := a.toNat_lt
  have hb := b.toNat_lt
  have hc := c.toNat_lt
  have hd := d.toNat_lt
  have e0 : (a.toNat : Int) % 4294967296 = (a.toNat : Nat) := by omega
  have e1 : (b.toNat : Int) % 4294967296 * 256 % 4294967296 = ((b.toNat * 2 ^ 8 : Nat) : Int) := by omega
  have e2 : (c.toNat : Int) % 4294967296 * 65536 % 4294967296 = ((c.toNat * 2 ^ 16 : Nat) : Int) := by omega
  have e3 : (d.toNat : Int) % 4294967296 * 16777216 % 4294967296 = ((d.toNat * 2 ^ 24 : Nat) : Int) := by omega
  rw [e0, e1, e2, e3, or_u32 _ _ 8 (by omega) (by omega) (by omega), or_u32 _ _ 16 (by omega) (by omega) (by omega), or_u32 _ _ 24 (by omega) (by omega) (by omega)]
  rfl
theorem four (s : ByteArray) (h : s.size = 4) : ∃ a b c d, s = ⟨#[a, b, c, d]⟩ := by
  obtain ⟨⟨l⟩⟩ := s
  match l, h with
  | [a, b, c, d], _ => exact ⟨a, b, c, d, rfl⟩
set_option maxRecDepth 100000 in
set_option maxHeartbeats 1000000 in
theorem cnumber_any (s : ByteArray) (hs : s.size ≤ 1000000) (w : World) :
    Calls Try.prog 13 #[.string s] w fun e w' => e = .returned (.int .u32 (numS s : Nat)) ∧ Below w.heap.size w w' := by
  by_cases h4 : s.size = 4
  · obtain ⟨a, b, c, d, rfl⟩ := four s h4
    have ha : (a.toNat : Int) ≤ 255 := by have := a.toNat_lt; omega
    have hb : (b.toNat : Int) ≤ 255 := by have := b.toNat_lt; omega
    have hc : (c.toNat : Int) ≤ 255 := by have := c.toNat_lt; omega
    have hd : (d.toNat : Int) ≤ 255 := by have := d.toNat_lt; omega
    clear h4 hs
    go_enter Try.func13, Try.ntmps13
    go_wp2_with fail
    go_quiet (fail)
    go_wp2_with fail
    go_ret
    exact ⟨ret_u32 (four_or a b c d), below_drewN (Below.refl _ _) _⟩
  · have h4' : ((s.size : Int) == 4) = false := by simp; omega
    have HN := hid (numS_no s h4)
    clear h4
    go_enter Try.func13, Try.ntmps13
    go_wp2_with fail
    go_ret
    exact ⟨by rw [HN.out]; rfl, Below.refl _ _⟩
end Go.Proofs.Ytlmhlinjlneagab
