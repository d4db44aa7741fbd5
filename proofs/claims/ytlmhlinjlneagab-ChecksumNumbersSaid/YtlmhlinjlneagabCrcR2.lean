import Derived.Test.YtlmhlinjlneagabCrcT4
namespace Go.Proofs.Ytlmhlinjlneagab
open Go.Lib Go.ChangeShapes Go.WideShapes Go.ChangeAt Go.RowKit

theorem four_sum (a b c d : UInt8) : (((a.toNat : Int) + (b.toNat : Int) % 4294967296 * 256 + (c.toNat : Int) % 4294967296 * 65536) % 4294967296 + (d.toNat : Int) % 4294967296 * 16777216 % 4294967296) % 4294967296 = (numS ⟨#[a, b, c, d]⟩ : Nat) := by
  have ha := a.toNat_lt
  have hb := b.toNat_lt
  have hc := c.toNat_lt
  have hd := d.toNat_lt
  have e : (numS ⟨#[a, b, c, d]⟩ : Int) = a.toNat + b.toNat * 256 + c.toNat * 65536 + d.toNat * 16777216 := by
    show ((a.toNat + b.toNat * 256 + c.toNat * 65536 + d.toNat * 16777216 : Nat) : Int) = _
    omega
  rw [e]
  omega
theorem numS_le4 (n : Nat) (h : n < 4294967296) : numS (le4 n) = n := by
  show (UInt8.ofNat (n % 256)).toNat + (UInt8.ofNat (n / 256 % 256)).toNat * 256 + (UInt8.ofNat (n / 65536 % 256)).toNat * 65536 + (UInt8.ofNat (n / 16777216)).toNat * 16777216 = n
  have e (k : Nat) (hk : k < 256) : (UInt8.ofNat k).toNat = k := by simp; omega
  rw [e _ (by omega), e _ (by omega), e _ (by omega), e _ (by omega)]
  omega

set_option maxRecDepth 100000 in
set_option maxHeartbeats 1000000 in
theorem refnumber_any (s : ByteArray) (hs : s.size ≤ 1000000) (w : World) :
    Calls Try.prog 14 #[.string s] w fun e w' => e = .returned (.int .u32 (numS s : Nat)) ∧ Below w.heap.size w w' := by
  by_cases h4 : s.size = 4
  · obtain ⟨a, b, c, d, rfl⟩ := four s h4
    have ha : (a.toNat : Int) ≤ 255 := by have := a.toNat_lt; omega
    have hb : (b.toNat : Int) ≤ 255 := by have := b.toNat_lt; omega
    have hc : (c.toNat : Int) ≤ 255 := by have := c.toNat_lt; omega
    have hd : (d.toNat : Int) ≤ 255 := by have := d.toNat_lt; omega
    clear h4 hs
    go_enter Try.func14, Try.ntmps14
    go_wp2_with fail
    go_quiet (fail)
    go_wp2_with fail
    go_ret
    exact ⟨ret_u32 (four_sum a b c d), below_drewN (Below.refl _ _) _⟩
  · have h4' : ((s.size : Int) == 4) = false := by simp; omega
    have HN := hid (numS_no s h4)
    clear h4
    go_enter Try.func14, Try.ntmps14
    go_wp2_with fail
    go_ret
    exact ⟨by rw [HN.out]; rfl, Below.refl _ _⟩
end Go.Proofs.Ytlmhlinjlneagab
