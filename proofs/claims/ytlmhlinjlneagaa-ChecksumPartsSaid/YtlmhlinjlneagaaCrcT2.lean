import Derived.Test.YtlmhlinjlneagaaCrcT1
namespace Go.Proofs.Ytlmhlinjlneagaa
open Go.Lib Go.ChangeShapes Go.WideShapes Go.ChangeAt Go.RowKit

theorem and_15 (n : Nat) (hn : n < 4294967296) : bits .and .u32 (n : Int) 15 = ((n % 16 : Nat) : Int) := by
  rw [show (15 : Int) = ((15 : Nat) : Int) from rfl, u32_and_nat _ _ hn (by decide), Nat.and_two_pow_sub_one_eq_mod n 4]
theorem nib_u32 (r : Nat) (hr : r < 4294967296) : bits .xor .u32 ((r : Int) / 16) ((shk 4 (r % 16) : Nat) : Int) = (shk 4 r : Nat) := by
  have e : (r : Int) / 16 = ((r / 16 : Nat) : Int) := by omega
  rw [e, xor_u32 _ _ (by omega) (shk_lt 4 (by omega)), nibble]

set_option maxRecDepth 100000 in
theorem shift_any (r t : Nat) (hr : Hid (r < 4294967296)) (w : World) (ht : Hid (∀ i, i < 16 → w.cell? ⟨t, i, none⟩ = some (.int .u32 (shk 4 i : Nat)))) :
    Calls Try.prog 61 #[.int .u32 r, .pointer (some ⟨t, 0, none⟩)] w fun e w' => e = .returned (.int .u32 (shk 4 r : Nat)) ∧ w = w' := by
  have ha := and_15 r hr.out
  have HX := hid (nib_u32 r hr.out)
  obtain ⟨q, hq⟩ : ∃ q, q = r % 16 := ⟨_, rfl⟩
  have hq16 : q < 16 := by omega
  rw [← hq] at ha HX
  have hc := ht.out q hq16
  clear hq
  go_enter Try.func61, Try.ntmps61
  go_wp2
  go_ret
  exact ⟨by rw [← HX.out]; rfl, rfl⟩

theorem reg_snoc (l : List UInt8) (b : UInt8) : ∀ c, reg c (l ++ [b]) = shk 8 (reg c l ^^^ b.toNat) := by
  induction l with
  | nil => intro c; rfl
  | cons x l ih => intro c; exact ih _
theorem reg_take (s : ByteArray) (c k : Nat) (h : k < s.size) : reg c (s.data.toList.take (k + 1)) = shk 8 (reg c (s.data.toList.take k) ^^^ s[k].toNat) := by
  have e : s.data.toList.take (k + 1) = s.data.toList.take k ++ [s[k]] := by
    rw [List.take_succ_eq_append_getElem (by simpa using h)]; rfl
  rw [e, reg_snoc]
theorem reg_all (s : ByteArray) (c : Nat) : reg c (s.data.toList.take s.size) = reg c s.data.toList := by
  rw [List.take_of_length_le]; exact Nat.le_refl _

set_option maxRecDepth 100000 in
set_option maxHeartbeats 1000000 in
theorem update_any (n : Nat) (hn : Hid (n < 4294967296)) (s : ByteArray) (hs : s.size ≤ 9223372036854775807) (w : World) :
    Calls Try.prog 43 #[.int .u32 n, .string s] w fun e w' => e = .returned (.int .u32 (crc n s.data.toList : Nat)) ∧ Below w.heap.size w w' := by
  have hnot := not_u32 n hn.out
  obtain ⟨c0, hc0⟩ : ∃ c0, c0 = n ^^^ ones := ⟨_, rfl⟩
  have HC : Hid (c0 < 4294967296) := by rw [hc0]; exact xor_lt hn.out (by decide)
  have HE : Hid (crc n s.data.toList = reg c0 s.data.toList ^^^ ones) := by rw [hc0]; rfl
  rw [← hc0] at hnot
  clear hc0
  go_enter Try.func43, Try.ntmps43
  go_wp2_with fail
  refine (remainders_any _).mono ?_
  rintro e w1 ⟨rfl, hb⟩
  have HTab : Hid (∀ i, i < 16 → (w1.alloc (.cells tabL 85)).cell? ⟨w1.heap.size, i, none⟩ = some (.int .u32 (shk 4 i : Nat))) := fun i hi => by
    rw [World.cell?_alloc_new, ← rems_end, rems_get 16 i hi, if_pos hi]
  have HB := hid (hb.alloc hb.size (.cells tabL 85))
  clear hb
  unfold tabL at *
  go_wp2_with fail
  go_loop [7, 15] (fun c i => ∃ k x : Nat, k ≤ s.size ∧ i = .int .i64 k ∧ c = .int .u32 x ∧ x = reg c0 (s.data.toList.take k)) (fun _ i => s.size - (intOf i).toNat)
  case atStart => exact ⟨0, c0, by omega, rfl, rfl, rfl⟩
  case round =>
    obtain ⟨k, x, hk, rfl, rfl, hx⟩ := hrel
    have HX := hid hx
    have HL : Hid (x < 4294967296) := by rw [hx]; exact reg_lt _ HC.out
    clear hx
    by_cases hlt : k < s.size
    · have HT := hid (reg_take s c0 k hlt)
      have hbb : (s[k].toNat : Int) ≤ 255 := by have := s[k].toNat_lt; omega
      have hxor := xor_u32 x s[k].toNat HL.out (byte_lt _)
      obtain ⟨y, hy⟩ : ∃ y, y = x ^^^ s[k].toNat := ⟨_, rfl⟩
      have HY : Hid (y < 4294967296) := by rw [hy]; exact xor_lt HL.out (byte_lt _)
      have HV := hid hy
      rw [← hy] at hxor
      clear hy
      go_wp2_with fail
      refine (shift_any y w1.heap.size HY _ HTab).mono ?_
      rintro e w' ⟨rfl, rfl⟩
      go_wp2_with fail
      refine (shift_any (shk 4 y) w1.heap.size (shk_lt 4 HY.out) _ HTab).mono ?_
      rintro e w' ⟨rfl, rfl⟩
      go_wp2_with fail
      go_round
      case rel => exact ⟨k + 1, shk 4 (shk 4 y), by omega, by go_num, rfl, by rw [HT.out, shk8, ← HX.out, ← HV.out]⟩
      case measure => simp [intOf]; omega
    · obtain rfl : k = s.size := by omega
      have hnot2 := not_u32 x HL.out
      go_wp2_with fail
      go_ret
      exact ⟨by rw [HE.out, ← reg_all, ← HX.out]; rfl, HB.out⟩

set_option maxRecDepth 100000 in
theorem sum_any (s : ByteArray) (hs : s.size ≤ 9223372036854775807) (w : World) :
    Calls Try.prog 41 #[.string s] w fun e w' => e = .returned (.int .u32 (crc 0 s.data.toList : Nat)) ∧ Below w.heap.size w w' := by
  go_enter Try.func41, Try.ntmps41
  go_wp2_with fail
  refine (update_any 0 (by show 0 < _; omega) s hs _).mono ?_
  rintro e w' ⟨rfl, hb⟩
  go_wp2_with fail
  go_ret
  exact ⟨rfl, hb⟩
end Go.Proofs.Ytlmhlinjlneagaa
