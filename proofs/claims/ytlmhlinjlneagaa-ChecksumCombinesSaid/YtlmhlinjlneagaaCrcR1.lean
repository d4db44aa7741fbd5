import Derived.Test.YtlmhlinjlneagaaCrcT3
namespace Go.Proofs.Ytlmhlinjlneagaa
open Go.Lib Go.ChangeShapes Go.WideShapes Go.ChangeAt Go.RowKit

set_option maxRecDepth 100000 in
theorem refshift_any (n : Nat) (hn : Hid (n < 4294967296)) (w : World) :
    Calls Try.prog 62 #[.int .u32 n] w fun e w' => e = .returned (.int .u32 (shN n : Nat)) ∧ w = w' := by
  have hb : (n : Int) ≤ 4294967295 := by have := hn.out; omega
  rcases Nat.mod_two_eq_zero_or_one n with h | h
  · have h2 : (n : Int) % 2 = 0 := by omega
    have HX := hid (sh_even n h)
    clear h
    go_enter Try.func62, Try.ntmps62
    go_wp2
    go_ret
    exact ⟨by rw [← HX.out]; rfl, rfl⟩
  · have h2 : (n : Int) % 2 = 1 := by omega
    have HX := hid (xor_pol n hn.out h)
    clear h
    go_enter Try.func62, Try.ntmps62
    go_wp2
    go_ret
    exact ⟨by rw [← HX.out]; rfl, rfl⟩

set_option maxRecDepth 100000 in
set_option maxHeartbeats 1000000 in
theorem refUpdate_any (n : Nat) (hn : Hid (n < 4294967296)) (s : ByteArray) (hs : s.size ≤ 9223372036854775807) (w : World) :
    Calls Try.prog 44 #[.int .u32 n, .string s] w fun e w' => e = .returned (.int .u32 (crc n s.data.toList : Nat)) ∧ w = w' := by
  have hnot := not_u32 n hn.out
  obtain ⟨c0, hc0⟩ : ∃ c0, c0 = n ^^^ ones := ⟨_, rfl⟩
  have HC : Hid (c0 < 4294967296) := by rw [hc0]; exact xor_lt hn.out (by decide)
  have HE : Hid (crc n s.data.toList = reg c0 s.data.toList ^^^ ones) := by rw [hc0]; rfl
  rw [← hc0] at hnot
  clear hc0
  go_enter Try.func44, Try.ntmps44
  go_wp2_with fail
  go_loop [5, 6] (fun c i => ∃ k x : Nat, k ≤ s.size ∧ i = .int .i64 k ∧ c = .int .u32 x ∧ x = reg c0 (s.data.toList.take k)) (fun _ i => s.size - (intOf i).toNat)
  case atStart => exact ⟨0, c0, by omega, rfl, rfl, rfl⟩
  case round =>
    obtain ⟨k, x, hk, rfl, rfl, hx⟩ := hrel
    have HX := hid hx
    have HL : Hid (x < 4294967296) := by rw [hx]; exact reg_lt _ HC.out
    clear hx
    by_cases hlt : k < s.size
    · have hd5 : decide ((k : Int) < (s.size : Int)) = true := by simp; omega
      have HT := hid (reg_take s c0 k hlt)
      have hbb : (s[k].toNat : Int) ≤ 255 := by have := s[k].toNat_lt; omega
      have hxor := xor_u32 x s[k].toNat HL.out (byte_lt _)
      obtain ⟨y, hy⟩ : ∃ y, y = x ^^^ s[k].toNat := ⟨_, rfl⟩
      have HY : Hid (y < 4294967296) := by rw [hy]; exact xor_lt HL.out (byte_lt _)
      have HV := hid hy
      rw [← hy] at hxor
      clear hy
      go_wp2_with fail
      go_loop [5, 7] (fun r i => ∃ m x : Nat, m ≤ 8 ∧ i = .int .i64 m ∧ r = .int .u32 x ∧ x < 4294967296 ∧ shk (8 - m) x = shk 8 y) (fun _ i => 8 - (intOf i).toNat)
      case atStart => exact ⟨0, y, by omega, rfl, rfl, HY.out, rfl⟩
      case round =>
        obtain ⟨m, z, hm, rfl, rfl, hz, he⟩ := hrel
        have HZ := hid hz
        have HF := hid he
        clear hz he
        by_cases hm8 : m < 8
        · go_wp2_with fail
          refine (refshift_any z HZ _).mono ?_
          rintro e w' ⟨rfl, rfl⟩
          go_wp2_with fail
          go_round
          case rel => exact ⟨m + 1, shN z, by omega, by go_num, rfl, shN_lt HZ.out, by have := HF.out; rw [show 8 - m = (8 - (m + 1)) + 1 by omega, shk] at this; exact this⟩
          case measure => simp [intOf]; omega
        · go_wp2_with fail
          go_round
          case rel => exact ⟨k + 1, z, by omega, by go_num, rfl, by
            have := HF.out
            rw [show 8 - m = 0 by omega, shk] at this
            rw [this, HV.out, HX.out, HT.out]⟩
          case measure => simp [intOf]; omega
    · obtain rfl : k = s.size := by omega
      have hnot2 := not_u32 x HL.out
      go_wp2_with fail
      go_ret
      exact ⟨by rw [HE.out, ← reg_all, ← HX.out]; rfl, rfl⟩

set_option maxRecDepth 100000 in
theorem refSum_any (s : ByteArray) (hs : s.size ≤ 9223372036854775807) (w : World) :
    Calls Try.prog 42 #[.string s] w fun e w' => e = .returned (.int .u32 (crc 0 s.data.toList : Nat)) ∧ w = w' := by
  go_enter Try.func42, Try.ntmps42
  go_wp2_with fail
  refine (refUpdate_any 0 (by show 0 < _; omega) s hs _).mono ?_
  rintro e w' ⟨rfl, rfl⟩
  go_wp2_with fail
  go_ret
  exact ⟨rfl, rfl⟩

set_option maxRecDepth 100000 in
theorem refseal_any (s : ByteArray) (hs : s.size ≤ 1000000) (w : World) :
    Calls Try.prog 50 #[.string s] w fun e w' => e = .returned (.string (s ++ le4 (sumS s))) ∧ Below w.heap.size w w' := by
  have hadd := cadd_ok s (le4 (sumS s)) hs (by rw [le4_size]; omega)
  go_enter Try.func50, Try.ntmps50
  go_wp2_with fail
  refine (refSum_any s (by omega) _).mono ?_
  rintro e w1 ⟨rfl, rfl⟩
  rw [show crc 0 s.data.toList = sumS s from rfl]
  go_wp2_with fail
  refine (refbytes_any _ (sumS_lt s) _).mono ?_
  rintro e w2 ⟨rfl, hb2⟩
  go_wp2_with fail
  go_ret
  exact ⟨rfl, hb2⟩

set_option maxRecDepth 100000 in
theorem refopen_any (s : ByteArray) (hs : s.size ≤ 900000) (w : World) :
    Calls Try.prog 48 #[.string s] w (OpenPost s w) := by
  by_cases h4 : s.size < 4
  · have HO : Hid (openS s = none) := by show _ = _; unfold openS; rw [if_pos h4]
    go_enter Try.func48, Try.ntmps48
    go_wp2_with fail
    go_ret2
    unfold OpenPost; rw [HO.out]
    exact ⟨Below.refl _ _, rfl⟩
  · have h1 : (0 : Int) ≤ (s.size : Int) - 4 := by omega
    have e1 : ((s.size : Int) - 4).toNat = s.size - 4 := by omega
    obtain ⟨t, ht⟩ : ∃ t, t = s.extract 0 (s.size - 4) := ⟨_, rfl⟩
    have hts : t.size ≤ 900000 := by rw [ht]; simp; omega
    have HO : Hid (openS s = if t ++ le4 (sumS t) = s then some t else none) := by show _ = _; unfold openS; rw [if_neg h4, ← ht]
    have HE : Hid (((t ++ le4 (sumS t)).toList == s.toList) = decide (t ++ le4 (sumS t) = s)) := eq_bool _ _
    have ht' := ht.symm
    obtain ⟨T, hT⟩ : ∃ T, T = t ++ le4 (sumS t) := ⟨_, rfl⟩
    have HT := hid hT
    rw [← hT] at HO HE
    clear ht hT
    go_enter Try.func48, Try.ntmps48
    go_wp2_with fail
    refine (refseal_any t (by omega) _).mono ?_
    rintro e w1 ⟨rfl, hb1⟩
    rw [← HT.out]
    by_cases heq : T = s
    · have hq : (T.toList == s.toList) = true := by rw [HE.out, decide_eq_true heq]
      have HQ := hid heq
      clear heq
      go_wp2_with fail
      go_ret2
      unfold OpenPost; rw [HO.out, if_pos HQ.out]
      exact ⟨hb1, rfl⟩
    · have hq : (T.toList == s.toList) = false := by rw [HE.out, decide_eq_false heq]
      have HQ := hid heq
      clear heq
      go_wp2_with fail
      go_ret2
      unfold OpenPost; rw [HO.out, if_neg HQ.out]
      exact ⟨hb1, rfl⟩
end Go.Proofs.Ytlmhlinjlneagaa
