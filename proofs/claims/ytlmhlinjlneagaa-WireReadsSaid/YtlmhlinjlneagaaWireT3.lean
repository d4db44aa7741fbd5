import Derived.Test.YtlmhlinjlneagaaWireT2
import Derived.Test.YtlmhlinjlneagaaWireM2
namespace Go.Proofs.Ytlmhlinjlneagaa
open Go.Lib Go.ChangeShapes Go.WideShapes Go.ChangeAt Go.RowKit

def NumPost (b : Nat) (s : ByteArray) (w : World) (e : Ending) (w' : World) : Prop :=
  match dec s.data.toList 0 0 with
  | none => e = .returned (.tuple #[.int .u64 0, .int .i64 11]) ∧ w' = w
  | some (n, c) => c ≤ s.size ∧ e = .returned (.tuple #[.int .u64 n, .int .i64 0]) ∧ w' = w.setCell ⟨b, 0, none⟩ (.string (s.extract c s.size))

set_option maxRecDepth 100000 in
set_option maxHeartbeats 1000000 in
theorem rnumber_any (b : Nat) (s : ByteArray) (hs : s.size ≤ 9223372036854775807) (w : World) (hc : w.cell? ⟨b, 0, none⟩ = some (.string s)) (hf : w.frozen? ⟨b, 0, none⟩ = false) :
    Calls Try.prog 55 #[.pointer (some ⟨b, 0, none⟩)] w (NumPost b s w) := by
  rcases Nat.lt_or_ge s.size 10 with hmin | hmin
  all_goals
    go_enter Try.func55, Try.ntmps55
    go_wp2
  all_goals
    go_loop [4, 13] (fun v i => ∃ k m : Nat, k ≤ s.size ∧ k ≤ 10 ∧ i = .int .i64 k ∧ v = .int .u64 m ∧ m < 128 ^ k ∧ dec s.data.toList 0 0 = dec (s.data.toList.drop k) k m) (fun _ i => 10 - (intOf i).toNat)
    case atStart => exact ⟨0, 0, by omega, by omega, rfl, rfl, by simp, rfl⟩
    case round =>
      obtain ⟨k, m, hk, hk10, rfl, rfl, hmb, hm⟩ := hrel
      have HM := hid hm
      have HB := hid hmb
      clear hm hmb
      by_cases hlt : k < s.size ∧ k < 10
      · obtain ⟨hlt, hk9⟩ := hlt
        have HA := hid (fun (h9 : k = 9 → s[k].toNat ≤ 1) => acc_eq k m s[k].toNat (by omega) s[k].toNat_lt h9 HB.out)
        have HZ := hid (acc_zero k m (by omega) HB.out)
        have HD := hid (dec_at s k m hlt)
        by_cases h9 : k = 9
        · have HK := hid h9
          have hkb : ((k : Int) == 9) = true := by simp [h9]
          clear h9
          by_cases h1 : s[k].toNat ≤ 1
          · have h1' : ¬ 1 < (s[k].toNat : Int) := by omega
            go_wp2
            · go_ret2
              have h : s[k].toNat = 0 := by assumption
              have h9 := HK.out
              unfold NumPost; rw [HM.out, HD.out, if_neg (by omega), if_neg (by omega), if_neg (by omega), if_pos (by omega)]
              exact ⟨rfl, rfl⟩
            · exact absurd HK.out (by omega)
            · go_ret2
              have h' : ¬ s[k].toNat = 0 := by assumption
              have h9 := HK.out
              unfold NumPost; rw [HM.out, HD.out, if_neg (by omega), if_neg (by omega), if_neg (by omega), if_neg (by omega)]
              refine ⟨by omega, by rw [HA.out (by omega)]; rfl, rfl⟩
          · have h1' : 1 < (s[k].toNat : Int) := by omega
            go_wp2
            go_ret2
            have h9 := HK.out
            unfold NumPost; rw [HM.out, HD.out, if_neg (by omega), if_pos (by omega)]
            exact ⟨rfl, rfl⟩
        · have h9' : ¬ (k : Int) = 9 := by omega
          go_wp2
          · go_round
            case rel =>
              have h : 128 ≤ (s[k].toNat : Int) := by assumption
              exact ⟨k + 1, m + s[k].toNat % 128 * 128 ^ k, by omega, by omega, by go_num, by rw [HA.out (by omega)], digit_acc _ _ _ HB.out, by rw [HM.out, HD.out, if_neg (by omega), if_neg (by omega), if_pos (by omega)]⟩
            case measure => simp [intOf]; omega
          · go_ret2
            have h : s[k].toNat = 0 := by assumption
            unfold NumPost; rw [HM.out, HD.out, if_neg (by omega), if_neg (by omega), if_neg (by omega), if_pos (by omega)]
            exact ⟨rfl, rfl⟩
          · go_ret2
            have h : s[k].toNat = 0 := by assumption
            unfold NumPost; rw [HM.out, HD.out, if_neg (by omega), if_neg (by omega), if_neg (by omega), if_neg (by omega), h]
            refine ⟨by omega, by rw [HZ.out]; rfl, rfl⟩
          · go_ret2
            have h : (s[k].toNat : Int) < 128 := by assumption
            have h' : ¬ s[k].toNat = 0 := by assumption
            unfold NumPost; rw [HM.out, HD.out, if_neg (by omega), if_neg (by omega), if_neg (by omega), if_neg (by omega)]
            refine ⟨by omega, by rw [HA.out (by omega)]; rfl, rfl⟩
      · go_wp2
        go_ret2
        unfold NumPost; rw [HM.out]
        rcases Nat.lt_or_ge k s.size with h | h
        · rw [dec_at s k m h, if_pos (by omega)]; exact ⟨rfl, rfl⟩
        · rw [List.drop_eq_nil_of_le (by simpa using h)]; exact ⟨rfl, rfl⟩
end Go.Proofs.Ytlmhlinjlneagaa
