/- Statement WireStops: after an error, nothing is read any more, whatever is asked for, and the error stays. For every text and every list of operations, within the statement's own bounds. -/
import Derived.Test.YtlmhlinjlneagaaRows
import Derived.WalkKit
import Derived.ProofKit
import Derived.OpenShut
import Derived.ShutString
import Derived.ChangeOld
import Derived.Below
import Derived.Test.YtlmhlinjlneagaaWireT10
import Derived.Test.YtlmhlinjlneagaaSlices
import Derived.Test.YtlmhlinjlneagaaWireM6
namespace Go.Proofs.Ytlmhlinjlneagaa
open Go.Lib Go.ChangeShapes Go.WideShapes Go.ChangeAt Go.RowKit
open Go.ChangeMaps (open_string shut_string)



theorem text_minus {b : Nat} {s : ByteArray} {w w' : World} {e : Ending} (h : TextDone b s (-1) w e w') : ∃ f : Nat, (f = 8 ∨ f = 11) ∧ e = .returned (.string ⟨#[]⟩) ∧ Rd w' b ByteArray.empty f ∧ Upd b w w' := by
  obtain ⟨hu, h⟩ := h
  cases hd : dec s.data.toList 0 0 with
  | none => rw [hd] at h; exact ⟨11, .inr rfl, h.1, h.2, hu⟩
  | some p =>
    rw [hd] at h
    obtain ⟨_, h⟩ := h
    rw [if_pos (by omega)] at h
    exact ⟨8, .inl rfl, h.1, h.2, hu⟩
set_option maxRecDepth 100000 in
set_option maxHeartbeats 2000000 in
theorem stops_some (a0 : ByteArray) (b off : Nat) (len cap : Nat) (C : Nat → Nat → Value) (hs : a0.size ≤ 300) (hn : len ≤ 30) (w : World) (hE : Hid (∀ W, Below w.heap.size w W → ∀ i j, i < len → j < 2 → W.cell? ⟨b, off + (i * 2 + j), none⟩ = some (C i j)))
    (hK : Hid (∀ i, i < len → ∃ n : Int, C i 0 = .int .u8 n ∧ 0 ≤ n ∧ n ≤ 255)) (hM : Hid (∀ i, i < len → ∃ n : Int, C i 1 = .int .i64 n ∧ -9223372036854775808 ≤ n ∧ n ≤ 9223372036854775807)) :
    Calls Try.prog 8 #[.string a0, .slice (some ⟨b, off, none⟩) len cap] w fun e w' => e = .returned (.bool true) ∧ Below w.heap.size w w' := by
  go_enter Try.func8, Try.ntmps8
  go_wp2_with fail
  refine (awake_any _).mono ?_
  rintro e w1 ⟨rfl, hb1⟩
  go_wp2_with fail
  refine (newReader_any _ _).mono ?_
  rintro e w2 ⟨rfl, rfl⟩
  have HM := hid (Rd.made w1 a0)
  have HB1 := hid (hb1.alloc hb1.size (.cells #[.string a0, .int .i64 0] 79))
  have HL1 : Hid (w.heap.size ≤ w1.heap.size) := hb1.size
  clear hb1
  go_wp2_with fail
  refine (text_any w1.heap.size a0 (by omega) (-1) (by omega) (by omega) _ HM.out).mono ?_
  intro x w3 hx
  obtain ⟨f, hf, rfl, hr, hu⟩ := text_minus hx
  have HR := hid hr
  have HB3 := hid (HB1.out.trans (hu.below HL1.out (by have := HL1.out; simp; omega)))
  clear hr hu
  go_wp2_with fail
  refine (end_any _ _ _ _ HR.out).mono ?_
  rintro e w' ⟨rfl, rfl⟩
  rw [if_pos (show ByteArray.empty.size = 0 from rfl)]
  clear HB1 HM
  rcases hf with rfl | rfl
  · go_wp2_with fail
    go_loopw [39] (fun i wr => ∃ k : Nat, k ≤ len ∧ i = .int .i64 k ∧ Rd wr w1.heap.size ByteArray.empty 8 ∧ Below w.heap.size w wr) (fun i _ => len - (intOf i).toNat)
    case atStart => exact ⟨0, by omega, rfl, HR.out, HB3.out⟩
    case round =>
      obtain ⟨k, hk, rfl, hr, hb⟩ := hrel
      have HRk := hid hr
      have HBk := hid hb
      clear hr hb HR HB3
      by_cases hlt : k < len
      · obtain ⟨K, hK0, hK1, hK2⟩ := hK.out k hlt
        obtain ⟨M, hM0, hM1, hM2⟩ := hM.out k hlt
        have hc0 : wr.cell? ⟨b, off + k * 2, none⟩ = some (.int .u8 K) := (hE.out wr HBk.out k 0 hlt (by omega)).trans (by rw [hK0])
        have hc1 : wr.cell? ⟨b, off + k * 2 + 1, none⟩ = some (.int .i64 M) := (hE.out wr HBk.out k 1 hlt (by omega)).trans (by rw [hM0])
        have HA := hid (HRk.out.alloc (.cells #[.int .u8 K, .int .i64 M] 41))
        have HBA := hid (HBk.out.alloc HBk.out.size (.cells #[.int .u8 K, .int .i64 M] 41))
        clear hK0 hM0
        rcases (show K % 5 = 0 ∨ K % 5 = 1 ∨ K % 5 = 2 ∨ K % 5 = 3 ∨ K % 5 = 4 by omega) with h5 | h5 | h5 | h5 | h5
        · go_wp2_with fail
          refine (number_stop _ _ 8 (by decide) _ HA.out).mono ?_
          rintro e w' ⟨rfl, rfl⟩
          go_wp2_with fail
          refine (end_any _ _ _ _ HA.out).mono ?_
          rintro e w' ⟨rfl, rfl⟩
          rw [if_pos (show ByteArray.empty.size = 0 from rfl)]
          go_wp2_with fail
          refine (left_any _ _ _ _ HA.out).mono ?_
          rintro e w' ⟨rfl, rfl⟩
          rw [ByteArray.size_empty]
          go_wp2_with fail
          refine (rest_any _ _ _ _ HA.out).mono ?_
          rintro e w' ⟨rfl, rfl⟩
          go_wp2_with fail
          go_roundw
          case rel => exact ⟨k + 1, by omega, by go_num, HA.out, HBA.out⟩
          case measure => simp [intOf]; omega
        · go_wp2_with fail
          refine (int_stop _ _ 8 (by decide) _ HA.out).mono ?_
          rintro e w' ⟨rfl, rfl⟩
          go_wp2_with fail
          refine (end_any _ _ _ _ HA.out).mono ?_
          rintro e w' ⟨rfl, rfl⟩
          rw [if_pos (show ByteArray.empty.size = 0 from rfl)]
          go_wp2_with fail
          refine (left_any _ _ _ _ HA.out).mono ?_
          rintro e w' ⟨rfl, rfl⟩
          rw [ByteArray.size_empty]
          go_wp2_with fail
          refine (rest_any _ _ _ _ HA.out).mono ?_
          rintro e w' ⟨rfl, rfl⟩
          go_wp2_with fail
          go_roundw
          case rel => exact ⟨k + 1, by omega, by go_num, HA.out, HBA.out⟩
          case measure => simp [intOf]; omega
        · go_wp2_with fail
          refine (bool_stop _ _ 8 (by decide) _ HA.out).mono ?_
          rintro e w' ⟨rfl, rfl⟩
          go_wp2_with fail
          refine (end_any _ _ _ _ HA.out).mono ?_
          rintro e w' ⟨rfl, rfl⟩
          rw [if_pos (show ByteArray.empty.size = 0 from rfl)]
          go_wp2_with fail
          refine (left_any _ _ _ _ HA.out).mono ?_
          rintro e w' ⟨rfl, rfl⟩
          rw [ByteArray.size_empty]
          go_wp2_with fail
          refine (rest_any _ _ _ _ HA.out).mono ?_
          rintro e w' ⟨rfl, rfl⟩
          go_wp2_with fail
          go_roundw
          case rel => exact ⟨k + 1, by omega, by go_num, HA.out, HBA.out⟩
          case measure => simp [intOf]; omega
        · go_wp2_with fail
          refine (text_stop _ _ 8 (by decide) _ _ HA.out).mono ?_
          rintro e w4 ⟨rfl, hr, hu⟩
          have HL4 : Hid (w.heap.size ≤ (wr.alloc (.cells #[.int .u8 K, .int .i64 M] 41)).heap.size) := HBA.out.size
          have HA := hid hr
          have HBA := hid (HBA.out.trans (hu.below HL1.out HL4.out))
          clear hr hu
          go_wp2_with fail
          refine (end_any _ _ _ _ HA.out).mono ?_
          rintro e w' ⟨rfl, rfl⟩
          rw [if_pos (show ByteArray.empty.size = 0 from rfl)]
          go_wp2_with fail
          refine (left_any _ _ _ _ HA.out).mono ?_
          rintro e w' ⟨rfl, rfl⟩
          rw [ByteArray.size_empty]
          go_wp2_with fail
          refine (rest_any _ _ _ _ HA.out).mono ?_
          rintro e w' ⟨rfl, rfl⟩
          go_wp2_with fail
          go_roundw
          case rel => exact ⟨k + 1, by omega, by go_num, HA.out, HBA.out⟩
          case measure => simp [intOf]; omega
        · go_wp2_with fail
          refine (count_stop _ _ 8 (by decide) _ _ HA.out).mono ?_
          rintro e w4 ⟨rfl, hr, hu⟩
          have HL4 : Hid (w.heap.size ≤ (wr.alloc (.cells #[.int .u8 K, .int .i64 M] 41)).heap.size) := HBA.out.size
          have HA := hid hr
          have HBA := hid (HBA.out.trans (hu.below HL1.out HL4.out))
          clear hr hu
          go_wp2_with fail
          refine (end_any _ _ _ _ HA.out).mono ?_
          rintro e w' ⟨rfl, rfl⟩
          rw [if_pos (show ByteArray.empty.size = 0 from rfl)]
          go_wp2_with fail
          refine (left_any _ _ _ _ HA.out).mono ?_
          rintro e w' ⟨rfl, rfl⟩
          rw [ByteArray.size_empty]
          go_wp2_with fail
          refine (rest_any _ _ _ _ HA.out).mono ?_
          rintro e w' ⟨rfl, rfl⟩
          go_wp2_with fail
          go_roundw
          case rel => exact ⟨k + 1, by omega, by go_num, HA.out, HBA.out⟩
          case measure => simp [intOf]; omega
      · go_wp2_with fail
        go_ret
        exact ⟨rfl, HBk.out⟩
  · go_wp2_with fail
    go_loopw [39] (fun i wr => ∃ k : Nat, k ≤ len ∧ i = .int .i64 k ∧ Rd wr w1.heap.size ByteArray.empty 11 ∧ Below w.heap.size w wr) (fun i _ => len - (intOf i).toNat)
    case atStart => exact ⟨0, by omega, rfl, HR.out, HB3.out⟩
    case round =>
      obtain ⟨k, hk, rfl, hr, hb⟩ := hrel
      have HRk := hid hr
      have HBk := hid hb
      clear hr hb HR HB3
      by_cases hlt : k < len
      · obtain ⟨K, hK0, hK1, hK2⟩ := hK.out k hlt
        obtain ⟨M, hM0, hM1, hM2⟩ := hM.out k hlt
        have hc0 : wr.cell? ⟨b, off + k * 2, none⟩ = some (.int .u8 K) := (hE.out wr HBk.out k 0 hlt (by omega)).trans (by rw [hK0])
        have hc1 : wr.cell? ⟨b, off + k * 2 + 1, none⟩ = some (.int .i64 M) := (hE.out wr HBk.out k 1 hlt (by omega)).trans (by rw [hM0])
        have HA := hid (HRk.out.alloc (.cells #[.int .u8 K, .int .i64 M] 41))
        have HBA := hid (HBk.out.alloc HBk.out.size (.cells #[.int .u8 K, .int .i64 M] 41))
        clear hK0 hM0
        rcases (show K % 5 = 0 ∨ K % 5 = 1 ∨ K % 5 = 2 ∨ K % 5 = 3 ∨ K % 5 = 4 by omega) with h5 | h5 | h5 | h5 | h5
        · go_wp2_with fail
          refine (number_stop _ _ 11 (by decide) _ HA.out).mono ?_
          rintro e w' ⟨rfl, rfl⟩
          go_wp2_with fail
          refine (end_any _ _ _ _ HA.out).mono ?_
          rintro e w' ⟨rfl, rfl⟩
          rw [if_pos (show ByteArray.empty.size = 0 from rfl)]
          go_wp2_with fail
          refine (left_any _ _ _ _ HA.out).mono ?_
          rintro e w' ⟨rfl, rfl⟩
          rw [ByteArray.size_empty]
          go_wp2_with fail
          refine (rest_any _ _ _ _ HA.out).mono ?_
          rintro e w' ⟨rfl, rfl⟩
          go_wp2_with fail
          go_roundw
          case rel => exact ⟨k + 1, by omega, by go_num, HA.out, HBA.out⟩
          case measure => simp [intOf]; omega
        · go_wp2_with fail
          refine (int_stop _ _ 11 (by decide) _ HA.out).mono ?_
          rintro e w' ⟨rfl, rfl⟩
          go_wp2_with fail
          refine (end_any _ _ _ _ HA.out).mono ?_
          rintro e w' ⟨rfl, rfl⟩
          rw [if_pos (show ByteArray.empty.size = 0 from rfl)]
          go_wp2_with fail
          refine (left_any _ _ _ _ HA.out).mono ?_
          rintro e w' ⟨rfl, rfl⟩
          rw [ByteArray.size_empty]
          go_wp2_with fail
          refine (rest_any _ _ _ _ HA.out).mono ?_
          rintro e w' ⟨rfl, rfl⟩
          go_wp2_with fail
          go_roundw
          case rel => exact ⟨k + 1, by omega, by go_num, HA.out, HBA.out⟩
          case measure => simp [intOf]; omega
        · go_wp2_with fail
          refine (bool_stop _ _ 11 (by decide) _ HA.out).mono ?_
          rintro e w' ⟨rfl, rfl⟩
          go_wp2_with fail
          refine (end_any _ _ _ _ HA.out).mono ?_
          rintro e w' ⟨rfl, rfl⟩
          rw [if_pos (show ByteArray.empty.size = 0 from rfl)]
          go_wp2_with fail
          refine (left_any _ _ _ _ HA.out).mono ?_
          rintro e w' ⟨rfl, rfl⟩
          rw [ByteArray.size_empty]
          go_wp2_with fail
          refine (rest_any _ _ _ _ HA.out).mono ?_
          rintro e w' ⟨rfl, rfl⟩
          go_wp2_with fail
          go_roundw
          case rel => exact ⟨k + 1, by omega, by go_num, HA.out, HBA.out⟩
          case measure => simp [intOf]; omega
        · go_wp2_with fail
          refine (text_stop _ _ 11 (by decide) _ _ HA.out).mono ?_
          rintro e w4 ⟨rfl, hr, hu⟩
          have HL4 : Hid (w.heap.size ≤ (wr.alloc (.cells #[.int .u8 K, .int .i64 M] 41)).heap.size) := HBA.out.size
          have HA := hid hr
          have HBA := hid (HBA.out.trans (hu.below HL1.out HL4.out))
          clear hr hu
          go_wp2_with fail
          refine (end_any _ _ _ _ HA.out).mono ?_
          rintro e w' ⟨rfl, rfl⟩
          rw [if_pos (show ByteArray.empty.size = 0 from rfl)]
          go_wp2_with fail
          refine (left_any _ _ _ _ HA.out).mono ?_
          rintro e w' ⟨rfl, rfl⟩
          rw [ByteArray.size_empty]
          go_wp2_with fail
          refine (rest_any _ _ _ _ HA.out).mono ?_
          rintro e w' ⟨rfl, rfl⟩
          go_wp2_with fail
          go_roundw
          case rel => exact ⟨k + 1, by omega, by go_num, HA.out, HBA.out⟩
          case measure => simp [intOf]; omega
        · go_wp2_with fail
          refine (count_stop _ _ 11 (by decide) _ _ HA.out).mono ?_
          rintro e w4 ⟨rfl, hr, hu⟩
          have HL4 : Hid (w.heap.size ≤ (wr.alloc (.cells #[.int .u8 K, .int .i64 M] 41)).heap.size) := HBA.out.size
          have HA := hid hr
          have HBA := hid (HBA.out.trans (hu.below HL1.out HL4.out))
          clear hr hu
          go_wp2_with fail
          refine (end_any _ _ _ _ HA.out).mono ?_
          rintro e w' ⟨rfl, rfl⟩
          rw [if_pos (show ByteArray.empty.size = 0 from rfl)]
          go_wp2_with fail
          refine (left_any _ _ _ _ HA.out).mono ?_
          rintro e w' ⟨rfl, rfl⟩
          rw [ByteArray.size_empty]
          go_wp2_with fail
          refine (rest_any _ _ _ _ HA.out).mono ?_
          rintro e w' ⟨rfl, rfl⟩
          go_wp2_with fail
          go_roundw
          case rel => exact ⟨k + 1, by omega, by go_num, HA.out, HBA.out⟩
          case measure => simp [intOf]; omega
      · go_wp2_with fail
        go_ret
        exact ⟨rfl, HBk.out⟩
set_option maxRecDepth 100000 in
set_option maxHeartbeats 2000000 in
theorem stops_none (a0 : ByteArray) (A : Option Addr) (len cap : Nat) (C : Nat → Nat → Value) (hs : a0.size ≤ 300) (hn : len ≤ 30) (w : World) (h0 : len = 0)
    (hK : Hid (∀ i, i < len → ∃ n : Int, C i 0 = .int .u8 n ∧ 0 ≤ n ∧ n ≤ 255)) (hM : Hid (∀ i, i < len → ∃ n : Int, C i 1 = .int .i64 n ∧ -9223372036854775808 ≤ n ∧ n ≤ 9223372036854775807)) :
    Calls Try.prog 8 #[.string a0, .slice A len cap] w fun e w' => e = .returned (.bool true) ∧ Below w.heap.size w w' := by
  subst h0
  go_enter Try.func8, Try.ntmps8
  go_wp2_with fail
  refine (awake_any _).mono ?_
  rintro e w1 ⟨rfl, hb1⟩
  go_wp2_with fail
  refine (newReader_any _ _).mono ?_
  rintro e w2 ⟨rfl, rfl⟩
  have HM := hid (Rd.made w1 a0)
  have HB1 := hid (hb1.alloc hb1.size (.cells #[.string a0, .int .i64 0] 79))
  have HL1 : Hid (w.heap.size ≤ w1.heap.size) := hb1.size
  clear hb1
  go_wp2_with fail
  refine (text_any w1.heap.size a0 (by omega) (-1) (by omega) (by omega) _ HM.out).mono ?_
  intro x w3 hx
  obtain ⟨f, hf, rfl, hr, hu⟩ := text_minus hx
  have HR := hid hr
  have HB3 := hid (HB1.out.trans (hu.below HL1.out (by have := HL1.out; simp; omega)))
  clear hr hu
  go_wp2_with fail
  refine (end_any _ _ _ _ HR.out).mono ?_
  rintro e w' ⟨rfl, rfl⟩
  rw [if_pos (show ByteArray.empty.size = 0 from rfl)]
  clear HB1 HM
  rcases hf with rfl | rfl
  · go_wp2_with fail
    go_loopw [39] (fun i wr => ∃ k : Nat, k ≤ 0 ∧ i = .int .i64 k ∧ Rd wr w1.heap.size ByteArray.empty 8 ∧ Below w.heap.size w wr) (fun i _ => 0 - (intOf i).toNat)
    case atStart => exact ⟨0, by omega, rfl, HR.out, HB3.out⟩
    case round =>
      obtain ⟨k, hk, rfl, hr, hb⟩ := hrel
      have HRk := hid hr
      have HBk := hid hb
      clear hr hb HR HB3
      go_wp2_with fail
      go_ret
      exact ⟨rfl, HBk.out⟩
  · go_wp2_with fail
    go_loopw [39] (fun i wr => ∃ k : Nat, k ≤ 0 ∧ i = .int .i64 k ∧ Rd wr w1.heap.size ByteArray.empty 11 ∧ Below w.heap.size w wr) (fun i _ => 0 - (intOf i).toNat)
    case atStart => exact ⟨0, by omega, rfl, HR.out, HB3.out⟩
    case round =>
      obtain ⟨k, hk, rfl, hr, hb⟩ := hrel
      have HRk := hid hr
      have HBk := hid hb
      clear hr hb HR HB3
      go_wp2_with fail
      go_ret
      exact ⟨rfl, HBk.out⟩

set_option maxRecDepth 100000 in
theorem stops_long (a0 : ByteArray) (A : Option Addr) (len cap : Nat) (hs : ¬ (a0.size ≤ 300 ∧ len ≤ 30)) (w : World) :
    Calls Try.prog 8 #[.string a0, .slice A len cap] w fun e w' => e = .returned (.bool true) ∧ Below w.heap.size w w' := by
  by_cases h1 : a0.size ≤ 300
  · have h2 : ¬ len ≤ 30 := fun h => hs ⟨h1, h⟩
    clear hs
    go_enter Try.func8, Try.ntmps8
    go_wp2_with fail
    refine (awake_any _).mono ?_
    rintro e w1 ⟨rfl, hb1⟩
    go_wp2_with fail
    refine (awake_any _).mono ?_
    rintro e w2 ⟨rfl, hb2⟩
    go_wp2_with fail
    go_ret
    exact ⟨rfl, hb1.trans (hb2.mono hb1.size)⟩
  · clear hs
    go_enter Try.func8, Try.ntmps8
    go_wp2_with fail
    refine (awake_any _).mono ?_
    rintro e w1 ⟨rfl, hb1⟩
    go_wp2_with fail
    refine (awake_any _).mono ?_
    rintro e w2 ⟨rfl, hb2⟩
    go_wp2_with fail
    go_ret
    exact ⟨rfl, hb1.trans (hb2.mono hb1.size)⟩
theorem walk_WireStops (a0 : ByteArray) (A : Option Addr) (len cap : Nat) (C : Nat → Nat → Value) (_w0 : a0.size ≤ maxLen) (_hl : len ≤ cap) (_hm : cap ≤ maxLen) (w : World) (hE : Elems w A len 2 C)
    (hK : ∀ i, i < len → ∃ n : Int, C i 0 = .int .u8 n ∧ 0 ≤ n ∧ n ≤ 255) (hM : ∀ i, i < len → ∃ n : Int, C i 1 = .int .i64 n ∧ -9223372036854775808 ≤ n ∧ n ≤ 9223372036854775807) :
    Calls Try.prog 8 #[.string a0, .slice A len cap] w fun e w' => e = .returned (.bool true) ∧ Below w.heap.size w w' := by
  by_cases hs : a0.size ≤ 300 ∧ len ≤ 30
  · rcases Nat.eq_zero_or_pos len with h0 | h0
    · exact stops_none a0 A len cap C hs.1 hs.2 w h0 hK hM
    · obtain ⟨b, off, rfl, hlt, hc⟩ := hE h0
      exact stops_some a0 b off len cap C hs.1 hs.2 w (fun W hb i j hi hj => (hb.cell (p := ⟨b, off + (i * 2 + j), none⟩) hlt).trans (hc i j hi hj)) hK hM
  · exact stops_long a0 A len cap hs w
namespace wireStops
theorem own : ownKnob Try.prog.godebug = none := by kernel_rfl
theorem laidOut : laidOutB Try.prog = true := by kernel_rfl
set_option linter.unusedVariables false
set_option maxRecDepth 100000 in
theorem lifted (os : Os) (started : os.Started) (H : Type) (enc : TypeId × Value → H) :
    ReturnsInHanded {} Try.checked os 8 .any (Rows.wireStopsSpec.pre6 enc Try.prog Try.f8 Rows.wireStopsRow.domain false) (Rows.wireStopsSpec.post enc Try.prog Try.f8 false true false false) := by
  refine returnsInHanded_of_change (C := Try.checked) own started (by kernel_rfl) Try.func8
    (ChangeSpec.witness6 (enc := enc) (C := Try.checked) false ⟨#[], #[.string ByteArray.empty, .slice none 0 0], []⟩ 8 (by kernel_rfl) (by kernel_rfl) (by kernel_rfl) (by kernel_rfl)) ?_
  intro W base args ds gs before hval0 hW hcnd _
  have hval : ∀ (j : Nat) t v, Try.f8.params[j]? = some t → args[j]? = some v → Value.okWide Try.prog W .any base t v := hval0
  have hW' := hW
  obtain ⟨p, q, hA0, hV, rfl, hfz, hnd⟩ := hW
  have hA : DataW.TrodAll enc Try.prog W 0 (fun _ => true) true Try.f8.params.toList args.toList ds p := hA0
  rw [Try.params8] at hA hval
  obtain ⟨v0, vs0, d0, ds0, p0, q0, hargs, rfl, rfl, h0, r0⟩ := trodAll_cons hA
  obtain ⟨v1, vs1, d1, ds1, p1, q1, rfl, rfl, rfl, h1, r1⟩ := trodAll_cons r0
  obtain ⟨rfl, rfl, rfl⟩ := trodAll_nil r1
  obtain rfl : args = #[v0, v1] := by cases args; simp_all
  obtain ⟨rfl, rfl⟩ := trodVars_none hV
  obtain ⟨a0, rfl, rfl, rfl, w0⟩ := open_string Try.underlying9 (hval 0 9 v0 rfl rfl) h0
  obtain ⟨a1, len1, cap1, rfl⟩ := okWide_slice Try.underlying34 (hval 1 34 v1 rfl rfl)
  have k1 := h1
  have lt1 : ∀ x ∈ p1, x.block < W.heap.size := by obtain ⟨m, hm⟩ := k1; exact DataW.trod_lt m _ _ _ hm
  obtain ⟨fuel1, hf1⟩ := h1
  obtain ⟨A1, l1, c1, C1, hcs1, hl1, hm1, hE1, hF1⟩ := open_elems Try.underlying34 Try.underlying41 (by kernel_rfl) (by kernel_rfl) (by decide) hf1
  simp only [Value.cells, List.cons.injEq, Value.slice.injEq, and_true] at hcs1
  obtain ⟨rfl, rfl, rfl⟩ := hcs1
  have s1_0 : ∀ i, i < len1 → ∃ n : Int, C1 i 0 = .int .u8 n ∧ 0 ≤ n ∧ n ≤ 255 := fun i hi => by obtain ⟨y, n, hy⟩ := hF1 i 0 _ hi rfl; obtain ⟨n, e, _, hw⟩ := DataW.trod_int Try.underlying5 hy; exact ⟨n, List.head_eq_of_cons_eq e, bounds_u8 hw⟩
  have s1_1 : ∀ i, i < len1 → ∃ n : Int, C1 i 1 = .int .i64 n ∧ -9223372036854775808 ≤ n ∧ n ≤ 9223372036854775807 := fun i hi => by obtain ⟨y, n, hy⟩ := hF1 i 1 _ hi rfl; obtain ⟨n, e, _, hw⟩ := DataW.trod_int Try.underlying3 hy; exact ⟨n, List.head_eq_of_cons_eq e, bounds_i64 hw⟩
  clear hA0 hval0
  refine (walk_WireStops a0 a1 len1 cap1 C1 w0 hl1 hm1 hE1 s1_0 s1_1 (w := W)).mono fun e W' ⟨he, bel⟩ => ?_
  subst he
  exact ⟨_, rfl, _, _, _, [], _, [], hW', trodAll_mk1 (shut_bool Try.underlying4 _), (trodAll_cons_mk (shut_string Try.underlying9 w0) (trodAll_cons_mk (Below.trod laidOut (by kernel_rfl) (of_decide_eq_true (by kernel_rfl)) k1 bel lt1) trodAll_mk0)), rfl, bel.frame _, fun h => by cases h⟩
theorem over : Rows.wireStopsRow.holds Try.pinned (OpenSpec.ofChange Rows.wireStopsSpec) :=
  OpenClaim.holds_of_wide 8 Try.f8 rfl rfl rfl rfl rfl rfl rfl ⟨rfl, rfl, rfl, rfl, rfl⟩ rfl rfl rfl rfl rfl (by kernel_rfl) Try.func8 (by kernel_rfl)
    (of_decide_eq_true (by kernel_rfl)) (by unfold Func.isWrapper; first | (rw [if_pos (by decide +kernel)]; kernel_rfl) | (rw [if_neg (by decide +kernel)]; exact ⟨rfl, rfl⟩))
    (fun os started H enc _ => lifted os started H enc)
theorem proved : Rows.WireStopsSaid := over
end wireStops

end Go.Proofs.Ytlmhlinjlneagaa
