/- Statement WireReturns: values that are appended one behind the other are read again, and nothing is left. For every list of values within the statement's own bounds (at most 30 values, texts of at most 200 bytes); others are answered before. -/
import Derived.Test.YtlmhlinjlneagaaRows
import Derived.WalkKit
import Derived.ProofKit
import Derived.OpenShut
import Derived.ShutString
import Derived.ChangeOld
import Derived.Below
import Derived.Deep.RegionWith
import Derived.Test.YtlmhlinjlneagaaWireT11
namespace Go.Proofs.Ytlmhlinjlneagaa
open Go.Lib Go.ChangeShapes Go.WideShapes Go.ChangeAt Go.RowKit
open Go.ChangeMaps (open_string shut_string)

set_option maxRecDepth 100000 in
set_option maxHeartbeats 4000000 in
theorem returns_some (b off len cap : Nat) (K : Nat → Int) (N : Nat → Nat) (I : Nat → Int) (B : Nat → Bool) (T : Nat → ByteArray) (hlc : len ≤ 9223372036854775807) (w : World) (hK : Hid (∀ i, i < len → 0 ≤ K i ∧ K i ≤ 255)) (hN : Hid (∀ i, i < len → N i < 18446744073709551616)) (hI : Hid (∀ i, i < len → -9223372036854775808 ≤ I i ∧ I i ≤ 9223372036854775807)) (hT : Hid (∀ i, i < len → (T i).size ≤ maxLen))
    (hE : Hid (∀ W, Below w.heap.size w W → ∀ i, i < len → W.cell? ⟨b, off + i * 5, none⟩ = some (.int .u8 (K i)) ∧ W.cell? ⟨b, off + i * 5 + 1, none⟩ = some (.int .u64 (N i : Nat)) ∧ W.cell? ⟨b, off + i * 5 + 2, none⟩ = some (.int .i64 (I i)) ∧ W.cell? ⟨b, off + i * 5 + 3, none⟩ = some (.bool (B i)) ∧ W.cell? ⟨b, off + i * 5 + 4, none⟩ = some (.string (T i)))) (hcw : ∀ i, i < len → w.cell? ⟨b, off + (i * 5 + 4), none⟩ = some (.string (T i))) (E : Nat → ByteArray) (hEd : E = (fun i => encV (K i) (N i) (I i) (B i) (T i))) :
    Calls Try.prog 6 #[.slice (some ⟨b, off, none⟩) len cap] w fun e w' => e = .returned (.bool true) ∧ Below w.heap.size w w' := by
  have HF := fun W hW => hid (few_any b off len cap T hT.out hlc W hW)
  have HCW := hid hcw
  have HED := hid hEd
  clear hcw hEd
  go_enter Try.func6, Try.ntmps6
  go_wp2_with fail
  refine (awake_any _).mono ?_
  rintro e w1 ⟨rfl, hb1⟩
  go_wp2_with fail
  refine (HF w1 (fun i hi => (hE.out w1 hb1 i hi).2.2.2.2)).mono ?_
  rintro e w2 ⟨x, rfl, hf, rfl⟩
  clear HF
  cases x with
  | false =>
    go_wp2_with fail
    refine (awake_any _).mono ?_
    rintro e w2 ⟨rfl, hb2⟩
    go_wp2_with fail
    go_ret
    exact ⟨rfl, hb1.trans (hb2.mono hb1.size)⟩
  | true =>
    replace hf := hid (hf rfl)
    have hl30 := hf.out.1
    have HB1 := hid hb1
    have hES : ∀ i, i < len → (E i).size ≤ 210 := fun i hi => by rw [HED.out]; exact encV_size _ _ _ _ _ (hf.out.2 i hi)
    have HES := hid hES
    clear hb1 hES
    go_wp2_with fail
    go_loopw [3, 20] (fun s i wr => ∃ k : Nat, k ≤ len ∧ i = .int .i64 k ∧ s = .string (pre E k) ∧ Below w.heap.size w wr) (fun _ i _ => len - (intOf i).toNat)
    case atStart => exact ⟨0, by omega, rfl, rfl, HB1.out⟩
    case round =>
      obtain ⟨k, hk, rfl, rfl, hb⟩ := hrel
      have HBk := hid hb
      clear hb
      obtain ⟨P, hP⟩ : ∃ P, P = pre E k := ⟨_, rfl⟩
      have hPs : P.size ≤ 6300 := by have := pre_size E k (fun i hi => HES.out i (by omega)); rw [hP]; omega
      rw [← hP]
      have HP := hid hP
      clear hP
      by_cases hlt : k < len
      · obtain ⟨c0, c1, c2, c3, c4⟩ := hE.out wr HBk.out k hlt
        obtain ⟨k0, k1⟩ := hK.out k hlt
        have HNk := hid (hN.out k hlt)
        have HIk := hid (hI.out k hlt)
        have ht := (hf.out).2 k hlt
        have HBA := hid (HBk.out.alloc HBk.out.size (.cells #[.int .u8 (K k), .int .u64 (N k : Nat), .int .i64 (I k), .bool (B k), .string (T k)] 61))
        rcases (show K k % 4 = 0 ∨ K k % 4 = 1 ∨ K k % 4 = 2 ∨ K k % 4 = 3 by omega) with h4 | h4 | h4 | h4
        · have HEk : Hid (E k = encS (N k)) := by show _ = _; rw [HED.out]; show encV _ _ _ _ _ = _; unfold encV; rw [if_pos h4]
          go_wp2_with fail
          refine (appendNumber_any P (by omega) (N k) HNk _).mono ?_
          rintro e w4 ⟨rfl, hb4⟩
          rw [show (ByteArray.mk (enc 9 (N k)).toArray) = encS (N k) from rfl]
          have HB4 := hid (HBA.out.trans (hb4.mono HBA.out.size))
          clear hb4
          go_wp2_with fail
          go_roundw
          case rel => exact ⟨k + 1, by omega, by go_num, by rw [pre, HEk.out, ← HP.out], HB4.out⟩
          case measure => simp [intOf]; omega
        · have HEk : Hid (E k = encS (zig (I k))) := by show _ = _; rw [HED.out]; show encV _ _ _ _ _ = _; unfold encV; rw [if_neg (by omega), if_pos h4]
          go_wp2_with fail
          refine (appendInt_any P (by omega) (I k) HIk.out.1 HIk.out.2 _).mono ?_
          rintro e w4 ⟨rfl, hb4⟩
          rw [show (ByteArray.mk (enc 9 (zig (I k))).toArray) = encS (zig (I k)) from rfl]
          have HB4 := hid (HBA.out.trans (hb4.mono HBA.out.size))
          clear hb4
          go_wp2_with fail
          go_roundw
          case rel => exact ⟨k + 1, by omega, by go_num, by rw [pre, HEk.out, ← HP.out], HB4.out⟩
          case measure => simp [intOf]; omega
        · have HEk : Hid (E k = boolS (B k)) := by show _ = _; rw [HED.out]; show encV _ _ _ _ _ = _; unfold encV; rw [if_neg (by omega), if_neg (by omega), if_pos h4]
          go_wp2_with fail
          refine (appendBool_any P (by omega) (B k) _).mono ?_
          rintro e w4 ⟨rfl, rfl⟩
          have HB4 := HBA
          go_wp2_with fail
          go_roundw
          case rel => exact ⟨k + 1, by omega, by go_num, by rw [pre, HEk.out, ← HP.out], HB4.out⟩
          case measure => simp [intOf]; omega
        · have HEk : Hid (E k = encS (T k).size ++ T k) := by show _ = _; rw [HED.out]; show encV _ _ _ _ _ = _; unfold encV; rw [if_neg (by omega), if_neg (by omega), if_neg (by omega)]
          go_wp2_with fail
          refine (appendText_any P (T k) (by omega) (by omega) _).mono ?_
          rintro e w4 ⟨rfl, hb4⟩
          have HB4 := hid (HBA.out.trans (hb4.mono HBA.out.size))
          clear hb4
          go_wp2_with fail
          go_roundw
          case rel => exact ⟨k + 1, by omega, by go_num, by rw [pre, HEk.out, ← HP.out], HB4.out⟩
          case measure => simp [intOf]; omega
      · obtain rfl : len = k := by omega
        go_wp2_with fail
        refine (newReader_any _ _).mono ?_
        rintro e w5 ⟨rfl, rfl⟩
        obtain ⟨rb, hrb⟩ : ∃ rb, rb = wr.heap.size := ⟨_, rfl⟩
        have HRB : Hid (w.heap.size ≤ rb) := by rw [hrb]; exact HBk.out.size
        have HM : Hid (Rd (wr.alloc (.cells #[.string P, .int .i64 0] 79)) rb P 0) := by rw [hrb]; exact Rd.made wr P
        have HB5 := hid (HBk.out.alloc HBk.out.size (.cells #[.string P, .int .i64 0] 79))
        have HPS : Hid (P = suf E len 0) := by show _ = _; rw [suf_all]; exact HP.out
        rw [← hrb]
        clear hrb
        go_wp2_with fail
        go_loopw [56] (fun i wr => ∃ j : Nat, j ≤ len ∧ i = .int .i64 j ∧ Rd wr rb (suf E (len - j) j) 0 ∧ Below w.heap.size w wr) (fun i _ => len - (intOf i).toNat)
        case atStart => exact ⟨0, by omega, rfl, by rw [Nat.sub_zero, ← HPS.out]; exact HM.out, HB5.out⟩
        case round =>
          obtain ⟨k, hk, rfl, hr, hb⟩ := hrel
          have HBk := hid hb
          clear hb HM HB5 HP
          by_cases hlt : k < len
          · obtain ⟨c0, c1, c2, c3, c4⟩ := hE.out wr HBk.out k hlt
            obtain ⟨k0, k1⟩ := hK.out k hlt
            have HNk := hid (hN.out k hlt)
            have HIk := hid (hI.out k hlt)
            have ht := (hf.out).2 k hlt
            have HBA := hid (HBk.out.alloc HBk.out.size (.cells #[.int .u8 (K k), .int .u64 (N k : Nat), .int .i64 (I k), .bool (B k), .string (T k)] 61))
            obtain ⟨R, hR⟩ : ∃ R, R = suf E (len - (k + 1)) (k + 1) := ⟨_, rfl⟩
            obtain ⟨S, hS⟩ : ∃ S, S = suf E (len - k) k := ⟨_, rfl⟩
            have hS0 : S = E k ++ R := by rw [hS, show len - k = (len - (k + 1)) + 1 by omega, suf, hR]
            have hSs : S.size ≤ 6300 := by have := suf_size E (len - k) k (fun i h1 h2 => HES.out i (by omega)); rw [hS]; omega
            rw [← hS] at hr
            have HA := hid (hr.alloc (.cells #[.int .u8 (K k), .int .u64 (N k : Nat), .int .i64 (I k), .bool (B k), .string (T k)] 61))
            have hne : wr.heap.size ≠ rb := by have := hr.lt; omega
            have HRk1 := hid hR
            clear hr hS hR
            rcases (show K k % 4 = 0 ∨ K k % 4 = 1 ∨ K k % 4 = 2 ∨ K k % 4 = 3 by omega) with h4 | h4 | h4 | h4
            · have HSk : Hid (S = encS (N k) ++ R) := by have he : E k = encS (N k) := (by rw [HED.out]; show encV _ _ _ _ _ = _; unfold encV; rw [if_pos h4]); show _ = _; rw [hS0, he]
              have HV : Hid ((wr.alloc (.cells #[.int .u8 (K k), .int .u64 (N k : Nat), .int .i64 (I k), .bool (B k), .string (T k)] 61)).cell? ⟨wr.heap.size, 1, none⟩ = some (.int .u64 (N k : Nat))) := World.cell?_alloc_new _ _ _ 1
              clear hS0
              go_wp2_with fail
              go_region_with (go_at_call 26; refine (num_next rb (N k) HNk.out S R HSk.out (by omega) _ (by exact HA.out)).mono ?_; rintro x w4 ⟨rfl, hr, hu⟩; have hv := hu.cellk hne HV.out)
              all_goals
                have HB4 := hid (HBA.out.trans (Upd.below (b := rb) ⟨hu.os, hu.tape, hu.output, hu.size, hu.block⟩ HRB.out HBA.out.size))
                have HR4 := hid hr
                clear hr hu hv
                go_wp2_with fail
                go_roundw
                case rel => exact ⟨k + 1, by omega, by go_num, by rw [← HRk1.out]; exact HR4.out, HB4.out⟩
                case measure => simp [intOf]; omega
            · have HSk : Hid (S = encS (zig (I k)) ++ R) := by have he : E k = encS (zig (I k)) := (by rw [HED.out]; show encV _ _ _ _ _ = _; unfold encV; rw [if_neg (by omega), if_pos h4]); show _ = _; rw [hS0, he]
              have HV : Hid ((wr.alloc (.cells #[.int .u8 (K k), .int .u64 (N k : Nat), .int .i64 (I k), .bool (B k), .string (T k)] 61)).cell? ⟨wr.heap.size, 2, none⟩ = some (.int .i64 (I k))) := World.cell?_alloc_new _ _ _ 2
              clear hS0
              go_wp2_with fail
              go_region_with (go_at_call 28; refine (int_next rb (I k) HIk.out.1 HIk.out.2 S R HSk.out (by omega) _ (by exact HA.out)).mono ?_; rintro x w4 ⟨rfl, hr, hu⟩; have hv := hu.cellk hne HV.out)
              all_goals
                have HB4 := hid (HBA.out.trans (Upd.below (b := rb) ⟨hu.os, hu.tape, hu.output, hu.size, hu.block⟩ HRB.out HBA.out.size))
                have HR4 := hid hr
                clear hr hu hv
                go_wp2_with fail
                go_roundw
                case rel => exact ⟨k + 1, by omega, by go_num, by rw [← HRk1.out]; exact HR4.out, HB4.out⟩
                case measure => simp [intOf]; omega
            · have HSk : Hid (S = boolS (B k) ++ R) := by have he : E k = boolS (B k) := (by rw [HED.out]; show encV _ _ _ _ _ = _; unfold encV; rw [if_neg (by omega), if_neg (by omega), if_pos h4]); show _ = _; rw [hS0, he]
              have HV : Hid ((wr.alloc (.cells #[.int .u8 (K k), .int .u64 (N k : Nat), .int .i64 (I k), .bool (B k), .string (T k)] 61)).cell? ⟨wr.heap.size, 3, none⟩ = some (.bool (B k))) := World.cell?_alloc_new _ _ _ 3
              clear hS0
              go_wp2_with fail
              go_region_with (go_at_call 30; refine (bool_next rb (B k) S R HSk.out (by omega) _ (by exact HA.out)).mono ?_; rintro x w4 ⟨rfl, hr, hu⟩; have hv := hu.cellk hne HV.out)
              all_goals
                have HB4 := hid (HBA.out.trans (Upd.below (b := rb) ⟨hu.os, hu.tape, hu.output, hu.size, hu.block⟩ HRB.out HBA.out.size))
                have HR4 := hid hr
                clear hr hu hv
                go_wp2_with fail
                go_roundw
                case rel => exact ⟨k + 1, by omega, by go_num, by rw [← HRk1.out]; exact HR4.out, HB4.out⟩
                case measure => simp [intOf]; omega
            · have HSk : Hid (S = encS (T k).size ++ T k ++ R) := by have he : E k = encS (T k).size ++ T k := (by rw [HED.out]; show encV _ _ _ _ _ = _; unfold encV; rw [if_neg (by omega), if_neg (by omega), if_neg (by omega)]); show _ = _; rw [hS0, he]
              have HV : Hid ((wr.alloc (.cells #[.int .u8 (K k), .int .u64 (N k : Nat), .int .i64 (I k), .bool (B k), .string (T k)] 61)).cell? ⟨wr.heap.size, 4, none⟩ = some (.string (T k))) := World.cell?_alloc_new _ _ _ 4
              clear hS0
              go_wp2_with fail
              go_region_with (go_at_call 32; refine (text_next rb (T k) (by omega) S R HSk.out (by omega) _ (by exact HA.out)).mono ?_; rintro x w4 ⟨rfl, hr, hu⟩; have hv := hu.cellk hne HV.out)
              all_goals
                have HB4 := hid (HBA.out.trans (Upd.below (b := rb) ⟨hu.os, hu.tape, hu.output, hu.size, hu.block⟩ HRB.out HBA.out.size))
                have HR4 := hid hr
                clear hr hu hv
                go_wp2_with fail
                go_roundw
                case rel => exact ⟨k + 1, by omega, by go_num, by rw [← HRk1.out]; exact HR4.out, HB4.out⟩
                case measure => simp [intOf]; omega
          · obtain rfl : len = k := by omega
            rw [Nat.sub_self] at hr
            have HR := hid hr
            clear hr
            go_wp2_with fail
            refine (end_any _ _ _ _ HR.out).mono ?_
            rintro e w' ⟨rfl, rfl⟩
            rw [if_pos (show (suf E 0 len).size = 0 from rfl)]
            go_wp2_with fail
            refine (left_any _ _ _ _ HR.out).mono ?_
            rintro e w' ⟨rfl, rfl⟩
            rw [show (suf E 0 len).size = 0 from rfl]
            go_wp2_with fail
            refine (rest_any _ _ _ _ HR.out).mono ?_
            rintro e w' ⟨rfl, rfl⟩
            rw [show suf E 0 len = ⟨#[]⟩ from rfl]
            go_wp2_with fail
            go_ret
            exact ⟨rfl, HBk.out⟩


set_option maxRecDepth 100000 in
theorem few_zero (A : Option Addr) (cap : Nat) (w : World) :
    Calls Try.prog 39 #[.slice A 0 cap] w fun e w' => e = .returned (.bool true) ∧ w = w' := by
  go_enter Try.func39, Try.ntmps39
  go_wp2_with fail
  go_loop [3] (fun i => i = .int .i64 0) (fun _ => 0)
  case atStart => exact rfl
  case round =>
    obtain rfl := hrel
    go_wp2_with fail
    go_ret
    exact ⟨rfl, rfl⟩
set_option maxRecDepth 100000 in
set_option maxHeartbeats 1000000 in
theorem returns_none (A : Option Addr) (cap : Nat) (w : World) :
    Calls Try.prog 6 #[.slice A 0 cap] w fun e w' => e = .returned (.bool true) ∧ Below w.heap.size w w' := by
  go_enter Try.func6, Try.ntmps6
  go_wp2_with fail
  refine (awake_any _).mono ?_
  rintro e w1 ⟨rfl, hb1⟩
  go_wp2_with fail
  refine (few_zero A cap _).mono ?_
  rintro e w2 ⟨rfl, rfl⟩
  have HB1 := hid hb1
  clear hb1
  go_wp2_with fail
  go_loop [3, 20] (fun s i => i = .int .i64 0 ∧ s = .string ⟨#[]⟩) (fun _ _ => 0)
  case atStart => exact ⟨rfl, rfl⟩
  case round =>
    obtain ⟨rfl, rfl⟩ := hrel
    go_wp2_with fail
    refine (newReader_any _ _).mono ?_
    rintro e w5 ⟨rfl, rfl⟩
    have HR := hid (Rd.made w1 ⟨#[]⟩)
    have HB5 := hid (HB1.out.alloc HB1.out.size (.cells #[.string ⟨#[]⟩, .int .i64 0] 79))
    go_wp2_with fail
    go_loop [56] (fun i => i = .int .i64 0) (fun _ => 0)
    case atStart => exact rfl
    case round =>
      obtain rfl := hrel
      go_wp2_with fail
      refine (end_any _ _ _ _ HR.out).mono ?_
      rintro e w' ⟨rfl, rfl⟩
      rw [if_pos (show (ByteArray.mk #[]).size = 0 from rfl)]
      go_wp2_with fail
      refine (left_any _ _ _ _ HR.out).mono ?_
      rintro e w' ⟨rfl, rfl⟩
      rw [show (ByteArray.mk #[]).size = 0 from rfl]
      go_wp2_with fail
      refine (rest_any _ _ _ _ HR.out).mono ?_
      rintro e w' ⟨rfl, rfl⟩
      go_wp2_with fail
      go_ret
      exact ⟨rfl, HB5.out⟩

theorem walk_WireReturns (A : Option Addr) (len cap : Nat) (C : Nat → Nat → Value) (hl : len ≤ cap) (hm : cap ≤ maxLen) (w : World) (hE : Elems w A len 5 C)
    (f0 : ∀ i, i < len → ∃ n : Int, C i 0 = .int .u8 n ∧ 0 ≤ n ∧ n ≤ 255) (f1 : ∀ i, i < len → ∃ n : Int, C i 1 = .int .u64 n ∧ 0 ≤ n ∧ n ≤ 18446744073709551615)
    (f2 : ∀ i, i < len → ∃ n : Int, C i 2 = .int .i64 n ∧ -9223372036854775808 ≤ n ∧ n ≤ 9223372036854775807) (f3 : ∀ i, i < len → ∃ n : Bool, C i 3 = .bool n) (f4 : ∀ i, i < len → ∃ n : ByteArray, C i 4 = .string n ∧ n.size ≤ maxLen) :
    Calls Try.prog 6 #[.slice A len cap] w fun e w' => e = .returned (.bool true) ∧ Below w.heap.size w w' := by
  rcases Nat.eq_zero_or_pos len with h0 | h0
  · subst h0; exact returns_none A cap w
  · obtain ⟨b, off, rfl, hlt, hc⟩ := hE h0
    obtain ⟨K, hK⟩ := choose_of f0
    obtain ⟨N, hN⟩ := choose_of (p := fun i (n : Nat) => C i 1 = .int .u64 (n : Int) ∧ n < 18446744073709551616) (len := len) (fun i hi => by
      obtain ⟨n, e, h1, h2⟩ := f1 i hi
      exact ⟨n.toNat, by rw [e]; congr 1; omega, by omega⟩)
    obtain ⟨I, hI⟩ := choose_of f2
    obtain ⟨B, hB⟩ := choose_of f3
    obtain ⟨T, hT⟩ := choose_of f4
    refine returns_some b off len cap K N I B T (by unfold maxLen at hm; omega) w (fun i hi => (hK i hi).2) (fun i hi => (hN i hi).2) (fun i hi => (hI i hi).2) (fun i hi => (hT i hi).2) (fun W hW i hi => ?_) (fun i hi => ?_) _ rfl
    · have g (j : Nat) (hj : j < 5) : W.cell? ⟨b, off + (i * 5 + j), none⟩ = some (C i j) := (hW.cell (p := ⟨b, off + (i * 5 + j), none⟩) hlt).trans (hc i j hi hj)
      exact ⟨(g 0 (by omega)).trans (by rw [(hK i hi).1]), (g 1 (by omega)).trans (by rw [(hN i hi).1]), (g 2 (by omega)).trans (by rw [(hI i hi).1]), (g 3 (by omega)).trans (by rw [hB i hi]), (g 4 (by omega)).trans (by rw [(hT i hi).1])⟩
    · exact (hc i 4 hi (by omega)).trans (by rw [(hT i hi).1])
namespace wireReturns
theorem own : ownKnob Try.prog.godebug = none := by kernel_rfl
theorem laidOut : laidOutB Try.prog = true := by kernel_rfl
set_option linter.unusedVariables false
set_option maxRecDepth 100000 in
theorem lifted (os : Os) (started : os.Started) (H : Type) (enc : TypeId × Value → H) :
    ReturnsInHanded {} Try.checked os 6 .any (Rows.wireReturnsSpec.pre6 enc Try.prog Try.f6 Rows.wireReturnsRow.domain false) (Rows.wireReturnsSpec.post enc Try.prog Try.f6 false true false false) := by
  refine returnsInHanded_of_change (C := Try.checked) own started (by kernel_rfl) Try.func6
    (ChangeSpec.witness6 (enc := enc) (C := Try.checked) false ⟨#[], #[.slice none 0 0], []⟩ 8 (by kernel_rfl) (by kernel_rfl) (by kernel_rfl) (by kernel_rfl)) ?_
  intro W base args ds gs before hval0 hW hcnd _
  have hval : ∀ (j : Nat) t v, Try.f6.params[j]? = some t → args[j]? = some v → Value.okWide Try.prog W .any base t v := hval0
  have hW' := hW
  obtain ⟨p, q, hA0, hV, rfl, hfz, hnd⟩ := hW
  have hA : DataW.TrodAll enc Try.prog W 0 (fun _ => true) true Try.f6.params.toList args.toList ds p := hA0
  rw [Try.params6] at hA hval
  obtain ⟨v0, vs0, d0, ds0, p0, q0, hargs, rfl, rfl, h0, r0⟩ := trodAll_cons hA
  obtain ⟨rfl, rfl, rfl⟩ := trodAll_nil r0
  obtain rfl : args = #[v0] := by cases args; simp_all
  obtain ⟨rfl, rfl⟩ := trodVars_none hV
  obtain ⟨a0, len0, cap0, rfl⟩ := okWide_slice Try.underlying58 (hval 0 58 v0 rfl rfl)
  have k0 := h0
  have lt0 : ∀ x ∈ p0, x.block < W.heap.size := by obtain ⟨m, hm⟩ := k0; exact DataW.trod_lt m _ _ _ hm
  obtain ⟨fuel0, hf0⟩ := h0
  obtain ⟨A0, l0, c0, C0, hcs0, hl0, hm0, hE0, hF0⟩ := open_elems Try.underlying58 Try.underlying61 (by kernel_rfl) (by kernel_rfl) (by decide) hf0
  simp only [Value.cells, List.cons.injEq, Value.slice.injEq, and_true] at hcs0
  obtain ⟨rfl, rfl, rfl⟩ := hcs0
  have s0_0 : ∀ i, i < len0 → ∃ n : Int, C0 i 0 = .int .u8 n ∧ 0 ≤ n ∧ n ≤ 255 := fun i hi => by obtain ⟨y, n, hy⟩ := hF0 i 0 _ hi rfl; obtain ⟨n, e, _, hw⟩ := DataW.trod_int Try.underlying5 hy; exact ⟨n, List.head_eq_of_cons_eq e, bounds_u8 hw⟩
  have s0_1 : ∀ i, i < len0 → ∃ n : Int, C0 i 1 = .int .u64 n ∧ 0 ≤ n ∧ n ≤ 18446744073709551615 := fun i hi => by obtain ⟨y, n, hy⟩ := hF0 i 1 _ hi rfl; obtain ⟨n, e, _, hw⟩ := DataW.trod_int Try.underlying22 hy; exact ⟨n, List.head_eq_of_cons_eq e, bounds_u64 hw⟩
  have s0_2 : ∀ i, i < len0 → ∃ n : Int, C0 i 2 = .int .i64 n ∧ -9223372036854775808 ≤ n ∧ n ≤ 9223372036854775807 := fun i hi => by obtain ⟨y, n, hy⟩ := hF0 i 2 _ hi rfl; obtain ⟨n, e, _, hw⟩ := DataW.trod_int Try.underlying3 hy; exact ⟨n, List.head_eq_of_cons_eq e, bounds_i64 hw⟩
  have s0_3 : ∀ i, i < len0 → ∃ n : Bool, C0 i 3 = .bool n := fun i hi => by obtain ⟨y, n, hy⟩ := hF0 i 3 _ hi rfl; obtain ⟨n, e, _⟩ := DataW.trod_bool Try.underlying4 hy; exact ⟨n, List.head_eq_of_cons_eq e⟩
  have s0_4 : ∀ i, i < len0 → ∃ n : ByteArray, C0 i 4 = .string n ∧ n.size ≤ maxLen := fun i hi => by obtain ⟨y, n, hy⟩ := hF0 i 4 _ hi rfl; obtain ⟨n, e, _, hw⟩ := DataW.trod_string Try.underlying9 hy; exact ⟨n, List.head_eq_of_cons_eq e, hw⟩
  clear hA0 hval0
  refine (walk_WireReturns a0 len0 cap0 C0 hl0 hm0 hE0 s0_0 s0_1 s0_2 s0_3 s0_4 (w := W)).mono fun e W' ⟨he, bel⟩ => ?_
  subst he
  exact ⟨_, rfl, _, _, _, [], _, [], hW', trodAll_mk1 (shut_bool Try.underlying4 _), (trodAll_cons_mk (Below.trod laidOut (by kernel_rfl) (of_decide_eq_true (by kernel_rfl)) k0 bel lt0) trodAll_mk0), rfl, bel.frame _, fun h => by cases h⟩
theorem over : Rows.wireReturnsRow.holds Try.pinned (OpenSpec.ofChange Rows.wireReturnsSpec) :=
  OpenClaim.holds_of_wide 6 Try.f6 rfl rfl rfl rfl rfl rfl rfl ⟨rfl, rfl, rfl, rfl, rfl⟩ rfl rfl rfl rfl rfl (by kernel_rfl) Try.func6 (by kernel_rfl)
    (of_decide_eq_true (by kernel_rfl)) (by unfold Func.isWrapper; first | (rw [if_pos (by decide +kernel)]; kernel_rfl) | (rw [if_neg (by decide +kernel)]; exact ⟨rfl, rfl⟩))
    (fun os started H enc _ => lifted os started H enc)
theorem proved : Rows.WireReturnsSaid := over
end wireReturns

end Go.Proofs.Ytlmhlinjlneagaa
