/- Statement WireStrict: a value that is read without an error has the bytes that were read as its encoding. For every text of at most 300 bytes and every kind; longer ones are outside the statement's own bound. -/
import Derived.Test.YtlmhlinjlneagaaRows
import Derived.WalkKit
import Derived.ProofKit
import Derived.OpenShut
import Derived.ShutString
import Derived.ChangeOld
import Derived.Below
import Derived.Test.YtlmhlinjlneagaaWireT10
import Derived.Test.YtlmhlinjlneagaaWireM6
namespace Go.Proofs.Ytlmhlinjlneagaa
open Go.Lib Go.ChangeShapes Go.WideShapes Go.ChangeAt Go.RowKit
open Go.ChangeMaps (open_string shut_string)


theorem ByteArray.empty_append' (a : ByteArray) : (ByteArray.mk #[]) ++ a = a := by
  apply ByteArray.ext
  rw [ByteArray.data_append]
  exact Array.empty_append
theorem appInt_empty (n : Int) (h0 : -9223372036854775808 ≤ n) (h1 : n ≤ 9223372036854775807) (w : World) :
    Calls Try.prog 18 #[.string ⟨#[]⟩, .int .i64 n] w fun e w' => e = .returned (.string (encS (zig n))) ∧ Below w.heap.size w w' :=
  (appendInt_any ⟨#[]⟩ (by decide) n h0 h1 w).mono fun e w' ⟨he, hb⟩ => ⟨he.trans (by rw [ByteArray.empty_append']; rfl), hb⟩
theorem split_eq (s : ByteArray) (n c : Nat) (r : List UInt8) (hc : c = (enc 9 n).length) (h : s.data.toList = enc 9 n ++ r) : encS n ++ s.extract c s.size = s := by
  apply ByteArray.ext
  apply Array.toList_inj.1
  rw [ByteArray.data_append, Array.toList_append, extract_tail, h, hc]
  simp [encS]
theorem split_bool (s : ByteArray) (n : Nat) (_hs : 1 ≤ s.size) (h : decB s.data.toList = some n) : boolS (n == 1) ++ s.extract 1 s.size = s := by
  apply ByteArray.ext
  apply Array.toList_inj.1
  rw [ByteArray.data_append, Array.toList_append, extract_tail]
  cases hl : s.data.toList with
  | nil => rw [hl] at h; cases h
  | cons b l =>
    rw [hl, decB] at h
    by_cases hb : 1 < b.toNat
    · rw [if_pos hb] at h; cases h
    · rw [if_neg hb] at h
      simp only [Option.some.injEq] at h
      subst h
      rcases (show b.toNat = 0 ∨ b.toNat = 1 by omega) with h0 | h0
      · have : b = 0 := UInt8.toNat_inj.1 h0
        subst this; rfl
      · have : b = 1 := UInt8.toNat_inj.1 h0
        subst this; rfl
theorem split_text (R : ByteArray) (n m : Nat) (hm : R.size = m) (hn : n ≤ m) : R.extract 0 n ++ R.extract n m = R := by
  apply ByteArray.ext
  apply Array.toList_inj.1
  subst hm
  rw [ByteArray.data_append, Array.toList_append, extract_tail, extract_list]
  simp
set_option maxRecDepth 100000 in
set_option maxHeartbeats 1000000 in
theorem strict_0 (a0 : ByteArray) (a1 : Nat) (hk : (a1 : Int) % 4 = 0) (hs : a0.size ≤ 300) (w : World) :
    Calls Try.prog 7 #[.string a0, .int .u8 a1] w fun e w' => e = .returned (.bool true) ∧ Below w.heap.size w w' := by
  go_enter Try.func7, Try.ntmps7
  go_wp2_with fail
  refine (awake_any _).mono ?_
  rintro e w1 ⟨rfl, hb1⟩
  go_wp2_with fail
  refine (newReader_any _ _).mono ?_
  rintro e w2 ⟨rfl, rfl⟩
  have HM := hid (Rd.made w1 a0)
  have HB1 := hid (hb1.alloc hb1.size (.cells #[.string a0, .int .i64 0] 79))
  have HL1 : Hid (w.heap.size ≤ w1.heap.size) := hb1.size
  clear hb1
  go_wp2_with fail
  refine (number_meth w1.heap.size a0 (by omega) _ HM.out).mono ?_
  intro x w3 hx
  unfold NumRead at hx
  cases hd : dec a0.data.toList 0 0 with
  | none =>
    rw [hd] at hx
    obtain ⟨rfl, hr, hu⟩ := hx
    have HR := hid hr
    have HB3 := hid (HB1.out.trans (hu.below HL1.out (by have := HL1.out; simp; omega)))
    clear hd hr hu
    go_wp2_with fail
    refine (app_empty 0 (by show 0 < _; omega) _).mono ?_
    rintro x w4 ⟨rfl, hb4⟩
    have HR := hid (Below.rd hb4 HR.out HR.out.lt)
    have HB := hid (HB3.out.trans (hb4.mono HB3.out.size))
    clear hb4
    go_wp2_with fail
    refine (end_any _ _ _ _ HR.out).mono ?_
    rintro e w' ⟨rfl, rfl⟩
    rw [if_pos (show ByteArray.empty.size = 0 from rfl)]
    go_wp2_with fail
    refine (left_any _ _ _ _ HR.out).mono ?_
    rintro e w' ⟨rfl, rfl⟩
    rw [ByteArray.size_empty]
    go_wp2_with fail
    refine (rest_any _ _ _ _ HR.out).mono ?_
    rintro e w' ⟨rfl, rfl⟩
    go_wp2_with fail
    go_ret
    exact ⟨by rfl, HB.out⟩
  | some p =>
    obtain ⟨n, c⟩ := p
    rw [hd] at hx
    obtain ⟨hc, rfl, hr, hu⟩ := hx
    obtain ⟨hn, hcl, r, hsr⟩ := dec_strict0 a0 n c hd
    have heq := split_eq a0 n c r hcl hsr
    have HN := hid hn
    have HR := hid hr
    have hA := encS_size n
    have hE : (a0.extract c a0.size).size ≤ 300 := by simp; omega
    have HB3 := hid (HB1.out.trans (hu.below HL1.out (by have := HL1.out; simp; omega)))
    clear hd hr hu hn hsr hcl r
    generalize a0.extract c a0.size = R at *
    have hadd := add_ok (encS n) R (by omega) (by omega)
    clear hA hE
    go_wp2_with fail
    refine (app_empty n HN _).mono ?_
    rintro x w4 ⟨rfl, hb4⟩
    rw [show (ByteArray.mk (enc 9 n).toArray) = encS n from rfl]
    have HR := hid (Below.rd hb4 HR.out HR.out.lt)
    have HB := hid (HB3.out.trans (hb4.mono HB3.out.size))
    clear hb4
    by_cases hz : R.size = 0
    · have hz1 : ((R.size : Int) == 0) = true := by simp [hz]
      clear hz1
      go_wp2_with fail
      refine (end_any _ _ _ _ HR.out).mono ?_
      rintro e w' ⟨rfl, rfl⟩
      rw [if_pos hz]
      go_wp2_with fail
      refine (rest_any _ _ _ _ HR.out).mono ?_
      rintro e w' ⟨rfl, rfl⟩
      go_wp2_with fail
      refine (left_any _ _ _ _ HR.out).mono ?_
      rintro e w' ⟨rfl, rfl⟩
      go_wp2_with fail
      refine (rest_any _ _ _ _ HR.out).mono ?_
      rintro e w' ⟨rfl, rfl⟩
      go_wp2_with fail
      go_ret
      exact ⟨by simp, HB.out⟩
    · have hz1 : ((R.size : Int) == 0) = false := by simp [hz]
      go_wp2_with fail
      refine (end_any _ _ _ _ HR.out).mono ?_
      rintro e w' ⟨rfl, rfl⟩
      rw [if_neg hz]
      go_wp2_with fail
      refine (left_any _ _ _ _ HR.out).mono ?_
      rintro e w' ⟨rfl, rfl⟩
      go_wp2_with fail
      refine (rest_any _ _ _ _ HR.out).mono ?_
      rintro e w' ⟨rfl, rfl⟩
      go_wp2_with fail
      refine (left_any _ _ _ _ HR.out).mono ?_
      rintro e w' ⟨rfl, rfl⟩
      go_wp2_with fail
      refine (rest_any _ _ _ _ HR.out).mono ?_
      rintro e w' ⟨rfl, rfl⟩
      go_wp2_with fail
      go_ret
      exact ⟨by simp, HB.out⟩

set_option maxRecDepth 100000 in
set_option maxHeartbeats 1000000 in
theorem strict_1 (a0 : ByteArray) (a1 : Nat) (hk : (a1 : Int) % 4 = 1) (hs : a0.size ≤ 300) (w : World) :
    Calls Try.prog 7 #[.string a0, .int .u8 a1] w fun e w' => e = .returned (.bool true) ∧ Below w.heap.size w w' := by
  go_enter Try.func7, Try.ntmps7
  go_wp2_with fail
  refine (awake_any _).mono ?_
  rintro e w1 ⟨rfl, hb1⟩
  go_wp2_with fail
  refine (newReader_any _ _).mono ?_
  rintro e w2 ⟨rfl, rfl⟩
  have HM := hid (Rd.made w1 a0)
  have HB1 := hid (hb1.alloc hb1.size (.cells #[.string a0, .int .i64 0] 79))
  have HL1 : Hid (w.heap.size ≤ w1.heap.size) := hb1.size
  clear hb1
  go_wp2_with fail
  refine (int_any (fun n c h => (dec_strict0 a0 n c h).1) w1.heap.size (by omega) _ HM.out).mono ?_
  rintro x w3 ⟨hu, hx⟩
  cases hd : dec a0.data.toList 0 0 with
  | none =>
    rw [hd] at hx
    obtain ⟨rfl, hr⟩ := hx
    have HR := hid hr
    have HB3 := hid (HB1.out.trans (hu.below HL1.out (by have := HL1.out; simp; omega)))
    clear hd hr hu
    go_wp2_with fail
    refine (appInt_empty 0 (by omega) (by omega) _).mono ?_
    rintro x w4 ⟨rfl, hb4⟩
    have HR := hid (Below.rd hb4 HR.out HR.out.lt)
    have HB := hid (HB3.out.trans (hb4.mono HB3.out.size))
    clear hb4
    go_wp2_with fail
    refine (end_any _ _ _ _ HR.out).mono ?_
    rintro e w' ⟨rfl, rfl⟩
    rw [if_pos (show ByteArray.empty.size = 0 from rfl)]
    go_wp2_with fail
    refine (left_any _ _ _ _ HR.out).mono ?_
    rintro e w' ⟨rfl, rfl⟩
    rw [ByteArray.size_empty]
    go_wp2_with fail
    refine (rest_any _ _ _ _ HR.out).mono ?_
    rintro e w' ⟨rfl, rfl⟩
    go_wp2_with fail
    go_ret
    exact ⟨by rfl, HB.out⟩
  | some p =>
    obtain ⟨n, c⟩ := p
    rw [hd] at hx
    obtain ⟨hc, rfl, hr⟩ := hx
    obtain ⟨hn, hcl, r, hsr⟩ := dec_strict0 a0 n c hd
    have heq := split_eq a0 n c r hcl hsr
    have HZ := hid (zag_bounds n hn)
    have HR := hid hr
    have hA := encS_size n
    have hE : (a0.extract c a0.size).size ≤ 300 := by simp; omega
    have HB3 := hid (HB1.out.trans (hu.below HL1.out (by have := HL1.out; simp; omega)))
    clear hd hr hu hn hsr hcl r
    generalize a0.extract c a0.size = R at *
    have hadd := add_ok (encS n) R (by omega) (by omega)
    clear hA hE
    go_wp2_with fail
    refine (appInt_empty (zag n) HZ.out.1 HZ.out.2 _).mono ?_
    rintro x w4 ⟨rfl, hb4⟩
    rw [zig_zag]
    have HR := hid (Below.rd hb4 HR.out HR.out.lt)
    have HB := hid (HB3.out.trans (hb4.mono HB3.out.size))
    clear hb4
    by_cases hz : R.size = 0
    · have hz1 : ((R.size : Int) == 0) = true := by simp [hz]
      clear hz1
      go_wp2_with fail
      refine (end_any _ _ _ _ HR.out).mono ?_
      rintro e w' ⟨rfl, rfl⟩
      rw [if_pos hz]
      go_wp2_with fail
      refine (rest_any _ _ _ _ HR.out).mono ?_
      rintro e w' ⟨rfl, rfl⟩
      go_wp2_with fail
      refine (left_any _ _ _ _ HR.out).mono ?_
      rintro e w' ⟨rfl, rfl⟩
      go_wp2_with fail
      refine (rest_any _ _ _ _ HR.out).mono ?_
      rintro e w' ⟨rfl, rfl⟩
      go_wp2_with fail
      go_ret
      exact ⟨by simp, HB.out⟩
    · have hz1 : ((R.size : Int) == 0) = false := by simp [hz]
      go_wp2_with fail
      refine (end_any _ _ _ _ HR.out).mono ?_
      rintro e w' ⟨rfl, rfl⟩
      rw [if_neg hz]
      go_wp2_with fail
      refine (left_any _ _ _ _ HR.out).mono ?_
      rintro e w' ⟨rfl, rfl⟩
      go_wp2_with fail
      refine (rest_any _ _ _ _ HR.out).mono ?_
      rintro e w' ⟨rfl, rfl⟩
      go_wp2_with fail
      refine (left_any _ _ _ _ HR.out).mono ?_
      rintro e w' ⟨rfl, rfl⟩
      go_wp2_with fail
      refine (rest_any _ _ _ _ HR.out).mono ?_
      rintro e w' ⟨rfl, rfl⟩
      go_wp2_with fail
      go_ret
      exact ⟨by simp, HB.out⟩

set_option maxRecDepth 100000 in
set_option maxHeartbeats 1000000 in
theorem strict_2 (a0 : ByteArray) (a1 : Nat) (hk : (a1 : Int) % 4 = 2) (hs : a0.size ≤ 300) (w : World) :
    Calls Try.prog 7 #[.string a0, .int .u8 a1] w fun e w' => e = .returned (.bool true) ∧ Below w.heap.size w w' := by
  go_enter Try.func7, Try.ntmps7
  go_wp2_with fail
  refine (awake_any _).mono ?_
  rintro e w1 ⟨rfl, hb1⟩
  go_wp2_with fail
  refine (newReader_any _ _).mono ?_
  rintro e w2 ⟨rfl, rfl⟩
  have HM := hid (Rd.made w1 a0)
  have HB1 := hid (hb1.alloc hb1.size (.cells #[.string a0, .int .i64 0] 79))
  have HL1 : Hid (w.heap.size ≤ w1.heap.size) := hb1.size
  clear hb1
  go_wp2_with fail
  refine (bool_any w1.heap.size a0 (by omega) _ HM.out).mono ?_
  rintro x w3 ⟨hu, hx⟩
  cases hd : decB a0.data.toList with
  | none =>
    rw [hd] at hx
    obtain ⟨rfl, hr⟩ := hx
    have HR := hid hr
    have HB := hid (HB1.out.trans (hu.below HL1.out (by have := HL1.out; simp; omega)))
    clear hd hr hu
    go_wp2_with fail
    refine (appendBool_any ⟨#[]⟩ (by decide) false _).mono ?_
    rintro x w4 ⟨rfl, rfl⟩
    go_wp2_with fail
    refine (end_any _ _ _ _ HR.out).mono ?_
    rintro e w' ⟨rfl, rfl⟩
    rw [if_pos (show ByteArray.empty.size = 0 from rfl)]
    go_wp2_with fail
    refine (left_any _ _ _ _ HR.out).mono ?_
    rintro e w' ⟨rfl, rfl⟩
    rw [ByteArray.size_empty]
    go_wp2_with fail
    refine (rest_any _ _ _ _ HR.out).mono ?_
    rintro e w' ⟨rfl, rfl⟩
    go_wp2_with fail
    go_ret
    exact ⟨by rfl, HB.out⟩
  | some n =>
    rw [hd] at hx
    obtain ⟨hn, hs1, rfl, hr⟩ := hx
    have heq := split_bool a0 n hs1 hd
    have HR := hid hr
    have hA := boolS_size (n == 1)
    have hE : (a0.extract 1 a0.size).size ≤ 300 := by simp; omega
    have HB := hid (HB1.out.trans (hu.below HL1.out (by have := HL1.out; simp; omega)))
    clear hd hr hu hn
    generalize a0.extract 1 a0.size = R at *
    generalize (n == 1) = B at *
    have hadd := add_ok (boolS B) R (by omega) (by omega)
    clear hA hE
    go_wp2_with fail
    refine (appendBool_any ⟨#[]⟩ (by decide) B _).mono ?_
    rintro x w4 ⟨rfl, rfl⟩
    rw [ByteArray.empty_append' (boolS B)]
    by_cases hz : R.size = 0
    · have hz1 : ((R.size : Int) == 0) = true := by simp [hz]
      clear hz1
      go_wp2_with fail
      refine (end_any _ _ _ _ HR.out).mono ?_
      rintro e w' ⟨rfl, rfl⟩
      rw [if_pos hz]
      go_wp2_with fail
      refine (rest_any _ _ _ _ HR.out).mono ?_
      rintro e w' ⟨rfl, rfl⟩
      go_wp2_with fail
      refine (left_any _ _ _ _ HR.out).mono ?_
      rintro e w' ⟨rfl, rfl⟩
      go_wp2_with fail
      refine (rest_any _ _ _ _ HR.out).mono ?_
      rintro e w' ⟨rfl, rfl⟩
      go_wp2_with fail
      go_ret
      exact ⟨by simp, HB.out⟩
    · have hz1 : ((R.size : Int) == 0) = false := by simp [hz]
      go_wp2_with fail
      refine (end_any _ _ _ _ HR.out).mono ?_
      rintro e w' ⟨rfl, rfl⟩
      rw [if_neg hz]
      go_wp2_with fail
      refine (left_any _ _ _ _ HR.out).mono ?_
      rintro e w' ⟨rfl, rfl⟩
      go_wp2_with fail
      refine (rest_any _ _ _ _ HR.out).mono ?_
      rintro e w' ⟨rfl, rfl⟩
      go_wp2_with fail
      refine (left_any _ _ _ _ HR.out).mono ?_
      rintro e w' ⟨rfl, rfl⟩
      go_wp2_with fail
      refine (rest_any _ _ _ _ HR.out).mono ?_
      rintro e w' ⟨rfl, rfl⟩
      go_wp2_with fail
      go_ret
      exact ⟨by simp, HB.out⟩

set_option maxRecDepth 100000 in
set_option maxHeartbeats 1000000 in
theorem strict_3 (a0 : ByteArray) (a1 : Nat) (hk : (a1 : Int) % 4 = 3) (hs : a0.size ≤ 300) (w : World) :
    Calls Try.prog 7 #[.string a0, .int .u8 a1] w fun e w' => e = .returned (.bool true) ∧ Below w.heap.size w w' := by
  go_enter Try.func7, Try.ntmps7
  go_wp2_with fail
  refine (awake_any _).mono ?_
  rintro e w1 ⟨rfl, hb1⟩
  go_wp2_with fail
  refine (newReader_any _ _).mono ?_
  rintro e w2 ⟨rfl, rfl⟩
  have HM := hid (Rd.made w1 a0)
  have HB1 := hid (hb1.alloc hb1.size (.cells #[.string a0, .int .i64 0] 79))
  have HL1 : Hid (w.heap.size ≤ w1.heap.size) := hb1.size
  clear hb1
  go_wp2_with fail
  refine (text_any w1.heap.size a0 (by omega) 300 (by omega) (by omega) _ HM.out).mono ?_
  rintro x w3 ⟨hu, hx⟩
  have HB3 := hid (HB1.out.trans (hu.below HL1.out (by have := HL1.out; simp; omega)))
  clear hu
  cases hd : dec a0.data.toList 0 0 with
  | none =>
    rw [hd] at hx
    obtain ⟨rfl, hr⟩ := hx
    have HR := hid hr
    clear hd hr
    go_wp2_with fail
    refine (appendText_any ⟨#[]⟩ ⟨#[]⟩ (by decide) (by decide) _).mono ?_
    rintro x w4 ⟨rfl, hb4⟩
    have HR := hid (Below.rd hb4 HR.out HR.out.lt)
    have HB := hid (HB3.out.trans (hb4.mono HB3.out.size))
    clear hb4
    go_wp2_with fail
    refine (end_any _ _ _ _ HR.out).mono ?_
    rintro e w' ⟨rfl, rfl⟩
    rw [if_pos (show ByteArray.empty.size = 0 from rfl)]
    go_wp2_with fail
    refine (left_any _ _ _ _ HR.out).mono ?_
    rintro e w' ⟨rfl, rfl⟩
    rw [ByteArray.size_empty]
    go_wp2_with fail
    refine (rest_any _ _ _ _ HR.out).mono ?_
    rintro e w' ⟨rfl, rfl⟩
    go_wp2_with fail
    go_ret
    exact ⟨by rfl, HB.out⟩
  | some p =>
    obtain ⟨n, c⟩ := p
    rw [hd] at hx
    obtain ⟨hc, hx⟩ := hx
    obtain ⟨hn, hcl, r, hsr⟩ := dec_strict0 a0 n c hd
    have heq := split_eq a0 n c r hcl hsr
    clear hd
    by_cases hm : (300 : Int) < (n : Int)
    · rw [if_pos hm] at hx
      obtain ⟨rfl, hr⟩ := hx
      have HR := hid hr
      clear hr hm hn hsr hcl r heq hc
      go_wp2_with fail
      refine (appendText_any ⟨#[]⟩ ⟨#[]⟩ (by decide) (by decide) _).mono ?_
      rintro x w4 ⟨rfl, hb4⟩
      have HR := hid (Below.rd hb4 HR.out HR.out.lt)
      have HB := hid (HB3.out.trans (hb4.mono HB3.out.size))
      clear hb4
      go_wp2_with fail
      refine (end_any _ _ _ _ HR.out).mono ?_
      rintro e w' ⟨rfl, rfl⟩
      rw [if_pos (show ByteArray.empty.size = 0 from rfl)]
      go_wp2_with fail
      refine (left_any _ _ _ _ HR.out).mono ?_
      rintro e w' ⟨rfl, rfl⟩
      rw [ByteArray.size_empty]
      go_wp2_with fail
      refine (rest_any _ _ _ _ HR.out).mono ?_
      rintro e w' ⟨rfl, rfl⟩
      go_wp2_with fail
      go_ret
      exact ⟨by rfl, HB.out⟩
    · rw [if_neg hm] at hx
      by_cases hq : a0.size - c < n
      · rw [if_pos hq] at hx
        obtain ⟨rfl, hr⟩ := hx
        have HR := hid hr
        clear hr hm hn hsr hcl r heq hc hq
        go_wp2_with fail
        refine (appendText_any ⟨#[]⟩ ⟨#[]⟩ (by decide) (by decide) _).mono ?_
        rintro x w4 ⟨rfl, hb4⟩
        have HR := hid (Below.rd hb4 HR.out HR.out.lt)
        have HB := hid (HB3.out.trans (hb4.mono HB3.out.size))
        clear hb4
        go_wp2_with fail
        refine (end_any _ _ _ _ HR.out).mono ?_
        rintro e w' ⟨rfl, rfl⟩
        rw [if_pos (show ByteArray.empty.size = 0 from rfl)]
        go_wp2_with fail
        refine (left_any _ _ _ _ HR.out).mono ?_
        rintro e w' ⟨rfl, rfl⟩
        rw [ByteArray.size_empty]
        go_wp2_with fail
        refine (rest_any _ _ _ _ HR.out).mono ?_
        rintro e w' ⟨rfl, rfl⟩
        go_wp2_with fail
        go_ret
        exact ⟨by rfl, HB.out⟩
      · rw [if_neg hq] at hx
        obtain ⟨rfl, hr⟩ := hx
        have hE : (a0.extract c a0.size).size = a0.size - c := by simp
        have heq2 := split_text (a0.extract c a0.size) n (a0.size - c) hE (by omega)
        have htl : ((a0.extract c a0.size).extract 0 n).size = n := by simp; omega
        have hRl : ((a0.extract c a0.size).extract n (a0.size - c)).size ≤ 300 := by simp; omega
        have HR := hid hr
        have heq3 : (encS n ++ (a0.extract c a0.size).extract 0 n) ++ (a0.extract c a0.size).extract n (a0.size - c) = a0 := by rw [ByteArray.append_assoc, heq2, heq]
        have hA := encS_size n
        clear hr hsr hcl r heq heq2 hE hm hq hn hc
        generalize (a0.extract c a0.size).extract n (a0.size - c) = R at *
        generalize (a0.extract c a0.size).extract 0 n = T at *
        subst htl
        have hTl : T.size ≤ 300 := by have := congrArg ByteArray.size heq3; simp only [ByteArray.size_append] at this; omega
        have hadd := add_ok (encS T.size ++ T) R (by rw [ByteArray.size_append]; omega) (by omega)
        clear hA
        go_wp2_with fail
        refine (appendText_any ⟨#[]⟩ T (by decide) (by omega) _).mono ?_
        rintro x w4 ⟨rfl, hb4⟩
        rw [ByteArray.empty_append' (encS T.size ++ T)]
        have HR := hid (Below.rd hb4 HR.out HR.out.lt)
        have HB := hid (HB3.out.trans (hb4.mono HB3.out.size))
        clear hb4
        by_cases hz : R.size = 0
        · have hz1 : ((R.size : Int) == 0) = true := by simp [hz]
          clear hz1
          go_wp2_with fail
          refine (end_any _ _ _ _ HR.out).mono ?_
          rintro e w' ⟨rfl, rfl⟩
          rw [if_pos hz]
          go_wp2_with fail
          refine (rest_any _ _ _ _ HR.out).mono ?_
          rintro e w' ⟨rfl, rfl⟩
          go_wp2_with fail
          refine (left_any _ _ _ _ HR.out).mono ?_
          rintro e w' ⟨rfl, rfl⟩
          go_wp2_with fail
          refine (rest_any _ _ _ _ HR.out).mono ?_
          rintro e w' ⟨rfl, rfl⟩
          go_wp2_with fail
          go_ret
          exact ⟨by simp, HB.out⟩
        · have hz1 : ((R.size : Int) == 0) = false := by simp [hz]
          go_wp2_with fail
          refine (end_any _ _ _ _ HR.out).mono ?_
          rintro e w' ⟨rfl, rfl⟩
          rw [if_neg hz]
          go_wp2_with fail
          refine (left_any _ _ _ _ HR.out).mono ?_
          rintro e w' ⟨rfl, rfl⟩
          go_wp2_with fail
          refine (rest_any _ _ _ _ HR.out).mono ?_
          rintro e w' ⟨rfl, rfl⟩
          go_wp2_with fail
          refine (left_any _ _ _ _ HR.out).mono ?_
          rintro e w' ⟨rfl, rfl⟩
          go_wp2_with fail
          refine (rest_any _ _ _ _ HR.out).mono ?_
          rintro e w' ⟨rfl, rfl⟩
          go_wp2_with fail
          go_ret
          exact ⟨by simp, HB.out⟩


set_option maxRecDepth 100000 in
theorem strict_long (a0 : ByteArray) (a1 : Nat) (hs : ¬ a0.size ≤ 300) (w : World) :
    Calls Try.prog 7 #[.string a0, .int .u8 a1] w fun e w' => e = .returned (.bool true) ∧ Below w.heap.size w w' := by
  go_enter Try.func7, Try.ntmps7
  go_wp2_with fail
  refine (awake_any _).mono ?_
  rintro e w1 ⟨rfl, hb1⟩
  go_wp2_with fail
  refine (awake_any _).mono ?_
  rintro e w2 ⟨rfl, hb2⟩
  go_wp2_with fail
  go_ret
  exact ⟨rfl, hb1.trans (hb2.mono hb1.size)⟩
theorem walk_WireStrict (a0 : ByteArray) (a1 : Int) (_w0 : a0.size ≤ maxLen) (h1 : 0 ≤ a1 ∧ a1 ≤ 255) (w : World) :
    Calls Try.prog 7 #[.string a0, .int .u8 a1] w fun e w' => e = .returned (.bool true) ∧ Below w.heap.size w w' := by
  obtain ⟨k, rfl⟩ := Int.eq_ofNat_of_zero_le h1.1
  by_cases hs : a0.size ≤ 300
  · rcases (show (k : Int) % 4 = 0 ∨ (k : Int) % 4 = 1 ∨ (k : Int) % 4 = 2 ∨ (k : Int) % 4 = 3 by omega) with h | h | h | h
    · exact strict_0 a0 k h hs w
    · exact strict_1 a0 k h hs w
    · exact strict_2 a0 k h hs w
    · exact strict_3 a0 k h hs w
  · exact strict_long a0 k hs w
namespace wireStrict
theorem own : ownKnob Try.prog.godebug = none := by kernel_rfl
set_option linter.unusedVariables false
set_option maxRecDepth 100000 in
theorem lifted (os : Os) (started : os.Started) (H : Type) (enc : TypeId × Value → H) :
    ReturnsInHanded {} Try.checked os 7 .any (Rows.wireStrictSpec.pre6 enc Try.prog Try.f7 Rows.wireStrictRow.domain false) (Rows.wireStrictSpec.post enc Try.prog Try.f7 false true false false) := by
  refine returnsInHanded_of_change (C := Try.checked) own started (by kernel_rfl) Try.func7
    (ChangeSpec.witness6 (enc := enc) (C := Try.checked) false ⟨#[], #[.string ByteArray.empty, .int .u8 0], []⟩ 8 (by kernel_rfl) (by kernel_rfl) (by kernel_rfl) (by kernel_rfl)) ?_
  intro W base args ds gs before hval0 hW hcnd _
  have hval : ∀ (j : Nat) t v, Try.f7.params[j]? = some t → args[j]? = some v → Value.okWide Try.prog W .any base t v := hval0
  have hW' := hW
  obtain ⟨p, q, hA0, hV, rfl, hfz, hnd⟩ := hW
  have hA : DataW.TrodAll enc Try.prog W 0 (fun _ => true) true Try.f7.params.toList args.toList ds p := hA0
  rw [Try.params7] at hA hval
  obtain ⟨v0, vs0, d0, ds0, p0, q0, hargs, rfl, rfl, h0, r0⟩ := trodAll_cons hA
  obtain ⟨v1, vs1, d1, ds1, p1, q1, rfl, rfl, rfl, h1, r1⟩ := trodAll_cons r0
  obtain ⟨rfl, rfl, rfl⟩ := trodAll_nil r1
  obtain rfl : args = #[v0, v1] := by cases args; simp_all
  obtain ⟨rfl, rfl⟩ := trodVars_none hV
  obtain ⟨a0, rfl, rfl, rfl, w0⟩ := open_string Try.underlying9 (hval 0 9 v0 rfl rfl) h0
  obtain ⟨a1, rfl, rfl, rfl, w1⟩ := open_int Try.underlying5 (hval 1 5 v1 rfl rfl) h1
  clear hA0 hval0
  refine (walk_WireStrict a0 a1 w0 (bounds_u8 w1) (w := W)).mono fun e W' ⟨he, bel⟩ => ?_
  subst he
  exact ⟨_, rfl, _, _, _, [], _, [], hW', trodAll_mk1 (shut_bool Try.underlying4 _), (trodAll_cons_mk (shut_string Try.underlying9 w0) (trodAll_cons_mk (shut_int Try.underlying5 w1) trodAll_mk0)), rfl, bel.frame _, fun h => by cases h⟩
theorem over : Rows.wireStrictRow.holds Try.pinned (OpenSpec.ofChange Rows.wireStrictSpec) :=
  OpenClaim.holds_of_wide 7 Try.f7 rfl rfl rfl rfl rfl rfl rfl ⟨rfl, rfl, rfl, rfl, rfl⟩ rfl rfl rfl rfl rfl (by kernel_rfl) Try.func7 (by kernel_rfl)
    (of_decide_eq_true (by kernel_rfl)) (by unfold Func.isWrapper; first | (rw [if_pos (by decide +kernel)]; kernel_rfl) | (rw [if_neg (by decide +kernel)]; exact ⟨rfl, rfl⟩))
    (fun os started H enc _ => lifted os started H enc)
theorem proved : Rows.WireStrictSaid := over
end wireStrict

end Go.Proofs.Ytlmhlinjlneagaa
