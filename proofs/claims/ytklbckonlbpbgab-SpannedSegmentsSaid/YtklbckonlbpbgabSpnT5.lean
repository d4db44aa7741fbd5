import Derived.Test.YtklbckonlbpbgabSpnT4
import Derived.Test.YtklbckonlbpbgabSpnM3
/-! Is a record too long? Pack. -/
namespace Go.Proofs.Ytklbckonlbpbgab
open Go.Lib Go.ChangeShapes Go.WideShapes Go.ChangeAt Go.RowKit
set_option linter.unusedVariables false

set_option maxRecDepth 100000 in
theorem longer_any (L : Nat) (hL : L ≤ 1000) (x : ByteArray) (hx : x.size ≤ 9223372036854775807) (b : Nat) (w : World) (hc : w.cell? ⟨b, 0, none⟩ = some (.int .i64 L)) :
    Calls Try.prog 40 #[.string x, .pointer (some ⟨b, 0, none⟩)] w (Is (.bool (decide (L < x.size))) w) := by
  go_enter Try.func40, Try.ntmps40
  go_wp2_with fail
  go_ret
  exact ⟨rfl, rfl⟩
set_option maxRecDepth 100000 in
set_option maxHeartbeats 1000000 in
theorem sidx_any (L : Nat) (hL : L ≤ 1000) (v : Value) (l : List ByteArray) (hl : l.length ≤ 100000) (s : Nat) (hs : s ≤ l.length) (hz : ∀ i (hi : i < s) (hj : i < l.length), l[i].size ≤ L) (hbig : ∀ x ∈ l, x.size ≤ 9223372036854775807) (hne : ∀ h : s < l.length, L < l[s].size) (b : Nat) (w : World) (hc : w.cell? ⟨b, 0, none⟩ = some (.int .i64 L)) (hr : StrsAt w v l) :
    Calls Try.prog 47 #[v, .func (.func 40) #[] #[.pointer (some ⟨b, 0, none⟩)]] w (Is (.int .i64 (if s < l.length then (s : Int) else -1)) w) := by
  obtain ⟨A, cap, rfl, hcap, hcap2⟩ := hr.shape
  have HS := hid hr
  have HC := hid hc
  have HZ := hid hz
  have HN := hid hne
  have HB := hid hbig
  obtain ⟨R, hR⟩ : ∃ R : Int, R = if s < l.length then (s : Int) else -1 := ⟨_, rfl⟩
  rw [← hR]
  have HR := hid hR
  clear hr hc hz hne hbig hR
  go_enter Try.func47, Try.ntmps47
  go_wp2_with fail
  go_loopw [8] (fun i wr => ∃ j : Nat, j ≤ s ∧ i = .int .i64 j ∧ wr = w) (fun i _ => l.length - (intOf i).toNat)
  case atStart => exact ⟨0, by omega, rfl, rfl⟩
  case round =>
    obtain ⟨j, hj, rfl, rfl⟩ := hrel
    by_cases hlt : j < l.length
    · obtain ⟨b1, off, rfl, hb, c0⟩ := HS.out.round hlt
      have hxz := HB.out _ (List.getElem_mem hlt)
      by_cases hjs : j < s
      · have hx := HZ.out j hjs hlt
        obtain ⟨x, hxe⟩ : ∃ x, x = l[j] := ⟨_, rfl⟩
        rw [← hxe] at c0 hx hxz
        have ho := longer_any L hL x hxz b wr HC.out
        rw [decide_eq_false (show ¬ (L < x.size) by omega)] at ho
        have HO := hid ho
        clear hxe hx ho hxz
        go_wp2_with fail
        refine HO.out.mono ?_
        rintro e w' ⟨rfl, rfl⟩
        go_wp2_with fail
        go_roundw
        case rel => exact ⟨j + 1, by omega, by go_num, trivial⟩
        case measure => simp [intOf]; omega
      · have hsj : j = s := by omega
        subst hsj
        have hx := HN.out hlt
        obtain ⟨x, hxe⟩ : ∃ x, x = l[j] := ⟨_, rfl⟩
        rw [← hxe] at c0 hx hxz
        have ho := longer_any L hL x hxz b wr HC.out
        rw [decide_eq_true (show (L < x.size) by omega)] at ho
        have HO := hid ho
        have HRR : Hid (R = (j : Int)) := hid (by rw [HR.out, if_pos hlt])
        clear hxe hx ho hxz
        go_wp2_with fail
        refine HO.out.mono ?_
        rintro e w' ⟨rfl, rfl⟩
        go_wp2_with fail
        go_ret
        exact ⟨by rw [HRR.out]; rfl, rfl⟩
    · have hsl : ¬ s < l.length := by omega
      have hjl : j = l.length := by omega
      have HRR : Hid (R = -1) := hid (by rw [HR.out, if_neg hsl])
      subst hjl
      clear hj hs hsl hlt
      go_wp2_with fail
      go_ret
      exact ⟨by rw [HRR.out]; rfl, rfl⟩
set_option maxRecDepth 100000 in
theorem scontains_any (L : Nat) (hL : L ≤ 1000) (v : Value) (l : List ByteArray) (hl : l.length ≤ 100000) (s : Nat) (hs : s ≤ l.length) (hz : ∀ i (hi : i < s) (hj : i < l.length), l[i].size ≤ L) (hbig : ∀ x ∈ l, x.size ≤ 9223372036854775807) (hne : ∀ h : s < l.length, L < l[s].size) (b : Nat) (w : World) (hc : w.cell? ⟨b, 0, none⟩ = some (.int .i64 L)) (hr : StrsAt w v l) :
    Calls Try.prog 39 #[v, .func (.func 40) #[] #[.pointer (some ⟨b, 0, none⟩)]] w (Is (.bool (decide (s < l.length))) w) := by
  have HI := hid (sidx_any L hL v l hl s hs hz hbig hne b w hc hr)
  by_cases h : s < l.length
  · rw [if_pos h] at HI
    rw [decide_eq_true h]
    have hd : decide ((0 : Int) ≤ (s : Int)) = true := by simp
    clear hz hbig hne hc hr h
    go_enter Try.func39, Try.ntmps39
    go_wp2_with fail
    refine HI.out.mono ?_
    rintro e w' ⟨rfl, rfl⟩
    go_wp2_with fail
    go_ret
    first | exact ⟨rfl, rfl⟩ | exact ⟨by simp, rfl⟩
  · rw [if_neg h] at HI
    rw [decide_eq_false h]
    clear hz hbig hne hc hr h
    go_enter Try.func39, Try.ntmps39
    go_wp2_with fail
    refine HI.out.mono ?_
    rintro e w' ⟨rfl, rfl⟩
    go_wp2_with fail
    go_ret
    exact ⟨rfl, rfl⟩
/-- what is wrong with records -/
def checkI (s n : Nat) : Int := if s < n then 2 else 0
set_option maxRecDepth 100000 in
set_option maxHeartbeats 400000 in
theorem check_bad (L B : Int) (hB : B ≤ 9223372036854775807) (hf : ¬ sfits L B) (v : Value) (w : World) : Calls Try.prog 33 #[.int .i64 L, .int .i64 B, v] w (Gives (.int .i64 1) w) := by
  have HV := fun W => hid (svalid_any L B hB W)
  rw [decide_eq_false hf] at HV
  obtain ⟨hk1, hk2, hk3⟩ := box_int w L
  obtain ⟨w1, hw1⟩ : ∃ w1, w1 = w.alloc (.cells #[.int .i64 L] 3) := ⟨_, rfl⟩
  rw [← hw1] at hk1 hk2 hk3
  have HW1 : Hid (w.alloc (.cells #[.int .i64 L] 3) = w1) := hid hw1.symm
  have HB1 := hid hk3
  clear hf hw1 hk1 hk3
  go_enter Try.func33, Try.ntmps33
  go_upto_region 1 with fail
  rw [HW1.out]
  go_wp2_with fail
  refine (HV _).out.mono ?_
  rintro e w2 ⟨rfl, rfl⟩
  go_wp2_with fail
  go_ret
  exact ⟨rfl, HB1.out⟩
set_option maxRecDepth 100000 in
set_option maxHeartbeats 400000 in
theorem check_ok (L b : Nat) (hf : sfits (L : Int) (b : Int)) (v : Value) (l : List ByteArray) (hl : l.length ≤ 100000) (s : Nat) (hs : s ≤ l.length) (hz : ∀ i (hi : i < s) (hj : i < l.length), l[i].size ≤ L) (hbig : ∀ x ∈ l, x.size ≤ 9223372036854775807) (hne : ∀ h : s < l.length, L < l[s].size) (w : World) (hr : StrsAt w v l) :
    Calls Try.prog 33 #[.int .i64 L, .int .i64 b, v] w (Gives (.int .i64 (checkI s l.length)) w) := by
  have HV := fun W => hid (svalid_any L b (by have := hf.2.2.2; omega) W)
  rw [decide_eq_true hf] at HV
  have hL : L ≤ 1000 := by have := hf.2.1; omega
  obtain ⟨hk1, hk2, hk3⟩ := box_int w (L : Int)
  obtain ⟨w1, hw1⟩ : ∃ w1, w1 = w.alloc (.cells #[.int .i64 L] 3) := ⟨_, rfl⟩
  rw [← hw1] at hk1 hk2 hk3
  have HC := hid (scontains_any L hL v l hl s hs hz hbig hne w.heap.size w1 hk2 (hr.below hk3 (Nat.le_refl _)))
  have HW1 : Hid (w.alloc (.cells #[.int .i64 L] 3) = w1) := hid hw1.symm
  have HB1 := hid hk3
  by_cases h : s < l.length
  · have hd : decide (s < l.length) = true := decide_eq_true h
    rw [hd] at HC
    have HQ : Hid (checkI s l.length = 2) := hid (by unfold checkI; rw [if_pos h])
    clear hf hw1 hk1 hk3 hz hbig hne hr hd h
    go_enter Try.func33, Try.ntmps33
    go_upto_region 1 with fail
    rw [HW1.out]
    go_wp2_with fail
    refine (HV _).out.mono ?_
    rintro e w2 ⟨rfl, rfl⟩
    go_wp2_with fail
    refine HC.out.mono ?_
    rintro e w2 ⟨rfl, rfl⟩
    go_wp2_with fail
    go_ret
    exact ⟨by rw [HQ.out]; rfl, HB1.out⟩
  · have hd : decide (s < l.length) = false := decide_eq_false h
    rw [hd] at HC
    have HQ : Hid (checkI s l.length = 0) := hid (by unfold checkI; rw [if_neg h])
    clear hf hw1 hk1 hk3 hz hbig hne hr hd h
    go_enter Try.func33, Try.ntmps33
    go_upto_region 1 with fail
    rw [HW1.out]
    go_wp2_with fail
    refine (HV _).out.mono ?_
    rintro e w2 ⟨rfl, rfl⟩
    go_wp2_with fail
    refine HC.out.mono ?_
    rintro e w2 ⟨rfl, rfl⟩
    go_wp2_with fail
    go_ret
    exact ⟨by rw [HQ.out]; rfl, HB1.out⟩
/-- a record is put behind the blocks so far -/
theorem add_any (B : Nat) (hB : 9 ≤ B) (hB2 : B ≤ 1024) (A : Option Addr) (cap : Nat) (bl : List ByteArray) (hbl : bl.length ≤ 100000) (hlast : LastOk B bl) (r : ByteArray) (hr : r.size ≤ 1500) (w : World) (hs : StrsAt w (.slice A bl.length cap) bl) :
    Calls Try.prog 34 #[.int .i64 B, .slice A bl.length cap, .string r] w (fun e w' => ∃ u, e = .returned (.tuple #[.int .i64 ((bl.length - joinOf B bl r : Nat) : Int), u]) ∧ OwnStrs w' u (moreOf B bl r) ∧ Fresh w u ∧ Below w.heap.size w w') := by
  by_cases hb : bl = []
  · subst hb
    exact add_nil B hB hB2 A cap r hr w
  · have h := add_more B hB hB2 A cap bl hbl hb (hlast hb) r hr w hs
    unfold moreOf joinOf psOf
    rw [roomOf_ne B bl hb, yOf_ne bl hb]
    exact h
end Go.Proofs.Ytklbckonlbpbgab
