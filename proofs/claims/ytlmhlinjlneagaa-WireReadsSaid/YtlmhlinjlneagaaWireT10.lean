import Derived.Test.YtlmhlinjlneagaaWireT9
import Derived.Test.YtlmhlinjlneagaaWireM5
namespace Go.Proofs.Ytlmhlinjlneagaa
open Go.Lib Go.ChangeShapes Go.WideShapes Go.ChangeAt Go.RowKit

/-- the value of the first byte, if it is a truth value -/
def decB : List UInt8 → Option Nat
  | [] => none
  | b :: _ => if 1 < b.toNat then none else some b.toNat
def BitPost (b : Nat) (s : ByteArray) (w : World) (e : Ending) (w' : World) : Prop :=
  match decB s.data.toList with
  | none => e = .returned (.tuple #[.int .u64 0, .int .i64 11]) ∧ w' = w
  | some n => n ≤ 1 ∧ 1 ≤ s.size ∧ e = .returned (.tuple #[.int .u64 n, .int .i64 0]) ∧ w' = w.setCell ⟨b, 0, none⟩ (.string (s.extract 1 s.size))

theorem decB_at (s : ByteArray) (h : 0 < s.size) : decB s.data.toList = if 1 < s[0].toNat then none else some s[0].toNat := by
  obtain ⟨⟨l⟩⟩ := s
  cases l with
  | nil => simp [ByteArray.size] at h
  | cons x l => rfl
theorem isEmpty_size (s : ByteArray) : s.toList.isEmpty = decide (s.size = 0) := by
  rw [ByteArray.toList_eq, Bool.eq_iff_iff]
  rw [List.isEmpty_iff, ← List.length_eq_zero_iff]
  simp only [decide_eq_true_eq]
  rfl

set_option maxRecDepth 100000 in
set_option maxHeartbeats 400000 in
theorem bit_any (b : Nat) (s : ByteArray) (hs : s.size ≤ 9223372036854775807) (w : World) (hc : w.cell? ⟨b, 0, none⟩ = some (.string s)) (hf : w.frozen? ⟨b, 0, none⟩ = false) :
    Calls Try.prog 56 #[.pointer (some ⟨b, 0, none⟩)] w (BitPost b s w) := by
  have he := isEmpty_size s
  by_cases h0 : s.size = 0
  · have hn : s.toList.isEmpty = true := by rw [he]; simpa using h0
    have HD : Hid (decB s.data.toList = none) := by
      have : s.data.toList = [] := by rw [← List.length_eq_zero_iff]; exact h0
      show _ = _
      rw [this]; rfl
    clear he h0
    go_enter Try.func56, Try.ntmps56
    go_wp2_with fail
    go_ret2
    unfold BitPost; rw [HD.out]; exact ⟨rfl, rfl⟩
  · have hn : s.toList.isEmpty = false := by rw [he]; simpa using h0
    have hp : 0 < s.size := by omega
    have HD := hid (decB_at s hp)
    clear he h0
    by_cases h1 : 1 < s[0].toNat
    · have h1' : 1 < (s[0].toNat : Int) := by omega
      go_enter Try.func56, Try.ntmps56
      go_wp2_with fail
      go_ret2
      unfold BitPost; rw [HD.out, if_pos (by omega)]; exact ⟨rfl, rfl⟩
    · have h1' : ¬ 1 < (s[0].toNat : Int) := by omega
      go_enter Try.func56, Try.ntmps56
      go_wp2_with fail
      go_ret2
      unfold BitPost; rw [HD.out, if_neg (by omega)]; exact ⟨by omega, by omega, rfl, rfl⟩

/-- what the reading of a truth value does to a reader -/
def BitRead (b : Nat) (s : ByteArray) (w : World) (e : Ending) (w' : World) : Prop :=
  Upd b w w' ∧ match decB s.data.toList with
  | none => e = .returned (.int .u64 0) ∧ Rd w' b ByteArray.empty 11
  | some n => n ≤ 1 ∧ 1 ≤ s.size ∧ e = .returned (.int .u64 n) ∧ Rd w' b (s.extract 1 s.size) 0

set_option maxRecDepth 100000 in
theorem read_bit (b : Nat) (s : ByteArray) (hs : s.size ≤ 9223372036854775807) (w : World) (h : Rd w b s 0) :
    Calls Try.prog 54 #[.pointer (some ⟨b, 0, none⟩), .func (.func 56) #[.pointer (some ⟨b, 0, none⟩)] #[]] w (BitRead b s w) := by
  have h0 := h.left
  have h1 := h.err
  have hf := h.frozen 0
  have HR := hid h
  have HN := hid (bit_any b s hs w h0 hf)
  clear h hs
  go_enter Try.func54, Try.ntmps54
  go_wp2_with fail
  refine HN.out.mono ?_
  intro x w' hx
  unfold BitPost at hx
  cases hd : decB s.data.toList with
  | none =>
    rw [hd] at hx
    obtain ⟨rfl, rfl⟩ := hx
    have HD := hid hd
    clear hd
    have hf0 := HR.out.frozen 0
    have hf1 := HR.out.frozen 1
    go_wp2_with fail
    go_ret
    unfold BitRead
    rw [HD.out]
    exact ⟨(Upd.set _ _ _).trans (Upd.set _ _ _), rfl, (HR.out.set0 _).set1 11⟩
  | some n =>
    rw [hd] at hx
    obtain ⟨hn, hs1, rfl, rfl⟩ := hx
    have HD := hid hd
    clear hd
    go_wp2_with fail
    go_ret
    unfold BitRead
    rw [HD.out]
    exact ⟨Upd.set _ _ _, hn, hs1, rfl, HR.out.set0 _⟩

/-- what Bool answers -/
def BoolDone (b : Nat) (s : ByteArray) (w : World) (e : Ending) (w' : World) : Prop :=
  Upd b w w' ∧ match decB s.data.toList with
  | none => e = .returned (.bool false) ∧ Rd w' b ByteArray.empty 11
  | some n => n ≤ 1 ∧ 1 ≤ s.size ∧ e = .returned (.bool (n == 1)) ∧ Rd w' b (s.extract 1 s.size) 0

set_option maxRecDepth 100000 in
theorem bool_any (b : Nat) (s : ByteArray) (hs : s.size ≤ 9223372036854775807) (w : World) (h : Rd w b s 0) :
    Calls Try.prog 30 #[.pointer (some ⟨b, 0, none⟩)] w (BoolDone b s w) := by
  have HN := hid (read_bit b s hs w h)
  clear h hs
  go_enter Try.func30, Try.ntmps30
  go_wp2_with fail
  refine HN.out.mono ?_
  rintro x w' ⟨hu, hx⟩
  have HU := hid hu
  clear hu
  cases hd : decB s.data.toList with
  | none =>
    rw [hd] at hx
    obtain ⟨rfl, hr⟩ := hx
    have HD := hid hd
    have HR := hid hr
    clear hd hr
    go_wp2_with fail
    go_ret
    unfold BoolDone
    rw [HD.out]
    exact ⟨HU.out, rfl, HR.out⟩
  | some n =>
    rw [hd] at hx
    obtain ⟨hn, hs1, rfl, hr⟩ := hx
    have HD := hid hd
    have HR := hid hr
    clear hd hr
    go_wp2_with fail
    go_ret
    unfold BoolDone
    rw [HD.out]
    refine ⟨HU.out, hn, hs1, ?_, HR.out⟩
    rcases (show n = 0 ∨ n = 1 by omega) with rfl | rfl <;> rfl
theorem bool_stop (b : Nat) (s : ByteArray) (e : Nat) (he : e ≠ 0) (w : World) (h : Rd w b s e) :
    Calls Try.prog 30 #[.pointer (some ⟨b, 0, none⟩)] w fun x w' => x = .returned (.bool false) ∧ w = w' := by
  have HN := hid (read_stop b s e he (.func (.func 56) #[.pointer (some ⟨b, 0, none⟩)] #[]) w h)
  clear h he
  go_enter Try.func30, Try.ntmps30
  go_wp2_with fail
  refine HN.out.mono ?_
  rintro x w' ⟨rfl, rfl⟩
  go_wp2_with fail
  go_ret
  exact ⟨rfl, rfl⟩
theorem number_stop (b : Nat) (s : ByteArray) (e : Nat) (he : e ≠ 0) (w : World) (h : Rd w b s e) :
    Calls Try.prog 26 #[.pointer (some ⟨b, 0, none⟩)] w fun x w' => x = .returned (.int .u64 0) ∧ w = w' := by
  have HN := hid (read_stop b s e he (.func (.func 55) #[.pointer (some ⟨b, 0, none⟩)] #[]) w h)
  clear h he
  go_enter Try.func26, Try.ntmps26
  go_wp2_with fail
  refine HN.out.mono ?_
  rintro x w' ⟨rfl, rfl⟩
  go_wp2_with fail
  go_ret
  exact ⟨rfl, rfl⟩

theorem left_any (b : Nat) (s : ByteArray) (e : Nat) (w : World) (h : Rd w b s e) : Calls Try.prog 35 #[.pointer (some ⟨b, 0, none⟩)] w fun x w' => x = .returned (.int .i64 s.size) ∧ w = w' := by
  have h0 := h.left
  go_enter Try.func35, Try.ntmps35
  go_wp2
  go_ret
  exact ⟨rfl, rfl⟩
theorem rest_any (b : Nat) (s : ByteArray) (e : Nat) (w : World) (h : Rd w b s e) : Calls Try.prog 36 #[.pointer (some ⟨b, 0, none⟩)] w fun x w' => x = .returned (.string s) ∧ w = w' := by
  have h0 := h.left
  go_enter Try.func36, Try.ntmps36
  go_wp2
  go_ret
  exact ⟨rfl, rfl⟩

set_option maxRecDepth 100000 in
theorem int_stop (b : Nat) (s : ByteArray) (e : Nat) (he : e ≠ 0) (w : World) (h : Rd w b s e) :
    Calls Try.prog 28 #[.pointer (some ⟨b, 0, none⟩)] w fun x w' => x = .returned (.int .i64 0) ∧ w = w' := by
  have HN := hid (read_stop b s e he (.func (.func 55) #[.pointer (some ⟨b, 0, none⟩)] #[]) w h)
  clear h he
  go_enter Try.func28, Try.ntmps28
  go_wp2_with fail
  refine HN.out.mono ?_
  rintro x w' ⟨rfl, rfl⟩
  go_wp2_with fail
  go_ret
  exact ⟨by rw [zag_zero]; rfl, rfl⟩

/-- what Int answers -/
def IntDone (b : Nat) (s : ByteArray) (w : World) (e : Ending) (w' : World) : Prop :=
  Upd b w w' ∧ match dec s.data.toList 0 0 with
  | none => e = .returned (.int .i64 0) ∧ Rd w' b ByteArray.empty 11
  | some (n, c) => c ≤ s.size ∧ e = .returned (.int .i64 (zag n)) ∧ Rd w' b (s.extract c s.size) 0

set_option maxRecDepth 100000 in
theorem int_any {s : ByteArray} (hlt : ∀ n c, dec s.data.toList 0 0 = some (n, c) → n < 18446744073709551616) (b : Nat) (hs : s.size ≤ 9223372036854775807) (w : World) (h : Rd w b s 0) :
    Calls Try.prog 28 #[.pointer (some ⟨b, 0, none⟩)] w (IntDone b s w) := by
  have HN := hid (read_number b s hs w h)
  have HL := hid hlt
  clear h hs hlt
  go_enter Try.func28, Try.ntmps28
  go_wp2_with fail
  refine HN.out.mono ?_
  intro x w' hx
  unfold NumRead at hx
  cases hd : dec s.data.toList 0 0 with
  | none =>
    rw [hd] at hx
    obtain ⟨rfl, hr, hu⟩ := hx
    have HD := hid hd
    have HR := hid hr
    have HU := hid hu
    clear hd hr hu
    go_wp2_with fail
    go_ret
    unfold IntDone
    rw [HD.out]
    exact ⟨HU.out, by rw [zag_zero]; rfl, HR.out⟩
  | some p =>
    obtain ⟨n, c⟩ := p
    rw [hd] at hx
    obtain ⟨hc, rfl, hr, hu⟩ := hx
    have HD := hid hd
    have HR := hid hr
    have HU := hid hu
    have HC := hid hc
    have HZ := hid (zag_bits n (HL.out n c hd))
    have hn2 : (n : Int) ≤ 18446744073709551615 := by have := HL.out n c hd; omega
    clear hd hr hu hc
    go_wp2_with fail
    go_ret
    unfold IntDone
    rw [HD.out]
    refine ⟨HU.out, HC.out, ?_, HR.out⟩
    rw [← HZ.out]
    rfl
end Go.Proofs.Ytlmhlinjlneagaa
