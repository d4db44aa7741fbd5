import Derived.Test.YtlmhlinjlneagaaWireR3
namespace Go.Proofs.Ytlmhlinjlneagaa
open Go.Lib Go.ChangeShapes Go.WideShapes Go.ChangeAt Go.RowKit

theorem extract_le (s : ByteArray) (a b n : Nat) (h : s.size ≤ n) : (s.extract a b).size ≤ n := by simp; omega

theorem pairNum (b : Nat) (s : ByteArray) (e : Nat) (hs : s.size ≤ 500) (hi : e ≠ 0 → s.size = 0) : ∃ (v : Nat) (t : ByteArray) (f : Nat),
    (∀ w, Rd w b s e → Calls Try.prog 26 #[.pointer (some ⟨b, 0, none⟩)] w fun x w' => x = .returned (.int .u64 v) ∧ Rd w' b t f ∧ Upd b w w') ∧
    (∀ w, Calls Try.prog 25 #[rdr s e] w fun x w' => x = .returned (.tuple #[.int .u64 v, rdr t f]) ∧ Below w.heap.size w w') ∧ (f ≠ 0 → t.size = 0) ∧ t.size ≤ 500 := by
  by_cases he : e = 0
  · subst he
    clear hi
    cases hd : dec s.data.toList 0 0 with
    | none =>
      refine ⟨0, ⟨#[]⟩, 11, fun w h => (number_meth b s (by omega) w h).mono fun x w' hx => ?_, fun w => (refNumber_any s (by omega) w).mono fun x w' hx => ?_, fun _ => rfl, by simp [ByteArray.size]⟩
      · unfold NumRead at hx; rw [hd] at hx; exact hx
      · unfold RefNum at hx; rw [hd] at hx; exact ⟨hx.2, hx.1⟩
    | some p =>
      obtain ⟨n, c⟩ := p
      refine ⟨n, s.extract c s.size, 0, fun w h => (number_meth b s (by omega) w h).mono fun x w' hx => ?_, fun w => (refNumber_any s (by omega) w).mono fun x w' hx => ?_, fun h => absurd rfl h, extract_le s c s.size 500 hs⟩
      · unfold NumRead at hx; rw [hd] at hx; exact hx.2
      · unfold RefNum at hx; rw [hd] at hx; exact ⟨hx.2, hx.1⟩
  · exact ⟨0, s, e, fun w h => (number_stop b s e he w h).mono fun x w' hx => ⟨hx.1, by rw [← hx.2]; exact h, by rw [← hx.2]; exact Upd.refl _ _⟩, fun w => refNumber_stop s e he w, hi, hs⟩

theorem pairInt (b : Nat) (s : ByteArray) (e : Nat) (hs : s.size ≤ 500) (hi : e ≠ 0 → s.size = 0) : ∃ (v : Int) (t : ByteArray) (f : Nat),
    (∀ w, Rd w b s e → Calls Try.prog 28 #[.pointer (some ⟨b, 0, none⟩)] w fun x w' => x = .returned (.int .i64 v) ∧ Rd w' b t f ∧ Upd b w w') ∧
    (∀ w, Calls Try.prog 27 #[rdr s e] w fun x w' => x = .returned (.tuple #[.int .i64 v, rdr t f]) ∧ Below w.heap.size w w') ∧ (f ≠ 0 → t.size = 0) ∧ t.size ≤ 500 := by
  by_cases he : e = 0
  · subst he
    clear hi
    cases hd : dec s.data.toList 0 0 with
    | none =>
      refine ⟨0, ⟨#[]⟩, 11, fun w h => (int_any (fun n c h => (dec_strict0 s n c h).1) b (by omega) w h).mono fun x w' hx => ?_, fun w => (refInt_run (rdr s 0) ⟨#[]⟩ 11 0 (by omega) w (fun w => (refNumber_any s (by omega) w).mono fun x w' hx => ?_) ⟨s, 0, rfl⟩), fun _ => rfl, by simp [ByteArray.size]⟩
      · unfold IntDone at hx; rw [hd] at hx; exact ⟨hx.2.1, hx.2.2, hx.1⟩
      · unfold RefNum at hx; rw [hd] at hx; exact ⟨hx.2, hx.1⟩
    | some p =>
      obtain ⟨n, c⟩ := p
      refine ⟨zag n, s.extract c s.size, 0, fun w h => (int_any (fun n c h => (dec_strict0 s n c h).1) b (by omega) w h).mono fun x w' hx => ?_, fun w => (refInt_run (rdr s 0) (s.extract c s.size) 0 n (dec_strict0 s n c hd).1 w (fun w => (refNumber_any s (by omega) w).mono fun x w' hx => ?_) ⟨s, 0, rfl⟩), fun h => absurd rfl h, extract_le s c s.size 500 hs⟩
      · unfold IntDone at hx; rw [hd] at hx; exact ⟨hx.2.2.1, hx.2.2.2, hx.1⟩
      · unfold RefNum at hx; rw [hd] at hx; exact ⟨hx.2, hx.1⟩
  · exact ⟨0, s, e, fun w h => (int_stop b s e he w h).mono fun x w' hx => ⟨hx.1, by rw [← hx.2]; exact h, by rw [← hx.2]; exact Upd.refl _ _⟩, fun w => refInt_run (rdr s e) s e 0 (by omega) w (fun w => refNumber_stop s e he w) ⟨s, e, rfl⟩, hi, hs⟩

theorem pairBool (b : Nat) (s : ByteArray) (e : Nat) (hs : s.size ≤ 500) (hi : e ≠ 0 → s.size = 0) : ∃ (v : Bool) (t : ByteArray) (f : Nat),
    (∀ w, Rd w b s e → Calls Try.prog 30 #[.pointer (some ⟨b, 0, none⟩)] w fun x w' => x = .returned (.bool v) ∧ Rd w' b t f ∧ Upd b w w') ∧
    (∀ w, Calls Try.prog 29 #[rdr s e] w fun x w' => x = .returned (.tuple #[.bool v, rdr t f]) ∧ Below w.heap.size w w') ∧ (f ≠ 0 → t.size = 0) ∧ t.size ≤ 500 := by
  by_cases he : e = 0
  · subst he
    clear hi
    cases hd : decB s.data.toList with
    | none =>
      refine ⟨false, ⟨#[]⟩, 11, fun w h => (bool_any b s (by omega) w h).mono fun x w' hx => ?_, fun w => (refBool_any' s (by omega) w).mono fun x w' hx => ?_, fun _ => rfl, by simp [ByteArray.size]⟩
      · unfold BoolDone at hx; rw [hd] at hx; exact ⟨hx.2.1, hx.2.2, hx.1⟩
      · unfold RefBool at hx; rw [hd] at hx; exact ⟨hx.2, hx.1⟩
    | some n =>
      refine ⟨n == 1, s.extract 1 s.size, 0, fun w h => (bool_any b s (by omega) w h).mono fun x w' hx => ?_, fun w => (refBool_any' s (by omega) w).mono fun x w' hx => ?_, fun h => absurd rfl h, extract_le s 1 s.size 500 hs⟩
      · unfold BoolDone at hx; rw [hd] at hx; exact ⟨hx.2.2.2.1, hx.2.2.2.2, hx.1⟩
      · unfold RefBool at hx; rw [hd] at hx; exact ⟨hx.2, hx.1⟩
  · exact ⟨false, s, e, fun w h => (bool_stop b s e he w h).mono fun x w' hx => ⟨hx.1, by rw [← hx.2]; exact h, by rw [← hx.2]; exact Upd.refl _ _⟩, fun w => refBool_stop s e he w, hi, hs⟩

theorem pairCount (b : Nat) (s : ByteArray) (e : Nat) (m : Int) (m0 : -9223372036854775808 ≤ m) (m1 : m ≤ 9223372036854775807) (hs : s.size ≤ 500) (hi : e ≠ 0 → s.size = 0) : ∃ (v : Nat) (t : ByteArray) (f : Nat),
    (∀ w, Rd w b s e → Calls Try.prog 34 #[.pointer (some ⟨b, 0, none⟩), .int .i64 m] w fun x w' => x = .returned (.int .i64 v) ∧ Rd w' b t f ∧ Upd b w w') ∧
    (∀ w, Calls Try.prog 33 #[rdr s e, .int .i64 m] w fun x w' => x = .returned (.tuple #[.int .i64 v, rdr t f]) ∧ Below w.heap.size w w') ∧ (f ≠ 0 → t.size = 0) ∧ t.size ≤ 500 := by
  by_cases he : e = 0
  · subst he
    clear hi
    cases hd : dec s.data.toList 0 0 with
    | none =>
      refine ⟨0, ⟨#[]⟩, 11, fun w h => (count_any b s (by omega) m m0 m1 w h).mono fun x w' hx => ?_, fun w => refCount_err s ⟨#[]⟩ 0 11 (by decide) m w (fun w => (refNumber_any s (by omega) w).mono fun x w' hx => by unfold RefNum at hx; rw [hd] at hx; exact ⟨hx.2, hx.1⟩), fun _ => rfl, by simp [ByteArray.size]⟩
      unfold CountDone at hx; rw [hd] at hx; exact ⟨hx.2.1, hx.2.2, hx.1⟩
    | some p =>
      obtain ⟨n, c⟩ := p
      by_cases hm : m < (n : Int)
      · refine ⟨0, ⟨#[]⟩, 8, fun w h => (count_any b s (by omega) m m0 m1 w h).mono fun x w' hx => ?_, fun w => refCount_more s (s.extract c s.size) 0 n m m1 hm w (fun w => (refNumber_any s (by omega) w).mono fun x w' hx => by unfold RefNum at hx; rw [hd] at hx; exact ⟨hx.2, hx.1⟩), fun _ => rfl, by simp [ByteArray.size]⟩
        unfold CountDone at hx; rw [hd] at hx; obtain ⟨h1, _, h2⟩ := hx; rw [if_pos hm] at h2; exact ⟨h2.1, h2.2, h1⟩
      · obtain ⟨k, rfl⟩ := Int.eq_ofNat_of_zero_le (show 0 ≤ m by omega)
        refine ⟨n, s.extract c s.size, 0, fun w h => (count_any b s (by omega) k m0 m1 w h).mono fun x w' hx => ?_, fun w => refCount_ok s (s.extract c s.size) 0 n k (by omega) (by omega) w (fun w => (refNumber_any s (by omega) w).mono fun x w' hx => by unfold RefNum at hx; rw [hd] at hx; exact ⟨hx.2, hx.1⟩), fun h => absurd rfl h, extract_le s c s.size 500 hs⟩
        unfold CountDone at hx; rw [hd] at hx; obtain ⟨h1, _, h2⟩ := hx; rw [if_neg hm] at h2; exact ⟨h2.1, h2.2, h1⟩
  · exact ⟨0, s, e, fun w h => count_stop b s e he m w h, fun w => refCount_err s s e e he m w (fun w => refNumber_stop s e he w), hi, hs⟩

theorem pairText (b : Nat) (s : ByteArray) (e : Nat) (m : Int) (m0 : -9223372036854775808 ≤ m) (m1 : m ≤ 9223372036854775807) (hs : s.size ≤ 500) (hi : e ≠ 0 → s.size = 0) : ∃ (v : ByteArray) (t : ByteArray) (f : Nat),
    (∀ w, Rd w b s e → Calls Try.prog 32 #[.pointer (some ⟨b, 0, none⟩), .int .i64 m] w fun x w' => x = .returned (.string v) ∧ Rd w' b t f ∧ Upd b w w') ∧
    (∀ w, Calls Try.prog 31 #[rdr s e, .int .i64 m] w fun x w' => x = .returned (.tuple #[.string v, rdr t f]) ∧ Below w.heap.size w w') ∧ (f ≠ 0 → t.size = 0) ∧ t.size ≤ 500 := by
  by_cases he : e = 0
  · subst he
    clear hi
    cases hd : dec s.data.toList 0 0 with
    | none =>
      refine ⟨⟨#[]⟩, ⟨#[]⟩, 11, fun w h => (text_any b s (by omega) m m0 m1 w h).mono fun x w' hx => ?_, fun w => refText_err s ⟨#[]⟩ 0 11 (by decide) 0 m w (fun w => refCount_err s ⟨#[]⟩ 0 11 (by decide) m w (fun w => (refNumber_any s (by omega) w).mono fun x w' hx => by unfold RefNum at hx; rw [hd] at hx; exact ⟨hx.2, hx.1⟩)), fun _ => rfl, by simp [ByteArray.size]⟩
      unfold TextDone at hx; rw [hd] at hx; exact ⟨hx.2.1, hx.2.2, hx.1⟩
    | some p =>
      obtain ⟨n, c⟩ := p
      by_cases hm : m < (n : Int)
      · refine ⟨⟨#[]⟩, ⟨#[]⟩, 8, fun w h => (text_any b s (by omega) m m0 m1 w h).mono fun x w' hx => ?_, fun w => refText_err s ⟨#[]⟩ 0 8 (by decide) 0 m w (fun w => refCount_more s (s.extract c s.size) 0 n m m1 hm w (fun w => (refNumber_any s (by omega) w).mono fun x w' hx => by unfold RefNum at hx; rw [hd] at hx; exact ⟨hx.2, hx.1⟩)), fun _ => rfl, by simp [ByteArray.size]⟩
        unfold TextDone at hx; rw [hd] at hx; obtain ⟨h1, _, h2⟩ := hx; rw [if_pos hm] at h2; exact ⟨h2.1, h2.2, h1⟩
      · obtain ⟨k, rfl⟩ := Int.eq_ofNat_of_zero_le (show 0 ≤ m by omega)
        have hz : (s.extract c s.size).size = s.size - c := by simp
        by_cases hn : s.size - c < n
        · refine ⟨⟨#[]⟩, ⟨#[]⟩, 11, fun w h => (text_any b s (by omega) k m0 m1 w h).mono fun x w' hx => ?_, fun w => refText_more s (s.extract c s.size) 0 n (by omega) k w (fun w => refCount_ok s (s.extract c s.size) 0 n k (by omega) (by omega) w (fun w => (refNumber_any s (by omega) w).mono fun x w' hx => by unfold RefNum at hx; rw [hd] at hx; exact ⟨hx.2, hx.1⟩)), fun _ => rfl, by simp [ByteArray.size]⟩
          unfold TextDone at hx; rw [hd] at hx; obtain ⟨h1, _, h2⟩ := hx; rw [if_neg hm, if_pos hn] at h2; exact ⟨h2.1, h2.2, h1⟩
        · have hsz := extract_le s c s.size 500 hs
          refine ⟨(s.extract c s.size).extract 0 n, (s.extract c s.size).extract n (s.size - c), 0, fun w h => (text_any b s (by omega) k m0 m1 w h).mono fun x w' hx => ?_, fun w => ?_, fun h => absurd rfl h, extract_le _ n _ 500 hsz⟩
          · unfold TextDone at hx; rw [hd] at hx; obtain ⟨h1, _, h2⟩ := hx; rw [if_neg hm, if_neg hn] at h2; exact ⟨h2.1, h2.2, h1⟩
          · rw [← hz]
            exact refText_ok s (s.extract c s.size) 0 n (by omega) (by omega) k w (fun w => refCount_ok s (s.extract c s.size) 0 n k (by omega) (by omega) w (fun w => (refNumber_any s (by omega) w).mono fun x w' hx => by unfold RefNum at hx; rw [hd] at hx; exact ⟨hx.2, hx.1⟩))
  · exact ⟨⟨#[]⟩, s, e, fun w h => text_stop b s e he m w h, fun w => refText_err s s e e he 0 m w (fun w => refCount_err s s e e he m w (fun w => refNumber_stop s e he w)), hi, hs⟩
end Go.Proofs.Ytlmhlinjlneagaa
