import Derived.Test.YtabbkgbgldgfeaaLabM
/-! Count and Text, of the program and of the reference, as functions of what is left. -/
namespace Go.Proofs.Ytabbkgbgldgfeaa
open Go.Lib Go.ChangeShapes Go.WideShapes Go.ChangeAt Go.RowKit

theorem cntC (m : Nat) (hm : m ≤ 9223372036854775807) (b : Nat) (s : ByteArray) (e : Nat) (hs : s.size ≤ 1000000) (w : World) (h : Rd w b s e) :
    Calls Try.prog 63 #[.pointer (some ⟨b, 0, none⟩), .int .i64 m] w fun x w' => x = .returned (.int .i64 ((cntR m (s, e)).1 : Nat)) ∧ Rd w' b (cntR m (s, e)).2.1 (cntR m (s, e)).2.2 ∧ Upd b w w' := by
  by_cases he : e = 0
  · subst he
    refine (count_any b s (by omega) m (by omega) (by omega) w h).mono fun x w' hx => ?_
    unfold CountDone at hx
    unfold cntR
    simp only [if_true]
    cases hd : dec s.data.toList 0 0 with
    | none => rw [hd] at hx; exact ⟨hx.2.1, hx.2.2, hx.1⟩
    | some p =>
      obtain ⟨n, c⟩ := p
      rw [hd] at hx
      obtain ⟨h1, _, h2⟩ := hx
      by_cases hm : m < n
      · rw [if_pos (by omega)] at h2
        simp only [if_pos hm]
        exact ⟨h2.1, h2.2, h1⟩
      · rw [if_neg (by omega)] at h2
        simp only [if_neg hm]
        exact ⟨h2.1, h2.2, h1⟩
  · have e1 : cntR m (s, e) = (0, (s, e)) := by unfold cntR; rw [if_neg he]
    rw [e1]
    exact count_stop b s e he m w h
theorem txtC (m : Nat) (hm : m ≤ 9223372036854775807) (b : Nat) (s : ByteArray) (e : Nat) (hs : s.size ≤ 1000000) (w : World) (h : Rd w b s e) :
    Calls Try.prog 62 #[.pointer (some ⟨b, 0, none⟩), .int .i64 m] w fun x w' => x = .returned (.string (txtR m (s, e)).1) ∧ Rd w' b (txtR m (s, e)).2.1 (txtR m (s, e)).2.2 ∧ Upd b w w' := by
  by_cases he : e = 0
  · subst he
    refine (text_any b s (by omega) m (by omega) (by omega) w h).mono fun x w' hx => ?_
    unfold TextDone at hx
    unfold txtR
    simp only [if_true]
    cases hd : dec s.data.toList 0 0 with
    | none => rw [hd] at hx; exact ⟨hx.2.1, hx.2.2, hx.1⟩
    | some p =>
      obtain ⟨n, c⟩ := p
      rw [hd] at hx
      obtain ⟨h1, _, h2⟩ := hx
      by_cases hm : m < n
      · rw [if_pos (by omega)] at h2
        simp only [if_pos hm]
        exact ⟨h2.1, h2.2, h1⟩
      · rw [if_neg (by omega)] at h2
        simp only [if_neg hm]
        by_cases hn : s.size - c < n
        · rw [if_pos hn] at h2
          simp only [if_pos hn]
          exact ⟨h2.1, h2.2, h1⟩
        · rw [if_neg hn] at h2
          simp only [if_neg hn]
          exact ⟨h2.1, h2.2, h1⟩
  · have e1 : txtR m (s, e) = (⟨#[]⟩, (s, e)) := by unfold txtR; rw [if_neg he]
    rw [e1]
    exact text_stop b s e he m w h
theorem cntF (m : Nat) (hm : m ≤ 9223372036854775807) (s : ByteArray) (e : Nat) (hs : s.size ≤ 1000000) (w : World) :
    Calls Try.prog 59 #[rdr s e, .int .i64 m] w fun x w' => x = .returned (.tuple #[.int .i64 ((cntR m (s, e)).1 : Nat), rdr (cntR m (s, e)).2.1 (cntR m (s, e)).2.2]) ∧ Below w.heap.size w w' := by
  by_cases he : e = 0
  · subst he
    unfold cntR
    simp only [if_true]
    cases hd : dec s.data.toList 0 0 with
    | none => exact refCount_err s ⟨#[]⟩ 0 11 (by decide) m w (fun w => (refNumber_any s (by omega) w).mono fun x w' hx => by unfold RefNum at hx; rw [hd] at hx; exact ⟨hx.2, hx.1⟩)
    | some p =>
      obtain ⟨n, c⟩ := p
      by_cases hm : m < n
      · simp only [if_pos hm]
        exact refCount_more s (s.extract c s.size) 0 n m (by omega) (by omega) w (fun w => (refNumber_any s (by omega) w).mono fun x w' hx => by unfold RefNum at hx; rw [hd] at hx; exact ⟨hx.2, hx.1⟩)
      · simp only [if_neg hm]
        exact refCount_ok s (s.extract c s.size) 0 n m (by omega) (by omega) w (fun w => (refNumber_any s (by omega) w).mono fun x w' hx => by unfold RefNum at hx; rw [hd] at hx; exact ⟨hx.2, hx.1⟩)
  · have e1 : cntR m (s, e) = (0, (s, e)) := by unfold cntR; rw [if_neg he]
    rw [e1]
    exact refCount_err s s e e he m w (fun w => refNumber_stop s e he w)
theorem txtF (m : Nat) (hm : m ≤ 9223372036854775807) (s : ByteArray) (e : Nat) (hs : s.size ≤ 1000000) (w : World) :
    Calls Try.prog 60 #[rdr s e, .int .i64 m] w fun x w' => x = .returned (.tuple #[.string (txtR m (s, e)).1, rdr (txtR m (s, e)).2.1 (txtR m (s, e)).2.2]) ∧ Below w.heap.size w w' := by
  by_cases he : e = 0
  · subst he
    unfold txtR
    simp only [if_true]
    cases hd : dec s.data.toList 0 0 with
    | none => exact refText_err s ⟨#[]⟩ 0 11 (by decide) 0 m w (fun w => refCount_err s ⟨#[]⟩ 0 11 (by decide) m w (fun w => (refNumber_any s (by omega) w).mono fun x w' hx => by unfold RefNum at hx; rw [hd] at hx; exact ⟨hx.2, hx.1⟩))
    | some p =>
      obtain ⟨n, c⟩ := p
      by_cases hm : m < n
      · simp only [if_pos hm]
        exact refText_err s ⟨#[]⟩ 0 8 (by decide) 0 m w (fun w => refCount_more s (s.extract c s.size) 0 n m (by omega) (by omega) w (fun w => (refNumber_any s (by omega) w).mono fun x w' hx => by unfold RefNum at hx; rw [hd] at hx; exact ⟨hx.2, hx.1⟩))
      · simp only [if_neg hm]
        have hz : (s.extract c s.size).size = s.size - c := by simp
        by_cases hn : s.size - c < n
        · simp only [if_pos hn]
          exact refText_more s (s.extract c s.size) 0 n (by omega) m w (fun w => refCount_ok s (s.extract c s.size) 0 n m (by omega) (by omega) w (fun w => (refNumber_any s (by omega) w).mono fun x w' hx => by unfold RefNum at hx; rw [hd] at hx; exact ⟨hx.2, hx.1⟩))
        · simp only [if_neg hn]
          rw [← hz]
          exact refText_ok s (s.extract c s.size) 0 n (by omega) (by omega) m w (fun w => refCount_ok s (s.extract c s.size) 0 n m (by omega) (by omega) w (fun w => (refNumber_any s (by omega) w).mono fun x w' hx => by unfold RefNum at hx; rw [hd] at hx; exact ⟨hx.2, hx.1⟩))
  · have e1 : txtR m (s, e) = (⟨#[]⟩, (s, e)) := by unfold txtR; rw [if_neg he]
    rw [e1]
    exact refText_err s s e e he 0 m w (fun w => refCount_err s s e e he m w (fun w => refNumber_stop s e he w))
end Go.Proofs.Ytabbkgbgldgfeaa
