import Derived.Test.YtklbckonlbpbgabSpnC1
/-! A segment cut off a text: what is answered for any text; the segments of a block's bytes. -/
namespace Go.Proofs.Ytklbckonlbpbgab
open Go.Lib Go.ChangeShapes Go.WideShapes Go.ChangeAt Go.RowKit
set_option linter.unusedVariables false

/-- a byte of a text, zero behind its end -/
def byteAt (t : ByteArray) (i : Nat) : Nat := if h : i < t.size then (t[i]'h).toNat else 0
theorem byteAt_eq {t : ByteArray} {i : Nat} (h : i < t.size) : (t[i]'h).toNat = byteAt t i := by unfold byteAt; rw [dif_pos h]
theorem byteAt_le (t : ByteArray) (i : Nat) : byteAt t i ≤ 255 := by
  unfold byteAt; split
  · rename_i h; have := (t[i]'h).toNat_lt; omega
  · omega
/-- the number of a segment's word -/
def segNum (t : ByteArray) : Nat := 256 * byteAt t 0 + byteAt t 1
/-- whether a segment stands at the head of a text -/
def segOk (t : ByteArray) : Prop := 4 ≤ t.size ∧ byteAt t 3 = 0 ∧ 4 ≤ segNum t ∧ segNum t ≤ t.size ∧ byteAt t 2 ≤ 3 ∧ (byteAt t 2 ≠ 0 → segNum t ≠ 4)
instance (t : ByteArray) : Decidable (segOk t) := inferInstanceAs (Decidable (_ ∧ _ ∧ _ ∧ _ ∧ _ ∧ _))
/-- this segment -/
def segOf (t : ByteArray) : Seg := ⟨decide (2 ≤ byteAt t 2), decide (byteAt t 2 % 2 = 1), t.extract 4 (segNum t)⟩
/-- what is left behind it -/
def segRest (t : ByteArray) : ByteArray := t.extract (segNum t) t.size
theorem segNum_le (t : ByteArray) : segNum t ≤ 65535 := by unfold segNum; have := byteAt_le t 0; have := byteAt_le t 1; omega
theorem segRest_size (t : ByteArray) : (segRest t).size = t.size - segNum t := by unfold segRest; rw [ByteArray.size_extract]; omega
theorem segOf_size {t : ByteArray} (h : segNum t ≤ t.size) : (segOf t).data.size = segNum t - 4 := by
  show (t.extract 4 (segNum t)).size = _
  rw [ByteArray.size_extract]; omega
/-- the bytes of a segment's word as one has them for a descriptor word -/
theorem word_part {t : ByteArray} (h : 4 ≤ t.size) : t.extract 0 2 ++ ⟨#[0]⟩ ++ t.extract 3 4 = ⟨#[t[0]'(by omega), t[1]'(by omega), 0, t[3]'(by omega)]⟩ := by
  have e1 : t.extract 0 2 = ⟨#[t[0]'(by omega), t[1]'(by omega)]⟩ := by
    apply ByteArray.ext
    rw [ByteArray.data_extract]
    apply Array.ext
    · simp; omega
    · intro i h1 h2
      simp at h2
      rcases (show i = 0 ∨ i = 1 by omega) with rfl | rfl <;> simp <;> rfl
  have e2 : t.extract 3 4 = ⟨#[t[3]'(by omega)]⟩ := by
    apply ByteArray.ext
    rw [ByteArray.data_extract]
    apply Array.ext
    · simp; omega
    · intro i h1 h2
      simp at h2
      obtain rfl : i = 0 := by omega
      simp; rfl
  rw [e1, e2]; rfl
theorem word_part_yes {t : ByteArray} (h : 4 ≤ t.size) (h3 : byteAt t 3 = 0) : t.extract 0 2 ++ ⟨#[0]⟩ ++ t.extract 3 4 = word (segNum t) := by
  rw [word_part h]
  have e : (t[3]'(by omega)) = 0 := UInt8.toNat_inj.1 (by rw [byteAt_eq (by omega), h3]; rfl)
  rw [e, word_of, byteAt_eq, byteAt_eq]; rfl
theorem word_part_no {t : ByteArray} (h : 4 ≤ t.size) (h3 : byteAt t 3 ≠ 0) : ∀ n ≤ 65535, t.extract 0 2 ++ ⟨#[0]⟩ ++ t.extract 3 4 ≠ word n := by
  intro n hn e
  rw [word_part h] at e
  have e2 : (t[3]'(by omega)) = 0 := by
    have := congrArg (fun b : ByteArray => b.data[3]?) e
    simpa [word] using this
  apply h3
  rw [← byteAt_eq (by omega), e2]; rfl
/-- what the function answers for any text -/
theorem scut_yes (t : ByteArray) (hs : t.size ≤ 1000000) (h : segOk t) (w : World) : Calls Try.prog 27 #[.string t] w (Gives (.tuple #[Seg.val (segOf t), .string (segRest t), .bool true]) w) := by
  obtain ⟨h4, h3, hn4, hn5, hc, hz⟩ := h
  have h2 := byteAt_eq (t := t) (i := 2) (by omega)
  have hw := word_part_yes h4 h3
  have hn := segNum_le t
  have hsv : segOf t = ⟨decide (2 ≤ byteAt t 2), decide (byteAt t 2 % 2 = 1), t.extract 4 (segNum t)⟩ := rfl
  rw [hsv]
  unfold segRest
  generalize segNum t = n at *
  generalize byteAt t 2 = c at *
  rcases (show c = 0 ∨ c = 1 ∨ c = 2 ∨ c = 3 by omega) with rfl | rfl | rfl | rfl
  · exact scut_ok0 t _ hs h4 rfl h2 n hn hw hn4 hn5 w
  · exact scut_ok1 t _ hs h4 rfl h2 n hn hw hn4 hn5 (hz (by omega)) w
  · exact scut_ok2 t _ hs h4 rfl h2 n hn hw hn4 hn5 (hz (by omega)) w
  · exact scut_ok3 t _ hs h4 rfl h2 n hn hw hn4 hn5 (hz (by omega)) w
theorem scut_no (t : ByteArray) (hs : t.size ≤ 1000000) (h : ¬ segOk t) (w : World) : Calls Try.prog 27 #[.string t] w (Gives noSeg w) := by
  by_cases h4 : 4 ≤ t.size
  case neg => exact scut_short t (by omega) w
  case pos =>
    have h2 := byteAt_eq (t := t) (i := 2) (by omega)
    by_cases h3 : byteAt t 3 = 0
    case neg => exact scut_none t _ hs h4 rfl _ h2 (word_part_no h4 h3) w
    case pos =>
      have hw := word_part_yes h4 h3
      have hn := segNum_le t
      by_cases a1 : segNum t < 4
      · exact scut_few t _ hs h4 rfl _ h2 _ hn hw a1 w
      · by_cases a2 : t.size < segNum t
        · exact scut_size t _ hs h4 rfl _ h2 _ hn hw a1 a2 w
        · by_cases a3 : 3 < byteAt t 2
          · exact scut_code t _ hs h4 rfl _ h2 _ hn hw a1 a2 a3 w
          · have a4 : byteAt t 2 ≠ 0 ∧ segNum t = 4 := by
              by_cases b1 : byteAt t 2 ≠ 0
              · by_cases b2 : segNum t = 4
                · exact ⟨b1, b2⟩
                · exact absurd ⟨h4, h3, by omega, by omega, by omega, fun _ => b2⟩ h
              · exact absurd ⟨h4, h3, by omega, by omega, by omega, fun h => absurd h b1⟩ h
            exact scut_empty t _ hs h4 rfl _ h2 _ hn hw a1 a2 a3 a4.1 a4.2 w
end Go.Proofs.Ytklbckonlbpbgab
