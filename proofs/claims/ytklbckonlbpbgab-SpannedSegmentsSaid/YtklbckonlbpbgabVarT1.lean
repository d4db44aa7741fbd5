import Derived.Test.YtklbckonlbpbgabVarM
import Derived.Laws.Strings2
import Derived.Laws.Strings3
import Derived.Laws.DeepStrings4
import Derived.Laws.Bits64
/-! Valid, Word and ReadWord of both. -/
namespace Go.Proofs.Ytklbckonlbpbgab
open Go.Lib Go.ChangeShapes Go.WideShapes Go.ChangeAt Go.RowKit
set_option linter.unusedVariables false

theorem conv_word (b n : Nat) (hn : n ≤ 65535) (w : World) (h : ∀ i, i < 4 → w.cell? ⟨b, 0 + i, none⟩ = some (.int .u8 ([(n : Int) / 256, (n : Int) % 256, 0, 0].getD i 0))) :
    (convert 62 9 (.slice (some ⟨b, 0, none⟩) 4 4)).run Try.prog w = .ok (.string (word n)) w := by
  rw [run_convert_bytes_arg (P := Try.prog) (w := w) 62 5 Try.underlying62 Try.underlying5 b 0 4 4 [(n : Int) / 256, (n : Int) % 256, 0, 0] rfl h 9 Try.underlying9]
  have e0 : ((n : Int) / 256).toNat = n / 256 := by omega
  have e1 : ((n : Int) % 256).toNat = n % 256 := by omega
  simp only [strOfNums, List.map_cons, List.map_nil, e0, e1]
  rfl
set_option maxRecDepth 100000 in
theorem word_nat (n : Nat) (hn : n ≤ 65535) (w : World) : Calls Try.prog 43 #[.int .i64 n] w (Gives (.string (word n)) w) := by
  have hc := conv_word w.heap.size n hn (w.alloc (.cells #[.int .u8 ((n : Int) / 256), .int .u8 ((n : Int) % 256), .int .u8 0, .int .u8 0] 5)) (fun i hi => by
    rw [World.cell?_alloc_new]
    rcases (show i = 0 ∨ i = 1 ∨ i = 2 ∨ i = 3 by omega) with rfl | rfl | rfl | rfl <;> rfl)
  go_enter Try.func43, Try.ntmps43
  go_wp2_with fail
  go_ret
  exact ⟨rfl, (Below.refl _ w).alloc (Nat.le_refl _) _⟩
set_option maxRecDepth 100000 in
theorem word_none (n : Int) (hn : ¬ (0 ≤ n ∧ n ≤ 65535)) (w : World) : Calls Try.prog 43 #[.int .i64 n] w (Gives (.string ⟨#[]⟩) w) := by
  by_cases h : n < 0
  · go_enter Try.func43, Try.ntmps43
    go_wp2_with fail
    go_ret
    exact ⟨rfl, Below.refl _ _⟩
  · have h2 : (65535 : Int) < n := by omega
    go_enter Try.func43, Try.ntmps43
    go_wp2_with fail
    go_ret
    exact ⟨rfl, Below.refl _ _⟩
set_option maxRecDepth 100000 in
theorem refWord_nat (n : Nat) (hn : n ≤ 65535) (w : World) : Calls Try.prog 29 #[.int .i64 n] w (Gives (.string (word n)) w) := by
  have hc := conv_word w.heap.size n hn (w.alloc (.cells #[.int .u8 ((n : Int) / 256), .int .u8 ((n : Int) % 256), .int .u8 0, .int .u8 0] 5)) (fun i hi => by
    rw [World.cell?_alloc_new]
    rcases (show i = 0 ∨ i = 1 ∨ i = 2 ∨ i = 3 by omega) with rfl | rfl | rfl | rfl <;> rfl)
  go_enter Try.func29, Try.ntmps29
  go_wp2_with fail
  go_ret
  exact ⟨rfl, (Below.refl _ w).alloc (Nat.le_refl _) _⟩
set_option maxRecDepth 100000 in
theorem refWord_none (n : Int) (hn : ¬ (0 ≤ n ∧ n ≤ 65535)) (w : World) : Calls Try.prog 29 #[.int .i64 n] w (Gives (.string ⟨#[]⟩) w) := by
  by_cases h : n < 0
  · go_enter Try.func29, Try.ntmps29
    go_wp2_with fail
    go_ret
    exact ⟨rfl, Below.refl _ _⟩
  · have h2 : (65535 : Int) < n := by omega
    go_enter Try.func29, Try.ntmps29
    go_wp2_with fail
    go_ret
    exact ⟨rfl, Below.refl _ _⟩
theorem ofInt64 (a : Nat) (ha : a < 65536) : (BitVec.ofInt 64 (a : Int)).toNat = a := by
  rw [BitVec.ofInt_natCast, BitVec.toNat_ofNat]; exact Nat.mod_eq_of_lt (by omega)
theorem or_word (a b : Nat) (ha : a < 256) (hb : b < 256) : bits .or .i64 (wrap64 (wrap64 (a : Int) * 256)) (wrap64 (b : Int)) = ((256 * a + b : Nat) : Int) := by
  have e1 : wrap64 (wrap64 (a : Int) * 256) = ((256 * a : Nat) : Int) := by
    have : wrap64 (a : Int) = (a : Int) := by unfold wrap64; omega
    rw [this]; unfold wrap64; omega
  have e2 : wrap64 (b : Int) = (b : Int) := by unfold wrap64; omega
  rw [e1, e2]
  have hx : 256 * a ||| b = 256 * a + b := by
    have := Nat.two_pow_add_eq_or_of_lt (i := 8) hb a
    rw [show (2 : Nat) ^ 8 = 256 from rfl] at this
    omega
  show IntKind.i64.wrap ((BitVec.ofInt 64 ((256 * a : Nat) : Int) ||| BitVec.ofInt 64 (b : Int)).toNat : Int) = _
  rw [BitVec.toNat_or, ofInt64 _ (by omega), ofInt64 _ (by omega), hx]
  simp [IntKind.wrap, IntKind.bits, IntKind.signed]
  omega
theorem sum_word (a b : Nat) (ha : a < 256) (hb : b < 256) : wrap64 (wrap64 (256 * wrap64 (a : Int)) + wrap64 (b : Int)) = ((256 * a + b : Nat) : Int) := by
  have e1 : wrap64 (a : Int) = (a : Int) := by unfold wrap64; omega
  have e2 : wrap64 (b : Int) = (b : Int) := by unfold wrap64; omega
  rw [e1, e2]
  unfold wrap64; omega
theorem ret_word {a b : Nat} {x y : Int} (h : x = y) : Ending.returned (.tuple #[.int .i64 x, .bool true]) = Ending.returned (.tuple #[.int .i64 y, .bool true]) := by rw [h]
theorem four_of (s : ByteArray) (h : s.size = 4) : ∃ a b c d, s = ⟨#[a, b, c, d]⟩ := by
  obtain ⟨⟨l⟩⟩ := s
  have h : l.length = 4 := h
  match l, h with
  | [a, b, c, d], _ => exact ⟨a, b, c, d, rfl⟩
theorem word_of (a b : UInt8) : (⟨#[a, b, 0, 0]⟩ : ByteArray) = word (256 * a.toNat + b.toNat) := by
  have ha := a.toNat_lt
  have hb := b.toNat_lt
  unfold word
  rw [show (256 * a.toNat + b.toNat) / 256 = a.toNat by omega, show (256 * a.toNat + b.toNat) % 256 = b.toNat by omega, UInt8.ofNat_toNat, UInt8.ofNat_toNat]
theorem word_bytes (n : Nat) (h : n ≤ 65535) : ∃ a b : UInt8, word n = ⟨#[a, b, 0, 0]⟩ ∧ n = 256 * a.toNat + b.toNat := by
  refine ⟨_, _, rfl, ?_⟩
  simp
  omega
theorem not_word {s : ByteArray} (h : ∀ n ≤ 65535, s ≠ word n) : s.size ≠ 4 ∨ ∃ a b c d : UInt8, s = ⟨#[a, b, c, d]⟩ ∧ (c ≠ 0 ∨ d ≠ 0) := by
  by_cases h4 : s.size = 4
  · obtain ⟨a, b, c, d, rfl⟩ := four_of s h4
    refine .inr ⟨a, b, c, d, rfl, ?_⟩
    by_cases hc : c = 0
    · by_cases hd : d = 0
      · subst hc hd
        have ha := a.toNat_lt
        have hb := b.toNat_lt
        exact absurd (word_of a b) (h _ (by omega))
      · exact .inr hd
    · exact .inl hc
  · exact .inl h4
theorem toNat_ne {c : UInt8} (h : c ≠ 0) : ((c.toNat : Int) != 0) = true := by
  have : c.toNat ≠ 0 := fun e => h (UInt8.toNat_inj.1 e)
  simp; omega
set_option maxRecDepth 100000 in
theorem readWord_yes (n : Nat) (hn : n ≤ 65535) (w : World) : Calls Try.prog 26 #[.string (word n)] w (Gives (.tuple #[.int .i64 n, .bool true]) w) := by
  obtain ⟨a, b, e, hab⟩ := word_bytes n hn
  rw [e]
  have ha : (a.toNat : Int) ≤ 255 := by have := a.toNat_lt; omega
  have hb : (b.toNat : Int) ≤ 255 := by have := b.toNat_lt; omega
  have HAB := hid hab
  clear e hab hn
  go_enter Try.func26, Try.ntmps26
  go_wp2_with fail
  go_quiet (fail)
  go_wp2_with fail
  go_ret2
  exact ⟨by rw [HAB.out]; exact ret_word (a := 0) (b := 0) (or_word _ _ a.toNat_lt b.toNat_lt), below_drewN (Below.refl _ _) _⟩
set_option maxRecDepth 100000 in
theorem readWord_no (s : ByteArray) (hs : s.size ≤ 9223372036854775807) (hn : ∀ n ≤ 65535, s ≠ word n) (w : World) : Calls Try.prog 26 #[.string s] w (Gives (.tuple #[.int .i64 0, .bool false]) w) := by
  rcases not_word hn with h | ⟨a, b, c, d, rfl, h⟩
  · have hd : ((s.size : Int) != 4) = true := by simp; omega
    clear hn h
    go_enter Try.func26, Try.ntmps26
    go_wp2_with fail
    go_ret2
    exact ⟨rfl, Below.refl _ _⟩
  · by_cases hc : c = 0
    · have hd : d ≠ 0 := h.resolve_left (fun h => h hc)
      subst hc
      have hd2 : (((((⟨#[a, b, 0, d]⟩ : ByteArray)[3]'(show _ < 4 by omega)).toNat : Nat) : Int) != 0) = true := toNat_ne hd
      clear hn h hd
      go_enter Try.func26, Try.ntmps26
      go_wp2_with fail
      go_ret2
      exact ⟨rfl, Below.refl _ _⟩
    · have hc2 : (((((⟨#[a, b, c, d]⟩ : ByteArray)[2]'(show _ < 4 by omega)).toNat : Nat) : Int) != 0) = true := toNat_ne hc
      clear hn h hc
      go_enter Try.func26, Try.ntmps26
      go_wp2_with fail
      go_ret2
      exact ⟨rfl, Below.refl _ _⟩
end Go.Proofs.Ytklbckonlbpbgab
