import Derived.Test.YtlmhlinjlneagaaWireT10
import Derived.Test.YtlmhlinjlneagaaWireM6
import Derived.Test.YtlmhlinjlneagaaSlices
namespace Go.Proofs.Ytlmhlinjlneagaa
open Go.Lib Go.ChangeShapes Go.WideShapes Go.ChangeAt Go.RowKit

/-- the encoding of a value of some kind -/
def encV (k : Int) (n : Nat) (i : Int) (x : Bool) (t : ByteArray) : ByteArray :=
  if k % 4 = 0 then encS n else if k % 4 = 1 then encS (zig i) else if k % 4 = 2 then boolS x else encS t.size ++ t
def pre (E : Nat → ByteArray) : Nat → ByteArray
  | 0 => ⟨#[]⟩
  | k + 1 => pre E k ++ E k
def suf (E : Nat → ByteArray) : Nat → Nat → ByteArray
  | 0, _ => ⟨#[]⟩
  | d + 1, k => E k ++ suf E d (k + 1)
theorem append_empty' (a : ByteArray) : a ++ ⟨#[]⟩ = a := by
  apply ByteArray.ext
  rw [ByteArray.data_append]; simp
theorem empty_append' (a : ByteArray) : (⟨#[]⟩ : ByteArray) ++ a = a := by
  apply ByteArray.ext
  rw [ByteArray.data_append]; simp
theorem pre_suf (E : Nat → ByteArray) (d : Nat) : ∀ k, pre E k ++ suf E d k = pre E (k + d) := by
  induction d with
  | zero => intro k; rw [suf, append_empty']; rfl
  | succ d ih => intro k; rw [suf, ← ByteArray.append_assoc, show pre E k ++ E k = pre E (k + 1) from rfl, ih]; congr 1; omega
theorem suf_all (E : Nat → ByteArray) (n : Nat) : suf E n 0 = pre E n := by
  have := pre_suf E n 0
  rw [show pre E 0 = ⟨#[]⟩ from rfl, empty_append', Nat.zero_add] at this
  exact this
theorem encV_size (k : Int) (n : Nat) (i : Int) (x : Bool) (t : ByteArray) (ht : t.size ≤ 200) : (encV k n i x t).size ≤ 210 := by
  have h1 := encS_size n
  have h2 := encS_size (zig i)
  have h3 := boolS_size x
  have h4 := encS_size t.size
  unfold encV
  split
  · omega
  · split
    · omega
    · split
      · omega
      · rw [ByteArray.size_append]; omega
theorem pre_size (E : Nat → ByteArray) (k : Nat) (h : ∀ i, i < k → (E i).size ≤ 210) : (pre E k).size ≤ 210 * k := by
  induction k with
  | zero => exact Nat.le_refl _
  | succ k ih =>
    have h1 := ih (fun i hi => h i (by omega))
    have h2 := h k (by omega)
    rw [pre, ByteArray.size_append]; omega
theorem suf_size (E : Nat → ByteArray) (d k : Nat) (h : ∀ i, k ≤ i → i < k + d → (E i).size ≤ 210) : (suf E d k).size ≤ 210 * d := by
  induction d generalizing k with
  | zero => exact Nat.le_refl _
  | succ d ih =>
    have h1 := ih (k + 1) (fun i hi hj => h i (by omega) (by omega))
    have h2 := h k (by omega) (by omega)
    rw [suf, ByteArray.size_append]; omega
theorem choose_of {α : Type} [Inhabited α] {p : Nat → α → Prop} {len : Nat} (h : ∀ i, i < len → ∃ x, p i x) : ∃ f : Nat → α, ∀ i, i < len → p i (f i) :=
  ⟨fun i => if hi : i < len then Classical.choose (h i hi) else default, fun i hi => by
    show p i (if hi : i < len then Classical.choose (h i hi) else default)
    rw [dif_pos hi]; exact Classical.choose_spec (h i hi)⟩

theorem dec_app (n : Nat) (hn : n < 18446744073709551616) (S R : ByteArray) (h : S = encS n ++ R) : dec S.data.toList 0 0 = some (n, (encS n).size) ∧ (encS n).size ≤ S.size ∧ S.extract (encS n).size S.size = R := by
  subst h
  refine ⟨?_, by rw [ByteArray.size_append]; omega, ?_⟩
  · rw [ByteArray.data_append, Array.toList_append]
    exact dec_enc9 n hn _
  · apply ByteArray.ext
    apply Array.toList_inj.1
    rw [extract_tail, ByteArray.data_append, Array.toList_append]
    exact List.drop_left' rfl
theorem num_next (b n : Nat) (hn : n < 18446744073709551616) (S R : ByteArray) (hS : S = encS n ++ R) (hs : S.size ≤ 9223372036854775807) (w : World) (h : Rd w b S 0) :
    Calls Try.prog 26 #[.pointer (some ⟨b, 0, none⟩)] w fun x w' => x = .returned (.int .u64 n) ∧ Rd w' b R 0 ∧ Upd b w w' := by
  obtain ⟨h1, h2, h3⟩ := dec_app n hn S R hS
  refine (number_meth b S hs w h).mono ?_
  intro x w' hx
  unfold NumRead at hx
  rw [h1] at hx
  obtain ⟨_, hx, hr, hu⟩ := hx
  rw [h3] at hr
  exact ⟨hx, hr, hu⟩
theorem int_next (b : Nat) (i : Int) (i0 : -9223372036854775808 ≤ i) (i1 : i ≤ 9223372036854775807) (S R : ByteArray) (hS : S = encS (zig i) ++ R) (hs : S.size ≤ 9223372036854775807) (w : World) (h : Rd w b S 0) :
    Calls Try.prog 28 #[.pointer (some ⟨b, 0, none⟩)] w fun x w' => x = .returned (.int .i64 i) ∧ Rd w' b R 0 ∧ Upd b w w' := by
  obtain ⟨h1, h2, h3⟩ := dec_app (zig i) (zig_lt i i0 i1) S R hS
  refine (int_any (fun n c h => (dec_strict0 S n c h).1) b hs w h).mono ?_
  rintro x w' ⟨hu, hx⟩
  rw [h1] at hx
  obtain ⟨_, hx, hr⟩ := hx
  rw [h3] at hr
  rw [zag_zig] at hx
  exact ⟨hx, hr, hu⟩
theorem bool_next (b : Nat) (y : Bool) (S R : ByteArray) (hS : S = boolS y ++ R) (hs : S.size ≤ 9223372036854775807) (w : World) (h : Rd w b S 0) :
    Calls Try.prog 30 #[.pointer (some ⟨b, 0, none⟩)] w fun x w' => x = .returned (.bool y) ∧ Rd w' b R 0 ∧ Upd b w w' := by
  have h1 : decB S.data.toList = some (if y then 1 else 0) := by
    subst hS
    rw [ByteArray.data_append, Array.toList_append]
    cases y <;> rfl
  have h3 : S.extract 1 S.size = R := by
    subst hS
    apply ByteArray.ext
    apply Array.toList_inj.1
    rw [extract_tail, ByteArray.data_append, Array.toList_append]
    exact List.drop_left' (by cases y <;> rfl)
  refine (bool_any b S hs w h).mono ?_
  rintro x w' ⟨hu, hx⟩
  rw [h1] at hx
  obtain ⟨_, _, hx, hr⟩ := hx
  rw [h3] at hr
  refine ⟨?_, hr, hu⟩
  rw [hx]; cases y <;> rfl
theorem text_next (b : Nat) (t : ByteArray) (ht : t.size ≤ 9223372036854775807) (S R : ByteArray) (hS : S = (encS t.size ++ t) ++ R) (hs : S.size ≤ 9223372036854775807) (w : World) (h : Rd w b S 0) :
    Calls Try.prog 32 #[.pointer (some ⟨b, 0, none⟩), .int .i64 t.size] w fun x w' => x = .returned (.string t) ∧ Rd w' b R 0 ∧ Upd b w w' := by
  rw [ByteArray.append_assoc] at hS
  obtain ⟨h1, h2, h3⟩ := dec_app t.size (by omega) S (t ++ R) hS
  have hz : S.size - (encS t.size).size = (t ++ R).size := by rw [← h3]; simp
  refine (text_any b S hs t.size (by omega) (by omega) w h).mono ?_
  rintro x w' ⟨hu, hx⟩
  rw [h1] at hx
  obtain ⟨_, hx⟩ := hx
  rw [if_neg (by omega), hz, if_neg (by rw [ByteArray.size_append]; omega), h3] at hx
  obtain ⟨hx, hr⟩ := hx
  have e1 : (t ++ R).extract 0 t.size = t := by
    apply ByteArray.ext
    apply Array.toList_inj.1
    rw [extract_list, ByteArray.data_append, Array.toList_append]
    exact List.take_left' rfl
  have e2 : (t ++ R).extract t.size (t ++ R).size = R := by
    apply ByteArray.ext
    apply Array.toList_inj.1
    rw [extract_tail, ByteArray.data_append, Array.toList_append]
    exact List.drop_left' rfl
  rw [e1] at hx
  rw [e2] at hr
  exact ⟨hx, hr, hu⟩
theorem Upd.cellk {b v i : Nat} {w w' : World} {x : Value} (h : Upd b w w') (hne : v ≠ b) (hc : w.cell? ⟨v, i, none⟩ = some x) : w'.cell? ⟨v, i, none⟩ = some x := by
  have := h.block v (cell_lt hc) hne
  rw [← hc]
  exact World.cell?_of_block this

/-- what Few answers -/
def FewPost (len : Nat) (T : Nat → ByteArray) (w : World) (e : Ending) (w' : World) : Prop :=
  ∃ x : Bool, e = .returned (.bool x) ∧ (x = true → len ≤ 30 ∧ ∀ i, i < len → (T i).size ≤ 200) ∧ w = w'
set_option maxRecDepth 100000 in
theorem few_any (b off len cap : Nat) (T : Nat → ByteArray) (hT : ∀ i, i < len → (T i).size ≤ maxLen) (hl : len ≤ 9223372036854775807) (w : World) (hc : ∀ i, i < len → w.cell? ⟨b, off + (i * 5 + 4), none⟩ = some (.string (T i))) :
    Calls Try.prog 39 #[.slice (some ⟨b, off, none⟩) len cap] w (FewPost len T w) := by
  have HC := hid hc
  have HT := hid hT
  clear hc hT
  go_enter Try.func39, Try.ntmps39
  go_wp2_with fail
  go_loop [3] (fun i => ∃ k : Nat, k ≤ len ∧ i = .int .i64 k ∧ ∀ i, i < k → (T i).size ≤ 200) (fun i => len - (intOf i).toNat)
  case atStart => exact ⟨0, by omega, rfl, fun i hi => absurd hi (Nat.not_lt_zero _)⟩
  case round =>
    obtain ⟨k, hk, rfl, hall⟩ := hrel
    have HA := hid hall
    clear hall
    by_cases hlt : k < len
    · have hcell : w.cell? ⟨b, off + k * 5 + 4, none⟩ = some (.string (T k)) := HC.out k hlt
      have hm := HT.out k hlt
      unfold maxLen at hm
      by_cases h2 : (T k).size ≤ 200
      · have h3 : ¬ 200 < ((T k).size : Int) := by omega
        go_wp2_with fail
        go_round
        case rel => exact ⟨k + 1, by omega, by go_num, fun i hi => by
          rcases Nat.lt_or_ge i k with h | h
          · exact HA.out i h
          · obtain rfl : i = k := by omega
            exact h2⟩
        case measure => simp [intOf]; omega
      · have h3 : 200 < ((T k).size : Int) := by omega
        go_wp2_with fail
        go_ret
        exact ⟨false, rfl, (by simp), rfl⟩
    · obtain rfl : k = len := by omega
      by_cases h30 : k ≤ 30
      · go_wp2_with fail
        go_ret
        exact ⟨decide ((k : Int) ≤ 30), rfl, fun _ => ⟨h30, HA.out⟩, rfl⟩
      · go_wp2_with fail
        go_ret
        exact ⟨decide ((k : Int) ≤ 30), rfl, fun hx => absurd (of_decide_eq_true hx) (by omega), rfl⟩
end Go.Proofs.Ytlmhlinjlneagaa
