import Derived.Test.YtklbckonlbpbgabSpnM2
set_option linter.unusedVariables false
/-! The blocks of records that may be longer than a block. -/
namespace Go.Proofs.Ytklbckonlbpbgab

def roomOf (B : Nat) (bl : List ByteArray) : Nat := match bl.getLast? with | none => 0 | some l => B - l.size
def yOf (bl : List ByteArray) : ByteArray := match bl.getLast? with | none => ⟨#[]⟩ | some l => l.extract 4 l.size
def psOf (B : Nat) (bl : List ByteArray) (r : ByteArray) : List Seg := parts (B - 8) (firstN B (roomOf B bl)) false r
def joinOf (B : Nat) (bl : List ByteArray) (r : ByteArray) : Nat := if joins (roomOf B bl) (psOf B bl r) = true then 1 else 0
def moreOf (B : Nat) (bl : List ByteArray) (r : ByteArray) : List ByteArray := outs (yOf bl) (roomOf B bl) (psOf B bl r)
/-- one more record -/
def sstep (B : Nat) (bl : List ByteArray) (r : ByteArray) : List ByteArray := bl.take (bl.length - joinOf B bl r) ++ moreOf B bl r
def spack (B : Nat) (l : List ByteArray) : List ByteArray := l.foldl (sstep B) []
theorem spack_snoc (B : Nat) (l : List ByteArray) (r : ByteArray) : spack B (l ++ [r]) = sstep B (spack B l) r := by unfold spack; rw [List.foldl_append]; rfl
theorem roomOf_nil (B : Nat) : roomOf B [] = 0 := rfl
theorem yOf_nil : yOf [] = ⟨#[]⟩ := rfl
theorem roomOf_ne (B : Nat) (bl : List ByteArray) (h : bl ≠ []) : roomOf B bl = B - (bl.getLast h).size := by unfold roomOf; rw [List.getLast?_eq_some_getLast h]
theorem yOf_ne (bl : List ByteArray) (h : bl ≠ []) : yOf bl = (bl.getLast h).extract 4 (bl.getLast h).size := by unfold yOf; rw [List.getLast?_eq_some_getLast h]
theorem parts_data (m : Nat) (hm : 1 ≤ m) (n : Nat) (hn : 1 ≤ n) (b : Bool) (r : ByteArray) : ∃ p q, parts m n b r = p :: q ∧ p.data.size ≤ n ∧ ∀ s ∈ q, s.data.size ≤ m := by
  obtain ⟨k, hk⟩ : ∃ k, k = r.size := ⟨_, rfl⟩
  induction k using Nat.strongRecOn generalizing n b r with
  | _ k ih =>
    rcases parts_cases m n hm hn b r with ⟨h1, h2⟩ | ⟨h1, h2⟩
    · have hs : (r.extract n r.size).size = r.size - n := by rw [ByteArray.size_extract]; omega
      obtain ⟨p, q, h3, h4, h5⟩ := ih (r.size - n) (by omega) m hm true (r.extract n r.size) hs.symm
      refine ⟨_, _, h2, by simp only [ByteArray.size_extract]; omega, fun s hs => ?_⟩
      rw [h3] at hs
      rcases List.mem_cons.1 hs with rfl | hs
      · exact h4
      · exact h5 s hs
    · exact ⟨_, _, h2, h1, fun s hs => by cases hs⟩
theorem sblk_size (s : Seg) : (sblk s).size = 8 + s.data.size := by unfold sblk; rw [vform_size, sform_size]; omega
/-- every block that a further record makes fits -/
theorem outs_fit (B room : Nat) (hB : 9 ≤ B) (y r : ByteArray) (hy : 4 + y.size + room ≤ B) : ∀ x ∈ outs y room (parts (B - 8) (firstN B room) false r), 4 ≤ x.size ∧ x.size ≤ B := by
  obtain ⟨p, q, h1, h2, h3⟩ := parts_data (B - 8) (by omega) (firstN B room) (by unfold firstN; split <;> omega) false r
  rw [h1]
  intro x hx
  unfold outs at hx
  rcases List.mem_cons.1 hx with rfl | hx
  · split
    · rename_i hj
      rw [vform_size, ByteArray.size_append]; omega
    · rename_i hj
      rw [sblk_size]
      rw [sform_size] at hj
      unfold firstN at h2
      split at h2 <;> omega
  · obtain ⟨s, hs, rfl⟩ := List.mem_map.1 hx
    have := h3 s hs
    rw [sblk_size]; omega
theorem outs_ne (y : ByteArray) (room : Nat) (ps : List Seg) (h : ps ≠ []) : outs y room ps ≠ [] := by
  cases ps with
  | nil => exact absurd rfl h
  | cons a ps => simp [outs]
/-- the last block fits -/
def LastOk (B : Nat) (bl : List ByteArray) : Prop := ∀ h : bl ≠ [], 4 ≤ (bl.getLast h).size ∧ (bl.getLast h).size ≤ B
theorem LastOk.nil (B : Nat) : LastOk B [] := fun h => absurd rfl h
theorem LastOk.room {B : Nat} {bl : List ByteArray} (h : LastOk B bl) (hB : 9 ≤ B) : 4 + (yOf bl).size + roomOf B bl ≤ B := by
  by_cases hb : bl = []
  · subst hb; rw [roomOf_nil, yOf_nil]; show 4 + 0 + 0 ≤ B; omega
  · rw [roomOf_ne B bl hb, yOf_ne bl hb, ByteArray.size_extract]
    have := h hb
    omega
theorem LastOk.step {B : Nat} {bl : List ByteArray} (h : LastOk B bl) (hB : 9 ≤ B) (r : ByteArray) : LastOk B (sstep B bl r) ∧ sstep B bl r ≠ [] := by
  have hne : moreOf B bl r ≠ [] := outs_ne _ _ _ (parts_ne _ _ _ _)
  have hmem := outs_fit B (roomOf B bl) hB (yOf bl) r (h.room hB)
  refine ⟨fun h2 => ?_, fun e => hne (List.append_eq_nil_iff.1 e).2⟩
  have e : (sstep B bl r).getLast h2 = (moreOf B bl r).getLast hne := List.getLast_append_of_ne_nil (l := bl.take (bl.length - joinOf B bl r)) (l' := moreOf B bl r) h2 hne
  rw [e]
  exact hmem _ (List.getLast_mem hne)
theorem LastOk.spack (B : Nat) (hB : 9 ≤ B) (l : List ByteArray) : LastOk B (spack B l) := by
  obtain ⟨n, hn⟩ : ∃ n, n = l.length := ⟨_, rfl⟩
  induction n generalizing l with
  | zero => obtain rfl : l = [] := List.length_eq_zero_iff.1 hn.symm; exact LastOk.nil B
  | succ n ih =>
    rcases List.eq_nil_or_concat l with e | ⟨k, r, e⟩
    · rw [e] at hn; simp at hn
    · rw [List.concat_eq_append] at e
      subst e
      simp only [List.length_append, List.length_singleton] at hn
      rw [spack_snoc]
      exact ((ih k (by omega)).step hB r).1
theorem moreOf_len (B : Nat) (hB : 9 ≤ B) (bl : List ByteArray) (r : ByteArray) : (moreOf B bl r).length ≤ r.size + 1 := by
  unfold moreOf psOf
  rw [outs_len]
  exact parts_len (B - 8) (by omega) _ (by unfold firstN; split <;> omega) false r
theorem sstep_len (B : Nat) (hB : 9 ≤ B) (bl : List ByteArray) (r : ByteArray) : (sstep B bl r).length ≤ bl.length + (r.size + 1) := by
  unfold sstep
  rw [List.length_append, List.length_take]
  have := moreOf_len B hB bl r
  omega
theorem first_longer (L : Nat) (l : List ByteArray) : ∃ s, s ≤ l.length ∧ (∀ i (hi : i < s) (hj : i < l.length), l[i].size ≤ L) ∧ (∀ h : s < l.length, L < l[s].size) := by
  induction l with
  | nil => exact ⟨0, Nat.le_refl _, fun i hi => by omega, fun h => by simp at h⟩
  | cons a l ih =>
    by_cases h0 : a.size ≤ L
    · obtain ⟨s, h1, h2, h3⟩ := ih
      refine ⟨s + 1, by simp; omega, fun i hi hj => ?_, fun h => by simpa using h3 (by simpa using h)⟩
      cases i with
      | zero => simpa using h0
      | succ i => simpa using h2 i (by omega) (by simpa using hj)
    · exact ⟨0, by simp, fun i hi => by omega, fun _ => by simp; omega⟩
end Go.Proofs.Ytklbckonlbpbgab
