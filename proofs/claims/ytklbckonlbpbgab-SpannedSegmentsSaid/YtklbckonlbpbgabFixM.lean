import Derived.Lib.Hide
import Derived.Test.YtklbckonlbpbgabApp
import Derived.Test.YtklbckonlbpbgabSlices
import Derived.Test.YtklbckonlbpbgabRows
import Derived.ProofKit
import Derived.BigQuiet
import Derived.Deep.QuietTactic
import Derived.Deep.RegionHeld3
import Derived.Deep.LoopGhost
import Derived.Laws.Rows
import Derived.Laws.Tables
import Derived.Deep.WholeRow
import Derived.Deep.Cut
import Derived.WalkSmall
import Derived.Laws.StructEq
import Derived.Deep.RegionLaw
import Derived.IntWalk
/-! Blocks of records of the same length as plain mathematics. -/
namespace Go.Proofs.Ytklbckonlbpbgab

/-- texts one behind the other -/
def cat (l : List ByteArray) : ByteArray := ⟨(l.map (·.data.toList)).flatten.toArray⟩
theorem cat_nil : cat [] = ⟨#[]⟩ := rfl
theorem cat_append (a b : List ByteArray) : cat (a ++ b) = cat a ++ cat b := by
  apply ByteArray.ext
  simp [cat, ByteArray.data_append]
theorem cat_one (x : ByteArray) : cat [x] = x := by
  apply ByteArray.ext
  simp [cat]
theorem cat_snoc (a : List ByteArray) (x : ByteArray) : cat (a ++ [x]) = cat a ++ x := by rw [cat_append, cat_one]
theorem cat_size (L : Nat) (l : List ByteArray) (h : ∀ x ∈ l, x.size = L) : (cat l).size = l.length * L := by
  induction l with
  | nil => simp [cat]; rfl
  | cons a l ih =>
    have e : cat (a :: l) = a ++ cat l := by rw [← cat_one a, ← cat_append, cat_one]; rfl
    rw [e, ByteArray.size_append, ih (fun x hx => h x (List.mem_cons_of_mem _ hx)), h a List.mem_cons_self, List.length_cons, Nat.add_mul]; omega

/-- the lengths that fit -/
def fits (L B : Int) : Prop := 1 ≤ L ∧ L ≤ 1000 ∧ L ≤ B ∧ B ≤ 1024
instance (L B : Int) : Decidable (fits L B) := inferInstanceAs (Decidable (_ ∧ _ ∧ _ ∧ _))
theorem fits.nat {L B : Int} (h : fits L B) : ∃ l b : Nat, L = l ∧ B = b ∧ 1 ≤ l ∧ l ≤ 1000 ∧ l ≤ b ∧ b ≤ 1024 := by
  obtain ⟨h1, h2, h3, h4⟩ := h
  exact ⟨L.toNat, B.toNat, by omega, by omega, by omega, by omega, by omega, by omega⟩
theorem most_pos {l b : Nat} (h1 : 1 ≤ l) (h2 : l ≤ b) : 1 ≤ b / l := (Nat.le_div_iff_mul_le h1).2 (by omega)
theorem most_le {l b : Nat} (h : b ≤ 1024) : b / l ≤ 1024 := Nat.le_trans (Nat.div_le_self _ _) h

/-- the number of blocks -/
def nb (m n : Nat) : Nat := (n + m - 1) / m
/-- the records of block k -/
def part (m : Nat) (l : List ByteArray) (k : Nat) : List ByteArray := (l.drop (k * m)).take m
def firstB (m : Nat) (l : List ByteArray) (k : Nat) : List ByteArray := (List.range k).map fun i => cat (part m l i)
/-- the blocks of records -/
def blocks (m : Nat) (l : List ByteArray) : List ByteArray := firstB m l (nb m l.length)
theorem firstB_succ (m : Nat) (l : List ByteArray) (k : Nat) : firstB m l (k + 1) = firstB m l k ++ [cat (part m l k)] := by simp [firstB, List.range_succ]
theorem firstB_length (m : Nat) (l : List ByteArray) (k : Nat) : (firstB m l k).length = k := by simp [firstB]
theorem nb_le {m n k : Nat} (hm : 1 ≤ m) : nb m n ≤ k ↔ n ≤ k * m := by
  unfold nb
  rw [← Nat.lt_succ_iff, Nat.div_lt_iff_lt_mul hm, Nat.succ_mul]; omega
theorem nb_eq {m n k : Nat} (hm : 1 ≤ m) (h1 : k * m < n) (h2 : n ≤ (k + 1) * m) : nb m n = k + 1 := by
  have a := (nb_le (m := m) (n := n) (k := k + 1) hm).2 h2
  have b : ¬ nb m n ≤ k := fun h => by have := (nb_le hm).1 h; omega
  omega
theorem nb_zero {m : Nat} (hm : 1 ≤ m) : nb m 0 = 0 := by have := (nb_le (m := m) (n := 0) (k := 0) hm).2 (by simp); omega
theorem blocks_nil {m : Nat} (hm : 1 ≤ m) : blocks m [] = [] := by unfold blocks; rw [List.length_nil, nb_zero hm]; rfl
theorem firstB_snoc (m : Nat) (l : List ByteArray) (x : ByteArray) (k : Nat) (h : k * m ≤ l.length) : firstB m (l ++ [x]) k = firstB m l k := by
  unfold firstB
  apply List.map_congr_left
  intro i hi
  have hi : i < k := List.mem_range.1 hi
  have h1 : (i + 1) * m ≤ k * m := Nat.mul_le_mul_right m hi
  rw [Nat.succ_mul] at h1
  unfold part
  rw [List.drop_append_of_le_length (by omega), List.take_append_of_le_length (by rw [List.length_drop]; omega)]
/-- a further record begins a block -/
theorem blocks_new {m : Nat} (hm : 1 ≤ m) (l : List ByteArray) (x : ByteArray) (q : Nat) (h : l.length = q * m) : blocks m (l ++ [x]) = blocks m l ++ [x] := by
  have h1 : nb m (l ++ [x]).length = q + 1 := nb_eq hm (by simp; omega) (by rw [Nat.succ_mul]; simp; omega)
  have h2 : nb m l.length = q := by
    rcases Nat.eq_zero_or_pos q with e | e
    · subst e; rw [h, Nat.zero_mul, nb_zero hm]
    · have := nb_eq (m := m) (n := l.length) (k := q - 1) hm (by
        have : (q - 1 + 1) * m = (q - 1) * m + m := Nat.succ_mul _ _
        rw [show q - 1 + 1 = q by omega] at this; omega) (by rw [show q - 1 + 1 = q by omega]; omega)
      omega
  unfold blocks
  rw [h1, h2, firstB_succ, firstB_snoc m l x q (by omega)]
  congr 2
  unfold part
  rw [← h, List.drop_left, List.take_of_length_le (by simpa using hm), cat_one]
/-- a further record goes on with the last block -/
theorem blocks_more {m : Nat} (hm : 1 ≤ m) (l : List ByteArray) (x : ByteArray) (q : Nat) (h1 : q * m < l.length) (h2 : l.length < (q + 1) * m) :
    blocks m (l ++ [x]) = firstB m l q ++ [cat (part m l q) ++ x] ∧ blocks m l = firstB m l q ++ [cat (part m l q)] := by
  have e1 : nb m (l ++ [x]).length = q + 1 := nb_eq hm (by simp; omega) (by simp; omega)
  have e2 : nb m l.length = q + 1 := nb_eq hm h1 (by omega)
  rw [Nat.succ_mul] at h2
  constructor
  · unfold blocks
    rw [e1, firstB_succ, firstB_snoc m l x q (by omega)]
    congr 2
    unfold part
    rw [List.drop_append_of_le_length (by omega), List.take_of_length_le (by simp; omega), cat_snoc, List.take_of_length_le (by simp; omega)]
  · unfold blocks
    rw [e2, firstB_succ]
theorem part_length (m : Nat) (l : List ByteArray) (k : Nat) : (part m l k).length = min m (l.length - k * m) := by simp [part]
theorem part_mem {m : Nat} {l : List ByteArray} {k : Nat} {x : ByteArray} (h : x ∈ part m l k) : x ∈ l := List.mem_of_mem_drop (List.mem_of_mem_take h)
theorem take_part (m : Nat) (l : List ByteArray) (k : Nat) : l.take (k * m) ++ part m l k = l.take ((k + 1) * m) := by
  unfold part
  rw [Nat.succ_mul, List.take_add]

/-- the records of a block, one behind the other -/
def recs (L : Nat) (d : ByteArray) (n : Nat) : List ByteArray := (List.range n).map fun i => d.extract (i * L) (i * L + L)
theorem recs_succ (L : Nat) (d : ByteArray) (n : Nat) : recs L d (n + 1) = recs L d n ++ [d.extract (n * L) (n * L + L)] := by simp [recs, List.range_succ]
theorem recs_length (L : Nat) (d : ByteArray) (n : Nat) : (recs L d n).length = n := by simp [recs]
theorem cat_recs (L : Nat) (d : ByteArray) (n : Nat) (h : n * L ≤ d.size) : cat (recs L d n) = d.extract 0 (n * L) := by
  induction n with
  | zero => rw [Nat.zero_mul]; apply ByteArray.ext; simp [recs, cat]
  | succ n ih =>
    rw [Nat.succ_mul] at h ⊢
    rw [recs_succ, cat_snoc, ih (by omega), ByteArray.extract_append_extract]
    congr 1 <;> omega
theorem recs_mem {L : Nat} {d : ByteArray} {n : Nat} (h : n * L ≤ d.size) {x : ByteArray} (hx : x ∈ recs L d n) : x.size = L := by
  obtain ⟨i, hi, rfl⟩ := List.mem_map.1 hx
  have hi : i < n := List.mem_range.1 hi
  have : (i + 1) * L ≤ n * L := Nat.mul_le_mul_right L hi
  rw [Nat.succ_mul] at this
  rw [ByteArray.size_extract]; omega
theorem cat_get (L : Nat) (l : List ByteArray) (h : ∀ x ∈ l, x.size = L) (n : Nat) (hn : n < l.length) : (cat l).extract (n * L) (n * L + L) = l[n] := by
  have e : l = l.take n ++ ([l[n]] ++ l.drop (n + 1)) := by simp
  have hs : (cat (l.take n)).size = n * L := by rw [cat_size L _ (fun x hx => h x (List.mem_of_mem_take hx)), List.length_take, Nat.min_eq_left (by omega)]
  have hx : l[n].size = L := h _ (List.getElem_mem hn)
  obtain ⟨x, hxe⟩ : ∃ x, x = l[n] := ⟨_, rfl⟩
  rw [← hxe] at e hx ⊢
  rw [e, cat_append, cat_append, cat_one, ← hs, ← hx]
  apply ByteArray.ext
  apply Array.toList_inj.1
  simp [ByteArray.data_append, ByteArray.data_extract]
  rw [List.drop_of_length_le (by simp), List.take_of_length_le (by simp), List.nil_append]
  exact List.take_of_length_le (by simp)
theorem recs_take (L : Nat) (l : List ByteArray) (h : ∀ x ∈ l, x.size = L) (n : Nat) (hn : n ≤ l.length) : recs L (cat l) n = l.take n := by
  induction n with
  | zero => simp [recs]
  | succ n ih => rw [recs_succ, ih (by omega), cat_get L l h n (by omega), ← List.take_succ_eq_append_getElem (by omega)]
theorem recs_cat (L : Nat) (l : List ByteArray) (h : ∀ x ∈ l, x.size = L) : recs L (cat l) l.length = l := by rw [recs_take L l h _ (Nat.le_refl _), List.take_length]
end Go.Proofs.Ytklbckonlbpbgab
