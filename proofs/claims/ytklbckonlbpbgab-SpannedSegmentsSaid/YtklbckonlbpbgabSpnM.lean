import Derived.Test.YtklbckonlbpbgabVarM
/-! Records that may be longer than a block, as plain mathematics. -/
namespace Go.Proofs.Ytklbckonlbpbgab

/-- a segment -/
structure Seg where
  before : Bool
  after : Bool
  data : ByteArray
def Seg.code (s : Seg) : Nat := (if s.before then 2 else 0) + (if s.after then 1 else 0)
def shead (n c : Nat) : ByteArray := ⟨#[UInt8.ofNat (n / 256), UInt8.ofNat (n % 256), UInt8.ofNat c, 0]⟩
/-- the form of a segment -/
def sform (s : Seg) : ByteArray := shead (4 + s.data.size) s.code ++ s.data
theorem shead_size (n c : Nat) : (shead n c).size = 4 := rfl
theorem sform_size (s : Seg) : (sform s).size = 4 + s.data.size := by unfold sform; rw [ByteArray.size_append, shead_size]
theorem Seg.code_le (s : Seg) : s.code ≤ 3 := by unfold Seg.code; split <;> split <;> omega

/-- the lengths that fit -/
def sfits (L B : Int) : Prop := 1 ≤ L ∧ L ≤ 1000 ∧ 9 ≤ B ∧ B ≤ 1024
instance (L B : Int) : Decidable (sfits L B) := inferInstanceAs (Decidable (_ ∧ _ ∧ _ ∧ _))
theorem sfits.nat {L B : Int} (h : sfits L B) : ∃ l b : Nat, L = l ∧ B = b ∧ 1 ≤ l ∧ l ≤ 1000 ∧ 9 ≤ b ∧ b ≤ 1024 := by
  obtain ⟨h1, h2, h3, h4⟩ := h
  exact ⟨L.toNat, B.toNat, by omega, by omega, by omega, by omega, by omega, by omega⟩

/-- the parts of what is left of a record: the first one has room for n bytes, the others for m -/
def pieces (m : Nat) : Nat → Nat → Bool → ByteArray → List Seg
  | 0, _, _, _ => []
  | f + 1, n, b, r => if n < r.size then ⟨b, true, r.extract 0 n⟩ :: pieces m f m true (r.extract n r.size) else [⟨b, false, r⟩]
theorem pieces_more (m f n : Nat) (b : Bool) (r : ByteArray) (h : n < r.size) : pieces m (f + 1) n b r = ⟨b, true, r.extract 0 n⟩ :: pieces m f m true (r.extract n r.size) := by simp [pieces, h]
theorem pieces_last (m f n : Nat) (b : Bool) (r : ByteArray) (h : ¬ n < r.size) : pieces m (f + 1) n b r = [⟨b, false, r⟩] := by simp [pieces, h]
theorem pieces_fuel (m : Nat) (hm : 1 ≤ m) (f g n : Nat) (hn : 1 ≤ n) (b : Bool) (r : ByteArray) (hf : r.size < f) (hg : r.size < g) : pieces m f n b r = pieces m g n b r := by
  induction f generalizing g n b r with
  | zero => omega
  | succ f ih =>
    cases g with
    | zero => omega
    | succ g =>
      by_cases h : n < r.size
      · have hs : (r.extract n r.size).size = r.size - n := by rw [ByteArray.size_extract]; omega
        rw [pieces_more _ _ _ _ _ h, pieces_more _ _ _ _ _ h, ih g m hm true _ (by omega) (by omega)]
      · rw [pieces_last _ _ _ _ _ h, pieces_last _ _ _ _ _ h]
/-- the parts of a record -/
def parts (m n : Nat) (b : Bool) (r : ByteArray) : List Seg := pieces m (r.size + 1) n b r
theorem parts_more (m n : Nat) (hm : 1 ≤ m) (hn : 1 ≤ n) (b : Bool) (r : ByteArray) (h : n < r.size) : parts m n b r = ⟨b, true, r.extract 0 n⟩ :: parts m m true (r.extract n r.size) := by
  unfold parts
  have hs : (r.extract n r.size).size = r.size - n := by rw [ByteArray.size_extract]; omega
  rw [pieces_more _ _ _ _ _ h]
  congr 1
  exact pieces_fuel m hm _ _ m hm true _ (by omega) (by omega)
theorem parts_last (m n : Nat) (b : Bool) (r : ByteArray) (h : ¬ n < r.size) : parts m n b r = [⟨b, false, r⟩] := pieces_last _ _ _ _ _ h
theorem parts_ne (m n : Nat) (b : Bool) (r : ByteArray) : parts m n b r ≠ [] := by
  unfold parts pieces; split <;> simp
theorem parts_len (m : Nat) (hm : 1 ≤ m) (n : Nat) (hn : 1 ≤ n) (b : Bool) (r : ByteArray) : (parts m n b r).length ≤ r.size + 1 := by
  obtain ⟨k, hk⟩ : ∃ k, k = r.size := ⟨_, rfl⟩
  induction k using Nat.strongRecOn generalizing n b r with
  | _ k ih =>
    by_cases h : n < r.size
    · have hs : (r.extract n r.size).size = r.size - n := by rw [ByteArray.size_extract]; omega
      rw [parts_more m n hm hn b r h, List.length_cons]
      have := ih (r.size - n) (by omega) m hm true (r.extract n r.size) hs.symm
      omega
    · rw [parts_last m n b r h]; simp

/-- a segment as the text of a block of its own -/
def sblk (s : Seg) : ByteArray := vform (sform s)
/-- the number of bytes that the first part of a record may have -/
def firstN (B room : Nat) : Nat := if 4 < room then room - 4 else B - 8
/-- the blocks behind those that stay, if the last one has the bytes y behind its word and room for so many -/
def addL (B : Nat) (y : ByteArray) (room : Nat) (r : ByteArray) : Bool × List ByteArray :=
  match parts (B - 8) (firstN B room) false r with
  | [] => (false, [])
  | p :: ps => if (sform p).size ≤ room then (true, vform (y ++ sform p) :: ps.map sblk) else (false, sblk p :: ps.map sblk)
end Go.Proofs.Ytklbckonlbpbgab
