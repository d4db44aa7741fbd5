import Derived.Test.YtklbckonlbpbgabSpnM
/-! The blocks of records: what one more record makes of them. -/
namespace Go.Proofs.Ytklbckonlbpbgab

/-- the blocks that the parts of a record make behind those that stay -/
def outs (y : ByteArray) (room : Nat) : List Seg → List ByteArray
  | [] => []
  | p :: q => (if (sform p).size ≤ room then vform (y ++ sform p) else sblk p) :: q.map sblk
theorem outs_one (y : ByteArray) (room : Nat) (p : Seg) : outs y room ([] ++ [p]) = [] ++ [if (sform p).size ≤ room then vform (y ++ sform p) else sblk p] := rfl
theorem outs_more (y : ByteArray) (room : Nat) (d : List Seg) (hd : d ≠ []) (p : Seg) : outs y room (d ++ [p]) = outs y room d ++ [sblk p] := by
  cases d with
  | nil => exact absurd rfl hd
  | cons a d => simp [outs]
theorem outs_len (y : ByteArray) (room : Nat) (d : List Seg) : (outs y room d).length = d.length := by
  cases d with
  | nil => rfl
  | cons a d => simp [outs]
/-- is the first part put into the last block? -/
def joins (room : Nat) : List Seg → Bool
  | [] => false
  | p :: _ => decide ((sform p).size ≤ room)
theorem parts_cases (m n : Nat) (hm : 1 ≤ m) (hn : 1 ≤ n) (b : Bool) (r : ByteArray) :
    (n < r.size ∧ parts m n b r = ⟨b, true, r.extract 0 n⟩ :: parts m m true (r.extract n r.size)) ∨ (r.size ≤ n ∧ parts m n b r = [⟨b, false, r⟩]) := by
  by_cases h : n < r.size
  · exact .inl ⟨h, parts_more m n hm hn b r h⟩
  · exact .inr ⟨by omega, parts_last m n b r h⟩
end Go.Proofs.Ytklbckonlbpbgab
