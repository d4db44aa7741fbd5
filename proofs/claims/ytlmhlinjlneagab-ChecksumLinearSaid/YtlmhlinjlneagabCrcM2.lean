import Derived.Test.YtlmhlinjlneagabCrcR3
/-! Plain mathematics: sums and exclusive or. -/
namespace Go.Proofs.Ytlmhlinjlneagab
attribute [local irreducible] shk
theorem reg_xor (l : List UInt8) : ∀ (k : List UInt8) (c d : Nat), l.length = k.length → reg (c ^^^ d) (List.zipWith (· ^^^ ·) l k) = reg c l ^^^ reg d k := by
  induction l with
  | nil => intro k c d h; cases k with
    | nil => rfl
    | cons x k => simp at h
  | cons b l ih =>
    intro k c d h
    cases k with
    | nil => simp at h
    | cons x k =>
      have h8 : shk 8 ((c ^^^ d) ^^^ (b ^^^ x).toNat) = shk 8 (c ^^^ b.toNat) ^^^ shk 8 (d ^^^ x.toNat) := by
        rw [UInt8.toNat_xor, xor_swap, shk_xor]
      have hi := ih k (shk 8 (c ^^^ b.toNat)) (shk 8 (d ^^^ x.toNat)) (Nat.succ.inj h)
      rw [← h8] at hi
      exact hi
theorem xorL_zip (s m : ByteArray) (h : s.size = m.size) : xorL s 0 m = List.zipWith (· ^^^ ·) s.data.toList m.data.toList := by
  have hs : s.data.toList.length = s.size := by simp
  have hm : m.data.toList.length = m.size := by simp
  apply List.ext_getElem
  · rw [xorL_len, List.length_zipWith, hs, hm]; omega
  · intro i h1 h2
    rw [xorL_len] at h1
    rw [List.getElem_zipWith]
    simp only [xorL, List.getElem_map, List.getElem_range]
    unfold xk
    rw [if_pos (by omega), Nat.sub_zero, List.getD_eq_getElem?_getD, List.getD_eq_getElem?_getD, List.getElem?_eq_getElem (by omega), List.getElem?_eq_getElem (by omega)]
    rfl
theorem three_ones (p q r o : Nat) : ((p ^^^ q) ^^^ r) ^^^ o = ((p ^^^ o) ^^^ (q ^^^ o)) ^^^ (r ^^^ o) := by
  rw [xor_swap p o q o, Nat.xor_self, Nat.xor_zero, Nat.xor_assoc]
theorem sum_three (a b c x y : ByteArray) (hab : a.size = b.size) (hac : a.size = c.size) (hx : x = ⟨(xorL a 0 b).toArray⟩) (hy : y = ⟨(xorL x 0 c).toArray⟩) : sumS y = (sumS a ^^^ sumS b) ^^^ sumS c := by
  have hxs : x.size = a.size := by rw [hx]; exact xorL_len a 0 b
  have h1 : x.data.toList = List.zipWith (· ^^^ ·) a.data.toList b.data.toList := by rw [hx, ← xorL_zip a b hab]
  have h2 : y.data.toList = List.zipWith (· ^^^ ·) x.data.toList c.data.toList := by rw [hy, ← xorL_zip x c (by omega)]
  have la : a.data.toList.length = a.size := by simp
  have lb : b.data.toList.length = b.size := by simp
  have lc : c.data.toList.length = c.size := by simp
  have lx : x.data.toList.length = x.size := by simp
  unfold sumS crc
  rw [h2, Nat.zero_xor]
  have e1 : reg ones (List.zipWith (· ^^^ ·) x.data.toList c.data.toList) = reg 0 x.data.toList ^^^ reg ones c.data.toList := by
    have := reg_xor x.data.toList c.data.toList 0 ones (by omega)
    rwa [Nat.zero_xor] at this
  have e2 : reg 0 x.data.toList = reg ones a.data.toList ^^^ reg ones b.data.toList := by
    have := reg_xor a.data.toList b.data.toList ones ones (by omega)
    rwa [Nat.xor_self, ← h1] at this
  rw [e1, e2]
  exact three_ones _ _ _ _
end Go.Proofs.Ytlmhlinjlneagab
