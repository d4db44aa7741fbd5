import Derived.Test.YtllbjabnoicdfaaFixT2
import Derived.Test.YtllbjabnoicdfaaJoi
/-! Texts joined; a part of a list in memory. -/
namespace Go.Proofs.Ytllbjabnoicdfaa
open Go.Lib Go.ChangeShapes Go.WideShapes Go.ChangeAt Go.RowKit Go.Shelf

theorem join_flatten (l : List (List UInt8)) : Lib.join l [] = l.flatten := by
  unfold Lib.join
  induction l with
  | nil => rfl
  | cons a l ih =>
    cases l with
    | nil => simp
    | cons b l => rw [List.intercalate_cons_cons, ih]; simp
theorem cat_len (l : List ByteArray) : (cat l).size = ((l.map (·.data.toList)).flatten).length := by simp [cat, ByteArray.size]
theorem join_any (v : Value) (l : List ByteArray) (hl : l.length ≤ 100000) (hz : (cat l).size ≤ 140737488355328) (w : World) (hs : StrsAt w v l) :
    Calls Try.prog 29 #[v, .string ⟨#[]⟩] w (Gives (.string (cat l)) w) := by
  obtain ⟨A, cap, rfl, hc1, hc2, hcell⟩ := hs
  rcases Nat.eq_zero_or_pos l.length with h0 | h0
  · rw [h0]
    obtain rfl : l = [] := List.length_eq_zero_iff.1 h0
    refine (Try.strings_Join_none A cap ⟨#[]⟩ w).mono ?_
    rintro e w' ⟨rfl, rfl⟩
    exact ⟨rfl, Below.refl _ _⟩
  · obtain ⟨b, off, rfl, hlt, hc⟩ := hcell h0
    refine (Try.strings_Join b off cap l ⟨#[]⟩ w (fun j x hx => ?_) hlt (by omega) hc1 ?_).mono ?_
    · obtain ⟨hj, rfl⟩ := List.getElem?_eq_some_iff.1 hx
      exact hc j hj
    · rw [show (ByteArray.mk #[]).data.toList = [] from rfl, join_flatten, ← cat_len]; exact hz
    · rintro e w' ⟨rfl, hb⟩
      refine ⟨?_, hb⟩
      rw [show (ByteArray.mk #[]).data.toList = [] from rfl, join_flatten]; rfl
theorem StrsAt.part {w : World} {pb off n cap m : Nat} {l : List ByteArray} (h : StrsAt w (.slice (some ⟨pb, off, none⟩) n cap) l) (k : Nat) (hk : k * m < l.length) (hl : l.length ≤ 100000) :
    StrsAt w (.slice (some ⟨pb, off + k * m, none⟩) (min m (l.length - k * m)) (min m (l.length - k * m))) (part m l k) := by
  obtain ⟨A, cap', e, h1, h2, h4⟩ := h
  simp only [Value.slice.injEq] at e
  obtain ⟨rfl, rfl, rfl⟩ := e
  obtain ⟨b, o, e, hlt, hc⟩ := h4 (by omega)
  cases e
  refine ⟨_, _, by rw [part_length], by rw [part_length]; exact Nat.le_refl _, by omega, fun _ => ⟨_, _, rfl, hlt, fun i hi => ?_⟩⟩
  rw [part_length] at hi
  rw [Nat.add_assoc, hc (k * m + i) (by omega)]
  show _ = some (Value.string ((List.take m (List.drop (k * m) l))[i]'(by simp; omega)))
  rw [List.getElem_take, List.getElem_drop]
end Go.Proofs.Ytllbjabnoicdfaa
