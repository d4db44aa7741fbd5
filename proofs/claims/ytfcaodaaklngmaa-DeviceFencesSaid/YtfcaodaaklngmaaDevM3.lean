import Derived.Test.YtfcaodaaklngmaaDevM2
/-! How pending writes lie in a row of cells: three cells each. -/
namespace Go.Proofs.Ytfcaodaaklngmaa
open Go.RowKit

def PW.cells (p : PW) : List Value := [.int .i64 p.sys, .int .i64 p.sec, .string p.dat]
def pwCells (l : List PW) : List Value := l.flatMap PW.cells
theorem pwCells_len (l : List PW) : (pwCells l).length = l.length * 3 := by
  unfold pwCells
  induction l with
  | nil => rfl
  | cons p l ih => rw [List.flatMap_cons, List.length_append, ih, List.length_cons]; show 3 + _ = _; omega
theorem pwCells_append (a b : List PW) : pwCells (a ++ b) = pwCells a ++ pwCells b := by unfold pwCells; rw [List.flatMap_append]
theorem pwCells_get (l : List PW) (k : Nat) (hk : k < l.length) (j : Nat) (hj : j < 3) : (pwCells l)[k * 3 + j]? = (l[k].cells)[j]? := by
  induction l generalizing k with
  | nil => exact absurd hk (Nat.not_lt_zero _)
  | cons p l ih =>
    have e : pwCells (p :: l) = p.cells ++ pwCells l := by unfold pwCells; rw [List.flatMap_cons]
    rw [e]
    cases k with
    | zero => rw [List.getElem?_append_left (by show _ < 3; omega)]; simp
    | succ k =>
      rw [List.getElem?_append_right (by show 3 ≤ _; omega)]
      show (pwCells l)[(k + 1) * 3 + j - 3]? = _
      rw [show (k + 1) * 3 + j - 3 = k * 3 + j by omega, ih k (by simpa using hk)]
      simp
theorem pwCells_one (l : List PW) : ∀ u ∈ pwCells l, u.oneCell' = true := by
  intro u hu
  unfold pwCells at hu
  obtain ⟨p, _, h⟩ := List.mem_flatMap.1 hu
  simp only [PW.cells, List.mem_cons, List.not_mem_nil, or_false] at h
  rcases h with rfl | rfl | rfl <;> rfl
/-- the three cells of a pending write at a place -/
structure PwAt (cur : List Value) (k : Nat) (p : PW) : Prop where
  sys : cur[k * 3]? = some (.int .i64 p.sys)
  sec : cur[k * 3 + 1]? = some (.int .i64 p.sec)
  dat : cur[k * 3 + 2]? = some (.string p.dat)
theorem PwAt.of_take {cur : List Value} {l : List PW} (h : cur.take (l.length * 3) = pwCells l) (k : Nat) (hk : k < l.length) : PwAt cur k l[k] := by
  have key : ∀ j, j < 3 → cur[k * 3 + j]? = (l[k].cells)[j]? := fun j hj => by
    rw [← pwCells_get l k hk j hj, ← h, List.getElem?_take, if_pos (by omega)]
  exact ⟨key 0 (by omega), key 1 (by omega), key 2 (by omega)⟩
theorem PwAt.take_of {cur : List Value} {l : List PW} (h : ∀ k (hk : k < l.length), PwAt cur k l[k]) : cur.take (l.length * 3) = pwCells l := by
  apply List.ext_getElem?
  intro i
  rw [List.getElem?_take]
  by_cases hi : i < l.length * 3
  · rw [if_pos hi]
    have hk : i / 3 < l.length := by omega
    have he : i = i / 3 * 3 + i % 3 := by omega
    have hp := h (i / 3) hk
    have hg := pwCells_get l (i / 3) hk (i % 3) (by omega)
    rw [← he] at hg
    rw [hg]
    have h3 : i % 3 < 3 := by omega
    generalize i % 3 = m at he h3
    rcases (show m = 0 ∨ m = 1 ∨ m = 2 by omega) with rfl | rfl | rfl
    · exact (congrArg (fun x => cur[x]?) he).trans hp.sys
    · exact (congrArg (fun x => cur[x]?) he).trans hp.sec
    · exact (congrArg (fun x => cur[x]?) he).trans hp.dat
  · rw [if_neg hi, List.getElem?_eq_none (by rw [pwCells_len]; omega)]
theorem PwAt.congr {cur cur' : List Value} {k : Nat} {p : PW} (h : PwAt cur k p) (e : ∀ j, k * 3 ≤ j → j < k * 3 + 3 → cur'[j]? = cur[j]?) : PwAt cur' k p :=
  ⟨(e _ (by omega) (by omega)).trans h.sys, (e _ (by omega) (by omega)).trans h.sec, (e _ (by omega) (by omega)).trans h.dat⟩
/-- the row behind the store of a pending write at place k -/
def putPw (cur : List Value) (k : Nat) (p : PW) : List Value := ((cur.set (k * 3) (.int .i64 p.sys)).set (k * 3 + 1) (.int .i64 p.sec)).set (k * 3 + 2) (.string p.dat)
theorem putPw_len (cur : List Value) (k : Nat) (p : PW) : (putPw cur k p).length = cur.length := by unfold putPw; simp
theorem putPw_other (cur : List Value) (k : Nat) (p : PW) (j : Nat) (h : j < k * 3 ∨ k * 3 + 3 ≤ j) : (putPw cur k p)[j]? = cur[j]? := by
  unfold putPw
  rw [List.getElem?_set_ne (by omega), List.getElem?_set_ne (by omega), List.getElem?_set_ne (by omega)]
theorem putPw_at (cur : List Value) (k : Nat) (p : PW) (h : k * 3 + 3 ≤ cur.length) : PwAt (putPw cur k p) k p := by
  unfold putPw
  refine ⟨?_, ?_, ?_⟩
  · rw [List.getElem?_set_ne (by omega), List.getElem?_set_ne (by omega), List.getElem?_set_self (by omega)]
  · rw [List.getElem?_set_ne (by omega), List.getElem?_set_self (by simp; omega)]
  · rw [List.getElem?_set_self (by simp; omega)]
/-- striking pending writes, after j of them have been looked at, from the first to be struck on -/
structure Struck (sel : PW → Bool) (l : List PW) (cur : List Value) (i j : Nat) : Prop where
  jn : j ≤ l.length
  num : i = ((l.take j).filter (fun p => !sel p)).length
  lt : i < j
  done : ∀ k, k < i → ∀ h, PwAt cur k (((l.take j).filter (fun p => !sel p))[k]'h)
  rest : ∀ k (hk : k < l.length), j ≤ k → PwAt cur k l[k]
theorem filter_take_succ (q : PW → Bool) (l : List PW) (j : Nat) (hj : j < l.length) : (l.take (j + 1)).filter q = (l.take j).filter q ++ if q l[j] then [l[j]] else [] := by
  rw [List.take_succ_eq_append_getElem hj, List.filter_append]
  congr 1
  by_cases h : q l[j] = true
  · rw [if_pos h]; simp [h]
  · rw [if_neg h]; simp [h]
theorem Struck.skip {sel : PW → Bool} {l : List PW} {cur : List Value} {i j : Nat} (h : Struck sel l cur i j) (hj : j < l.length) (hs : sel l[j] = true) : Struck sel l cur i (j + 1) := by
  have e : (l.take (j + 1)).filter (fun p => !sel p) = (l.take j).filter (fun p => !sel p) := by rw [filter_take_succ _ _ _ hj, if_neg (by rw [hs]; decide), List.append_nil]
  refine ⟨by omega, by rw [e]; exact h.num, by have := h.lt; omega, fun k hk => ?_, fun k hk hjk => h.rest k hk (by omega)⟩
  rw [e]; exact h.done k hk
theorem Struck.keep {sel : PW → Bool} {l : List PW} {cur : List Value} {i j : Nat} (h : Struck sel l cur i j) (hl : l.length * 3 ≤ cur.length) (hj : j < l.length) (hs : sel l[j] = false) : Struck sel l (putPw cur i l[j]) (i + 1) (j + 1) := by
  have e : (l.take (j + 1)).filter (fun p => !sel p) = (l.take j).filter (fun p => !sel p) ++ [l[j]] := by rw [filter_take_succ _ _ _ hj, if_pos (by rw [hs]; decide)]
  have hlt := h.lt
  refine ⟨by omega, by rw [e, List.length_append, ← h.num]; rfl, by omega, fun k _ => ?_, fun k hk hjk => (h.rest k hk (by omega)).congr fun m h1 h2 => putPw_other _ _ _ _ (by omega)⟩
  rw [e]
  intro hh
  by_cases hki : k < i
  · rw [List.getElem_append_left (by rw [← h.num]; exact hki)]
    exact (h.done k hki _).congr fun m h1 h2 => putPw_other _ _ _ _ (by omega)
  · obtain rfl : k = i := by omega
    rw [List.getElem_append_right (by rw [← h.num]; omega)]
    simp only [List.getElem_singleton]
    exact putPw_at _ _ _ (by omega)
theorem Struck.start {sel : PW → Bool} {l : List PW} {cur : List Value} (hc : cur.take (l.length * 3) = pwCells l) (i : Nat) (hi : i < l.length) (hs : sel l[i] = true) (hb : ∀ k (hk : k < l.length), k < i → sel l[k] = false) : Struck sel l cur i (i + 1) := by
  have e1 : ∀ m, m ≤ i → (l.take m).filter (fun p => !sel p) = l.take m := fun m hm => by
    rw [List.filter_eq_self]
    intro p hp
    obtain ⟨k, hk, rfl⟩ := List.getElem_of_mem hp
    rw [List.length_take] at hk
    rw [List.getElem_take, hb k (by omega) (by omega)]; rfl
  have e : (l.take (i + 1)).filter (fun p => !sel p) = l.take i := by rw [filter_take_succ _ _ _ hi, if_neg (by rw [hs]; decide), List.append_nil, e1 i (Nat.le_refl _)]
  refine ⟨by omega, by rw [e, List.length_take]; omega, by omega, fun k hk => ?_, fun k hk hjk => PwAt.of_take hc k hk⟩
  rw [e]
  intro hh
  rw [List.getElem_take]
  exact PwAt.of_take hc k _
theorem Struck.finish {sel : PW → Bool} {l : List PW} {cur : List Value} {i : Nat} (h : Struck sel l cur i l.length) (hl : l.length * 3 ≤ cur.length) (zs : List Value) (hz : zs.length = (l.length - i) * 3) :
    i = (l.filter (fun p => !sel p)).length ∧ (splice cur (i * 3) zs).take ((l.filter (fun p => !sel p)).length * 3) = pwCells (l.filter (fun p => !sel p)) ∧ (splice cur (i * 3) zs).length = cur.length := by
  have hn := h.num
  rw [List.take_length] at hn
  have hlt := h.lt
  have hd := h.done
  have hsl : (splice cur (i * 3) zs).length = cur.length := length_splice _ _ _ (by rw [hz]; omega)
  refine ⟨hn, PwAt.take_of fun k hk => ?_, hsl⟩
  have h1 := hd k (by omega) (by rw [List.take_length]; exact hk)
  simp only [List.take_length] at h1
  exact h1.congr fun j a b => by rw [splice_get _ _ _ (by rw [hz]; omega), if_neg (by omega)]
end Go.Proofs.Ytfcaodaaklngmaa
