import Derived.Test.YtfcaodaaklngmaaDevM1
import Derived.Laws.CopyOwn
import Derived.WalkKit
/-! How a device's sectors lie in a row of cells: ten cells each. -/
namespace Go.Proofs.Ytfcaodaaklngmaa
open Go.RowKit

/-- the ten cells of a sector -/
structure SecCells (cur : List Value) (at_ : Nat) (s : Sec) : Prop where
  st : cur[at_]? = some (.string s.st)
  er : ∀ j, j < 8 → ∃ t, cur[at_ + 1 + j]? = some (.string t) ∧ ∀ h : j < s.er.length, t = s.er[j]
  kept : cur[at_ + 9]? = some (.int .i64 s.er.length)
  few : s.er.length ≤ 8
structure SecsIs (cur : List Value) (n : Nat) (f : Nat → Sec) : Prop where
  len : n * 10 ≤ cur.length
  sec : ∀ i, i < n → SecCells cur (i * 10) (f i)

theorem SecCells.congr {cur cur' : List Value} {a : Nat} {s : Sec} (h : SecCells cur a s) (e : ∀ j, a ≤ j → j < a + 10 → cur'[j]? = cur[j]?) : SecCells cur' a s :=
  ⟨(e a (by omega) (by omega)).trans h.st, fun j hj => by obtain ⟨t, h1, h2⟩ := h.er j hj; exact ⟨t, (e _ (by omega) (by omega)).trans h1, h2⟩, (e _ (by omega) (by omega)).trans h.kept, h.few⟩

theorem SecsIs.up {cur cur' : List Value} {n : Nat} {f : Nat → Sec} (h : SecsIs cur n f) (i : Nat) (s : Sec) (hl : cur'.length = cur.length) (ho : ∀ j, (j < i * 10 ∨ i * 10 + 10 ≤ j) → cur'[j]? = cur[j]?)
    (hs : SecCells cur' (i * 10) s) : SecsIs cur' n (upS f i s) :=
  ⟨by rw [hl]; exact h.len, fun k hk => by
    unfold upS
    by_cases e : k = i
    · subst e; rw [if_pos rfl]; exact hs
    · rw [if_neg e]; exact (h.sec k hk).congr fun j h1 h2 => ho j (by omega)⟩

theorem upS_same (f : Nat → Sec) (i : Nat) : upS f i (f i) = f := by
  funext j; unfold upS; split
  · rename_i h; rw [h]
  · rfl

/-- the row behind the three stores and the copy that note an earlier content -/
def noted (cur : List Value) (a : Nat) (s : Sec) (c : ByteArray) : List Value :=
  (((splice cur (a + 2) ((cur.drop (a + 1)).take 7)).set (a + 1) (.string s.st)).set (a + 9) (.int .i64 (min (s.er.length + 1) 8 : Nat))).set a (.string c)
theorem splice_get {α : Type} (L : List α) (off : Nat) (cs : List α) (h : off + cs.length ≤ L.length) (j : Nat) : (splice L off cs)[j]? = if off ≤ j ∧ j < off + cs.length then cs[j - off]? else L[j]? := by
  unfold splice
  by_cases h1 : j < off
  · rw [if_neg (by omega), List.getElem?_append_left (by rw [List.length_take]; omega), List.getElem?_take, if_pos h1]
  · rw [List.getElem?_append_right (by rw [List.length_take]; omega), List.length_take, Nat.min_eq_left (by omega)]
    by_cases h2 : j < off + cs.length
    · rw [if_pos (by omega), List.getElem?_append_left (by omega)]
    · rw [if_neg (by omega), List.getElem?_append_right (by omega), List.getElem?_drop]
      congr 1; omega
theorem noted_len (cur : List Value) (a : Nat) (s : Sec) (c : ByteArray) (h : a + 10 ≤ cur.length) : (noted cur a s c).length = cur.length := by
  unfold noted
  rw [List.length_set, List.length_set, List.length_set, length_splice _ _ _ (by simp; omega)]
theorem noted_get (cur : List Value) (a : Nat) (s : Sec) (c : ByteArray) (h : a + 10 ≤ cur.length) (j : Nat) :
    (noted cur a s c)[j]? = if j = a then some (.string c) else if j = a + 9 then some (.int .i64 (min (s.er.length + 1) 8 : Nat)) else if j = a + 1 then some (.string s.st)
      else if a + 2 ≤ j ∧ j < a + 9 then cur[j - 1]? else cur[j]? := by
  have hl : ((cur.drop (a + 1)).take 7).length = 7 := by simp; omega
  have hs : (splice cur (a + 2) ((cur.drop (a + 1)).take 7)).length = cur.length := length_splice _ _ _ (by rw [hl]; omega)
  unfold noted
  rw [List.getElem?_set, List.length_set, List.length_set, hs]
  by_cases h0 : j = a
  · subst h0; rw [if_pos rfl, if_pos rfl, if_pos (by omega)]
  rw [if_neg (fun e => h0 e.symm), if_neg h0, List.getElem?_set, List.length_set, hs]
  by_cases h9 : j = a + 9
  · subst h9; rw [if_pos rfl, if_pos rfl, if_pos (by omega)]
  rw [if_neg (fun e => h9 e.symm), if_neg h9, List.getElem?_set, hs]
  by_cases h1 : j = a + 1
  · subst h1; rw [if_pos rfl, if_pos rfl, if_pos (by omega)]
  rw [if_neg (fun e => h1 e.symm), if_neg h1, splice_get _ _ _ (by rw [hl]; omega), hl]
  by_cases h2 : a + 2 ≤ j ∧ j < a + 9
  · rw [if_pos (by omega), if_pos h2, List.getElem?_take, if_pos (by omega), List.getElem?_drop]
    congr 1; omega
  · rw [if_neg (by omega), if_neg h2]
theorem noted_cells {cur : List Value} {a : Nat} {s : Sec} (h : SecCells cur a s) (c : ByteArray) (hl : a + 10 ≤ cur.length) : SecCells (noted cur a s c) a ⟨c, (s.st :: s.er).take 8⟩ := by
  have hf := h.few
  have hlen : ((s.st :: s.er).take 8).length = min (s.er.length + 1) 8 := by rw [List.length_take, List.length_cons]; omega
  refine ⟨?_, fun j hj => ?_, ?_, ?_⟩
  · rw [noted_get _ _ _ _ hl, if_pos rfl]
  · by_cases h0 : j = 0
    · subst h0
      refine ⟨s.st, ?_, fun h => ?_⟩
      · rw [noted_get _ _ _ _ hl, if_neg (by omega), if_neg (by omega), if_pos (by omega)]
      · simp
    · obtain ⟨t, h1, h2⟩ := h.er (j - 1) (by omega)
      refine ⟨t, ?_, fun h3 => ?_⟩
      · rw [noted_get _ _ _ _ hl, if_neg (by omega), if_neg (by omega), if_neg (by omega), if_pos (by omega), ← h1]
        congr 1; omega
      · have h4 : j - 1 < s.er.length := by have : j < min (s.er.length + 1) 8 := by rw [← hlen]; exact h3
                                            omega
        rw [h2 h4, List.getElem_take, List.getElem_cons]
        rw [dif_neg h0]
  · rw [noted_get _ _ _ _ hl, if_neg (by omega), if_pos rfl]
    show some (Value.int .i64 _) = some (Value.int .i64 (((s.st :: s.er).take 8).length : Nat))
    rw [hlen]
  · show ((s.st :: s.er).take 8).length ≤ 8
    rw [hlen]; omega
end Go.Proofs.Ytfcaodaaklngmaa
