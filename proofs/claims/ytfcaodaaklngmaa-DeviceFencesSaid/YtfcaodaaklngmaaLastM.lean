import Derived.Test.YtfcaodaaklngmaaDevS
import Derived.Test.YtfcaodaaklngmaaDevA
import Derived.Test.YtfcaodaaklngmaaBegin
/-! Devices that never fail: what operations make of them. -/
namespace Go.Proofs.Ytfcaodaaklngmaa
open Go.RowKit

/-- a device of six sectors that does not fail, with few pending writes -/
structure Plain (D : DS) (j : Nat) : Prop where
  n : D.n = 6
  failed : D.failed = false
  waits : D.waits = false
  fen : ∀ i, D.fen i = -1
  few : D.pend.length ≤ j
theorem Plain.mono {D : DS} {j k : Nat} (h : Plain D j) (hk : j ≤ k) : Plain D k := ⟨h.n, h.failed, h.waits, h.fen, Nat.le_trans h.few hk⟩
theorem Plain.admit {D : DS} {j : Nat} (h : Plain D j) (s e : Int) (he : 0 ≤ e) : D.admit s e = (0, D) := DS.admit_calm D s e h.failed h.waits (by rw [h.fen]; omega)
theorem Plain.done {D : DS} {j : Nat} (h : Plain D j) (sel : PW → Bool) (sv : Nat → Int) : Plain (D.done sel sv) j :=
  ⟨h.n, h.failed, h.waits, h.fen, Nat.le_trans (List.length_filter_le _ _) h.few⟩
theorem Plain.write {D : DS} {j : Nat} (h : Plain D j) (s e i : Int) (d : ByteArray) : Plain (D.write s e i d).2 (j + 1) := by
  by_cases h1 : validW s e ∧ d.size = 140
  · by_cases h2 : D.has i
    · rw [DS.write_yes h1 h2 (by rw [h.admit s e h1.1.2.2.1]), h.admit s e h1.1.2.2.1]
      exact ⟨h.n, h.failed, h.waits, h.fen, by simp only [List.length_append, List.length_singleton]; have := h.few; omega⟩
    · rw [DS.write_range h1 h2]; exact h.mono (by omega)
  · rw [DS.write_arg h1]; exact h.mono (by omega)
theorem Plain.sync {D : DS} {j : Nat} (h : Plain D j) (s e : Int) : Plain (D.sync s e).2 j := by
  by_cases h1 : validW s e
  · rw [DS.sync_yes h1 (by rw [h.admit s e h1.2.2.1]), h.admit s e h1.2.2.1]
    exact h.done _ _
  · have : D.sync s e = (1, D) := by unfold DS.sync; rw [if_pos h1]
    rw [this]; exact h
theorem Plain.repair {D : DS} {j : Nat} (h : Plain D j) : Plain D.repair j := ⟨h.n, rfl, rfl, h.fen, h.few⟩
theorem Plain.damage {D : DS} {j : Nat} (h : Plain D j) (s a m : Int) : Plain (D.damage s a m).2 j := by
  unfold DS.damage
  split
  · exact h
  · split
    · exact h
    · exact ⟨h.n, h.failed, h.waits, h.fen, h.few⟩
theorem Plain.ret {D : DS} {j : Nat} (h : Plain D j) (s b : Int) : Plain (D.ret s b).2 j := by
  unfold DS.ret
  split
  · exact ⟨h.n, h.failed, h.waits, h.fen, h.few⟩
  · exact h
theorem Plain.fresh : Plain (DS.fresh 6) 0 := ⟨rfl, rfl, rfl, fun _ => rfl, Nat.le_refl _⟩
/-- no pending write of the systems up to k -/
def Gone (D : DS) (k : Nat) : Prop := ∀ p ∈ D.pend, (k : Int) < p.sys
theorem Gone.crash {D : DS} {k : Nat} (h : Gone D k) (l : List Int) : Gone (D.crash ((k : Int) + 1) l) (k + 1) := fun p hp => by
  have hp' : p ∈ D.pend.filter (fun p => !decide (p.sys = (k : Int) + 1)) := hp
  obtain ⟨h1, h2⟩ := List.mem_filter.1 hp'
  have h3 := h p h1
  have h4 : ¬ p.sys = (k : Int) + 1 := by simpa using h2
  omega
theorem Gone.all {D : DS} (h : Gone D 4) (hk : D.Ok) : D.pend = [] := by
  cases hp : D.pend with
  | nil => rfl
  | cons p l =>
    have h1 : p ∈ D.pend := by rw [hp]; exact List.mem_cons_self
    have := h p h1
    have := (hk.pend p h1).2.1
    omega
theorem crash_rest {D : DS} (h : D.pend = []) (s : Int) (l : List Int) : D.crash s l = D := by
  unfold DS.crash DS.done
  rw [h]
  cases D
  simp only at h
  subst h
  rfl
/-- the device behind a write that is synced -/
def kept (D : DS) (i : Nat) (s : ByteArray) : DS := { D with sec := upS D.sec i ((D.sec i).change s), pend := [] }
theorem write_kept {D : DS} {j : Nat} (h : Plain D j) (hp : D.pend = []) (i : Nat) (hi : i < 6) (s : ByteArray) (hs : s.size = 140) : D.write 2 1 i s = (0, { D with pend := [⟨2, i, s⟩] }) := by
  have hv : validW 2 1 := by unfold validW; omega
  have hh : D.has (i : Int) := by unfold DS.has; rw [h.n]; omega
  rw [DS.write_yes ⟨hv, hs⟩ hh (by rw [h.admit 2 1 (by omega)]), h.admit 2 1 (by omega)]
  simp only [hp, List.nil_append, Int.toNat_natCast]
theorem sync_kept {D : DS} {j : Nat} (h : Plain D j) (i : Nat) (s : ByteArray) (hs : s.size = 140) (hst : (D.sec i).st.size = 140) :
    ({ D with pend := [⟨2, i, s⟩] } : DS).sync 2 1 = (0, kept D i s) := by
  have hv : validW 2 1 := by unfold validW; omega
  have h2 : Plain ({ D with pend := [⟨2, i, s⟩] } : DS) 1 := ⟨h.n, h.failed, h.waits, h.fen, Nat.le_refl _⟩
  rw [DS.sync_yes hv (by rw [h2.admit 2 1 (by omega)]), h2.admit 2 1 (by omega)]
  have ht : (D.sec i).take s 140 = (D.sec i).change s := by unfold Sec.take; rw [show clampN 140 = 140 by decide, joinN_full s _ hs hst]
  unfold DS.done endAll kept
  simp [endStep, ht]
theorem kept_plain {D : DS} {j : Nat} (h : Plain D j) (i : Nat) (s : ByteArray) : Plain (kept D i s) 0 := ⟨h.n, h.failed, h.waits, h.fen, Nat.le_refl _⟩
theorem kept_read {D : DS} {j : Nat} (h : Plain D j) (i : Nat) (hi : i < 6) (s : ByteArray) : (kept D i s).read i = (s, 0) := by
  have hh : (kept D i s).has (i : Int) := by unfold DS.has; rw [(kept_plain h i s).n]; omega
  unfold DS.read
  rw [if_pos hh, if_neg (by rw [(kept_plain h i s).failed]; decide)]
  have : (kept D i s).content i = s := by
    unfold DS.content lastOf kept
    simp only [List.reverse_nil, List.find?_nil, Option.map_none, Option.getD_none]
    unfold upS
    rw [if_pos rfl]
    unfold Sec.change
    split
    · rename_i e; exact e.symm
    · rfl
  rw [Int.toNat_natCast, this]
theorem kept_count {D : DS} (i : Nat) (s : ByteArray) (k : Int) : (kept D i s).count k = 0 := rfl
end Go.Proofs.Ytfcaodaaklngmaa
