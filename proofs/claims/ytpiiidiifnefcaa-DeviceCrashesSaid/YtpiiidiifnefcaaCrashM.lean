import Derived.Test.YtpiiidiifnefcaaDevC
/-! What a crash does to a device of six sectors that one other system has written. -/
namespace Go.Proofs.Ytpiiidiifnefcaa
def cD (f : Nat → Sec) (P : List PW) : DS := { (DS.fresh 6) with sec := f, pend := P }
theorem vWs (s : Int) (h : 1 ≤ s ∧ s ≤ 4) : validW s 0 := by unfold validW; omega
theorem cD_admit (f : Nat → Sec) (P : List PW) (s : Int) : (cD f P).admit s 0 = (0, cD f P) := DS.admit_calm _ s 0 rfl rfl (by show (-1 : Int) < 0; omega)
theorem cD_has (f : Nat → Sec) (P : List PW) (i : Nat) (h : i < 6) : (cD f P).has i := by unfold DS.has; exact ⟨by omega, by show (i : Int) < (6 : Nat); omega⟩
theorem cD_write (f : Nat → Sec) (P : List PW) (s : Int) (hs : 1 ≤ s ∧ s ≤ 4) (i : Nat) (h : i < 6) (d : ByteArray) (hd : d.size = 140) : (cD f P).write s 0 i d = (0, cD f (P ++ [⟨s, i, d⟩])) := by
  rw [DS.write_yes ⟨vWs s hs, hd⟩ (cD_has f P i h) (by rw [cD_admit]), cD_admit]; rfl
theorem cD_sync (f : Nat → Sec) (P : List PW) (s : Int) (hs : 1 ≤ s ∧ s ≤ 4) : (cD f P).sync s 0 = (0, cD (endAll (fun p => decide (p.sys = s)) (fun _ => 140) P f).2 (P.filter (fun p => !decide (p.sys = s)))) := by
  rw [DS.sync_yes (vWs s hs) (by rw [cD_admit]), cD_admit]; rfl
theorem cD_crash (f : Nat → Sec) (P : List PW) (s : Int) (l : List Int) : (cD f P).crash s l = cD (endAll (fun p => decide (p.sys = s)) (svOf l) P f).2 (P.filter (fun p => !decide (p.sys = s))) := rfl
theorem cD_read (f : Nat → Sec) (P : List PW) (i : Nat) (h : i < 6) : (cD f P).read i = ((cD f P).content i, 0) := by
  unfold DS.read; rw [if_pos (cD_has f P i h), if_neg (by show ¬ (false = true); decide)]; rfl
/-- the writes of one system, one to each of the first sectors -/
def rowP (s : Int) (d : Nat → ByteArray) (k : Nat) : List PW := (List.range k).map fun i => ⟨s, i, d i⟩
theorem rowP_succ (s : Int) (d : Nat → ByteArray) (k : Nat) : rowP s d k ++ [⟨s, k, d k⟩] = rowP s d (k + 1) := by unfold rowP; rw [List.range_succ, List.map_append]; rfl
theorem rowP_len (s : Int) (d : Nat → ByteArray) (k : Nat) : (rowP s d k).length = k := by unfold rowP; simp
theorem rowP_gone (s : Int) (d : Nat → ByteArray) (k : Nat) : (rowP s d k).filter (fun p => !decide (p.sys = s)) = [] := by
  unfold rowP; rw [List.filter_eq_nil_iff]; intro p hp
  obtain ⟨i, _, rfl⟩ := List.mem_map.1 hp
  simp
theorem rowP_end (s : Int) (d : Nat → ByteArray) (sv : Nat → Int) (f : Nat → Sec) (k : Nat) : endAll (fun p => decide (p.sys = s)) sv (rowP s d k) f = (k, fun j => if j < k then (f j).take (d j) (sv j) else f j) := by
  induction k with
  | zero => unfold rowP endAll; simp
  | succ k ih =>
    rw [← rowP_succ, endAll_snoc, ih]
    unfold endStep
    rw [if_pos (by simp)]
    simp only [Nat.lt_irrefl, if_false, Prod.mk.injEq, true_and]
    funext j
    unfold upS
    by_cases h1 : j = k
    · subst h1; rw [if_pos rfl, if_pos (by omega)]
    · rw [if_neg h1]
      by_cases h2 : j < k
      · simp only [h2, show j < k + 1 by omega, if_true]
      · simp only [h2, show ¬ j < k + 1 by omega, if_false]
theorem end_other (s : Int) (sv : Nat → Int) (p : PW) (hp : p.sys ≠ s) (l : List PW) (f : Nat → Sec) : endAll (fun p => decide (p.sys = s)) sv (p :: l) f = endAll (fun p => decide (p.sys = s)) sv l f := by
  unfold endAll
  rw [List.foldl_cons]
  congr 1
  unfold endStep
  rw [if_neg (by simpa using hp)]
theorem take_st (s : Sec) (d : ByteArray) (n : Int) : (s.take d n).st = joinN d s.st (clampN n) := by
  unfold Sec.take Sec.change
  split
  · rename_i h; exact h.symm
  · rfl
/-- the sectors once all hold the same content -/
def allOld (o : ByteArray) (f : Nat → Sec) : Prop := ∀ i, i < 6 → (f i).st = o
theorem old_synced (o : ByteArray) (ho : o.size = 140) : ∃ f, allOld o f ∧ (cD (DS.fresh 6).sec (rowP 2 (fun _ => o) 6)).sync 2 0 = (0, cD f []) := by
  refine ⟨fun j => if j < 6 then ((DS.fresh 6).sec j).take o 140 else (DS.fresh 6).sec j, fun i hi => ?_, ?_⟩
  · simp only [hi, if_true]
    rw [take_st, show clampN 140 = 140 by decide, joinN_full o _ ho]
    exact Z140_size
  · rw [cD_sync _ _ 2 (by omega), rowP_gone, rowP_end]
theorem crashed (o : ByteArray) (f : Nat → Sec) (hf : allOld o f) (t : ByteArray) (d : Nat → ByteArray) (k : Nat) (l : List Int) :
    ∃ g, (cD f (⟨2, 5, t⟩ :: rowP 1 d k)).crash 1 l = cD g [⟨2, 5, t⟩] ∧ ∀ i, i < 5 → (g i).st = if i < k then joinN (d i) o (clampN (svOf l i)) else o := by
  refine ⟨fun j => if j < k then (f j).take (d j) (svOf l j) else f j, ?_, fun i hi => ?_⟩
  · rw [cD_crash, end_other 1 _ ⟨2, 5, t⟩ (show (2 : Int) ≠ 1 by decide), rowP_end, List.filter_cons_of_pos (by simp), rowP_gone]
  · by_cases h : i < k
    · simp only [h, if_true]; rw [take_st, hf i (by omega)]
    · simp only [h, if_false]; rw [hf i (by omega)]
theorem one_content (g : Nat → Sec) (t : ByteArray) (i : Nat) (h : i < 5) : (cD g [⟨2, 5, t⟩]).content i = (g i).st := by
  unfold DS.content lastOf
  have : ((5 : Nat) == i) = false := beq_eq_false_iff_ne.2 (by omega)
  simp [cD, this]
theorem five_content (g : Nat → Sec) (t : ByteArray) : (cD g [⟨2, 5, t⟩]).content 5 = t := by
  unfold DS.content lastOf; simp [cD]
theorem cD_fresh (d : Nat → ByteArray) : DS.fresh 6 = cD (DS.fresh 6).sec (rowP 2 d 0) := rfl
theorem joinN_zero (a b : ByteArray) : joinN a b 0 = b := by
  apply ByteArray.ext
  apply Array.toList_inj.1
  unfold joinN
  rw [ByteArray.data_append, ByteArray.data_extract, ByteArray.data_extract, Array.toList_append, Array.toList_extract, Array.toList_extract]
  have h2 : b.data.toList.length = b.size := rfl
  rw [List.extract_eq_take_drop, List.extract_eq_take_drop]
  rw [Nat.sub_self, List.take_zero, List.nil_append, List.drop_zero, Nat.sub_zero, List.take_of_length_le (Nat.le_of_eq h2)]
end Go.Proofs.Ytpiiidiifnefcaa
