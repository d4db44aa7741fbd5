import Derived.Lib.Hide
/-! Runs of tracks as plain mathematics: a list of runs is known by its sequence. -/
namespace Go.Proofs.Ytpcigmjbjcgdbaa

/-- the run of the existing tracks of a run -/
def ex (r : Int × Int) : Nat × Nat :=
  if min (max r.2 0 + min r.1 0) (128 - max r.1 0) < 1 then (0, 0) else ((max r.1 0).toNat, (min (max r.2 0 + min r.1 0) (128 - max r.1 0)).toNat)
theorem ex_le (r : Int × Int) : (ex r).1 + (ex r).2 ≤ 128 ∧ (ex r).1 ≤ 127 := by
  unfold ex; split
  · simp
  · constructor
    · show _ + _ ≤ _; omega
    · show (_ : Nat) ≤ _; omega
theorem ex_zero (r : Int × Int) (h : (ex r).2 = 0) : ex r = (0, 0) := by
  unfold ex at h ⊢; split
  · rfl
  · rw [if_neg ‹_›] at h; simp only at h; omega
/-- a run into a joined list -/
def addR (l : List (Nat × Nat)) (r : Nat × Nat) : List (Nat × Nat) :=
  if r.2 = 0 then l else match l.getLast? with
    | none => [r]
    | some p => if p.1 + p.2 = r.1 then l.dropLast ++ [(p.1, p.2 + r.2)] else l ++ [r]
theorem addR_zero (l : List (Nat × Nat)) (r : Nat × Nat) (h : r.2 = 0) : addR l r = l := by unfold addR; rw [if_pos h]
theorem addR_nil (r : Nat × Nat) (h : r.2 ≠ 0) : addR [] r = [r] := by unfold addR; rw [if_neg h]; rfl
theorem addR_yes (l : List (Nat × Nat)) (p r : Nat × Nat) (h : r.2 ≠ 0) (e : p.1 + p.2 = r.1) : addR (l ++ [p]) r = l ++ [(p.1, p.2 + r.2)] := by
  unfold addR; rw [if_neg h]; simp [e]
theorem addR_no (l : List (Nat × Nat)) (p r : Nat × Nat) (h : r.2 ≠ 0) (e : p.1 + p.2 ≠ r.1) : addR (l ++ [p]) r = l ++ [p] ++ [r] := by
  unfold addR; rw [if_neg h]; simp [e]
theorem snoc_or (l : List (Nat × Nat)) : l = [] ∨ ∃ l' p, l = l' ++ [p] := by
  rcases List.eq_nil_or_concat l with h | ⟨l', p, h⟩
  · exact .inl h
  · exact .inr ⟨l', p, by simpa using h⟩
def tracks (r : Nat × Nat) : List Nat := List.range' r.1 r.2
def add1 (l : List (Nat × Nat)) (t : Nat) : List (Nat × Nat) := addR l (t, 1)
def canon (s : List Nat) : List (Nat × Nat) := s.foldl add1 []
def seqOf (l : List (Nat × Nat)) : List Nat := l.flatMap tracks
theorem add_run (l : List (Nat × Nat)) (f c : Nat) : addR l (f, c) = (tracks (f, c)).foldl add1 l := by
  induction c with
  | zero => rw [addR_zero _ _ rfl]; rfl
  | succ c ih =>
    have e : tracks (f, c + 1) = tracks (f, c) ++ [f + c] := by unfold tracks; rw [List.range'_concat]; simp
    rw [e, List.foldl_append, ← ih]
    show _ = addR (addR l (f, c)) (f + c, 1)
    rcases Nat.eq_zero_or_pos c with h0 | h0
    · subst h0; rw [addR_zero l (f, 0) rfl]; rfl
    · rcases snoc_or l with rfl | ⟨l', p, rfl⟩
      · rw [addR_nil _ (by simp), addR_nil (f, c) (by simp; omega)]
        exact (addR_yes [] (f, c) (f + c, 1) (by simp) rfl).symm
      · by_cases hp : p.1 + p.2 = f
        · rw [addR_yes _ _ _ (by simp) hp, addR_yes l' p (f, c) (by simp; omega) hp, addR_yes _ _ _ (by simp) (by simp; omega)]
          simp; omega
        · rw [addR_no _ _ _ (by simp) hp, addR_no l' p (f, c) (by simp; omega) hp, addR_yes _ _ _ (by simp) (by simp)]
theorem canon_add (s : List Nat) (r : Nat × Nat) : addR (canon s) r = canon (s ++ tracks r) := by
  unfold canon; rw [List.foldl_append, ← add_run]
theorem canon_snoc (s : List Nat) (t : Nat) : canon (s ++ [t]) = addR (canon s) (t, 1) := by unfold canon; rw [List.foldl_append]; rfl
theorem canon_nil : canon [] = [] := rfl
theorem seqOf_append (a b : List (Nat × Nat)) : seqOf (a ++ b) = seqOf a ++ seqOf b := by unfold seqOf; simp
theorem seqOf_one (p : Nat × Nat) : seqOf [p] = tracks p := by unfold seqOf; simp
theorem tracks_more (f c d : Nat) : tracks (f, c + d) = tracks (f, c) ++ tracks (f + c, d) := by unfold tracks; simp [List.range'_append_1]
theorem seqOf_add (l : List (Nat × Nat)) (r : Nat × Nat) : seqOf (addR l r) = seqOf l ++ tracks r := by
  by_cases h : r.2 = 0
  · rw [addR_zero _ _ h]; unfold tracks; rw [h]; simp
  · rcases snoc_or l with rfl | ⟨l', p, rfl⟩
    · rw [addR_nil _ h, seqOf_one]; rfl
    · by_cases hp : p.1 + p.2 = r.1
      · rw [addR_yes _ _ _ h hp, seqOf_append, seqOf_append, seqOf_one, seqOf_one, tracks_more, hp, List.append_assoc]
      · rw [addR_no _ _ _ h hp, seqOf_append _ [r], seqOf_one]
theorem seqOf_canon (s : List Nat) : seqOf (canon s) = s := by
  have key : ∀ (s : List Nat) (l : List (Nat × Nat)), seqOf (s.foldl add1 l) = seqOf l ++ s := by
    intro s
    induction s with
    | nil => intro l; simp
    | cons t s ih => intro l; rw [List.foldl_cons, ih]; unfold add1; rw [seqOf_add]; simp [tracks]
  have := key s []
  simpa [canon, seqOf] using this
/-- the runs of a joined list exist, and none is empty -/
def Fine (l : List (Nat × Nat)) : Prop := ∀ r ∈ l, 0 < r.2 ∧ r.1 + r.2 ≤ 128
theorem fine_nil : Fine [] := fun _ h => by cases h
theorem fine_add {l : List (Nat × Nat)} (hl : Fine l) (r : Nat × Nat) (hr : r.1 + r.2 ≤ 128) : Fine (addR l r) := by
  by_cases h : r.2 = 0
  · rw [addR_zero _ _ h]; exact hl
  · rcases snoc_or l with rfl | ⟨l', p, rfl⟩
    · rw [addR_nil _ h]; intro x hx; simp at hx; subst hx; omega
    · have hp := hl p (by simp)
      by_cases e : p.1 + p.2 = r.1
      · rw [addR_yes _ _ _ h e]
        intro x hx
        simp only [List.mem_append, List.mem_singleton] at hx
        rcases hx with hx | rfl
        · exact hl x (by simp [hx])
        · simp only; omega
      · rw [addR_no _ _ _ h e]
        intro x hx
        rw [List.mem_append, List.mem_singleton] at hx
        rcases hx with hx | rfl
        · exact hl x hx
        · omega
theorem fine_canon (s : List Nat) (h : ∀ t ∈ s, t < 128) : Fine (canon s) := by
  have key : ∀ (s : List Nat) (l : List (Nat × Nat)), (∀ t ∈ s, t < 128) → Fine l → Fine (s.foldl add1 l) := by
    intro s
    induction s with
    | nil => intro l _ hl; exact hl
    | cons t s ih => intro l hs hl; rw [List.foldl_cons]; exact ih _ (fun x hx => hs x (by simp [hx])) (fine_add hl _ (by have := hs t (by simp); simp; omega))
  exact key s [] h fine_nil
def up (l : List (Nat × Nat)) : List (Int × Int) := l.map fun r => ((r.1 : Int), (r.2 : Int))
theorem up_len (l : List (Nat × Nat)) : (up l).length = l.length := by unfold up; simp
theorem up_inj {a b : List (Nat × Nat)} (h : up a = up b) : a = b := by
  induction a generalizing b with
  | nil => cases b with | nil => rfl | cons y b => simp [up] at h
  | cons x a ih => cases b with
    | nil => simp [up] at h
    | cons y b =>
      simp only [up, List.map_cons, List.cons.injEq, Prod.mk.injEq] at h
      obtain ⟨⟨h1, h2⟩, h3⟩ := h
      rw [ih (b := b) h3, Prod.ext (by omega : x.1 = y.1) (by omega : x.2 = y.2)]
/-- the sequence of a list of any runs -/
def seqI (l : List (Int × Int)) : List Nat := seqOf (l.map ex)
theorem seqI_nil : seqI [] = [] := rfl
theorem seqI_append (a b : List (Int × Int)) : seqI (a ++ b) = seqI a ++ seqI b := by unfold seqI; rw [List.map_append, seqOf_append]
theorem seqI_one (r : Int × Int) : seqI [r] = tracks (ex r) := by unfold seqI; exact seqOf_one _
theorem tracks_lt (f c : Nat) (h : f + c ≤ 128) : ∀ t ∈ tracks (f, c), t < 128 := by
  intro t ht; unfold tracks at ht; rw [List.mem_range'_1] at ht; omega
theorem seqI_lt (l : List (Int × Int)) : ∀ t ∈ seqI l, t < 128 := by
  intro t ht
  unfold seqI seqOf at ht
  rw [List.mem_flatMap] at ht
  obtain ⟨r, hr, ht⟩ := ht
  rw [List.mem_map] at hr
  obtain ⟨x, _, rfl⟩ := hr
  exact tracks_lt _ _ (ex_le x).1 t ht
theorem ex_nat (f c : Nat) (h : f + c ≤ 128) : tracks (ex ((f : Int), (c : Int))) = tracks (f, c) := by
  unfold ex
  split
  · have h0 : c = 0 := by simp only at *; omega
    subst h0; rfl
  · have e : ((max (f : Int) 0).toNat, (min (max (c : Int) 0 + min (f : Int) 0) (128 - max (f : Int) 0)).toNat) = (f, c) := by
      rw [Prod.mk.injEq]; constructor <;> omega
    show tracks (_, _) = _
    rw [e]
theorem ex_fine (r : Nat × Nat) (h : 0 < r.2 ∧ r.1 + r.2 ≤ 128) : ex ((r.1 : Int), (r.2 : Int)) = r := by
  unfold ex
  rw [if_neg (by simp only; omega)]
  apply Prod.ext <;> simp only <;> omega
theorem seqI_up (l : List (Nat × Nat)) (h : Fine l) : seqI (up l) = seqOf l := by
  unfold seqI up
  rw [List.map_map]
  have e : l.map (ex ∘ fun r => ((r.1 : Int), (r.2 : Int))) = l := by
    conv => rhs; rw [← List.map_id l]
    exact List.map_congr_left fun r hr => ex_fine r (h r hr)
  rw [e]
theorem seqI_canon (s : List Nat) (h : ∀ t ∈ s, t < 128) : seqI (up (canon s)) = s := by rw [seqI_up _ (fine_canon s h), seqOf_canon]
theorem canon_inj {a b : List Nat} (h : canon a = canon b) : a = b := by rw [← seqOf_canon a, ← seqOf_canon b, h]
/-- the tracks of a set in order -/
def ofB (B : Nat → Bool) : List Nat := (List.range 128).filter B
theorem ofB_lt (B : Nat → Bool) : ∀ t ∈ ofB B, t < 128 := fun t ht => by unfold ofB at ht; rw [List.mem_filter, List.mem_range] at ht; exact ht.1
theorem mem_ofB (B : Nat → Bool) (t : Nat) : t ∈ ofB B ↔ t < 128 ∧ B t = true := by unfold ofB; rw [List.mem_filter, List.mem_range]
theorem ofB_congr {A B : Nat → Bool} (h : ∀ t, t < 128 → A t = B t) : ofB A = ofB B := by
  unfold ofB; exact List.filter_congr fun t ht => h t (List.mem_range.1 ht)
theorem ofB_inj {A B : Nat → Bool} (h : ofB A = ofB B) (t : Nat) (ht : t < 128) : A t = B t := by
  have h1 := mem_ofB A t
  have h2 := mem_ofB B t
  rw [h] at h1
  have h3 : A t = true ↔ B t = true := ⟨fun ha => (h2.1 (h1.2 ⟨ht, ha⟩)).2, fun hb => (h1.1 (h2.2 ⟨ht, hb⟩)).2⟩
  exact Bool.eq_iff_iff.2 h3
def inB (l : List (Int × Int)) (t : Nat) : Bool := (seqI l).contains t
theorem inB_canon (B : Nat → Bool) (t : Nat) (ht : t < 128) : inB (up (canon (ofB B))) t = B t := by
  unfold inB
  rw [seqI_canon _ (ofB_lt B), Bool.eq_iff_iff, List.contains_iff_mem, mem_ofB]
  simp [ht]
/-- the set in its normal form -/
def norm (B : Nat → Bool) : List (Int × Int) := up (canon (ofB B))
/-- the first tracks of a set, up to a track -/
def upto (B : Nat → Bool) (n : Nat) : List Nat := (List.range n).filter B
theorem upto_succ (B : Nat → Bool) (n : Nat) : upto B (n + 1) = if B n then upto B n ++ [n] else upto B n := by
  unfold upto; rw [List.range_succ, List.filter_append]
  by_cases h : B n <;> simp [h]
theorem upto_all (B : Nat → Bool) : upto B 128 = ofB B := rfl
theorem canon_len (s : List Nat) : (canon s).length ≤ s.length := by
  have key : ∀ (s : List Nat) (l : List (Nat × Nat)), (s.foldl add1 l).length ≤ l.length + s.length := by
    intro s
    induction s with
    | nil => intro l; simp
    | cons t s ih =>
      intro l
      rw [List.foldl_cons]
      have h1 := ih (add1 l t)
      have h2 : (add1 l t).length ≤ l.length + 1 := by
        unfold add1
        rcases snoc_or l with rfl | ⟨l', p, rfl⟩
        · rw [addR_nil _ (by simp)]; simp
        · by_cases e : p.1 + p.2 = t
          · rw [addR_yes _ _ _ (by simp) e]; simp
          · rw [addR_no _ _ _ (by simp) e]; simp
      simp only [List.length_cons]; omega
  simpa [canon] using key s []
theorem addR_len (l : List (Nat × Nat)) (r : Nat × Nat) : (addR l r).length ≤ l.length + 1 := by
  by_cases h : r.2 = 0
  · rw [addR_zero _ _ h]; omega
  · rcases snoc_or l with rfl | ⟨l', p, rfl⟩
    · rw [addR_nil _ h]; simp
    · by_cases e : p.1 + p.2 = r.1
      · rw [addR_yes _ _ _ h e]; simp
      · rw [addR_no _ _ _ h e]; simp
end Go.Proofs.Ytpcigmjbjcgdbaa
