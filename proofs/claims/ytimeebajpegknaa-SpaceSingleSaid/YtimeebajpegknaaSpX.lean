import Derived.Test.YtimeebajpegknaaSpE
/-! Extend. -/
namespace Go.Proofs.Ytimeebajpegknaa
open Go.Lib Go.ChangeShapes Go.WideShapes Go.ChangeAt Go.RowKit

def joinI (l : List (Int × Int)) : List (Int × Int) := up (canon (seqI l))
def minusI (a b : List (Int × Int)) : List (Int × Int) := norm fun t => inB a t && !inB b t
/-- the track behind the last one of a joined list -/
def endOf (J : List (Int × Int)) : Int := match J.getLast? with | some p => p.1 + p.2 | none => 0
/-- the extents with the tracks directly behind them -/
def nextOf (E F : List (Int × Int)) (n : Int) : Int × Int := behindAns (endOf (joinI E)) (minusI F E) n
def ExtAns (E F : List (Int × Int)) (n : Int) : List (Int × Int) × Int :=
  if n < 1 ∨ (seqI E).length = 0 then ([], 1) else
  if n - (nextOf E F n).2 = 0 then (joinI (joinI E ++ [nextOf E F n]), 0) else
  if (AllocAns (minusI F (joinI (joinI E ++ [nextOf E F n]))) (n - (nextOf E F n).2) (16 - (joinI (joinI E ++ [nextOf E F n])).length)).2 = 0
  then (joinI (joinI (joinI E ++ [nextOf E F n]) ++ (AllocAns (minusI F (joinI (joinI E ++ [nextOf E F n]))) (n - (nextOf E F n).2) (16 - (joinI (joinI E ++ [nextOf E F n])).length)).1), 0) else ([], 14)
theorem joinI_len (l : List (Int × Int)) : (joinI l).length ≤ l.length := join_len l
theorem joinI_bd (l : List (Int × Int)) : Bd (joinI l) := seq_bd _ (seqI_lt l)
theorem minusI_len (a b : List (Int × Int)) : (minusI a b).length ≤ 4000 := norm_len _
theorem minusI_bd (a b : List (Int × Int)) : Bd (minusI a b) := norm_bd _
theorem norm_small (B : Nat → Bool) : (norm B).length ≤ 128 := by
  have h1 := canon_len (ofB B)
  have h2 := ofB_len B
  unfold norm; rw [up_len]; omega
theorem norm_counts (B : Nat → Bool) : ∀ r ∈ norm B, 0 ≤ r.1 ∧ 0 < r.2 ∧ r.1 + r.2 ≤ 128 := by
  intro r hr
  unfold norm up at hr
  rw [List.mem_map] at hr
  obtain ⟨x, hx, rfl⟩ := hr
  have := fine_canon _ (ofB_lt B) x hx
  simp only; omega
theorem behind_range (fr : Int) (F : List (Int × Int)) (n : Int) (hn : 1 ≤ n) (hF : ∀ r ∈ F, 0 ≤ r.1 ∧ 0 < r.2 ∧ r.1 + r.2 ≤ 128) : (behindAns fr F n) = (0, 0) ∨ (0 ≤ (behindAns fr F n).1 ∧ 0 < (behindAns fr F n).2 ∧ (behindAns fr F n).2 ≤ n ∧ (behindAns fr F n).1 + (behindAns fr F n).2 ≤ 128) := by
  unfold behindAns
  cases h : F.find? (fun r => decide (r.1 = fr)) with
  | none => exact .inl rfl
  | some r =>
    have hm := hF r (List.mem_of_find?_eq_some h)
    have he := List.find?_some h
    simp only [decide_eq_true_eq] at he
    right
    simp only; omega
theorem best_some (l : List (Int × Int)) (n : Int) (h : (BestAns l n).2 = true) : ∃ r ∈ norm (inB l), BestAns l n = ((r.1, n), true) ∧ 1 ≤ n ∧ n ≤ r.2 := by
  unfold BestAns at h ⊢
  by_cases h1 : n < 1
  · rw [if_pos h1] at h; cases h
  · rw [if_neg h1] at h ⊢
    cases hf : (srtUp (norm (inB l))).find? (fun r => decide (n ≤ r.2)) with
    | none => rw [hf] at h; cases h
    | some r =>
      have hm := List.mem_of_find?_eq_some hf
      have he := List.find?_some hf
      have hp : (srtUp (norm (inB l))).Perm (norm (inB l)) := List.mergeSort_perm _ _
      exact ⟨r, hp.mem_iff.1 hm, rfl, by omega, by simpa using he⟩
theorem alloc_fine (l : List (Int × Int)) (n most : Int) : (AllocAns l n most).1.length ≤ 128 ∧ Bd (AllocAns l n most).1 := by
  unfold AllocAns
  by_cases h1 : n < 1 ∨ most < 1
  · rw [if_pos h1]; exact ⟨by simp, fun r h => by cases h⟩
  rw [if_neg h1]
  by_cases h2 : (BestAns l n).2 = true
  · rw [if_pos h2]
    obtain ⟨r, hr, e, h3, h4⟩ := best_some l n h2
    have := norm_counts _ r hr
    rw [e]
    refine ⟨by simp, fun x hx => ?_⟩
    simp only [List.mem_singleton] at hx
    subst hx
    simp only; omega
  rw [if_neg h2]
  by_cases h3 : (((seqI ((srtDown (norm (inB l))).take most.toNat)).take n.toNat).length : Int) < n
  · rw [if_pos h3]; exact ⟨by simp, fun r h => by cases h⟩
  · rw [if_neg h3]
    have hp : (srtDown (norm (inB l))).Perm (norm (inB l)) := List.mergeSort_perm _ _
    have hl := hp.length_eq
    have := norm_small (inB l)
    have h4 := (cut_len ((srtDown (norm (inB l))).take most.toNat) n.toNat).1
    refine ⟨?_, seq_bd _ (take_lt _ _)⟩
    have h5 : ((srtDown (norm (inB l))).take most.toNat).length ≤ (srtDown (norm (inB l))).length := by simp; omega
    show (up (canon ((seqI ((srtDown (norm (inB l))).take most.toNat)).take n.toNat))).length ≤ 128
    omega
theorem joinI_last (E : List (Int × Int)) (h : seqI E ≠ []) : ∃ (J : List (Int × Int)) (p1 p2 : Nat), joinI E = J ++ [((p1 : Int), (p2 : Int))] ∧ p1 + p2 ≤ 128 ∧ endOf (joinI E) = (p1 : Int) + p2 := by
  unfold joinI
  have hf := fine_canon (seqI E) (seqI_lt E)
  rcases snoc_or (canon (seqI E)) with e | ⟨l', p, e⟩
  · exact absurd (by rw [← seqOf_canon (seqI E), e]; rfl) h
  · have hp := hf p (by rw [e]; simp)
    refine ⟨up l', p.1, p.2, by rw [e, up_append]; rfl, hp.2, ?_⟩
    rw [e, up_append]
    unfold endOf
    simp [up]
/-- a run in a new row, appended to a list -/
theorem nx_at (w : World) (a b : Int) (ha : -9223372036854775808 ≤ a ∧ a ≤ 9223372036854775807) (hb : -9223372036854775808 ≤ b ∧ b ≤ 9223372036854775807) : RunsAt (w.alloc (.cells #[.int .i64 a, .int .i64 b] 47)) (.slice (some ⟨w.heap.size, 0, none⟩) 1 1) [(a, b)] :=
  OwnRuns.at (one_own w a b) (fun r hr => by simp only [List.mem_singleton] at hr; subst hr; exact ⟨ha.1, ha.2, hb.1, hb.2⟩)
set_option maxRecDepth 100000 in
set_option maxHeartbeats 4000000 in
theorem extend_any (v v2 : Value) (E F : List (Int × Int)) (hE : E.length ≤ 3000) (hF : F.length ≤ 4000) (n : Int) (hn : -9223372036854775808 ≤ n ∧ n ≤ 9223372036854775807) (w : World) (hs : RunsAt w v E) (hs2 : RunsAt w v2 F) :
    Calls Try.prog 52 #[v, v2, .int .i64 n] w (AllocMade w (ExtAns E F n)) := by
  obtain ⟨hn1, hn2⟩ := hn
  have HE := hid hs
  have HF := hid hs2
  clear hs hs2
  obtain ⟨R, hR⟩ : ∃ R, R = ExtAns E F n := ⟨_, rfl⟩
  rw [← hR]
  unfold ExtAns at hR
  obtain ⟨m, hm⟩ : ∃ m, m = (seqI E).length := ⟨_, rfl⟩
  rw [← hm] at hR
  have hE4 : E.length ≤ 4000 := by omega
  have HM := hid hm
  by_cases h1 : n < 1
  · rw [if_pos (.inl h1)] at hR
    have HR := hid hR
    clear hR hm
    go_enter Try.func52, Try.ntmps52
    go_wp2_with fail
    go_ret2
    rw [HR.out]
    exact ⟨_, rfl, OwnRuns.nil _, Fresh.nil _, Below.refl _ _⟩
  by_cases h2 : m = 0
  · rw [if_pos (.inr h2)] at hR
    have HR := hid hR
    have hd : ((m : Int) == 0) = true := by simp; omega
    clear hR hm h2
    go_enter Try.func52, Try.ntmps52
    go_wp2_with fail
    refine (size_any v E hE4 w HE.out).mono ?_
    rintro e w1 ⟨rfl, hb⟩
    rw [← HM.out]
    have HB1 := hid hb
    clear hb
    go_wp2_with fail
    go_ret2
    rw [HR.out]
    exact ⟨_, rfl, OwnRuns.nil _, Fresh.nil _, HB1.out⟩
  rw [if_neg (by omega)] at hR
  have hne : seqI E ≠ [] := by intro e; rw [e] at hm; exact h2 hm
  have hd : ((m : Int) == 0) = false := by simp; omega
  obtain ⟨J, p1, p2, hJ, hp, hend⟩ := joinI_last E hne
  obtain ⟨X, hX⟩ : ∃ X, X = nextOf E F n := ⟨_, rfl⟩
  rw [← hX] at hR
  have hXr : X = (0, 0) ∨ (0 ≤ X.1 ∧ 0 < X.2 ∧ X.2 ≤ n ∧ X.1 + X.2 ≤ 128) := by rw [hX]; exact behind_range _ _ _ (by omega) (norm_counts _)
  have hX1 : 0 ≤ X.1 ∧ X.1 ≤ 128 ∧ 0 ≤ X.2 ∧ X.2 ≤ 128 ∧ X.2 ≤ n := by
    rcases hXr with h | h
    · rw [h]; simp only; omega
    · omega
  obtain ⟨x1, x2⟩ := X
  simp only at hX1 hR
  have hX2 : behindAns ((p1 : Int) + p2) (minusI F E) n = (x1, x2) := by rw [← hend]; exact hX.symm
  obtain ⟨J2, hJ2⟩ : ∃ J2, J2 = joinI (joinI E ++ [(x1, x2)]) := ⟨_, rfl⟩
  rw [← hJ2] at hR
  have hJl : (joinI E).length ≤ 3000 := by have := joinI_len E; omega
  have hJ2l : J2.length ≤ 3001 := by have := joinI_len (joinI E ++ [(x1, x2)]); rw [← hJ2] at this; simp at this; omega
  have hJlen : J.length ≤ 4000 := by have := congrArg List.length hJ; simp at this; omega
  have HR := hid hR
  have HJ := hid hJ
  have HX2 := hid hX2
  have HJ2 := hid hJ2
  have HJL := hid hJl
  have HJB := hid (joinI_bd E)
  obtain ⟨hx1, hx2, hx3, hx4, hx5⟩ := hX1
  clear hR hm h2 hne hJ hend hX hXr hX2 hJ2 hJl
  go_enter Try.func52, Try.ntmps52
  go_wp2_with fail
  refine (size_any v E hE4 w HE.out).mono ?_
  rintro e w1 ⟨rfl, hb⟩
  rw [← HM.out]
  have B1 := hid hb
  clear hb
  go_wp2_with fail
  refine (join_any v E hE4 w1 (HE.out.below B1.out (Nat.le_refl _))).mono ?_
  rintro e w2 ⟨vj, rfl, a1, a2, hb⟩
  have O2 : Hid (OwnRuns w2 vj (joinI E)) := a1
  have F2 : Hid (Fresh w vj) := fun k hk => Nat.le_trans B1.out.size (a2 k hk)
  have B2 := hid (B1.out.trans (hb.mono B1.out.size))
  clear a1 a2 hb
  go_wp2_with fail
  refine (minus_any v2 v F E hF hE4 w2 (HF.out.below B2.out (Nat.le_refl _)) (HE.out.below B2.out (Nat.le_refl _))).mono ?_
  rintro e w3 ⟨vm, rfl, a1, a2, hb⟩
  have M3 := hid (a1.at (minusI_bd F E))
  have O3 := hid (O2.out.below hb (Nat.le_refl _))
  have B3 := hid (B2.out.trans (hb.mono B2.out.size))
  clear a1 a2 hb O2
  go_wp2_with fail
  refine (behind_any vj vm J (minusI F E) p1 p2 n hp hJlen (minusI_len F E) ⟨hn1, hn2⟩ w3 (by rw [← HJ.out]; exact O3.out.at HJB.out) M3.out).mono ?_
  rintro e w4 ⟨rfl, hb⟩
  rw [HX2.out]
  have O4 := hid (O3.out.below hb (Nat.le_refl _))
  have B4 := hid (B3.out.trans (hb.mono B3.out.size))
  clear hb O3 M3
  go_upto_region 5 with fail
  obtain ⟨w5, hw5⟩ : ∃ w5, w5 = w4.alloc (.cells #[.int .i64 x1, .int .i64 x2] 47) := ⟨_, rfl⟩
  have r9 : Row w5 w4.heap.size 47 [.int .i64 x1, .int .i64 x2] := by rw [hw5]; exact Row.new w4 _ _
  have b5 : Below w.heap.size w w5 := by rw [hw5]; exact B4.out.alloc B4.out.size _
  have o5 : OwnRuns w5 vj (joinI E) := by rw [hw5]; exact SliceIs.alloc O4.out _
  have l9 : ∀ b, Value.home vj b → b ≠ w4.heap.size := fun b hb => by have := SliceIs.lt O4.out b hb; omega
  obtain ⟨b9, hb9⟩ : ∃ b9, b9 = w4.heap.size := ⟨_, rfl⟩
  rw [← hb9] at r9 l9
  rw [← hw5, ← hb9]
  have R9 := hid r9
  have B5 := hid b5
  have O5 := hid o5
  have L9 := hid l9
  clear r9 b5 o5 l9 hw5 hb9 O4 B4
  have e9 := R9.out.cell (i := 0) rfl
  have e10 := R9.out.cell (i := 1) rfl
  go_wp2_with (at_builtin; refine wpList_append_runs (by rfl) (.tmp 28) (.tmp 30) rfl vj (joinI E) rfl (SliceIs.alloc O5.out _) _ [(x1, x2)] rfl (nx_at w5 x1 x2 (by omega) (by omega)) (by have := HJL.out; omega) (by simp) ?_; intro v6 w6 h1 h2 h3)
  have F6 : Hid (Fresh w v6) := fun k hk => (h3.out k hk).elim (F2.out k) (fun h => by have := B5.out.size; simp only [World.size_alloc] at h; omega)
  have B6 := hid ((B5.out.alloc B5.out.size (.cells #[.int .i64 x1, .int .i64 x2] 47)).trans (h2.out.below (by have := B5.out.size; simp only [World.size_alloc]; omega) (fun k hk => F2.out k hk)))
  have R6 := hid ((R9.out.alloc (.cells #[.int .i64 x1, .int .i64 x2] 47)).upd h2.out (fun h => L9.out _ h rfl))
  have hbx : Bd (joinI E ++ [(x1, x2)]) := Bd.append HJB.out (fun r hr => by simp only [List.mem_singleton] at hr; subst hr; simp only; omega)
  have A6 := hid (OwnRuns.at h1.out hbx)
  clear h1 h2 h3 e9 e10 hbx R9 B5 O5 L9
  refine (join_any v6 (joinI E ++ [(x1, x2)]) (by have := HJL.out; simp; omega) w6 A6.out).mono ?_
  rintro e w7 ⟨vk, rfl, a1, a2, hb⟩
  have O7 : Hid (OwnRuns w7 vk J2) := by rw [HJ2.out]; exact a1
  have F7 : Hid (Fresh w vk) := fun k hk => Nat.le_trans B6.out.size (a2 k hk)
  have B7 := hid (B6.out.trans (hb.mono B6.out.size))
  have R7 := hid (R6.out.keep hb)
  clear a1 a2 hb R6 A6
  have e9 := R7.out.cell (i := 0) rfl
  have e10 := R7.out.cell (i := 1) rfl
  by_cases hmis : n - x2 = 0
  · have hR2 : R = (J2, 0) := by rw [HR.out, if_pos hmis]
    have HR2 := hid hR2
    have hd3 : ((n - x2) == 0) = true := by simp; omega
    clear hR2
    go_wp2_with fail
    go_ret2
    rw [HR2.out]
    exact ⟨_, rfl, O7.out, F7.out, B7.out⟩
  · rw [if_neg hmis] at HR
    have hd3 : ((n - x2) == 0) = false := by simp; omega
    have hJ2b : Bd J2 := by rw [HJ2.out]; exact joinI_bd _
    have HJ2b := hid hJ2b
    clear hJ2b
    obtain ⟨A7, cap7, rfl⟩ : ∃ A cap, vk = .slice A J2.length cap := O7.out.shape
    obtain ⟨q, hq⟩ : ∃ q, q = J2.length := ⟨_, rfl⟩
    have hAf := alloc_fine (minusI F J2) (n - x2) (16 - (J2.length : Int))
    obtain ⟨Z, hZ⟩ : ∃ Z, Z = AllocAns (minusI F J2) (n - x2) (16 - (J2.length : Int)) := ⟨_, rfl⟩
    rw [← hZ] at hAf
    have HZ := hid hZ
    have HR2 : Hid (R = if Z.2 = 0 then (joinI (J2 ++ Z.1), 0) else ([], 14)) := by rw [HZ.out]; exact HR.out
    clear HR hZ
    obtain ⟨zl, ze⟩ := Z
    simp only at hAf HR2
    have HAF := hid hAf
    clear hAf
    rw [← hq] at HZ hJ2l O7 F7
    rw [← hq]
    have HQ := hid hq
    clear hq
    go_wp2_with fail
    refine (minus_any v2 _ F J2 hF (by rw [← HQ.out]; omega) w7 (HF.out.below B7.out (Nat.le_refl _)) (by have := O7.out.at HJ2b.out; exact this)).mono ?_
    rintro e w8 ⟨vn, rfl, a1, a2, hb⟩
    have M8 := hid (a1.at (minusI_bd F J2))
    have O8 := hid (O7.out.below hb (Nat.le_refl _))
    have B8 := hid (B7.out.trans (hb.mono B7.out.size))
    clear a1 a2 hb e9 e10
    go_wp2_with fail
    refine (allocate_any vn (minusI F J2) (minusI_len F J2) (n - x2) (16 - (q : Int)) (by omega) (by omega) w8 M8.out).mono ?_
    rintro e w9 ⟨va, rfl, a1, a2, hb⟩
    rw [← HZ.out] at a1 ⊢
    have Z9 := hid (a1.at HAF.out.2)
    have O9 := hid (O8.out.below hb (Nat.le_refl _))
    have B9 := hid (B8.out.trans (hb.mono B8.out.size))
    clear a1 a2 hb M8 O8
    simp only []
    by_cases hze : ze = 0
    · have hR3 : R = (joinI (J2 ++ zl), 0) := by rw [HR2.out, if_pos hze]
      have HR3 := hid hR3
      have hd4 : (ze != 0) = false := by simpa using hze
      clear hR3 HR2 hze
      go_upto_region 12 with fail
      go_wp2_with (at_builtin; refine wpList_append_runs (by rfl) (.tmp 53) (.tmp 54) rfl (.slice A7 q cap7) J2 rfl O9.out va zl rfl Z9.out (by rw [← HQ.out]; omega) (by have := HAF.out.1; omega) ?_; intro v10 w10 h1 h2 h3)
      have F10 : Hid (Fresh w v10) := fun k hk => (h3.out k hk).elim (F7.out k) (fun h => Nat.le_trans B9.out.size h)
      have B10 := hid (B9.out.trans (h2.out.below B9.out.size (fun k hk => F7.out k hk)))
      have A10 := hid (OwnRuns.at h1.out (Bd.append HJ2b.out HAF.out.2))
      clear h1 h2 h3
      refine (join_any v10 (J2 ++ zl) (by rw [List.length_append, ← HQ.out]; have := HAF.out.1; omega) w10 A10.out).mono ?_
      rintro e w11 ⟨vr, rfl, a1, a2, hb⟩
      have O11 : Hid (OwnRuns w11 vr (joinI (J2 ++ zl))) := a1
      have F11 : Hid (Fresh w vr) := fun k hk => Nat.le_trans B10.out.size (a2 k hk)
      have B11 := hid (B10.out.trans (hb.mono B10.out.size))
      clear a1 a2 hb
      go_wp2_with fail
      go_ret2
      rw [HR3.out]
      exact ⟨_, rfl, O11.out, F11.out, B11.out⟩
    · have hR3 : R = ([], 14) := by rw [HR2.out, if_neg hze]
      have HR3 := hid hR3
      have hd4 : (ze != 0) = true := by simpa using hze
      clear hR3 HR2 hze
      go_wp2_with fail
      go_ret2
      rw [HR3.out]
      exact ⟨_, rfl, OwnRuns.nil _, Fresh.nil _, B9.out⟩
end Go.Proofs.Ytimeebajpegknaa
