import Derived.Test.YtpcigmjbjcgdbaaExtT4
import Derived.Laws.StructEq
/-! Same, slices.Equal, Valid, Disjoint. -/
namespace Go.Proofs.Ytpcigmjbjcgdbaa
open Go.Lib Go.ChangeShapes Go.WideShapes Go.ChangeAt Go.RowKit

theorem ofB_len (B : Nat → Bool) : (ofB B).length ≤ 128 := by unfold ofB; exact Nat.le_trans (List.length_filter_le _ _) (by simp)
theorem norm_len (B : Nat → Bool) : (norm B).length ≤ 4000 := by
  have h1 := canon_len (ofB B)
  have h2 := ofB_len B
  unfold norm; rw [up_len]; omega
theorem norm_bd (B : Nat → Bool) : Bd (norm B) := Bd.up (fine_canon _ (ofB_lt B))
theorem norm_seq (B : Nat → Bool) : seqI (norm B) = ofB B := seqI_canon _ (ofB_lt B)
/-- a truth value and a world of which nothing has changed -/
def Answers (b : Bool) (w : World) (e : Ending) (w' : World) : Prop := e = .returned (.bool b) ∧ Below w.heap.size w w'
set_option maxRecDepth 100000 in
theorem same_any (v v2 : Value) (l l2 : List (Int × Int)) (hl : l.length ≤ 4000) (hl2 : l2.length ≤ 4000) (w : World) (hs : RunsAt w v l) (hs2 : RunsAt w v2 l2) :
    Calls Try.prog 21 #[v, v2] w (Answers (decide (l = l2)) w) := by
  obtain ⟨A, cap, rfl, hcap, hcap2⟩ := hs.shape
  obtain ⟨A2, cap', rfl, hcap', hcap2'⟩ := hs2.shape
  obtain ⟨n, hn⟩ : ∃ n, n = l.length := ⟨_, rfl⟩
  obtain ⟨m, hm⟩ : ∃ m, m = l2.length := ⟨_, rfl⟩
  rw [← hn] at hs hcap hl ⊢
  rw [← hm] at hs2 hcap' hl2 ⊢
  obtain ⟨R, hR⟩ : ∃ R, R = decide (l = l2) := ⟨_, rfl⟩
  rw [← hR]
  by_cases hnm : n = m
  · subst hnm
    have HS := hid hs
    have HS2 := hid hs2
    have HN := hid hn
    have HM := hid hm
    have HR := hid hR
    clear hs hs2 hn hm hR
    go_enter Try.func21, Try.ntmps21
    go_wp2_with fail
    go_loopw [5] (fun i wr => ∃ k : Nat, k ≤ n ∧ i = .int .i64 k ∧ l.take k = l2.take k ∧ Below w.heap.size w wr) (fun i _ => n - (intOf i).toNat)
    case atStart => exact ⟨0, by omega, rfl, rfl, Below.refl _ _⟩
    case round =>
      obtain ⟨k, hk, rfl, hp, hb⟩ := hrel
      have HP := hid hp
      have HB := hid hb
      by_cases hlt : k < n
      · have hk1 : k < l.length := by rw [← HN.out]; exact hlt
        have hk2 : k < l2.length := by rw [← HM.out]; exact hlt
        obtain ⟨b, off, rfl, hlb, c1, c2, hbd⟩ := (HS.out.below hb (Nat.le_refl _)).round hk1
        obtain ⟨b', off', rfl, hlb', c1', c2', hbd'⟩ := (HS2.out.below hb (Nat.le_refl _)).round hk2
        obtain ⟨r, hr⟩ : ∃ r, r = l[k] := ⟨_, rfl⟩
        obtain ⟨r', hr'⟩ : ∃ r', r' = l2[k] := ⟨_, rfl⟩
        rw [← hr] at c1 c2
        rw [← hr'] at c1' c2'
        obtain ⟨f, c⟩ := r
        obtain ⟨f', c'⟩ := r'
        simp only at c1 c2 c1' c2'
        clear hp hb hbd hbd'
        have hst : (f = f' ∧ c = c') → l.take (k + 1) = l2.take (k + 1) := by
          rintro ⟨rfl, rfl⟩
          rw [List.take_succ_eq_append_getElem hk1, List.take_succ_eq_append_getElem hk2, HP.out, ← hr, ← hr']
        have hno : ¬ (f = f' ∧ c = c') → R = false := by
          intro h
          rw [HR.out, decide_eq_false_iff_not]
          rintro rfl
          rw [← hr] at hr'
          simp only [Prod.mk.injEq] at hr'
          exact h ⟨hr'.1.symm, hr'.2.symm⟩
        have HST := hid hst
        have HNO := hid hno
        clear hst hno hr hr'
        by_cases e1 : f = f'
        · subst e1
          by_cases e2 : c = c'
          · subst e2
            have HST2 := hid (HST.out ⟨rfl, rfl⟩)
            clear HST HNO
            go_wp2_with fail
            go_quiet (fail)
            go_wp2_with fail
            go_roundw
            case rel => exact ⟨k + 1, by omega, by go_num, HST2.out, below_drewN HB.out _⟩
            case measure => simp [intOf]; omega
          · have HNO2 := hid (HNO.out (fun h => e2 h.2))
            go_wp2_with fail
            go_quiet (fail)
            go_wp2_with fail
            go_ret
            rw [HNO2.out]
            exact ⟨rfl, below_drewN HB.out _⟩
        · have HNO2 := hid (HNO.out (fun h => e1 h.1))
          go_wp2_with fail
          go_quiet (fail)
          go_wp2_with fail
          go_ret
          rw [HNO2.out]
          exact ⟨rfl, below_drewN HB.out _⟩
      · obtain rfl : k = n := by omega
        have hR2 : R = true := by
          rw [HR.out, decide_eq_true_iff]
          have h := hp
          rw [HN.out, List.take_length, ← HN.out, HM.out, List.take_length] at h
          exact h
        have HR2 := hid hR2
        clear hR2 hp hb
        go_wp2_with fail
        go_ret
        rw [HR2.out]
        exact ⟨rfl, HB.out⟩
  · have hR2 : R = false := by
      rw [hR, decide_eq_false_iff_not]
      rintro rfl
      omega
    have HR2 := hid hR2
    have hd : ((n : Int) == m) = false := by simp; omega
    clear hR2 hn hm hR hs hs2
    go_enter Try.func21, Try.ntmps21
    go_wp2_with fail
    go_ret
    rw [HR2.out]
    exact ⟨rfl, Below.refl _ _⟩
set_option maxRecDepth 100000 in
theorem equal_any (v v2 : Value) (l l2 : List (Int × Int)) (hl : l.length ≤ 4000) (hl2 : l2.length ≤ 4000) (w : World) (hs : RunsAt w v l) (hs2 : RunsAt w v2 l2) :
    Calls Try.prog 60 #[v, v2] w (Answers (decide (l = l2)) w) := by
  obtain ⟨A, cap, rfl, hcap, hcap2⟩ := hs.shape
  obtain ⟨A2, cap', rfl, hcap', hcap2'⟩ := hs2.shape
  obtain ⟨n, hn⟩ : ∃ n, n = l.length := ⟨_, rfl⟩
  obtain ⟨m, hm⟩ : ∃ m, m = l2.length := ⟨_, rfl⟩
  rw [← hn] at hs hcap hl ⊢
  rw [← hm] at hs2 hcap' hl2 ⊢
  obtain ⟨R, hR⟩ : ∃ R, R = decide (l = l2) := ⟨_, rfl⟩
  rw [← hR]
  by_cases hnm : n = m
  · subst hnm
    have HS := hid hs
    have HS2 := hid hs2
    have HN := hid hn
    have HM := hid hm
    have HR := hid hR
    clear hs hs2 hn hm hR
    go_enter Try.func60, Try.ntmps60
    go_wp2_with fail
    go_loopw [13] (fun i wr => ∃ k : Nat, k ≤ n ∧ i = .int .i64 k ∧ l.take k = l2.take k ∧ Below w.heap.size w wr) (fun i _ => n - (intOf i).toNat)
    case atStart => exact ⟨0, by omega, rfl, rfl, Below.refl _ _⟩
    case round =>
      obtain ⟨k, hk, rfl, hp, hb⟩ := hrel
      have HP := hid hp
      have HB := hid hb
      by_cases hlt : k < n
      · have hk1 : k < l.length := by rw [← HN.out]; exact hlt
        have hk2 : k < l2.length := by rw [← HM.out]; exact hlt
        obtain ⟨b, off, rfl, hlb, c1, c2, hbd⟩ := (HS.out.below hb (Nat.le_refl _)).round hk1
        obtain ⟨b', off', rfl, hlb', c1', c2', hbd'⟩ := (HS2.out.below hb (Nat.le_refl _)).round hk2
        obtain ⟨r, hr⟩ : ∃ r, r = l[k] := ⟨_, rfl⟩
        obtain ⟨r', hr'⟩ : ∃ r', r' = l2[k] := ⟨_, rfl⟩
        rw [← hr] at c1 c2
        rw [← hr'] at c1' c2'
        obtain ⟨f, c⟩ := r
        obtain ⟨f', c'⟩ := r'
        simp only at c1 c2 c1' c2'
        clear hp hb hbd hbd'
        have hst : (f = f' ∧ c = c') → l.take (k + 1) = l2.take (k + 1) := by
          rintro ⟨rfl, rfl⟩
          rw [List.take_succ_eq_append_getElem hk1, List.take_succ_eq_append_getElem hk2, HP.out, ← hr, ← hr']
        have hno : ¬ (f = f' ∧ c = c') → R = false := by
          intro h
          rw [HR.out, decide_eq_false_iff_not]
          rintro rfl
          rw [← hr] at hr'
          simp only [Prod.mk.injEq] at hr'
          exact h ⟨hr'.1.symm, hr'.2.symm⟩
        have HST := hid hst
        have HNO := hid hno
        clear hst hno hr hr'
        by_cases e1 : f = f'
        · subst e1
          by_cases e2 : c = c'
          · subst e2
            have HST2 := hid (HST.out ⟨rfl, rfl⟩)
            clear HST HNO
            go_wp2_with fail
            go_quiet (fail)
            go_wp2_with fail
            go_roundw
            case rel => exact ⟨k + 1, by omega, by go_num, HST2.out, below_drewN HB.out _⟩
            case measure => simp [intOf]; omega
          · have HNO2 := hid (HNO.out (fun h => e2 h.2))
            go_wp2_with fail
            go_quiet (fail)
            go_wp2_with fail
            go_ret
            rw [HNO2.out]
            exact ⟨rfl, below_drewN HB.out _⟩
        · have HNO2 := hid (HNO.out (fun h => e1 h.1))
          go_wp2_with fail
          go_quiet (fail)
          go_wp2_with fail
          go_ret
          rw [HNO2.out]
          exact ⟨rfl, below_drewN HB.out _⟩
      · obtain rfl : k = n := by omega
        have hR2 : R = true := by
          rw [HR.out, decide_eq_true_iff]
          have h := hp
          rw [HN.out, List.take_length, ← HN.out, HM.out, List.take_length] at h
          exact h
        have HR2 := hid hR2
        clear hR2 hp hb
        go_wp2_with fail
        go_ret
        rw [HR2.out]
        exact ⟨rfl, HB.out⟩
  · have hR2 : R = false := by
      rw [hR, decide_eq_false_iff_not]
      rintro rfl
      omega
    have HR2 := hid hR2
    have hd : ((n : Int) == m) = false := by simp; omega
    clear hR2 hn hm hR hs hs2
    go_enter Try.func60, Try.ntmps60
    go_wp2_with fail
    go_ret
    rw [HR2.out]
    exact ⟨rfl, Below.refl _ _⟩
set_option maxRecDepth 100000 in
theorem valid_any (v : Value) (l : List (Int × Int)) (hl : l.length ≤ 4000) (w : World) (hs : RunsAt w v l) :
    Calls Try.prog 20 #[v] w (Answers (decide (l = norm (inB l))) w) := by
  have HS := hid hs
  clear hs
  obtain ⟨R, hR⟩ : ∃ R, R = decide (l = norm (inB l)) := ⟨_, rfl⟩
  rw [← hR]
  have HR := hid hR
  clear hR
  go_enter Try.func20, Try.ntmps20
  go_wp2_with fail
  refine (normal_any v l hl _ HS.out).mono ?_
  rintro e w2 ⟨v2, rfl, h1, h2, h3⟩
  have H1 := hid h1
  have H3 := hid h3
  clear h1 h2 h3
  go_wp2_with fail
  refine (equal_any v v2 l (norm (inB l)) hl (norm_len _) w2 (HS.out.below H3.out (Nat.le_refl _)) (H1.out.at (norm_bd _))).mono ?_
  rintro e w3 ⟨rfl, h4⟩
  rw [← HR.out]
  go_wp2_with fail
  go_ret
  exact ⟨rfl, H3.out.trans (h4.mono H3.out.size)⟩
set_option maxRecDepth 100000 in
theorem disjoint_any (v : Value) (l : List (Int × Int)) (hl : l.length ≤ 4000) (w : World) (hs : RunsAt w v l) :
    Calls Try.prog 35 #[v] w (Answers (decide ((seqI l).length = (ofB (inB l)).length)) w) := by
  have HS := hid hs
  clear hs
  obtain ⟨R, hR⟩ : ∃ R, R = decide ((seqI l).length = (ofB (inB l)).length) := ⟨_, rfl⟩
  rw [← hR]
  have HR := hid hR
  clear hR
  go_enter Try.func35, Try.ntmps35
  go_wp2_with fail
  refine (size_any v l hl _ HS.out).mono ?_
  rintro e w1 ⟨rfl, h0⟩
  have H0 := hid h0
  clear h0
  go_wp2_with fail
  refine (normal_any v l hl _ (HS.out.below H0.out (Nat.le_refl _))).mono ?_
  rintro e w2 ⟨v2, rfl, h1, h2, h3⟩
  have H1 := hid h1
  have H3 := hid h3
  clear h1 h2 h3
  go_wp2_with fail
  refine (size_any v2 (norm (inB l)) (norm_len _) w2 (H1.out.at (norm_bd _))).mono ?_
  rintro e w3 ⟨rfl, h4⟩
  have h5 := norm_seq (inB l)
  rw [h5]
  have hb : (((seqI l).length : Int) == ((ofB (inB l)).length : Int)) = R := by rw [HR.out, Bool.eq_iff_iff, beq_iff_eq, decide_eq_true_iff]; exact Int.ofNat_inj
  have HB := hid hb
  clear h5 hb
  go_wp2_with fail
  go_ret
  rw [HB.out]
  exact ⟨rfl, (H0.out.trans (H3.out.mono H0.out.size)).trans (h4.mono (Nat.le_trans H0.out.size H3.out.size))⟩
end Go.Proofs.Ytpcigmjbjcgdbaa
