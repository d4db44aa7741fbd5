import Derived.Test.YtabbkgbgldgfeaaLabT1
import Derived.Test.YtabbkgbgldgfeaaExt
/-! The conditions of Valid as function values. -/
namespace Go.Proofs.Ytabbkgbgldgfeaa
open Go.Lib Go.ChangeShapes Go.WideShapes Go.ChangeAt Go.RowKit

/-- the cells of a label in memory -/
abbrev labCells (l : Lab) (v : Value) : List Value := [.int .i64 l.id, .int .i64 l.unit, .string l.name, .string l.note, v]
set_option maxRecDepth 100000 in
theorem valid1_any (c : Nat) (tr : Int) (h1 : -9223372036854775808 ≤ tr ∧ tr ≤ 9223372036854775807) (w : World) (hc : w.cell? ⟨c, 0, none⟩ = some (.int .i64 tr)) :
    Calls Try.prog 30 #[.pointer (some ⟨c, 0, none⟩)] w (Answers (decide (trOk tr)) w) := by
  have HC := hid (validTracks_any tr h1 w)
  clear h1
  go_enter Try.func30, Try.ntmps30
  go_wp2_with fail
  refine HC.out.mono ?_
  rintro e w' ⟨rfl, rfl⟩
  go_wp2_with fail
  go_ret
  exact ⟨rfl, Below.refl _ _⟩
theorem dec_and (p q : Prop) [Decidable p] [Decidable q] (h : p) : decide (p ∧ q) = decide q := by simp [h]
theorem dec_and_no (p q : Prop) [Decidable p] [Decidable q] (h : ¬ p) : decide (p ∧ q) = false := by simp [h]
set_option maxRecDepth 100000 in
theorem valid2_any (b : Nat) (l : Lab) (v : Value) (w : World) (hr : Row w b 24 (labCells l v)) :
    Calls Try.prog 32 #[.pointer (some ⟨b, 0, none⟩)] w (Answers (decide (1 ≤ l.id ∧ l.id ≤ 1099511627776)) w) := by
  have c0 := hr.cell (i := 0) rfl
  have hlt := hr.lt
  clear hr
  by_cases h1 : 1 ≤ l.id
  · rw [dec_and _ _ h1]
    go_enter Try.func32, Try.ntmps32
    go_wp2_with fail
    go_ret
    exact ⟨rfl, Below.refl _ _⟩
  · rw [dec_and_no _ _ h1]
    go_enter Try.func32, Try.ntmps32
    go_wp2_with fail
    go_ret
    exact ⟨rfl, Below.refl _ _⟩
set_option maxRecDepth 100000 in
theorem valid3_any (b : Nat) (l : Lab) (v : Value) (w : World) (hr : Row w b 24 (labCells l v)) :
    Calls Try.prog 33 #[.pointer (some ⟨b, 0, none⟩)] w (Answers (decide (0 ≤ l.unit ∧ l.unit ≤ 1099511627776)) w) := by
  have c0 := hr.cell (i := 1) rfl
  have hlt := hr.lt
  clear hr
  by_cases h1 : 0 ≤ l.unit
  · rw [dec_and _ _ h1]
    go_enter Try.func33, Try.ntmps33
    go_wp2_with fail
    go_ret
    exact ⟨rfl, Below.refl _ _⟩
  · rw [dec_and_no _ _ h1]
    go_enter Try.func33, Try.ntmps33
    go_wp2_with fail
    go_ret
    exact ⟨rfl, Below.refl _ _⟩
set_option maxRecDepth 100000 in
theorem valid4_any (b : Nat) (l : Lab) (v : Value) (w : World) (hr : Row w b 24 (labCells l v)) :
    Calls Try.prog 34 #[.pointer (some ⟨b, 0, none⟩)] w (Answers (decide ((l.name.size : Int) ≤ 31)) w) := by
  have c0 := hr.cell (i := 2) rfl
  have hlt := hr.lt
  clear hr
  go_enter Try.func34, Try.ntmps34
  go_wp2_with fail
  go_ret
  exact ⟨rfl, Below.refl _ _⟩
set_option maxRecDepth 100000 in
theorem valid5_any (b : Nat) (l : Lab) (v : Value) (w : World) (hr : Row w b 24 (labCells l v)) :
    Calls Try.prog 35 #[.pointer (some ⟨b, 0, none⟩)] w (Answers (decide ((l.note.size : Int) ≤ 400)) w) := by
  have c0 := hr.cell (i := 3) rfl
  have hlt := hr.lt
  clear hr
  go_enter Try.func35, Try.ntmps35
  go_wp2_with fail
  go_ret
  exact ⟨rfl, Below.refl _ _⟩
set_option maxRecDepth 100000 in
theorem valid6_any (b : Nat) (l : Lab) (v : Value) (w : World) (hr : Row w b 24 (labCells l v)) (hv : RunsAt w v l.ext) :
    Calls Try.prog 36 #[.pointer (some ⟨b, 0, none⟩)] w (Answers (decide (1 ≤ (l.ext.length : Int) ∧ (l.ext.length : Int) ≤ 16)) w) := by
  obtain ⟨A, cap, rfl, _⟩ := hv
  have c0 := hr.cell (i := 4) rfl
  have hlt := hr.lt
  clear hr
  obtain ⟨n, hn⟩ : ∃ n, n = l.ext.length := ⟨_, rfl⟩
  rw [← hn] at c0 ⊢
  clear hn
  by_cases h1 : 1 ≤ (n : Int)
  · rw [dec_and _ _ h1]
    go_enter Try.func36, Try.ntmps36
    go_wp2_with fail
    go_ret
    exact ⟨rfl, Below.refl _ _⟩
  · rw [dec_and_no _ _ h1]
    go_enter Try.func36, Try.ntmps36
    go_wp2_with fail
    go_ret
    exact ⟨rfl, Below.refl _ _⟩
set_option maxRecDepth 100000 in
theorem valid8_any (b : Nat) (l : Lab) (v : Value) (hn : l.ext.length ≤ 4000) (w : World) (hr : Row w b 24 (labCells l v)) (hv : RunsAt w v l.ext) :
    Calls Try.prog 40 #[.pointer (some ⟨b, 0, none⟩)] w (Answers (decide (seqI l.ext).Nodup) w) := by
  have HC := hid (disjoint_any v l.ext hn w hv)
  have hd : decide ((seqI l.ext).length = (ofB (inB l.ext)).length) = decide (seqI l.ext).Nodup := decide_eq_decide.2 (disjoint_iff l.ext)
  rw [hd] at HC
  obtain ⟨R, hR⟩ : ∃ R, R = decide (seqI l.ext).Nodup := ⟨_, rfl⟩
  rw [← hR] at HC ⊢
  have c0 := hr.cell (i := 4) rfl
  have hlt := hr.lt
  clear hr hv hd hR hn
  go_enter Try.func40, Try.ntmps40
  go_wp2_with fail
  refine HC.out.mono ?_
  rintro e w' ⟨rfl, hb⟩
  go_wp2_with fail
  go_ret
  exact ⟨rfl, hb⟩
set_option maxRecDepth 100000 in
theorem valid7_any (b : Nat) (l : Lab) (v : Value) (hn : l.ext.length ≤ 3000) (w : World) (hr : Row w b 24 (labCells l v)) (hv : RunsAt w v l.ext) :
    Calls Try.prog 37 #[.pointer (some ⟨b, 0, none⟩)] w (Answers (decide (up (canon (seqI l.ext)) = l.ext)) w) := by
  have c0 := hr.cell (i := 4) rfl
  have hlt := hr.lt
  have hbd : Below w.heap.size w w.drew := (Upds.drew (F := fun _ => False) w).below (Nat.le_refl _) (fun _ h => h.elim)
  have HV := hid (hv.below hbd (Nat.le_refl _))
  have HR := hid (hr.upd (F := fun _ => False) (Upds.drew w) (fun h => h))
  have HB := hid hbd
  have hj := join_len l.ext
  have HJ : Hid ((up (canon (seqI l.ext))).length ≤ 4000) := by show _ ≤ _; omega
  have HN : Hid (l.ext.length ≤ 4000) := by show _ ≤ _; omega
  have HBD := hid (seq_bd (seqI l.ext) (seqI_lt l.ext))
  obtain ⟨R, hR⟩ : ∃ R, R = decide (up (canon (seqI l.ext)) = l.ext) := ⟨_, rfl⟩
  rw [← hR]
  have HRR := hid hR
  clear hr hv hbd hj hn hR
  go_enter Try.func37, Try.ntmps37
  go_upto_region 1 with fail
  go_region_law (first
    | (go_simp; go_at_call 39; refine (join_any v l.ext HN.out w.drew HV.out).mono ?_; rintro e w2 ⟨u, rfl, h1, h2, hb⟩
       have HU := hid (OwnRuns.at h1 HBD.out)
       have hv2 := HV.out.below hb (Nat.le_refl _)
       have HV2 := hid hv2
       have c1 := (HR.out.upd (F := fun _ => False) (Upds.of_below hb (Nat.le_refl _)) (fun h => h)).cell (i := 4) rfl
       have hlt2 := (HR.out.upd (F := fun _ => False) (Upds.of_below hb (Nat.le_refl _)) (fun h => h)).lt
       have HB2 := hid (HB.out.trans (hb.mono HB.out.size))
       clear h1 h2 hb hv2
       dsimp only)
    | (go_simp; go_at_call 38; refine (equal_any u v _ l.ext HJ.out HN.out w2 HU.out HV2.out).mono ?_; rintro e w3 ⟨rfl, hb⟩
       rw [← HRR.out]
       have HB3 := hid (HB2.out.trans (hb.mono HB2.out.size))
       clear hb
       dsimp only))
  all_goals
    go_wp2_with fail
    go_ret
    exact ⟨rfl, HB3.out⟩
theorem norm_nil (B : Nat → Bool) : (norm B).length = 0 ↔ ∀ t, t < 128 → B t = false := by
  constructor
  · intro h t ht
    have h1 : norm B = norm fun _ => false := by
      rw [List.length_eq_zero_iff.1 h]
      have e : ofB (fun _ => false) = [] := by unfold ofB; simp
      unfold norm; rw [e]; rfl
    exact (norm_eq.1 h1) t ht
  · intro h
    have e : ofB B = [] := by
      unfold ofB
      rw [List.filter_eq_nil_iff]
      intro t ht
      rw [h t (List.mem_range.1 ht)]
      simp
    unfold norm; rw [e]; rfl
theorem data_in (tr : Int) (h : trOk tr) (t : Nat) : inB [(tabM tr, tr - tabM tr)] t = decide (tabM tr ≤ (t : Int) ∧ (t : Int) < tr) := by
  have hl := tabM_le tr
  obtain ⟨h1, h2⟩ := h
  have ht : tabM tr ≤ tr := by unfold tabM; split <;> omega
  obtain ⟨f, hf⟩ := Int.eq_ofNat_of_zero_le hl.1
  obtain ⟨c, hc⟩ := Int.eq_ofNat_of_zero_le (show 0 ≤ tr - tabM tr by omega)
  have e : tr = (f : Int) + c := by omega
  rw [hc, hf, e]
  unfold inB
  rw [seqI_one, ex_nat f c (by omega), Bool.eq_iff_iff, List.contains_iff_mem]
  unfold tracks
  rw [List.mem_range'_1, decide_eq_true_iff]
  omega
theorem outside_nil (l : List (Int × Int)) (tr : Int) (h : trOk tr) : (((norm fun t => inB l t && !inB [(tabM tr, tr - tabM tr)] t).length : Int) == 0) = decide (∀ t ∈ seqI l, tabM tr ≤ (t : Int) ∧ (t : Int) < tr) := by
  rw [Bool.eq_iff_iff, beq_iff_eq, decide_eq_true_iff]
  have h1 := norm_nil (fun t => inB l t && !inB [(tabM tr, tr - tabM tr)] t)
  constructor
  · intro h0 t ht
    have h2 := h1.1 (by omega) t (seqI_lt l t ht)
    have h3 : inB l t = true := List.contains_iff_mem.2 ht
    rw [h3, data_in tr h] at h2
    simpa using h2
  · intro h0
    have h2 := h1.2 (fun t ht => by
      by_cases h3 : inB l t = true
      · have h4 := h0 t (List.contains_iff_mem.1 h3)
        rw [h3, data_in tr h]
        simpa using h4
      · simp [h3])
    omega
set_option maxRecDepth 100000 in
theorem valid9_any (b c : Nat) (tr : Int) (h1 : -9223372036854775808 ≤ tr ∧ tr ≤ 9223372036854775807) (h2 : trOk tr) (l : Lab) (v : Value) (hn : l.ext.length ≤ 3000) (w : World) (hr : Row w b 24 (labCells l v)) (hv : RunsAt w v l.ext) (hc : w.cell? ⟨c, 0, none⟩ = some (.int .i64 tr)) :
    Calls Try.prog 42 #[.pointer (some ⟨b, 0, none⟩), .pointer (some ⟨c, 0, none⟩)] w (Answers (decide (∀ t ∈ seqI l.ext, tabM tr ≤ (t : Int) ∧ (t : Int) < tr)) w) := by
  have c0 := hr.cell (i := 4) rfl
  have hlt := hr.lt
  have hlc := World.block_lt_of_cell? w ⟨c, 0, none⟩ hc
  have hbd : Below w.heap.size w w.drew := (Upds.drew (F := fun _ => False) w).below (Nat.le_refl _) (fun _ h => h.elim)
  have HV := hid (hv.below hbd (Nat.le_refl _))
  have HR := hid (hr.upd (F := fun _ => False) (Upds.drew w) (fun h => h))
  have HC := hid (hbd.cell (p := ⟨c, 0, none⟩) hlc |>.trans hc)
  have HB := hid hbd
  have HN : Hid (l.ext.length ≤ 4000) := by show _ ≤ _; omega
  have HD := hid (dataTracks_any tr h1 h2 w.drew)
  have ho := outside_nil l.ext tr h2
  have hN := norm_bd (fun t => inB l.ext t && !inB [(tabM tr, tr - tabM tr)] t)
  have hl := tabM_le tr
  have HBD : Hid (Bd [(tabM tr, tr - tabM tr)]) := by
    intro r hr
    simp only [List.mem_singleton] at hr
    subst hr
    obtain ⟨h3, h4⟩ := h2
    simp only; omega
  obtain ⟨D, hD⟩ : ∃ D, D = [(tabM tr, tr - tabM tr)] := ⟨_, rfl⟩
  have HDL : Hid (D.length ≤ 4000) := by show _ ≤ _; rw [hD]; simp
  rw [← hD] at HD ho hN HBD
  obtain ⟨M, hM⟩ : ∃ M, M = norm (fun t => inB l.ext t && !inB D t) := ⟨_, rfl⟩
  rw [← hM] at ho hN
  rw [← ho]
  have HM := hid hM
  have HNB := hid hN
  clear hr hv hbd hn hM hN ho h1 h2 hl hD
  go_enter Try.func42, Try.ntmps42
  go_upto_region 1 with fail
  go_region_law (first
    | (go_simp; go_at_call 44; refine HD.out.mono ?_; rintro e w2 ⟨u, rfl, h1, h2, hb⟩
       have HU := hid (OwnRuns.at h1 HBD.out)
       have HV2 := hid (HV.out.below hb (Nat.le_refl _))
       have c1 := (HR.out.upd (F := fun _ => False) (Upds.of_below hb (Nat.le_refl _)) (fun h => h)).cell (i := 4) rfl
       have hlt2 := (HR.out.upd (F := fun _ => False) (Upds.of_below hb (Nat.le_refl _)) (fun h => h)).lt
       have HB2 := hid (HB.out.trans (hb.mono HB.out.size))
       clear h1 h2 hb
       dsimp only)
    | (go_simp; go_at_call 43; refine (minus_any v u l.ext D HN.out HDL.out w2 HV2.out HU.out).mono ?_; rintro e w3 ⟨u3, rfl, h1, h2, hb⟩
       rw [← HM.out] at h1
       obtain ⟨A3, cap3, rfl⟩ := h1.shape
       have HB3 := hid (HB2.out.trans (hb.mono HB2.out.size))
       clear h1 h2 hb
       dsimp only))
  all_goals
    go_wp2_with fail
    go_ret
    exact ⟨rfl, HB3.out⟩
end Go.Proofs.Ytabbkgbgldgfeaa
