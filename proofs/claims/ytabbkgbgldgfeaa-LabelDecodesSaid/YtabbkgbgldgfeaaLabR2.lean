import Derived.Test.YtabbkgbgldgfeaaLabR1
/-! The reference's Valid. -/
namespace Go.Proofs.Ytabbkgbgldgfeaa
open Go.Lib Go.ChangeShapes Go.WideShapes Go.ChangeAt Go.RowKit

/-- the reference's conditions on a run -/
def runOk (T tr : Int) (r : Int × Int) : Prop := T ≤ r.1 ∧ r.1 < tr ∧ 1 ≤ r.2 ∧ r.2 ≤ tr - r.1
theorem mem_seqI (l : List (Int × Int)) (t : Nat) : t ∈ seqI l ↔ ∃ r ∈ l, t ∈ tracks (ex r) := by
  unfold seqI seqOf
  rw [List.mem_flatMap]
  constructor
  · rintro ⟨x, hx, ht⟩
    rw [List.mem_map] at hx
    obtain ⟨r, hr, rfl⟩ := hx
    exact ⟨r, hr, ht⟩
  · rintro ⟨r, hr, ht⟩
    exact ⟨ex r, List.mem_map_of_mem hr, ht⟩
theorem runOk_ex (T tr : Int) (r : Int × Int) (h0 : 0 ≤ T) (h1 : tr ≤ 128) (h : runOk T tr r) : ∃ a c : Nat, r = ((a : Int), (c : Int)) ∧ 0 < c ∧ a + c ≤ 128 ∧ ex r = (a, c) := by
  obtain ⟨g1, g2, g3, g4⟩ := h
  obtain ⟨f, c⟩ := r
  simp only at g1 g2 g3 g4
  obtain ⟨a, rfl⟩ := Int.eq_ofNat_of_zero_le (show 0 ≤ f by omega)
  obtain ⟨d, rfl⟩ := Int.eq_ofNat_of_zero_le (show 0 ≤ c by omega)
  exact ⟨a, d, rfl, by omega, by omega, ex_fine (a, d) ⟨by simp only; omega, by simp only; omega⟩⟩
theorem runs_in (l : List (Int × Int)) (T tr : Int) (h0 : 0 ≤ T) (h1 : tr ≤ 128) (h : ∀ r ∈ l, runOk T tr r) : ∀ t ∈ seqI l, T ≤ (t : Int) ∧ (t : Int) < tr := by
  intro t ht
  obtain ⟨r, hr, hm⟩ := (mem_seqI l t).1 ht
  have hk := h r hr
  obtain ⟨a, c, rfl, h2, h3, e⟩ := runOk_ex T tr r h0 h1 hk
  rw [e] at hm
  unfold tracks at hm
  rw [List.mem_range'_1] at hm
  obtain ⟨g1, g2, g3, g4⟩ := hk
  simp only at g1 g2 g3 g4 hm
  omega
theorem runs_bad (l : List (Int × Int)) (T tr : Int) (r : Int × Int) (hr : r ∈ l) (hj : up (canon (seqI l)) = l) (hin : ∀ t ∈ seqI l, T ≤ (t : Int) ∧ (t : Int) < tr) : runOk T tr r := by
  have hf := fine_canon (seqI l) (seqI_lt l)
  have hr2 := hr
  rw [← hj] at hr2
  unfold up at hr2
  rw [List.mem_map] at hr2
  obtain ⟨x, hx, rfl⟩ := hr2
  have hxf := hf x hx
  have e := ex_fine x hxf
  have m1 := hin x.1 ((mem_seqI l _).2 ⟨_, hr, by rw [e]; unfold tracks; rw [List.mem_range'_1]; omega⟩)
  have m2 := hin (x.1 + x.2 - 1) ((mem_seqI l _).2 ⟨_, hr, by rw [e]; unfold tracks; rw [List.mem_range'_1]; omega⟩)
  unfold runOk
  simp only
  omega
theorem okL_of (l : Lab) (tr : Int) (h1 : trOk tr) (h2 : 1 ≤ l.id) (h3 : l.id ≤ 1099511627776) (h4 : 0 ≤ l.unit) (h5 : l.unit ≤ 1099511627776) (h6 : l.name.size ≤ 31) (h7 : l.note.size ≤ 400) (h8 : 1 ≤ l.ext.length) (h9 : l.ext.length ≤ 16) (h10 : ∀ r ∈ l.ext, runOk (tabM tr) tr r) :
    decide (okL l tr) = (decide (l.ext = up (canon (seqI l.ext))) && decide (seqI l.ext).Nodup) := by
  have hin := runs_in l.ext (tabM tr) tr (tabM_le tr).1 h1.2 h10
  rw [Bool.eq_iff_iff, decide_eq_true_iff, Bool.and_eq_true, decide_eq_true_iff, decide_eq_true_iff]
  constructor
  · rintro ⟨_, _, _, _, _, _, _, _, _, g1, g2, _⟩
    exact ⟨g1.symm, g2⟩
  · rintro ⟨g1, g2⟩
    exact ⟨h1, h2, h3, h4, h5, h6, h7, h8, h9, g1.symm, g2, hin⟩
theorem okL_not_run (l : Lab) (tr : Int) (r : Int × Int) (hr : r ∈ l.ext) (h : ¬ runOk (tabM tr) tr r) : decide (okL l tr) = false :=
  decide_eq_false fun ⟨_, _, _, _, _, _, _, _, _, g1, _, g3⟩ => h (runs_bad l.ext (tabM tr) tr r hr g1 g3)
set_option maxRecDepth 100000 in
set_option maxHeartbeats 4000000 in
theorem refValid_any (l : Lab) (v : Value) (tr : Int) (hn : l.ext.length ≤ 3000) (w : World) (hv : RunsAt w v l.ext) :
    Calls Try.prog 13 #[labV l v, .int .i64 tr] w (Answers (decide (okL l tr)) w) := by
  have HT := fun W => hid (refTr_any tr W)
  obtain ⟨A, cap, rfl, hcap, hcap2, hBd, hAt⟩ := hv
  have hv : RunsAt w (.slice A l.ext.length cap) l.ext := ⟨A, cap, rfl, hcap, hcap2, hBd, hAt⟩
  have HV := hid hv
  clear hBd hAt hv
  have hb0 : Below w.heap.size w (w.alloc (.cells #[.int .i64 l.id, .int .i64 l.unit, .string l.name, .string l.note, .slice A l.ext.length cap] 24)) := (Below.refl _ _).alloc (Nat.le_refl _) _
  have HB0 := hid hb0
  clear hb0
  by_cases h1 : trOk tr
  rotate_left
  · rw [show decide (okL l tr) = false from decide_eq_false fun h => h1 h.1]
    rw [decide_eq_false h1] at HT
    clear h1
    go_enter Try.func13, Try.ntmps13
    go_wp2_with fail
    refine (HT _).out.mono ?_
    rintro e w' ⟨rfl, rfl⟩
    go_wp2_with fail
    go_ret
    exact ⟨rfl, HB0.out⟩
  rw [decide_eq_true h1] at HT
  have H1 := hid h1
  clear h1
  by_cases h2 : 1 ≤ l.id
  rotate_left
  · rw [show decide (okL l tr) = false from decide_eq_false fun h => h2 (by obtain ⟨_, g2, g3, g4, g5, g6, g7, g8, g9, _⟩ := h; exact g2)]
    have d2 : decide (l.id < 1) = true := by simp; omega
    clear h2
    go_enter Try.func13, Try.ntmps13
    go_wp2_with fail
    refine (HT _).out.mono ?_
    rintro e w' ⟨rfl, rfl⟩
    go_wp2_with fail
    go_ret
    exact ⟨rfl, HB0.out⟩
  have d2 : decide (l.id < 1) = false := by simp; omega
  have H2 := hid h2
  clear h2
  by_cases h3 : l.id ≤ 1099511627776
  rotate_left
  · rw [show decide (okL l tr) = false from decide_eq_false fun h => h3 (by obtain ⟨_, g2, g3, g4, g5, g6, g7, g8, g9, _⟩ := h; exact g3)]
    have d3 : decide (1099511627776 < l.id) = true := by simp; omega
    clear h3
    go_enter Try.func13, Try.ntmps13
    go_wp2_with fail
    refine (HT _).out.mono ?_
    rintro e w' ⟨rfl, rfl⟩
    go_wp2_with fail
    go_ret
    exact ⟨rfl, HB0.out⟩
  have d3 : decide (1099511627776 < l.id) = false := by simp; omega
  have H3 := hid h3
  clear h3
  by_cases h4 : 0 ≤ l.unit
  rotate_left
  · rw [show decide (okL l tr) = false from decide_eq_false fun h => h4 (by obtain ⟨_, g2, g3, g4, g5, g6, g7, g8, g9, _⟩ := h; exact g4)]
    have d4 : decide (l.unit < 0) = true := by simp; omega
    clear h4
    go_enter Try.func13, Try.ntmps13
    go_wp2_with fail
    refine (HT _).out.mono ?_
    rintro e w' ⟨rfl, rfl⟩
    go_wp2_with fail
    go_ret
    exact ⟨rfl, HB0.out⟩
  have d4 : decide (l.unit < 0) = false := by simp; omega
  have H4 := hid h4
  clear h4
  by_cases h5 : l.unit ≤ 1099511627776
  rotate_left
  · rw [show decide (okL l tr) = false from decide_eq_false fun h => h5 (by obtain ⟨_, g2, g3, g4, g5, g6, g7, g8, g9, _⟩ := h; exact g5)]
    have d5 : decide (1099511627776 < l.unit) = true := by simp; omega
    clear h5
    go_enter Try.func13, Try.ntmps13
    go_wp2_with fail
    refine (HT _).out.mono ?_
    rintro e w' ⟨rfl, rfl⟩
    go_wp2_with fail
    go_ret
    exact ⟨rfl, HB0.out⟩
  have d5 : decide (1099511627776 < l.unit) = false := by simp; omega
  have H5 := hid h5
  clear h5
  by_cases h6 : l.name.size ≤ 31
  rotate_left
  · rw [show decide (okL l tr) = false from decide_eq_false fun h => h6 (by obtain ⟨_, g2, g3, g4, g5, g6, g7, g8, g9, _⟩ := h; exact g6)]
    have d6 : decide ((31 : Int) < (l.name.size : Int)) = true := by simp; omega
    clear h6
    go_enter Try.func13, Try.ntmps13
    go_wp2_with fail
    refine (HT _).out.mono ?_
    rintro e w' ⟨rfl, rfl⟩
    go_wp2_with fail
    go_ret
    exact ⟨rfl, HB0.out⟩
  have d6 : decide ((31 : Int) < (l.name.size : Int)) = false := by simp; omega
  have H6 := hid h6
  clear h6
  by_cases h7 : l.note.size ≤ 400
  rotate_left
  · rw [show decide (okL l tr) = false from decide_eq_false fun h => h7 (by obtain ⟨_, g2, g3, g4, g5, g6, g7, g8, g9, _⟩ := h; exact g7)]
    have d7 : decide ((400 : Int) < (l.note.size : Int)) = true := by simp; omega
    clear h7
    go_enter Try.func13, Try.ntmps13
    go_wp2_with fail
    refine (HT _).out.mono ?_
    rintro e w' ⟨rfl, rfl⟩
    go_wp2_with fail
    go_ret
    exact ⟨rfl, HB0.out⟩
  have d7 : decide ((400 : Int) < (l.note.size : Int)) = false := by simp; omega
  have H7 := hid h7
  clear h7
  by_cases h8 : 1 ≤ l.ext.length
  rotate_left
  · rw [show decide (okL l tr) = false from decide_eq_false fun h => h8 (by obtain ⟨_, g2, g3, g4, g5, g6, g7, g8, g9, _⟩ := h; exact g8)]
    have d8 : decide ((l.ext.length : Int) < 1) = true := by simp; omega
    clear h8
    go_enter Try.func13, Try.ntmps13
    go_wp2_with fail
    refine (HT _).out.mono ?_
    rintro e w' ⟨rfl, rfl⟩
    go_wp2_with fail
    go_ret
    exact ⟨rfl, HB0.out⟩
  have d8 : decide ((l.ext.length : Int) < 1) = false := by simp; omega
  have H8 := hid h8
  clear h8
  by_cases h9 : l.ext.length ≤ 16
  rotate_left
  · rw [show decide (okL l tr) = false from decide_eq_false fun h => h9 (by obtain ⟨_, g2, g3, g4, g5, g6, g7, g8, g9, _⟩ := h; exact g9)]
    have d9 : decide ((16 : Int) < (l.ext.length : Int)) = true := by simp; omega
    clear h9
    go_enter Try.func13, Try.ntmps13
    go_wp2_with fail
    refine (HT _).out.mono ?_
    rintro e w' ⟨rfl, rfl⟩
    go_wp2_with fail
    go_ret
    exact ⟨rfl, HB0.out⟩
  have d9 : decide ((16 : Int) < (l.ext.length : Int)) = false := by simp; omega
  have H9 := hid h9
  clear h9
  obtain ⟨w0, hw0⟩ : ∃ w0, w0 = w.alloc (.cells #[.int .i64 l.id, .int .i64 l.unit, .string l.name, .string l.note, .slice A l.ext.length cap] 24) := ⟨_, rfl⟩
  have HBX : Hid (Row w0 w.heap.size 24 (labCells l (.slice A l.ext.length cap))) := by show Row _ _ _ _; rw [hw0]; exact Row.new w (labCells l (.slice A l.ext.length cap)) _
  rw [← hw0] at HB0
  have HW0 := hid hw0
  obtain ⟨T, hT⟩ : ∃ T, T = tabM tr := ⟨_, rfl⟩
  have hTle := tabM_le tr
  rw [← hT] at hTle
  have HTT := fun W => hid (refTableTracks_any tr W)
  rw [← hT] at HTT
  have HTE := hid hT
  have hN := H9.out
  obtain ⟨n, hnn⟩ : ∃ n, n = l.ext.length := ⟨_, rfl⟩
  have HN := hid hnn
  have htr := H1.out
  obtain ⟨ht4, ht8⟩ := htr
  rw [← hnn] at HV d8 d9 hN hn hcap
  have HEX : Hid (labCells l (.slice A l.ext.length cap) = labCells l (.slice A n cap)) := by show _ = _; rw [hnn]
  rw [HEX.out] at HBX
  rw [← hnn] at hw0
  have HW0 := hid hw0
  rw [← hnn]
  clear hw0 hT hnn HEX
  go_enter Try.func13, Try.ntmps13
  go_wp2_with fail
  refine (HT _).out.mono ?_
  rintro e w' ⟨rfl, rfl⟩
  go_wp2_with fail
  rw [← HW0.out]
  clear HT d2 d3 d4 d5 d6 d7 d8 d9
  go_loopw [5] (fun i wr => ∃ k : Nat, k ≤ n ∧ i = .int .i64 k ∧ (∀ r ∈ l.ext.take k, runOk T tr r) ∧ Below w0.heap.size w0 wr) (fun i _ => n - (intOf i).toNat)
  case atStart => exact ⟨0, by omega, rfl, (fun r h => by cases h), Below.refl _ _⟩
  case round =>
    obtain ⟨k, hk, rfl, hall, hb⟩ := hrel
    have HALL := hid hall
    have HB := hid hb
    have hbx := HBX.out.upd (F := fun _ => False) (Upds.of_below hb (Nat.le_refl _)) (fun h => h)
    have c4 := hbx.cell (i := 4) rfl
    have hlb0 := hbx.lt
    by_cases hlt : k < n
    · have hk2 : k < l.ext.length := by rw [← HN.out]; exact hlt
      obtain ⟨b, off, rfl, hlb, e1, e2, hbd⟩ := ((HV.out.below HB0.out (Nat.le_refl _)).below hb (Nat.le_refl _)).round hk2
      obtain ⟨r, hr⟩ : ∃ r, r = l.ext[k] := ⟨_, rfl⟩
      have hmem : r ∈ l.ext := by rw [hr]; exact List.getElem_mem hk2
      have hbad : ¬ runOk T tr r → decide (okL l tr) = false := fun h => okL_not_run l tr r hmem (by rw [← HTE.out]; exact h)
      have hgood : runOk T tr r → ∀ x ∈ l.ext.take (k + 1), runOk T tr x := by
        intro h x hx
        rw [List.take_succ_eq_append_getElem hk2, List.mem_append, List.mem_singleton] at hx
        rcases hx with hx | hx
        · exact HALL.out x hx
        · rw [hx, ← hr]; exact h
      rw [← hr] at e1 e2 hbd
      obtain ⟨f, c⟩ := r
      simp only at e1 e2 hbd
      have HBAD := hid hbad
      have HGOOD := hid hgood
      have hbf1 := hbd
      have hrow := Row.new wr [.int .i64 f, .int .i64 c] 43
      have p0 := hrow.cell (i := 0) rfl
      have p1 := hrow.cell (i := 1) rfl
      have hbw : Below wr.heap.size wr (wr.alloc (.cells #[.int .i64 f, .int .i64 c] 43)) := (Below.refl _ _).alloc (Nat.le_refl _) _
      have HBW := hid (HB.out.trans (hbw.mono HB.out.size))
      clear hall hb hbx hr hmem hbad hgood hrow hbw
      by_cases g1 : T ≤ f
      rotate_left
      · have x1 : decide (f < T) = true := by simp; omega
        have HQ := hid (HBAD.out (by unfold runOk; simp only; omega))
        clear HBAD HGOOD HALL HV 
        go_wp2_with fail
        go_quiet ((go_at_call 28; refine Calls.quiet_of_same (v := .int .i64 T) ((HTT _).out.mono ?_); rintro e w' ⟨rfl, rfl⟩; exact ⟨rfl, rfl⟩))
        go_wp2_with fail
        go_ret
        rw [HQ.out]
        exact ⟨rfl, below_drewN (HB0.out.trans (HBW.out.mono HB0.out.size)) _⟩
      have x1 : decide (f < T) = false := by simp; omega
      by_cases g2 : f < tr
      rotate_left
      · have x2 : decide (tr ≤ f) = true := by simp; omega
        have HQ := hid (HBAD.out (by unfold runOk; simp only; omega))
        clear HBAD HGOOD HALL HV 
        go_wp2_with fail
        go_quiet ((go_at_call 28; refine Calls.quiet_of_same (v := .int .i64 T) ((HTT _).out.mono ?_); rintro e w' ⟨rfl, rfl⟩; exact ⟨rfl, rfl⟩))
        go_wp2_with fail
        go_ret
        rw [HQ.out]
        exact ⟨rfl, below_drewN (HB0.out.trans (HBW.out.mono HB0.out.size)) _⟩
      have x2 : decide (tr ≤ f) = false := by simp; omega
      by_cases g3 : 1 ≤ c
      rotate_left
      · have x3 : decide (c < 1) = true := by simp; omega
        have HQ := hid (HBAD.out (by unfold runOk; simp only; omega))
        clear HBAD HGOOD HALL HV 
        go_wp2_with fail
        go_quiet ((go_at_call 28; refine Calls.quiet_of_same (v := .int .i64 T) ((HTT _).out.mono ?_); rintro e w' ⟨rfl, rfl⟩; exact ⟨rfl, rfl⟩))
        go_wp2_with fail
        go_ret
        rw [HQ.out]
        exact ⟨rfl, below_drewN (HB0.out.trans (HBW.out.mono HB0.out.size)) _⟩
      have x3 : decide (c < 1) = false := by simp; omega
      have hws : IntKind.i64.wrap (tr - f) = tr - f := IntWalk.i64_in _ (by omega)
      by_cases g4 : c ≤ tr - f
      rotate_left
      · have x4 : decide (tr - f < c) = true := by simp; omega
        have HQ := hid (HBAD.out (by unfold runOk; simp only; omega))
        clear HBAD HGOOD HALL HV 
        go_wp2_with fail
        go_quiet ((go_at_call 28; refine Calls.quiet_of_same (v := .int .i64 T) ((HTT _).out.mono ?_); rintro e w' ⟨rfl, rfl⟩; exact ⟨rfl, rfl⟩))
        go_wp2_with fail
        go_ret
        rw [HQ.out]
        exact ⟨rfl, below_drewN (HB0.out.trans (HBW.out.mono HB0.out.size)) _⟩
      have x4 : decide (tr - f < c) = false := by simp; omega
      have HQ := hid (HGOOD.out ⟨g1, g2, g3, g4⟩)
      clear HBAD HGOOD HALL HV
      go_wp2_with fail
      go_quiet ((go_at_call 28; refine Calls.quiet_of_same (v := .int .i64 T) ((HTT _).out.mono ?_); rintro e w' ⟨rfl, rfl⟩; exact ⟨rfl, rfl⟩))
      go_wp2_with fail
      go_roundw
      case rel => exact ⟨k + 1, by omega, by go_num, HQ.out, below_drewN HBW.out _⟩
      case measure => simp [intOf]; omega
    · obtain rfl : k = n := by omega
      have hfin : decide (okL l tr) = (decide (l.ext = up (canon (seqI l.ext))) && decide (seqI l.ext).Nodup) :=
        okL_of l tr H1.out H2.out H3.out H4.out H5.out H6.out H7.out H8.out H9.out (by have h := HALL.out; rw [HN.out, List.take_length, HTE.out] at h; exact h)
      have hbd : Below wr.heap.size wr wr.drew := (Upds.drew (F := fun _ => False) wr).below (Nat.le_refl _) (fun _ h => h.elim)
      have HVR := hid (((HV.out.below HB0.out (Nat.le_refl _)).below hb (Nat.le_refl _)).below hbd (Nat.le_refl _))
      have HRR := hid (hbx.upd (F := fun _ => False) (Upds.drew wr) (fun h => h))
      have HBA := hid ((HB0.out.trans (hb.mono HB0.out.size)).trans (hbd.mono (Nat.le_trans HB0.out.size hb.size)))
      have hj := join_len l.ext
      have HJL : Hid ((up (canon (seqI l.ext))).length ≤ 4000) := by show _ ≤ _; have := HN.out; omega
      have HNL : Hid (l.ext.length ≤ 4000) := by show _ ≤ _; have := HN.out; omega
      have HJB := hid (seq_bd (seqI l.ext) (seqI_lt l.ext))
      obtain ⟨R1, hR1⟩ : ∃ R, R = decide (l.ext = up (canon (seqI l.ext))) := ⟨_, rfl⟩
      obtain ⟨R2, hR2⟩ : ∃ R, R = decide (seqI l.ext).Nodup := ⟨_, rfl⟩
      have HR1 := hid hR1
      have HR2 := hid hR2
      have HFIN := hid hfin
      rw [← hR1, ← hR2] at HFIN
      clear hall hb hbx hfin hbd hj hR1 hR2 HALL HV
      cases R1 with
      | true =>
        go_upto_region 9 with fail
        first
        | go_region_law (first
          | (go_simp; go_at_call 49; refine (refJoin_any _ l.ext HNL.out wr.drew HVR.out).mono ?_; rintro e w2 ⟨u, rfl, h1, h2, hb⟩
             have HU := hid (OwnRuns.at h1 HJB.out)
             have HV2 := hid (HVR.out.below hb (Nat.le_refl _))
             have hrw := HRR.out.upd (F := fun _ => False) (Upds.of_below hb (Nat.le_refl _)) (fun h => h)
             have c1 := hrw.cell (i := 4) rfl
             have hlt2 := hrw.lt
             have HRW := hid hrw
             have HB2 := hid (HBA.out.trans (hb.mono HBA.out.size))
             clear h1 h2 hb hrw
             dsimp only)
          | (go_simp; go_at_call 48; refine (same_any _ u l.ext _ HNL.out HJL.out w2 HV2.out HU.out).mono ?_; rintro e w3 ⟨rfl, hb⟩
             rw [← HR1.out]
             have HV3 := hid (HV2.out.below hb (Nat.le_refl _))
             have hrw := HRW.out.upd (F := fun _ => False) (Upds.of_below hb (Nat.le_refl _)) (fun h => h)
             have c2 := hrw.cell (i := 4) rfl
             have hlt3 := hrw.lt
             have HB3 := hid (HB2.out.trans (hb.mono HB2.out.size))
             clear hb hrw
             dsimp only)
          | (go_simp; go_at_call 50; refine (refDisjoint_any _ l.ext HNL.out w3 HV3.out).mono ?_; rintro e w4 ⟨rfl, hb⟩
             rw [← HR2.out]
             have HB4 := hid (HB3.out.trans (hb.mono HB3.out.size))
             clear hb
             dsimp only))
        | fail
        all_goals
          go_wp2_with fail
          go_ret
          rw [HFIN.out]
          exact ⟨rfl, HB4.out⟩
      | false =>
        go_upto_region 9 with fail
        first
        | go_region_law (first
          | (go_simp; go_at_call 49; refine (refJoin_any _ l.ext HNL.out wr.drew HVR.out).mono ?_; rintro e w2 ⟨u, rfl, h1, h2, hb⟩
             have HU := hid (OwnRuns.at h1 HJB.out)
             have HV2 := hid (HVR.out.below hb (Nat.le_refl _))
             have hrw := HRR.out.upd (F := fun _ => False) (Upds.of_below hb (Nat.le_refl _)) (fun h => h)
             have c1 := hrw.cell (i := 4) rfl
             have hlt2 := hrw.lt
             have HRW := hid hrw
             have HB2 := hid (HBA.out.trans (hb.mono HBA.out.size))
             clear h1 h2 hb hrw
             dsimp only)
          | (go_simp; go_at_call 48; refine (same_any _ u l.ext _ HNL.out HJL.out w2 HV2.out HU.out).mono ?_; rintro e w3 ⟨rfl, hb⟩
             rw [← HR1.out]
             have HV3 := hid (HV2.out.below hb (Nat.le_refl _))
             have hrw := HRW.out.upd (F := fun _ => False) (Upds.of_below hb (Nat.le_refl _)) (fun h => h)
             have c2 := hrw.cell (i := 4) rfl
             have hlt3 := hrw.lt
             have HB3 := hid (HB2.out.trans (hb.mono HB2.out.size))
             clear hb hrw
             dsimp only)
          | fail)
        | fail
        all_goals
          go_wp2_with fail
          go_ret
          rw [HFIN.out]
          exact ⟨rfl, HB3.out⟩
end Go.Proofs.Ytabbkgbgldgfeaa
