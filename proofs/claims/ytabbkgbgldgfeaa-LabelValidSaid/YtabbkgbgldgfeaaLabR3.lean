import Derived.Test.YtabbkgbgldgfeaaLabR2
import Derived.Test.YtabbkgbgldgfeaaLabT6
/-! The reference's Encode. -/
namespace Go.Proofs.Ytabbkgbgldgfeaa
open Go.Lib Go.ChangeShapes Go.WideShapes Go.ChangeAt Go.RowKit

/-- a label in its box, and nothing older turned -/
def HeldB (w0 : World) (b : Nat) (l : Lab) (v : Value) (W : World) : Prop := Row W b 24 (labCells l v) ∧ Below w0.heap.size w0 W
theorem HeldB.drew {w0 W : World} {b : Nat} {l : Lab} {v : Value} (h : HeldB w0 b l v W) : HeldB w0 b l v W.drew := ⟨h.1.upd (F := fun _ => False) (Upds.drew W) (fun h => h), h.2.trans (((Upds.drew (F := fun _ => False) W).below (Nat.le_refl _) (fun _ h => h.elim)).mono h.2.size)⟩
theorem HeldB.below {w0 W W' : World} {b : Nat} {l : Lab} {v : Value} (h : HeldB w0 b l v W) (hb : Below W.heap.size W W') : HeldB w0 b l v W' := ⟨h.1.upd (F := fun _ => False) (Upds.of_below hb (Nat.le_refl _)) (fun h => h), h.2.trans (hb.mono h.2.size)⟩
theorem HeldB.cells {w0 W : World} {b : Nat} {l : Lab} {v : Value} (h : HeldB w0 b l v W) : W.cell? ⟨b, 0, none⟩ = some (.int .i64 l.id) ∧ W.cell? ⟨b, 1, none⟩ = some (.int .i64 l.unit) ∧ W.cell? ⟨b, 2, none⟩ = some (.string l.name) ∧ W.cell? ⟨b, 3, none⟩ = some (.string l.note) ∧ W.cell? ⟨b, 4, none⟩ = some v ∧ HeldB w0 b l v W :=
  ⟨h.1.cell (i := 0) rfl, h.1.cell (i := 1) rfl, h.1.cell (i := 2) rfl, h.1.cell (i := 3) rfl, h.1.cell (i := 4) rfl, h⟩
/-- the same, as the walk wants it -/
def Box5 (w0 : World) (b : Nat) (l : Lab) (v : Value) (i u : Int) (W : World) : Prop := W.cell? ⟨b, 0, none⟩ = some (.int .i64 i) ∧ W.cell? ⟨b, 1, none⟩ = some (.int .i64 u) ∧ W.cell? ⟨b, 2, none⟩ = some (.string l.name) ∧ W.cell? ⟨b, 3, none⟩ = some (.string l.note) ∧ W.cell? ⟨b, 4, none⟩ = some v ∧ HeldB w0 b l v W
theorem Box5.of {w0 W : World} {b : Nat} {l : Lab} {v : Value} {i u : Int} (hi : l.id = i) (hu : l.unit = u) (h : HeldB w0 b l v W) : Box5 w0 b l v i u W := by
  subst hi hu; exact h.cells
theorem Box5.step {w0 W W' : World} {b : Nat} {l : Lab} {v : Value} {i u : Int} (hi : l.id = i) (hu : l.unit = u) (h : Box5 w0 b l v i u W) (hb : Below W.heap.size W W') : Box5 w0 b l v i u W' := Box5.of hi hu (h.2.2.2.2.2.below hb)
theorem refN (n : Nat) (h : Hid (n < 18446744073709551616)) (w : World) : Calls Try.prog 55 #[.int .u64 n] w fun e w' => e = .returned (.string (encS n)) ∧ Below w.heap.size w w' := number_any n h w
theorem refT (t : ByteArray) (ht : t.size ≤ 100000) (w : World) : Calls Try.prog 56 #[.string t] w fun e w' => e = .returned (.string (encS t.size ++ t)) ∧ Below w.heap.size w w' := refText_any t ht w
set_option maxRecDepth 100000 in
set_option maxHeartbeats 4000000 in
theorem refEncode_any (l : Lab) (v : Value) (tr : Int) (hn : l.ext.length ≤ 3000) (w : World) (hv : RunsAt w v l.ext) :
    Calls Try.prog 17 #[labV l v, .int .i64 tr] w fun e w' => e = .returned (.string (encL l tr)) ∧ Below w.heap.size w w' := by
  obtain ⟨w0, hw0⟩ : ∃ w0, w0 = w.alloc (.cells #[.int .i64 l.id, .int .i64 l.unit, .string l.name, .string l.note, v] 24) := ⟨_, rfl⟩
  have hb0 : Below w.heap.size w w0 := by rw [hw0]; exact (Below.refl _ _).alloc (Nat.le_refl _) _
  have HBX : Hid (Row w0 w.heap.size 24 (labCells l v)) := by show Row _ _ _ _; rw [hw0]; exact Row.new w (labCells l v) _
  have HV0 := hid (hv.below hb0 (Nat.le_refl _))
  have HEQ := hid (refLabEqual_any l zeroL v (.slice none 0 0) (by omega) (by simp [zeroL]) w0 HV0.out (zero_runs w0))
  have HVA := fun W (hW : Below w0.heap.size w0 W) => hid (refValid_any l v tr hn W (HV0.out.below hW (Nat.le_refl _)))
  have HVT := fun W => hid (refTr_any tr W)
  have HB0 := hid hb0
  have c0 := HBX.out.cell (i := 0) rfl
  have c1 := HBX.out.cell (i := 1) rfl
  have c2 := HBX.out.cell (i := 2) rfl
  have c3 := HBX.out.cell (i := 3) rfl
  have c4 := HBX.out.cell (i := 4) rfl
  have hlt := HBX.out.lt
  obtain ⟨E, hE⟩ : ∃ E, E = encL l tr := ⟨_, rfl⟩
  rw [← hE]
  unfold encL at hE
  have CC : ∀ W, Below w0.heap.size w0 W → Row W w.heap.size 24 (labCells l v) := fun W hW => HBX.out.upd (F := fun _ => False) (Upds.of_below hW (Nat.le_refl _)) (fun h => h)
  have HCC := hid CC
  clear CC
  by_cases ht : trOk tr
  rotate_left
  · rw [if_neg (fun h => ht h.1)] at hE
    have hok : decide (okL l tr) = false := decide_eq_false (fun h => ht h.1)
    rw [hok] at HVA
    rw [decide_eq_false ht] at HVT
    have HVA0 := HVA w0 (Below.refl _ _)
    have HE := hid hE
    have HW0 := hid hw0
    clear hE hv hb0 ht hw0 hok HEQ HVA
    go_enter Try.func17, Try.ntmps17
    go_upto_region 1 with fail
    rw [← HW0.out]
    go_wp2_with fail
    refine (HVT w0).out.mono ?_
    rintro e w2 ⟨rfl, rfl⟩
    go_wp2_with fail
    refine HVA0.out.mono ?_
    rintro e w2 ⟨rfl, hb⟩
    have HB2 := hid (HB0.out.trans (hb.mono HB0.out.size))
    clear hb
    go_wp2_with fail
    go_ret
    rw [HE.out]
    exact ⟨rfl, HB2.out⟩
  rw [decide_eq_true ht] at HVT
  by_cases hz : eqL l zeroL
  · rw [if_pos ⟨ht, .inl hz⟩, (eqL_iff _ _).1 hz, pad_zero] at hE
    rw [decide_eq_true hz] at HEQ
    have HE := hid hE
    have HW0 := hid hw0
    clear hE hv hb0 hz ht hw0 HVA
    go_enter Try.func17, Try.ntmps17
    go_upto_region 1 with fail
    rw [← HW0.out]
    go_wp2_with fail
    refine (HVT w0).out.mono ?_
    rintro e w2 ⟨rfl, rfl⟩
    go_wp2_with fail
    refine HEQ.out.mono ?_
    rintro e w1 ⟨rfl, hb⟩
    have HB1 := hid (HB0.out.trans (hb.mono HB0.out.size))
    clear hb
    go_wp2_with fail
    refine (padded_any ⟨#[]⟩ 1024 (by decide) (by decide) _).mono ?_
    rintro e w2 ⟨rfl, rfl⟩
    rw [← HE.out]
    go_wp2_with fail
    go_ret
    exact ⟨rfl, HB1.out⟩
  rw [decide_eq_false hz] at HEQ
  by_cases hok : okL l tr
  rotate_left
  · rw [if_neg (fun h => h.2.elim hz hok)] at hE
    rw [decide_eq_false hok] at HVA
    have HE := hid hE
    have HW0 := hid hw0
    clear hE hv hb0 hz hw0 hok ht
    go_enter Try.func17, Try.ntmps17
    go_upto_region 1 with fail
    rw [← HW0.out]
    go_wp2_with fail
    refine (HVT w0).out.mono ?_
    rintro e w2 ⟨rfl, rfl⟩
    go_wp2_with fail
    refine HEQ.out.mono ?_
    rintro e w1 ⟨rfl, hb⟩
    have HB1 := hid (HB0.out.trans (hb.mono HB0.out.size))
    have HVA1 := HVA w1 hb
    have hr := HCC.out w1 hb
    have e0 := hr.cell (i := 0) rfl
    have e1 := hr.cell (i := 1) rfl
    have e2 := hr.cell (i := 2) rfl
    have e3 := hr.cell (i := 3) rfl
    have e4 := hr.cell (i := 4) rfl
    have hlt1 := hr.lt
    clear hb hr HVA
    go_wp2_with fail
    refine HVA1.out.mono ?_
    rintro e w2 ⟨rfl, hb⟩
    have HB2 := hid (HB1.out.trans (hb.mono HB1.out.size))
    clear hb
    go_wp2_with fail
    go_ret
    rw [HE.out]
    exact ⟨rfl, HB2.out⟩
  rw [if_pos ⟨hok.1, .inr hok⟩] at hE
  rw [decide_eq_true hok] at HVA
  have hfine := goodL.fine (tr := tr) ⟨hok.1, .inr hok⟩
  have hbs := hfine.size
  have hhs := headL_size l
  obtain ⟨f1, f2, f3, f4, f5, f6, f7, f8⟩ := hfine
  have hbig : ((big40 : Nat) : Int) = 1099511627776 := rfl
  rw [hbig] at f2 f4
  obtain ⟨A, cap, rfl, hcap, hcap2, hBd, hAt⟩ := hv
  obtain ⟨i, hi⟩ := Int.eq_ofNat_of_zero_le f1
  obtain ⟨u, hu⟩ := Int.eq_ofNat_of_zero_le f3
  have HI : Hid (i < 18446744073709551616) := by show i < _; omega
  have HU : Hid (u < 18446744073709551616) := by show u < _; omega
  have hnm := f5
  have hnt := f6
  have hex := f7
  have HE := hid hE
  have HW0 := hid hw0
  have hRA : RunsAt w0 (.slice A l.ext.length cap) l.ext := HV0.out
  have HIQ := hid hi
  have HUQ := hid hu
  have HRS : Hid (∀ k, k ≤ l.ext.length → (headL l ++ encR (l.ext.take k)).size ≤ 900) := by
    intro k hk
    have := encR_size (l.ext.take k)
    rw [List.length_take] at this
    rw [ByteArray.size_append]
    omega
  have HBS := hid hbs
  have HFIN := hid f8
  have hwi : IntKind.u64.wrap (i : Int) = (i : Int) := IntWalk.u64_in _ (by omega)
  have hwu : IntKind.u64.wrap (u : Int) = (u : Int) := IntWalk.u64_in _ (by omega)
  have hwn : IntKind.u64.wrap (l.ext.length : Int) = (l.ext.length : Int) := IntWalk.u64_in _ (by omega)
  have HNX : Hid (l.ext.length < 18446744073709551616) := by show _ < _; omega
  clear hi hu hE hAt hw0 hok hBd hbs hhs hbig hb0 hz f1 f2 f3 f4 f5 f6 f8 ht
  go_enter Try.func17, Try.ntmps17
  go_upto_region 1 with fail
  rw [← HW0.out]
  go_wp2_with fail
  refine (HVT w0).out.mono ?_
  rintro e w2 ⟨rfl, rfl⟩
  go_wp2_with fail
  refine HEQ.out.mono ?_
  rintro e w1 ⟨rfl, hb⟩
  have HB1 := hid hb
  have HVA1 := HVA w1 hb
  have hr := HCC.out w1 hb
  have e0 := hr.cell (i := 0) rfl
  have e1 := hr.cell (i := 1) rfl
  have e2 := hr.cell (i := 2) rfl
  have e3 := hr.cell (i := 3) rfl
  have e4 := hr.cell (i := 4) rfl
  have hlt1 := hr.lt
  clear hb hr HVA c0 c1 c2 c3 c4 hlt
  go_wp2_with fail
  refine HVA1.out.mono ?_
  rintro e w2 ⟨rfl, hb⟩
  have HB2 := hid (HB1.out.trans (hb.mono HB1.out.size))
  have h2 : HeldB w0 w.heap.size l (.slice A l.ext.length cap) w2 := ⟨HCC.out w2 HB2.out, HB2.out⟩
  have H2 := hid h2
  have hlt := h2.1.lt
  clear hb h2 e0 e1 e2 e3 e4 hlt1 HB1 HVA1 HEQ HVT
  have g1 := (encS_size i).2
  have g2 := (encS_size u).2
  have g3 := (encS_size l.name.size).2
  have g4 := (encS_size l.note.size).2
  have g5 := (encS_size l.ext.length).2
  have a1 := add_ok (encS i) (encS u) (by omega) (by omega)
  have a2 := add_ok (encS i ++ encS u) (encS l.name.size ++ l.name) (by rw [ByteArray.size_append]; omega) (by rw [ByteArray.size_append]; omega)
  have a3 := add_ok (encS i ++ encS u ++ (encS l.name.size ++ l.name)) (encS l.note.size ++ l.note) (by simp only [ByteArray.size_append]; omega) (by simp only [ByteArray.size_append]; omega)
  have a4 := add_ok (encS i ++ encS u ++ (encS l.name.size ++ l.name) ++ (encS l.note.size ++ l.note)) (encS l.ext.length) (by simp only [ByteArray.size_append]; omega) (by omega)
  have hhead : encS i ++ encS u ++ (encS l.name.size ++ l.name) ++ (encS l.note.size ++ l.note) ++ encS l.ext.length = headL l := by
    have e1 : l.id.toNat = i := by rw [HIQ.out]; rfl
    have e2 : l.unit.toNat = u := by rw [HUQ.out]; rfl
    unfold headL
    rw [e1, e2]
  obtain ⟨T1, h1⟩ : ∃ T, T = encS i := ⟨_, rfl⟩
  obtain ⟨T2, h2⟩ : ∃ T, T = encS u := ⟨_, rfl⟩
  obtain ⟨T3, h3⟩ : ∃ T, T = encS l.name.size ++ l.name := ⟨_, rfl⟩
  obtain ⟨T4, h4⟩ : ∃ T, T = encS l.note.size ++ l.note := ⟨_, rfl⟩
  obtain ⟨T5, h5⟩ : ∃ T, T = encS l.ext.length := ⟨_, rfl⟩
  have N1 := fun W => hid (refN i HI W)
  have N2 := fun W => hid (refN u HU W)
  have N3 := fun W => hid (refT l.name (by omega) W)
  have N4 := fun W => hid (refT l.note (by omega) W)
  have N5 := fun W => hid (refN l.ext.length HNX W)
  rw [← h1] at a1 a2 a3 a4 hhead N1
  rw [← h2] at a1 a2 a3 a4 hhead N2
  rw [← h3] at a2 a3 a4 hhead N3
  rw [← h4] at a3 a4 hhead N4
  rw [← h5] at a4 hhead N5
  obtain ⟨X2, x2⟩ : ∃ T, T = T1 ++ T2 := ⟨_, rfl⟩
  rw [← x2] at a1 a2 a3 a4 hhead
  obtain ⟨X3, x3⟩ : ∃ T, T = X2 ++ T3 := ⟨_, rfl⟩
  rw [← x3] at a2 a3 a4 hhead
  obtain ⟨X4, x4⟩ : ∃ T, T = X3 ++ T4 := ⟨_, rfl⟩
  rw [← x4] at a3 a4 hhead
  obtain ⟨X5, x5⟩ : ∃ T, T = X4 ++ T5 := ⟨_, rfl⟩
  rw [← x5] at a4 hhead
  have HHEAD := hid hhead
  clear g1 g2 g3 g4 g5 h1 h2 h3 h4 h5 x2 x3 x4 x5 hhead HCC
  go_upto_region 5 with fail
  go_region_held3 (fun W => W.cell? ⟨w.heap.size, 0, none⟩ = some (.int .i64 (i : Int)) ∧ W.cell? ⟨w.heap.size, 1, none⟩ = some (.int .i64 (u : Int)) ∧ W.cell? ⟨w.heap.size, 2, none⟩ = some (.string l.name) ∧ W.cell? ⟨w.heap.size, 3, none⟩ = some (.string l.note) ∧ W.cell? ⟨w.heap.size, 4, none⟩ = some (.slice A l.ext.length cap) ∧ HeldB w0 w.heap.size l (.slice A l.ext.length cap) W)
    (first | assumption | exact Box5.of HIQ.out HUQ.out (HeldB.drew H2.out) | exact Box5.step HIQ.out HUQ.out (by assumption) hb6)
    (first
    | (go_at_call_of 55 (Value.int IntKind.u64 (i : Int)); refine (N1 _).out.mono ?_; rintro x w6 ⟨rfl, hb6⟩)
    | (go_at_call_of 55 (Value.int IntKind.u64 (u : Int)); refine (N2 _).out.mono ?_; rintro x w6 ⟨rfl, hb6⟩)
    | (go_at_call_of 55 (Value.int IntKind.u64 (l.ext.length : Int)); refine (N5 _).out.mono ?_; rintro x w6 ⟨rfl, hb6⟩)
    | (go_at_call_of 56 (Value.string l.name); refine (N3 _).out.mono ?_; rintro x w6 ⟨rfl, hb6⟩)
    | (go_at_call_of 56 (Value.string l.note); refine (N4 _).out.mono ?_; rintro x w6 ⟨rfl, hb6⟩))
  rename_i hh
  have H3 := hid hh.2.2.2.2.2
  clear hh H2 a1 a2 a3 a4 N1 N2 N3 N4 N5
  rw [HHEAD.out]
  clear HHEAD
  have hn16 := hex
  obtain ⟨H, hH⟩ : ∃ H, H = headL l := ⟨_, rfl⟩
  rw [← hH] at HRS ⊢
  have HH := hid hH
  clear hH
  obtain ⟨n, hnn⟩ : ∃ n, n = l.ext.length := ⟨_, rfl⟩
  have HRA := hid hRA
  rw [← hnn] at HRA HRS hn16 ⊢
  rw [← hnn] at H3
  have HN := hid hnn
  clear hnn hRA hex hn hnm hnt hwi hwu hwn
  go_wp2_with fail
  go_loopw [5, 6] (fun s i wr => ∃ k : Nat, k ≤ n ∧ i = .int .i64 k ∧ s = .string (H ++ encR (l.ext.take k)) ∧ HeldB w0 w.heap.size l (.slice A n cap) wr) (fun _ i _ => n - (RowKit.intOf i).toNat)
  case atStart => exact ⟨0, by omega, rfl, by rw [show encR (l.ext.take 0) = ⟨#[]⟩ from rfl, append_empty'], H3.out⟩
  case round =>
    obtain ⟨k, hk, rfl, rfl, hb⟩ := hrel
    have HB := hid hb
    have c4 := hb.1.cell (i := 4) rfl
    have hlw := hb.1.lt
    by_cases hlt : k < n
    · have hk2 : k < l.ext.length := by rw [← HN.out]; exact hlt
      obtain ⟨b, off, rfl, hlb, d1, d2, hbd⟩ := (HRA.out.below hb.2 (Nat.le_refl _)).round hk2
      have hfr := HFIN.out l.ext[k] (List.getElem_mem hk2)
      have hsn := encR_snoc l.ext k hk2
      obtain ⟨r, hr⟩ : ∃ r, r = l.ext[k] := ⟨_, rfl⟩
      rw [← hr] at d1 d2 hbd hfr hsn
      obtain ⟨f, c⟩ := r
      simp only at d1 d2 hbd hfr hsn
      obtain ⟨f', hf'⟩ := Int.eq_ofNat_of_zero_le hfr.1
      obtain ⟨c', hc'⟩ := Int.eq_ofNat_of_zero_le hfr.2.2.1
      subst hf' hc'
      rw [show ((f' : Int)).toNat = f' from rfl, show ((c' : Int)).toNat = c' from rfl] at hsn
      have HF' : Hid (f' < 18446744073709551616) := by show _ < _; omega
      have HC' : Hid (c' < 18446744073709551616) := by show _ < _; omega
      have hwf : IntKind.u64.wrap (f' : Int) = (f' : Int) := IntWalk.u64_in _ (by omega)
      have hwc : IntKind.u64.wrap (c' : Int) = (c' : Int) := IntWalk.u64_in _ (by omega)
      have hs1 := HRS.out k hk
      have hs2 := HRS.out (k + 1) hlt
      obtain ⟨X, hX⟩ : ∃ X, X = H ++ encR (l.ext.take k) := ⟨_, rfl⟩
      rw [← hX] at hs1 ⊢
      have hX1 : X ++ encS f' ++ encS c' = H ++ encR (l.ext.take (k + 1)) := by rw [hsn, hX]; simp only [ByteArray.append_assoc]
      have hsz := (encS_size f').2
      have hsz2 := (encS_size c').2
      have a1 := add_ok X (encS f') (by omega) (by omega)
      have a2 := add_ok (X ++ encS f') (encS c') (by rw [ByteArray.size_append]; omega) (by omega)
      obtain ⟨Ef, hEf⟩ : ∃ T, T = encS f' := ⟨_, rfl⟩
      obtain ⟨Ec, hEc⟩ : ∃ T, T = encS c' := ⟨_, rfl⟩
      have N1 := fun W => hid (refN f' HF' W)
      have N2 := fun W => hid (refN c' HC' W)
      rw [← hEf] at a1 a2 hX1 N1
      rw [← hEc] at a2 hX1 N2
      obtain ⟨Y, hY⟩ : ∃ T, T = X ++ Ef := ⟨_, rfl⟩
      rw [← hY] at a1 a2 hX1
      obtain ⟨Z, hZ⟩ : ∃ T, T = Y ++ Ec := ⟨_, rfl⟩
      rw [← hZ] at a2 hX1
      have HX1 := hid hX1
      have HBE : Hid (b < w0.heap.size) := by
        obtain ⟨_, _, e1, _, _, _, h⟩ := HRA.out
        simp only [Value.slice.injEq] at e1
        obtain ⟨e1, _⟩ := e1
        obtain ⟨b3, off3, e3, h3, _⟩ := h (by omega)
        rw [← e1] at e3
        simp only [Option.some.injEq, Addr.mk.injEq] at e3
        rw [← e3.1] at h3
        exact h3
      have he : ∀ W, HeldB w0 w.heap.size l (.slice (some ⟨b, off, none⟩) n cap) W → W.cell? ⟨b, off + k * 2, none⟩ = some (.int .i64 (f' : Int)) ∧ W.cell? ⟨b, off + k * 2 + 1, none⟩ = some (.int .i64 (c' : Int)) := by
        intro W hW
        have hbw := hW.2
        have hbr := hb.2
        exact ⟨(hbw.cell (p := ⟨b, off + k * 2, none⟩) HBE.out).trans ((hbr.cell (p := ⟨b, off + k * 2, none⟩) HBE.out).symm.trans d1), (hbw.cell (p := ⟨b, off + k * 2 + 1, none⟩) HBE.out).trans ((hbr.cell (p := ⟨b, off + k * 2 + 1, none⟩) HBE.out).symm.trans d2)⟩
      have HEE := hid he
      have HD := hid hb.drew
      clear hb hr hbd hfr hsn hs1 hs2 hX hX1 hsz hsz2 hEf hEc hY hZ he hlb
      go_upto_region 9 with fail
      go_region_held3 (fun W => W.cell? ⟨w.heap.size, 4, none⟩ = some (.slice (some ⟨b, off, none⟩) n cap) ∧ (W.cell? ⟨b, off + k * 2, none⟩ = some (.int .i64 (f' : Int)) ∧ W.cell? ⟨b, off + k * 2 + 1, none⟩ = some (.int .i64 (c' : Int))) ∧ HeldB w0 w.heap.size l (.slice (some ⟨b, off, none⟩) n cap) W)
        (first | assumption | exact ⟨HD.out.1.cell (i := 4) rfl, HEE.out _ HD.out, HD.out⟩ | exact ⟨(HeldB.below (And.right (And.right (by assumption))) hb6).1.cell (i := 4) rfl, HEE.out _ (HeldB.below (And.right (And.right (by assumption))) hb6), HeldB.below (And.right (And.right (by assumption))) hb6⟩)
        (first
        | (go_at_call_of 55 (Value.int IntKind.u64 (f' : Int)); refine (N1 _).out.mono ?_; rintro x w6 ⟨rfl, hb6⟩)
        | (go_at_call_of 55 (Value.int IntKind.u64 (c' : Int)); refine (N2 _).out.mono ?_; rintro x w6 ⟨rfl, hb6⟩))
      rename_i hh
      have H5 := hid hh.2.2
      clear hh HD
      rw [HX1.out]
      go_wp2_with fail
      go_roundw
      case rel => exact ⟨k + 1, by omega, by go_num, rfl, H5.out⟩
      case measure => simp [RowKit.intOf]; omega
    · obtain rfl : k = n := by omega
      have hlen : H ++ encR (l.ext.take k) = bodyL l := by rw [HN.out, List.take_length, HH.out]; rfl
      rw [hlen]
      clear hlen hb
      go_wp2_with fail
      refine (padded_any (bodyL l) 1024 (by have := HBS.out; omega) (by decide) _).mono ?_
      rintro e w8 ⟨rfl, rfl⟩
      rw [← HE.out]
      go_wp2_with fail
      go_ret
      exact ⟨rfl, HB0.out.trans (HB.out.2.mono HB0.out.size)⟩
end Go.Proofs.Ytabbkgbgldgfeaa
