import Derived.Test.YtabbkgbgldgfeaaLabT5
import Derived.Test.YtabbkgbgldgfeaaRep
/-! padded, Encode. -/
namespace Go.Proofs.Ytabbkgbgldgfeaa
open Go.Lib Go.ChangeShapes Go.WideShapes Go.ChangeAt Go.RowKit

theorem repeat_zero (n : Nat) : (⟨(Lib.repeatL (ByteArray.mk #[0]).data.toList n).toArray⟩ : ByteArray) = zerosB n := by
  unfold zerosB
  have h : ∀ n, Lib.repeatL [(0 : UInt8)] n = List.replicate n 0 := by
    intro n
    induction n with
    | zero => rfl
    | succ n ih => rw [List.replicate_succ, ← ih]; rfl
  rw [show (ByteArray.mk #[0]).data.toList = [(0 : UInt8)] from rfl, h]
set_option maxRecDepth 100000 in
theorem labPadded_any (s : ByteArray) (hs : s.size ≤ 1024) (w : World) :
    Calls Try.prog 51 #[.string s] w fun e w' => e = .returned (.string (padS s 1024)) ∧ Below w.heap.size w w' := by
  have HC : Hid (Calls Try.prog 75 #[.string ⟨#[0]⟩, .int .i64 ((1024 - s.size : Nat) : Int)] w fun e w' => e = .returned (.string (zerosB (1024 - s.size))) ∧ Below w.heap.size w w') :=
    (Try.strings_Repeat ⟨#[0]⟩ (1024 - s.size) w (by omega) (by show 1 * _ ≤ _; omega)).mono fun e w' ⟨he, hb⟩ => ⟨he.trans (by rw [repeat_zero]), hb⟩
  have HA := hid (add_ok s (zerosB (1024 - s.size)) (by omega) (by rw [zerosB_size]; omega))
  have hz := zerosB_size (1024 - s.size)
  obtain ⟨z, hz'⟩ : ∃ z, z = zerosB (1024 - s.size) := ⟨_, rfl⟩
  have he : Hid (padS s 1024 = s ++ z) := by show _ = _; rw [hz']; rfl
  rw [← hz'] at HC HA hz
  obtain ⟨n, hn⟩ : ∃ n, n = s.size := ⟨_, rfl⟩
  obtain ⟨m, hm⟩ : ∃ m, m = 1024 - s.size := ⟨_, rfl⟩
  rw [← hm] at HC hz
  have hq : (1024 : Int) - (s.size : Int) = (m : Int) := by omega
  have HQ := hid hq
  clear hz' hn hq
  go_enter Try.func51, Try.ntmps51
  go_wp2_with fail
  rw [HQ.out]
  refine HC.out.mono ?_
  rintro e w' ⟨rfl, hb⟩
  have HB := hid hb
  clear hb
  go_wp2_with (fail)
  go_ret
  exact ⟨by rw [he.out]; rfl, HB.out⟩
theorem appN (s : ByteArray) (hs : s.size ≤ 1000000) (n : Nat) (h1 : Hid (n < 18446744073709551616)) (w : World) :
    Calls Try.prog 52 #[.string s, .int .u64 n] w fun e w' => e = .returned (.string (s ++ encS n)) ∧ Below w.heap.size w w' := appendNumber_any s hs n h1 w
theorem appT (s t : ByteArray) (hs : s.size ≤ 900000) (ht : t.size ≤ 100000) (w : World) :
    Calls Try.prog 53 #[.string s, .string t] w fun e w' => e = .returned (.string (s ++ (encS t.size ++ t))) ∧ Below w.heap.size w w' := appendText_any s t hs ht w
theorem zero_runs (w : World) : RunsAt w (.slice none 0 0) zeroL.ext := ⟨none, 0, rfl, by simp [zeroL], by omega, (fun r h => by cases h), fun h => by simp [zeroL] at h⟩
set_option maxRecDepth 100000 in
set_option maxHeartbeats 2000000 in
theorem encode_lab (l : Lab) (v : Value) (tr : Int) (h1 : -9223372036854775808 ≤ tr ∧ tr ≤ 9223372036854775807) (hn : l.ext.length ≤ 3000) (w : World) (hv : RunsAt w v l.ext) :
    Calls Try.prog 16 #[labV l v, .int .i64 tr] w fun e w' => e = .returned (.string (encL l tr)) ∧ Below w.heap.size w w' := by
  obtain ⟨w0, hw0⟩ : ∃ w0, w0 = w.alloc (.cells #[.int .i64 l.id, .int .i64 l.unit, .string l.name, .string l.note, v] 24) := ⟨_, rfl⟩
  have hb0 : Below w.heap.size w w0 := by rw [hw0]; exact (Below.refl _ _).alloc (Nat.le_refl _) _
  have HBX : Hid (Row w0 w.heap.size 24 (labCells l v)) := by show Row _ _ _ _; rw [hw0]; exact Row.new w (labCells l v) _
  have HV0 := hid (hv.below hb0 (Nat.le_refl _))
  have HEQ := hid (labEqual_any l zeroL v (.slice none 0 0) (by omega) (by simp [zeroL]) w0 HV0.out (zero_runs w0))
  have HVA := fun W (hW : Below w0.heap.size w0 W) => hid (valid_lab l v tr h1 hn W (HV0.out.below hW (Nat.le_refl _)))
  have HVT := fun W => hid (validTracks_any tr h1 W)
  have HB0 := hid hb0
  have c0 := HBX.out.cell (i := 0) rfl
  have c1 := HBX.out.cell (i := 1) rfl
  have c2 := HBX.out.cell (i := 2) rfl
  have c3 := HBX.out.cell (i := 3) rfl
  have c4 := HBX.out.cell (i := 4) rfl
  have hlt := HBX.out.lt
  have hf : ∀ i, w0.frozen? ⟨w.heap.size, i, none⟩ = false := fun i => HBX.out.frozen i
  obtain ⟨E, hE⟩ : ∃ E, E = encL l tr := ⟨_, rfl⟩
  rw [← hE]
  unfold encL at hE
  have CC : ∀ W, Below w0.heap.size w0 W → Row W w.heap.size 24 (labCells l v) := fun W hW => HBX.out.upd (F := fun _ => False) (Upds.of_below hW (Nat.le_refl _)) (fun h => h)
  have HCC := hid CC
  clear CC
  by_cases hz : eqL l zeroL
  · by_cases ht : trOk tr
    · rw [if_pos ⟨ht, .inl hz⟩, (eqL_iff _ _).1 hz, pad_zero] at hE
      rw [decide_eq_true hz] at HEQ
      rw [decide_eq_true ht] at HVT
      have HE := hid hE
      have HW0 := hid hw0
      clear hE hv hb0 hz ht h1 hw0 HVA
      go_enter Try.func16, Try.ntmps16
      go_upto_region 1 with fail
      rw [← HW0.out]
      go_wp2_with fail
      refine HEQ.out.mono ?_
      rintro e w1 ⟨rfl, hb⟩
      have HB1 := hid (HB0.out.trans (hb.mono HB0.out.size))
      clear hb
      go_wp2_with fail
      refine (HVT w1).out.mono ?_
      rintro e w2 ⟨rfl, rfl⟩
      go_wp2_with fail
      refine (labPadded_any ⟨#[]⟩ (by decide) _).mono ?_
      rintro e w2 ⟨rfl, hb⟩
      have HB2 := hid (HB1.out.trans (hb.mono HB1.out.size))
      clear hb
      rw [← HE.out]
      go_wp2_with fail
      go_ret
      exact ⟨rfl, HB2.out⟩
    · rw [if_neg (fun h => ht h.1)] at hE
      rw [decide_eq_true hz] at HEQ
      rw [decide_eq_false ht] at HVT
      have hok : decide (okL l tr) = false := decide_eq_false (fun h => ht h.1)
      rw [hok] at HVA
      have HE := hid hE
      have HW0 := hid hw0
      clear hE hv hb0 hz ht h1 hw0 hok
      go_enter Try.func16, Try.ntmps16
      go_upto_region 1 with fail
      rw [← HW0.out]
      go_wp2_with fail
      refine HEQ.out.mono ?_
      rintro e w1 ⟨rfl, hb⟩
      have HB1 := hid (HB0.out.trans (hb.mono HB0.out.size))
      have HVA1 := HVA w1 hb
      have hr := HCC.out w1 hb
      have e0 := hr.cell (i := 0) rfl
      have e1 := hr.cell (i := 1) rfl
      have e2 := hr.cell (i := 2) rfl
      have e3 := hr.cell (i := 3) rfl
      have e4 := hr.cell (i := 4) rfl
      have hlt1 := hr.lt
      clear hb hr HVA
      go_wp2_with fail
      refine (HVT w1).out.mono ?_
      rintro e w2 ⟨rfl, rfl⟩
      go_wp2_with fail
      refine HVA1.out.mono ?_
      rintro e w2 ⟨rfl, hb⟩
      have HB2 := hid (HB1.out.trans (hb.mono HB1.out.size))
      clear hb
      go_wp2_with fail
      go_ret
      rw [HE.out]
      exact ⟨rfl, HB2.out⟩
  rw [decide_eq_false hz] at HEQ
  by_cases hok : okL l tr
  rotate_left
  · rw [if_neg (fun h => h.2.elim hz hok)] at hE
    rw [decide_eq_false hok] at HVA
    have HE := hid hE
    have HW0 := hid hw0
    clear hE hv hb0 hz h1 hw0 hok HVT
    go_enter Try.func16, Try.ntmps16
    go_upto_region 1 with fail
    rw [← HW0.out]
    go_wp2_with fail
    refine HEQ.out.mono ?_
    rintro e w1 ⟨rfl, hb⟩
    have HB1 := hid (HB0.out.trans (hb.mono HB0.out.size))
    have HVA1 := HVA w1 hb
    have hr := HCC.out w1 hb
    have e0 := hr.cell (i := 0) rfl
    have e1 := hr.cell (i := 1) rfl
    have e2 := hr.cell (i := 2) rfl
    have e3 := hr.cell (i := 3) rfl
    have e4 := hr.cell (i := 4) rfl
    have hlt1 := hr.lt
    clear hb hr HVA
    go_wp2_with fail
    refine HVA1.out.mono ?_
    rintro e w2 ⟨rfl, hb⟩
    have HB2 := hid (HB1.out.trans (hb.mono HB1.out.size))
    clear hb
    go_wp2_with fail
    go_ret
    rw [HE.out]
    exact ⟨rfl, HB2.out⟩
  rw [if_pos ⟨hok.1, .inr hok⟩] at hE
  rw [decide_eq_true hok] at HVA
  have hfine := goodL.fine (tr := tr) ⟨hok.1, .inr hok⟩
  have hbs := hfine.size
  have hhs := headL_size l
  obtain ⟨f1, f2, f3, f4, f5, f6, f7, f8⟩ := hfine
  have hbig : ((big40 : Nat) : Int) = 1099511627776 := rfl
  rw [hbig] at f2 f4
  obtain ⟨A, cap, rfl, hcap, hcap2, hBd, hAt⟩ := hv
  obtain ⟨i, hi⟩ := Int.eq_ofNat_of_zero_le f1
  obtain ⟨u, hu⟩ := Int.eq_ofNat_of_zero_le f3
  have HI : Hid (i < 18446744073709551616) := by show i < _; omega
  have HU : Hid (u < 18446744073709551616) := by show u < _; omega
  have hnm := f5
  have hnt := f6
  have hex := f7
  have HE := hid hE
  have HW0 := hid hw0
  have HBD := hid hBd
  have hRA : RunsAt w0 (.slice A l.ext.length cap) l.ext := HV0.out
  have HIQ := hid hi
  have HUQ := hid hu
  have HHS : Hid ((headL l).size ≤ 481) := by show _ ≤ _; omega
  have HRS : Hid (∀ k, k ≤ l.ext.length → (headL l ++ encR (l.ext.take k)).size ≤ 900) := by
    intro k hk
    have := encR_size (l.ext.take k)
    rw [List.length_take] at this
    rw [ByteArray.size_append]
    omega
  have HBS := hid hbs
  have HFIN := hid f8
  have hwi : IntKind.u64.wrap (i : Int) = (i : Int) := IntWalk.u64_in _ (by omega)
  have hwu : IntKind.u64.wrap (u : Int) = (u : Int) := IntWalk.u64_in _ (by omega)
  clear hi hu hE hAt h1 hw0 hok HVT hBd hbs hhs hbig hb0 hz f1 f2 f3 f4 f5 f6 f8
  go_enter Try.func16, Try.ntmps16
  go_upto_region 1 with fail
  rw [← HW0.out]
  go_wp2_with fail
  refine HEQ.out.mono ?_
  rintro e w1 ⟨rfl, hb⟩
  have HB1 := hid hb
  have HVA1 := HVA w1 hb
  have hr := HCC.out w1 hb
  have e0 := hr.cell (i := 0) rfl
  have e1 := hr.cell (i := 1) rfl
  have e2 := hr.cell (i := 2) rfl
  have e3 := hr.cell (i := 3) rfl
  have e4 := hr.cell (i := 4) rfl
  have hlt1 := hr.lt
  clear hb hr HVA c0 c1 c2 c3 c4 hf hlt
  go_wp2_with fail
  refine HVA1.out.mono ?_
  rintro e w2 ⟨rfl, hb⟩
  have HB2 := hid (HB1.out.trans (hb.mono HB1.out.size))
  have hr := HCC.out w2 HB2.out
  have c0 := hr.cell (i := 0) rfl
  have c1 := hr.cell (i := 1) rfl
  have c2 := hr.cell (i := 2) rfl
  have c3 := hr.cell (i := 3) rfl
  have c4 := hr.cell (i := 4) rfl
  have hlt := hr.lt
  rw [HIQ.out] at c0
  rw [HUQ.out] at c1
  clear hb hr e0 e1 e2 e3 e4 hlt1 HB1
  go_wp2_with fail
  obtain ⟨S1, hS1⟩ : ∃ S, S = (⟨#[]⟩ : ByteArray) ++ encS i := ⟨_, rfl⟩
  obtain ⟨S2, hS2⟩ : ∃ S, S = S1 ++ encS u := ⟨_, rfl⟩
  obtain ⟨S3, hS3⟩ : ∃ S, S = S2 ++ (encS l.name.size ++ l.name) := ⟨_, rfl⟩
  obtain ⟨S4, hS4⟩ : ∃ S, S = S3 ++ (encS l.note.size ++ l.note) := ⟨_, rfl⟩
  obtain ⟨S5, hS5⟩ : ∃ S, S = S4 ++ encS l.ext.length := ⟨_, rfl⟩
  have g1 := encS_size i
  have g2 := encS_size u
  have g3 := encS_size l.name.size
  have g4 := encS_size l.note.size
  have z1 : Hid (S1.size ≤ 10) := by show _ ≤ _; rw [hS1, ByteArray.size_append]; show 0 + _ ≤ _; omega
  have z2 : Hid (S2.size ≤ 20) := by show _ ≤ _; have := z1.out; rw [hS2, ByteArray.size_append]; omega
  have z3 : Hid (S3.size ≤ 61) := by show _ ≤ _; have := z2.out; rw [hS3, ByteArray.size_append, ByteArray.size_append]; omega
  have z4 : Hid (S4.size ≤ 471) := by show _ ≤ _; have := z3.out; rw [hS4, ByteArray.size_append, ByteArray.size_append]; omega
  have hhead : S5 = headL l := by
    have e1 : l.id.toNat = i := by rw [HIQ.out]; rfl
    have e2 : l.unit.toNat = u := by rw [HUQ.out]; rfl
    unfold headL
    rw [e1, e2, hS5, hS4, hS3, hS2, hS1, empty_append']
  have HS1 := hid hS1
  have HS2 := hid hS2
  have HS3 := hid hS3
  have HS4 := hid hS4
  have HS5 := hid hS5
  have HHEAD := hid hhead
  clear hS1 hS2 hS3 hS4 hS5 g1 g2 g3 g4 hhead
  refine (appN ⟨#[]⟩ (by decide) i HI _).mono ?_
  rintro e w3 ⟨rfl, hb⟩
  have HB3 := hid (HB2.out.trans (hb.mono HB2.out.size))
  have hr := HCC.out w3 HB3.out
  clear c0 c1 c2 c3 c4 hlt
  have c0 := hr.cell (i := 0) rfl
  have c1 := hr.cell (i := 1) rfl
  have c2 := hr.cell (i := 2) rfl
  have c3 := hr.cell (i := 3) rfl
  have c4 := hr.cell (i := 4) rfl
  have hlt := hr.lt
  rw [HIQ.out] at c0
  rw [HUQ.out] at c1
  clear hb hr
  rw [← HS1.out]
  go_wp2_with fail
  refine (appN S1 (by have := z1.out; omega) u HU _).mono ?_
  rintro e w4 ⟨rfl, hb⟩
  have HB4 := hid (HB3.out.trans (hb.mono HB3.out.size))
  have hr := HCC.out w4 HB4.out
  clear c0 c1 c2 c3 c4 hlt
  have c0 := hr.cell (i := 0) rfl
  have c1 := hr.cell (i := 1) rfl
  have c2 := hr.cell (i := 2) rfl
  have c3 := hr.cell (i := 3) rfl
  have c4 := hr.cell (i := 4) rfl
  have hlt := hr.lt
  rw [HIQ.out] at c0
  rw [HUQ.out] at c1
  clear hb hr
  rw [← HS2.out]
  go_wp2_with fail
  refine (appT S2 l.name (by have := z2.out; omega) (by omega) _).mono ?_
  rintro e w5 ⟨rfl, hb⟩
  have HB5 := hid (HB4.out.trans (hb.mono HB4.out.size))
  have hr := HCC.out w5 HB5.out
  clear c0 c1 c2 c3 c4 hlt
  have c0 := hr.cell (i := 0) rfl
  have c1 := hr.cell (i := 1) rfl
  have c2 := hr.cell (i := 2) rfl
  have c3 := hr.cell (i := 3) rfl
  have c4 := hr.cell (i := 4) rfl
  have hlt := hr.lt
  rw [HIQ.out] at c0
  rw [HUQ.out] at c1
  clear hb hr
  rw [← HS3.out]
  go_wp2_with fail
  refine (appT S3 l.note (by have := z3.out; omega) (by omega) _).mono ?_
  rintro e w6 ⟨rfl, hb⟩
  have HB6 := hid (HB5.out.trans (hb.mono HB5.out.size))
  have hr := HCC.out w6 HB6.out
  clear c0 c1 c2 c3 c4 hlt
  have c0 := hr.cell (i := 0) rfl
  have c1 := hr.cell (i := 1) rfl
  have c2 := hr.cell (i := 2) rfl
  have c3 := hr.cell (i := 3) rfl
  have c4 := hr.cell (i := 4) rfl
  have hlt := hr.lt
  rw [HIQ.out] at c0
  rw [HUQ.out] at c1
  clear hb hr
  rw [← HS4.out]
  go_wp2_with fail
  refine (appN S4 (by have := z4.out; omega) l.ext.length (by show _ < _; omega) _).mono ?_
  rintro e w7 ⟨rfl, hb⟩
  have HB7 := hid (HB6.out.trans (hb.mono HB6.out.size))
  have hr := HCC.out w7 HB7.out
  clear c0 c1 c2 c3 c4 hlt
  have c0 := hr.cell (i := 0) rfl
  have c1 := hr.cell (i := 1) rfl
  have c2 := hr.cell (i := 2) rfl
  have c3 := hr.cell (i := 3) rfl
  have c4 := hr.cell (i := 4) rfl
  have hlt := hr.lt
  rw [HIQ.out] at c0
  rw [HUQ.out] at c1
  clear hb hr
  rw [← HS5.out]
  go_wp2_with fail
  rw [HHEAD.out]
  have HRA := hid hRA
  clear hRA c0 c1 c2 c3 c4 hlt HIQ HUQ HS1 HS2 HS3 HS4 HS5 z1 z2 z3 z4 HHEAD HEQ HVA1
  obtain ⟨H, hH⟩ : ∃ H, H = headL l := ⟨_, rfl⟩
  rw [← hH] at HRS ⊢
  have HH := hid hH
  clear hH
  obtain ⟨n, hnn⟩ : ∃ n, n = l.ext.length := ⟨_, rfl⟩
  rw [← hnn] at HRA HRS hex hn ⊢
  have HN := hid hnn
  clear hnn
  go_loopw [5, 46] (fun s i wr => ∃ k : Nat, k ≤ n ∧ i = .int .i64 k ∧ s = .string (H ++ encR (l.ext.take k)) ∧ Below w0.heap.size w0 wr) (fun _ i _ => n - (RowKit.intOf i).toNat)
  case atStart => exact ⟨0, by omega, rfl, by rw [show encR (l.ext.take 0) = ⟨#[]⟩ from rfl, append_empty'], HB7.out⟩
  case round =>
    obtain ⟨k, hk, rfl, rfl, hb⟩ := hrel
    have HB := hid hb
    by_cases hlt : k < n
    · have hk2 : k < l.ext.length := by rw [← HN.out]; exact hlt
      obtain ⟨b, off, rfl, hlb, d1, d2, hbd⟩ := (HRA.out.below hb (Nat.le_refl _)).round hk2
      have hfr := HFIN.out l.ext[k] (List.getElem_mem hk2)
      have hsn := encR_snoc l.ext k hk2
      obtain ⟨r, hr⟩ : ∃ r, r = l.ext[k] := ⟨_, rfl⟩
      rw [← hr] at d1 d2 hbd hfr hsn
      obtain ⟨f, c⟩ := r
      simp only at d1 d2 hbd hfr hsn
      obtain ⟨f', hf'⟩ := Int.eq_ofNat_of_zero_le hfr.1
      obtain ⟨c', hc'⟩ := Int.eq_ofNat_of_zero_le hfr.2.2.1
      subst hf' hc'
      rw [show ((f' : Int)).toNat = f' from rfl, show ((c' : Int)).toNat = c' from rfl] at hsn
      have HF' : Hid (f' < 18446744073709551616) := by show _ < _; omega
      have HC' : Hid (c' < 18446744073709551616) := by show _ < _; omega
      have hwf : IntKind.u64.wrap (f' : Int) = (f' : Int) := IntWalk.u64_in _ (by omega)
      have hwc : IntKind.u64.wrap (c' : Int) = (c' : Int) := IntWalk.u64_in _ (by omega)
      have hs1 := HRS.out k hk
      have hs2 := HRS.out (k + 1) hlt
      obtain ⟨X, hX⟩ : ∃ X, X = H ++ encR (l.ext.take k) := ⟨_, rfl⟩
      rw [← hX] at hs1 ⊢
      have hX1 : X ++ encS f' ++ encS c' = H ++ encR (l.ext.take (k + 1)) := by rw [hsn, hX]; simp only [ByteArray.append_assoc]
      have HX1 := hid hX1
      have hsz := encS_size f'
      have HS1 : Hid (X.size ≤ 900) := hs1
      have HSF : Hid ((X ++ encS f').size ≤ 910) := by show _ ≤ _; rw [ByteArray.size_append]; omega
      have hrow := Row.new wr [.int .i64 f', .int .i64 c'] 43
      have HROW := hid hrow
      have hbw : Below wr.heap.size wr (wr.alloc (.cells #[.int .i64 f', .int .i64 c'] 43)) := (Below.refl _ _).alloc (Nat.le_refl _) _
      have HBW := hid (HB.out.trans (hbw.mono HB.out.size))
      have p0 := hrow.cell (i := 0) rfl
      have p1 := hrow.cell (i := 1) rfl
      clear hb hr hbd hfr hsn hs1 hs2 hX hX1 hsz hrow hbw
      go_wp2_with fail
      refine (appN X (by have := HS1.out; omega) f' HF' _).mono ?_
      rintro e w8 ⟨rfl, hb⟩
      have HB8 := hid (HBW.out.trans (hb.mono HBW.out.size))
      have hrow8 := HROW.out.upd (F := fun _ => False) (Upds.of_below hb (Nat.le_refl _)) (fun h => h)
      have q0 := hrow8.cell (i := 0) rfl
      have q1 := hrow8.cell (i := 1) rfl
      have hlt8 := hrow8.lt
      clear p0 p1 hb hrow8
      go_wp2_with fail
      refine (appN (X ++ encS f') (by have := HSF.out; omega) c' HC' _).mono ?_
      rintro e w9 ⟨rfl, hb⟩
      rw [HX1.out]
      have HB9 := hid (HB8.out.trans (hb.mono HB8.out.size))
      clear hb
      go_wp2_with fail
      go_roundw
      case rel => exact ⟨k + 1, by omega, by go_num, rfl, HB9.out⟩
      case measure => simp [RowKit.intOf]; omega
    · obtain rfl : k = n := by omega
      have hlen : H ++ encR (l.ext.take k) = bodyL l := by rw [HN.out, List.take_length, HH.out]; rfl
      rw [hlen]
      clear hb hlen
      go_wp2_with fail
      refine (labPadded_any (bodyL l) HBS.out _).mono ?_
      rintro e w8 ⟨rfl, hb⟩
      have HB8 := hid (HB0.out.trans ((HB.out.trans (hb.mono HB.out.size)).mono HB0.out.size))
      clear hb
      rw [← HE.out]
      go_wp2_with fail
      go_ret
      exact ⟨rfl, HB8.out⟩
end Go.Proofs.Ytabbkgbgldgfeaa
