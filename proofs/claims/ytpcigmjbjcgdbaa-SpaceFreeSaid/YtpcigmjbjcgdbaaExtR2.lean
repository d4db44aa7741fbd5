import Derived.Test.YtpcigmjbjcgdbaaExtR1
/-! The specification: clip. -/
namespace Go.Proofs.Ytpcigmjbjcgdbaa
open Go.Lib Go.ChangeShapes Go.WideShapes Go.ChangeAt Go.RowKit

theorem Row.keep {w w' : World} {b : Nat} {t : TypeId} {cur : List Value} (h : Row w b t cur) (hb : Below w.heap.size w w') : Row w' b t cur :=
  h.upd (F := fun _ => False) (Upds.of_below hb (Nat.le_refl _)) (fun h => h)
set_option maxRecDepth 100000 in
theorem clip_any (f c : Int) (w : World) (h1 : -9223372036854775808 ≤ f ∧ f ≤ 9223372036854775807 ∧ -9223372036854775808 ≤ c ∧ c ≤ 9223372036854775807) :
    Calls Try.prog 68 #[.agg #[.int .i64 f, .int .i64 c]] w fun e w' => e = .returned (.agg #[.int .i64 (ex (f, c)).1, .int .i64 (ex (f, c)).2]) ∧ Below w.heap.size w w' := by
  have hX1 := ex_le (f, c)
  have hX2 := ex_zero (f, c)
  have hholds := fun t ht w => holds_any f c h1 t ht w
  obtain ⟨X, hX⟩ : ∃ X, X = ex (f, c) := ⟨_, rfl⟩
  rw [← hX] at hX1 hX2 hholds ⊢
  obtain ⟨F, C⟩ := X
  simp only at hX1 hX2 hholds ⊢
  have hz0 : C = 0 → F = 0 := fun h => by have := hX2 h; simp only [Prod.mk.injEq] at this; exact this.1
  have HZ := hid hz0
  have HH := hid hholds
  clear hX hX2 hz0 hholds h1
  go_enter Try.func68, Try.ntmps68
  go_wp2_with fail
  have r1 := Row.new w [.int .i64 f, .int .i64 c] 47
  have r2 := Row.new (w.alloc (.cells #[.int .i64 f, .int .i64 c] 47)) [.int .i64 0, .int .i64 0] 47
  have r3 := Row.new ((w.alloc (.cells #[.int .i64 f, .int .i64 c] 47)).alloc (.cells #[.int .i64 0, .int .i64 0] 47)) [.int .i64 0, .int .i64 0] 47
  simp only [World.size_alloc] at r2 r3
  have HR1 := hid ((r1.alloc (.cells #[.int .i64 0, .int .i64 0] 47)).alloc (.cells #[.int .i64 0, .int .i64 0] 47))
  have HR2 := hid (r2.alloc (.cells #[.int .i64 0, .int .i64 0] 47))
  have HR3 := hid r3
  have HB0 := hid ((((Below.refl w.heap.size w).alloc (Nat.le_refl _) (.cells #[.int .i64 f, .int .i64 c] 47)).alloc (by simp) (.cells #[.int .i64 0, .int .i64 0] 47)).alloc (by simp; omega) (.cells #[.int .i64 0, .int .i64 0] 47))
  clear r1 r2 r3
  obtain ⟨b1, hb1⟩ : ∃ b, b = w.heap.size := ⟨_, rfl⟩
  obtain ⟨b2, hb2⟩ : ∃ b, b = b1 + 1 := ⟨_, rfl⟩
  obtain ⟨b3, hb3⟩ : ∃ b, b = b2 + 1 := ⟨_, rfl⟩
  rw [← hb1, ← hb2, ← hb3] at HR3
  rw [← hb1, ← hb2] at HR2
  rw [← hb1] at HR1
  rw [← hb1, ← hb2, ← hb3]
  have HBS : Hid (w.heap.size ≤ b1 ∧ w.heap.size ≤ b2 ∧ w.heap.size ≤ b3 ∧ b1 ≠ b3 ∧ b2 ≠ b3 ∧ b1 ≠ b2) := hid (by omega)
  clear hb1 hb2 hb3
  go_loopw [4] (fun i wr => ∃ k x y : Nat, k ≤ 128 ∧ i = .int .i64 k ∧ y = min k (F + C) - F ∧ (y = 0 ∧ x = 0 ∨ 0 < y ∧ x = F) ∧ Row wr b1 47 [.int .i64 f, .int .i64 c] ∧ Row wr b2 47 [.int .i64 0, .int .i64 0] ∧ Row wr b3 47 [.int .i64 x, .int .i64 y] ∧ Below w.heap.size w wr) (fun i _ => 128 - (intOf i).toNat)
  case atStart => exact ⟨0, 0, 0, by omega, rfl, by omega, .inl ⟨rfl, rfl⟩, HR1.out, HR2.out, HR3.out, HB0.out⟩
  case round =>
    clear HR1 HR2 HR3 HB0
    obtain ⟨k, x, y, hk, rfl, hy, hxy, hr1, hr2, hr3, hb⟩ := hrel
    have HB := hid hb
    have R1 := hid hr1
    have R2 := hid hr2
    have R3 := hid hr3
    have HY := hid hy
    have HXY := hid hxy
    have hy2 : y ≤ 128 := by omega
    by_cases hlt : k < 128
    · have c1 := hr1.cell (i := 0) rfl
      have c2 := hr1.cell (i := 1) rfl
      clear hb hr1 hr2 hr3
      by_cases hin : F ≤ k ∧ k < F + C
      · have hd : decide (F ≤ k ∧ k < F + C) = true := decide_eq_true hin
        have HD := hid hd
        have hyk : y = k - F := by omega
        by_cases hy0 : y = 0
        · have hkF : k = F := by omega
          clear hy hxy hd
          have HYK := hid hyk
          have HY0 := hid hy0
          have HKF := hid hkF
          have hye : ((y : Int) == 0) = true := by simp; omega
          clear hyk hy0 hkF
          go_wp2_with (go_at_call 80; refine (HH.out k hlt _).mono ?_; rintro e w2 ⟨rfl, hb2⟩; rw [HD.out]; have d3 := (R3.out.keep hb2).cell (i := 0) rfl; have d4 := (R3.out.keep hb2).cell (i := 1) rfl; have d5 := (R3.out.keep hb2).frozen 0; have d6 := (R3.out.keep hb2).frozen 1)
          go_roundw
          case rel =>
            have e1 : (((y + 1 : Nat)) : Int) = (y : Int) + 1 := by omega
            refine ⟨k + 1, k, y + 1, by omega, by go_num, by have := HYK.out; omega, .inr ⟨by omega, HKF.out⟩, ?_, ?_, ?_, ?_⟩
            · exact ((R1.out.keep hb2).setOther (by have := HBS.out; simp; omega) _).setOther (by have := HBS.out; simp; omega) _
            · exact ((R2.out.keep hb2).setOther (by have := HBS.out; simp; omega) _).setOther (by have := HBS.out; simp; omega) _
            · rw [e1]; exact ((R3.out.keep hb2).set 0 _).set 1 _
            · exact ((HB.out.trans (hb2.mono HB.out.size)).setCell (by have := HBS.out; simp; omega) _).setCell (by have := HBS.out; simp; omega) _
          case measure => simp [intOf]; omega
        · have hxF : x = F := by omega
          clear hy hxy hd
          have HYK := hid hyk
          have HXF := hid hxF
          have hye : ((y : Int) == 0) = false := by simp; omega
          clear hyk hxF
          go_wp2_with (go_at_call 80; refine (HH.out k hlt _).mono ?_; rintro e w2 ⟨rfl, hb2⟩; rw [HD.out]; have d3 := (R3.out.keep hb2).cell (i := 0) rfl; have d4 := (R3.out.keep hb2).cell (i := 1) rfl; have d5 := (R3.out.keep hb2).frozen 0; have d6 := (R3.out.keep hb2).frozen 1)
          go_roundw
          case rel =>
            have e1 : (((y + 1 : Nat)) : Int) = (y : Int) + 1 := by omega
            refine ⟨k + 1, x, y + 1, by omega, by go_num, by have := HYK.out; omega, .inr ⟨by omega, HXF.out⟩, ?_, ?_, ?_, ?_⟩
            · exact (R1.out.keep hb2).setOther (by have := HBS.out; simp; omega) _
            · exact (R2.out.keep hb2).setOther (by have := HBS.out; simp; omega) _
            · rw [e1]; exact (R3.out.keep hb2).set 1 _
            · exact (HB.out.trans (hb2.mono HB.out.size)).setCell (by have := HBS.out; simp; omega) _
          case measure => simp [intOf]; omega
      · have hd : decide (F ≤ k ∧ k < F + C) = false := decide_eq_false hin
        have HD := hid hd
        have hyk : y = min (k + 1) (F + C) - F := by omega
        have HYK := hid hyk
        clear hy hxy hd hyk
        go_wp2_with (go_at_call 80; refine (HH.out k hlt _).mono ?_; rintro e w2 ⟨rfl, hb2⟩; rw [HD.out])
        go_roundw
        case rel => exact ⟨k + 1, x, y, by omega, by go_num, HYK.out, HXY.out, R1.out.keep hb2, R2.out.keep hb2, R3.out.keep hb2, HB.out.trans (hb2.mono HB.out.size)⟩
        case measure => simp [intOf]; omega
    · obtain rfl : k = 128 := by omega
      have hxF : x = F ∧ y = C := by have := HZ.out; omega
      obtain ⟨rfl, rfl⟩ := hxF
      have d1 := hr3.cell (i := 0) rfl
      have d2 := hr3.cell (i := 1) rfl
      have d3 := hr2.cell (i := 0) rfl
      have d4 := hr2.cell (i := 1) rfl
      have d5 := hr2.frozen 0
      have d6 := hr2.frozen 1
      clear hy hxy hr1 hr2 hr3 hb
      go_wp2_with fail
      refine bodyPost_ret (v := .agg #[.int .i64 x, .int .i64 y]) ?_ rfl ⟨rfl, (HB.out.setCell (by have := HBS.out; simp; omega) _).setCell (by have := HBS.out; simp; omega) _⟩
      simp [results, Try.results68, go_sem, d3, d4]
end Go.Proofs.Ytpcigmjbjcgdbaa
