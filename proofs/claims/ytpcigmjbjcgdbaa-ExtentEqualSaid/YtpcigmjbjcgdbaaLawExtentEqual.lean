/- Statement ExtentEqual: Sets contain the tracks that they should, and are equal if they contain the same ones. For all lists of at most 30 runs each, which is the statement's own bound. -/
import Derived.Test.YtpcigmjbjcgdbaaRows
import Derived.WalkKit
import Derived.ProofKit
import Derived.OpenShut
import Derived.ShutString
import Derived.ChangeOld
import Derived.Below
import Derived.Test.YtpcigmjbjcgdbaaExtM4
import Derived.Test.YtpcigmjbjcgdbaaSlices
import Derived.Test.YtpcigmjbjcgdbaaOpen
namespace Go.Proofs.Ytpcigmjbjcgdbaa
open Go.Lib Go.ChangeShapes Go.WideShapes Go.ChangeAt Go.RowKit
open Go.ChangeMaps (open_string shut_string)
set_option linter.unusedVariables false
set_option maxRecDepth 100000 in
theorem long_ExtentEqual (a : List (Int × Int)) (Aa : Option Addr) (capa : Nat) (b : List (Int × Int)) (Ab : Option Addr) (capb : Nat) {w : World} (hca : a.length ≤ capa) (hda : capa ≤ 9223372036854775807) (hra : RunsAt w (.slice Aa a.length capa) a) (hcb : b.length ≤ capb) (hdb : capb ≤ 9223372036854775807) (hrb : RunsAt w (.slice Ab b.length capb) b) (hlong : ¬ (a.length ≤ 30 ∧ b.length ≤ 30)) :
    Calls Try.prog 7 #[.slice Aa a.length capa, .slice Ab b.length capb] w (Answers true w) := by
  clear hra
  clear hrb
  by_cases h1 : a.length ≤ 30
  · have h2 : ¬ b.length ≤ 30 := fun h => hlong ⟨h1, h⟩
    clear hlong
    go_enter Try.func7, Try.ntmps7
    go_wp2_with fail
    refine (awake_any _).mono ?_
    rintro e w1 ⟨rfl, hb⟩
    have B1 := hid (hb)
    clear hb
    go_wp2_with fail
    refine (awake_any _).mono ?_
    rintro e w2 ⟨rfl, hb⟩
    have B2 := hid (B1.out.trans (hb.mono B1.out.size))
    clear hb
    go_wp2_with fail
    go_ret
    exact ⟨rfl, B2.out⟩
  · clear hlong
    go_enter Try.func7, Try.ntmps7
    go_wp2_with fail
    refine (awake_any _).mono ?_
    rintro e w1 ⟨rfl, hb⟩
    have B1 := hid (hb)
    clear hb
    go_wp2_with fail
    refine (awake_any _).mono ?_
    rintro e w2 ⟨rfl, hb⟩
    have B2 := hid (B1.out.trans (hb.mono B1.out.size))
    clear hb
    go_wp2_with fail
    go_ret
    exact ⟨rfl, B2.out⟩
set_option maxRecDepth 100000 in
set_option maxHeartbeats 4000000 in
theorem short_ExtentEqual (a : List (Int × Int)) (Aa : Option Addr) (capa : Nat) (b : List (Int × Int)) (Ab : Option Addr) (capb : Nat) {w : World} (hca : a.length ≤ capa) (hda : capa ≤ 9223372036854775807) (hra : RunsAt w (.slice Aa a.length capa) a) (hcb : b.length ≤ capb) (hdb : capb ≤ 9223372036854775807) (hrb : RunsAt w (.slice Ab b.length capb) b) (hsa : a.length ≤ 30) (hsb : b.length ≤ 30) :
    Calls Try.prog 7 #[.slice Aa a.length capa, .slice Ab b.length capb] w (Answers true w) := by
  have Ha := hid hra
  have Ka : Hid (a.length ≤ 4000) := by show _ ≤ _; omega
  clear hra
  have Hb := hid hrb
  have Kb : Hid (b.length ≤ 4000) := by show _ ≤ _; omega
  clear hrb
  go_enter Try.func7, Try.ntmps7
  go_wp2_with fail
  refine (awake_any _).mono ?_
  rintro e w1 ⟨rfl, hb⟩
  replace Ha := hid (Ha.out.below hb (Nat.le_refl _))
  replace Hb := hid (Hb.out.below hb (Nat.le_refl _))
  have B1 := hid (hb)
  clear hb
  go_wp2_with fail
  refine (union_any _ _ a b Ka.out Kb.out _ Ha.out Hb.out).mono ?_
  rintro e w2 ⟨u, rfl, h1, h2, hb⟩
  replace Ha := hid (Ha.out.below hb (Nat.le_refl _))
  replace Hb := hid (Hb.out.below hb (Nat.le_refl _))
  have B2 := hid (B1.out.trans (hb.mono B1.out.size))
  have Hu := hid (OwnRuns.at h1 (norm_bd _))
  clear h1 h2 hb
  go_wp2_with fail
  refine (common_any _ _ a b Ka.out Kb.out _ Ha.out Hb.out).mono ?_
  rintro e w3 ⟨c, rfl, h1, h2, hb⟩
  replace Ha := hid (Ha.out.below hb (Nat.le_refl _))
  replace Hb := hid (Hb.out.below hb (Nat.le_refl _))
  replace Hu := hid (Hu.out.below hb (Nat.le_refl _))
  have B3 := hid (B2.out.trans (hb.mono B2.out.size))
  have Hc := hid (OwnRuns.at h1 (norm_bd _))
  clear h1 h2 hb
  go_wp2_with fail
  refine (minus_any _ _ a b Ka.out Kb.out _ Ha.out Hb.out).mono ?_
  rintro e w4 ⟨m, rfl, h1, h2, hb⟩
  replace Ha := hid (Ha.out.below hb (Nat.le_refl _))
  replace Hb := hid (Hb.out.below hb (Nat.le_refl _))
  replace Hu := hid (Hu.out.below hb (Nat.le_refl _))
  replace Hc := hid (Hc.out.below hb (Nat.le_refl _))
  have B4 := hid (B3.out.trans (hb.mono B3.out.size))
  have Hm := hid (OwnRuns.at h1 (norm_bd _))
  clear h1 h2 hb
  go_wp2_with fail
  refine (valid_any _ (norm fun t => inB a t || inB b t) (norm_len _) _ Hu.out).mono ?_
  rintro e w5 ⟨rfl, hb⟩
  rw [norm_inB]
  rw [decide_eq_true (rfl : (norm fun t => inB a t || inB b t) = (norm fun t => inB a t || inB b t))]
  replace Ha := hid (Ha.out.below hb (Nat.le_refl _))
  replace Hb := hid (Hb.out.below hb (Nat.le_refl _))
  replace Hu := hid (Hu.out.below hb (Nat.le_refl _))
  replace Hc := hid (Hc.out.below hb (Nat.le_refl _))
  replace Hm := hid (Hm.out.below hb (Nat.le_refl _))
  have B5 := hid (B4.out.trans (hb.mono B4.out.size))
  clear hb
  go_wp2_with fail
  refine (valid_any _ (norm fun t => inB a t && inB b t) (norm_len _) _ Hc.out).mono ?_
  rintro e w6 ⟨rfl, hb⟩
  rw [norm_inB]
  rw [decide_eq_true (rfl : (norm fun t => inB a t && inB b t) = (norm fun t => inB a t && inB b t))]
  replace Ha := hid (Ha.out.below hb (Nat.le_refl _))
  replace Hb := hid (Hb.out.below hb (Nat.le_refl _))
  replace Hu := hid (Hu.out.below hb (Nat.le_refl _))
  replace Hc := hid (Hc.out.below hb (Nat.le_refl _))
  replace Hm := hid (Hm.out.below hb (Nat.le_refl _))
  have B6 := hid (B5.out.trans (hb.mono B5.out.size))
  clear hb
  go_wp2_with fail
  refine (valid_any _ (norm fun t => inB a t && !inB b t) (norm_len _) _ Hm.out).mono ?_
  rintro e w7 ⟨rfl, hb⟩
  rw [norm_inB]
  rw [decide_eq_true (rfl : (norm fun t => inB a t && !inB b t) = (norm fun t => inB a t && !inB b t))]
  replace Ha := hid (Ha.out.below hb (Nat.le_refl _))
  replace Hb := hid (Hb.out.below hb (Nat.le_refl _))
  replace Hu := hid (Hu.out.below hb (Nat.le_refl _))
  replace Hc := hid (Hc.out.below hb (Nat.le_refl _))
  replace Hm := hid (Hm.out.below hb (Nat.le_refl _))
  have B7 := hid (B6.out.trans (hb.mono B6.out.size))
  clear hb
  go_wp2_with fail
  go_loopw [8, 9] (fun s i wr => ∃ (k : Nat) (z : Int), k ≤ 130 ∧ z = (k : Int) - 1 ∧ i = .int .i64 z ∧ s = .bool (agr a b k) ∧ Below w7.heap.size w7 wr) (fun _ i _ => (129 - intOf i).toNat)
  case atStart => exact ⟨0, -1, by omega, by omega, rfl, rfl, Below.refl _ _⟩
  case round =>
    obtain ⟨k, z, hk, hz, rfl, rfl, hb⟩ := hrel
    have HB := hid hb
    have HZ := hid hz
    have hz1 : -1 ≤ z := by omega
    have hz2 : z ≤ 129 := by omega
    by_cases hlt : z ≤ 128
    · have hag : agr a b (k + 1) = (agr a b k && (hasT a z == hasT b z)) := by rw [hz]; rfl
      have hu : (FirstAt (seqI (norm fun t => inB a t || inB b t)) z).2 = (hasT a z || hasT b z) := hasT_op (fun x y => x || y) rfl a b z
      have hc : (FirstAt (seqI (norm fun t => inB a t && inB b t)) z).2 = (hasT a z && hasT b z) := hasT_op (fun x y => x && y) rfl a b z
      have hm : (FirstAt (seqI (norm fun t => inB a t && !inB b t)) z).2 = (hasT a z && !hasT b z) := hasT_op (fun x y => x && !y) rfl a b z
      have hx : (FirstAt (seqI a) z).2 = hasT a z := rfl
      have hy : (FirstAt (seqI b) z).2 = hasT b z := rfl
      have hrg : (hasT a z || hasT b z) = true → 0 ≤ z ∧ z < 128 := by
        intro h
        by_cases hin : 0 ≤ z ∧ z < 128
        · exact hin
        · rw [hasT_out a z (by omega), hasT_out b z (by omega)] at h; cases h
      have HT : Hid (-9223372036854775808 ≤ z ∧ z ≤ 9223372036854775807) := hid (by omega)
      obtain ⟨x, ex⟩ : ∃ x, x = hasT a z := ⟨_, rfl⟩
      obtain ⟨y, ey⟩ : ∃ y, y = hasT b z := ⟨_, rfl⟩
      obtain ⟨s, es⟩ : ∃ s, s = agr a b k := ⟨_, rfl⟩
      obtain ⟨s2, es2⟩ : ∃ s, s = agr a b (k + 1) := ⟨_, rfl⟩
      rw [← ex, ← ey] at hu hc hm hag hrg
      rw [← ex] at hx
      rw [← ey] at hy
      rw [← es, ← es2] at hag
      rw [← es]
      have Ghu := hid hu
      have Ghc := hid hc
      have Ghm := hid hm
      have Ghx := hid hx
      have Ghy := hid hy
      have Ghrg := hid hrg
      have Ghag := hid hag
      have Ges2 := hid es2
      clear hu hc hm hx hy hrg hag es es2 ex ey hb hz
      cases x <;> cases y <;> cases s
      all_goals
        try obtain ⟨g1, g2⟩ := Ghrg.out rfl
        clear Ghrg
        go_wp2_with fail
        refine (contains_any _ a Ka.out z HT.out _ (Ha.out.below HB.out (Nat.le_refl _))).mono ?_
        rintro e y1 ⟨rfl, hb⟩
        rw [Ghx.out]
        have E1 := hid (HB.out.trans (hb.mono HB.out.size))
        clear hb
        go_wp2_with fail
        refine (contains_any _ b Kb.out z HT.out _ (Hb.out.below E1.out (Nat.le_refl _))).mono ?_
        rintro e y2 ⟨rfl, hb⟩
        rw [Ghy.out]
        have E2 := hid (E1.out.trans (hb.mono E1.out.size))
        clear hb
        go_wp2_with fail
        refine (contains_any _ (norm fun t => inB a t || inB b t) (norm_len _) z HT.out _ (Hu.out.below E2.out (Nat.le_refl _))).mono ?_
        rintro e y3 ⟨rfl, hb⟩
        rw [Ghu.out]
        have E3 := hid (E2.out.trans (hb.mono E2.out.size))
        clear hb
        go_wp2_with fail
        refine (contains_any _ (norm fun t => inB a t && inB b t) (norm_len _) z HT.out _ (Hc.out.below E3.out (Nat.le_refl _))).mono ?_
        rintro e y4 ⟨rfl, hb⟩
        rw [Ghc.out]
        have E4 := hid (E3.out.trans (hb.mono E3.out.size))
        clear hb
        go_wp2_with fail
        refine (contains_any _ (norm fun t => inB a t && !inB b t) (norm_len _) z HT.out _ (Hm.out.below E4.out (Nat.le_refl _))).mono ?_
        rintro e y5 ⟨rfl, hb⟩
        rw [Ghm.out]
        have E5 := hid (E4.out.trans (hb.mono E4.out.size))
        clear hb
        go_wp2_with fail
        go_roundw
        case rel => exact ⟨k + 1, z + 1, by have := HZ.out; omega, by have := HZ.out; omega, by first | rfl | go_num, by rw [← Ges2.out, Ghag.out]; rfl, E5.out⟩
        case measure => simp [intOf]; omega
    · have hk2 : k = 130 := by omega
      subst hk2
      rw [agr_all]
      obtain ⟨R, hR⟩ : ∃ R, R = decide (norm (inB a) = norm (inB b)) := ⟨_, rfl⟩
      rw [← hR]
      have HR := hid hR
      clear hR hb hz
      go_wp2_with fail
      refine (normal_any _ a Ka.out _ (Ha.out.below HB.out (Nat.le_refl _))).mono ?_
      rintro e y1 ⟨p, rfl, h1, h2, hb⟩
      have E1 := hid (HB.out.trans (hb.mono HB.out.size))
      have Hp := hid (OwnRuns.at h1 (norm_bd _))
      clear h1 h2 hb
      go_wp2_with fail
      refine (normal_any _ b Kb.out _ (Hb.out.below E1.out (Nat.le_refl _))).mono ?_
      rintro e y2 ⟨q, rfl, h1, h2, hb⟩
      have E2 := hid (E1.out.trans (hb.mono E1.out.size))
      have Hq := hid (OwnRuns.at h1 (norm_bd _))
      replace Hp := hid (Hp.out.below hb (Nat.le_refl _))
      clear h1 h2 hb
      go_wp2_with fail
      refine (same_any _ _ (norm (inB a)) (norm (inB b)) (norm_len _) (norm_len _) _ Hp.out Hq.out).mono ?_
      rintro e y3 ⟨rfl, hb⟩
      rw [← HR.out]
      have E3 := hid (E2.out.trans (hb.mono E2.out.size))
      clear hb
      go_wp2_with fail
      go_ret
      exact ⟨rfl, B7.out.trans (E3.out.mono B7.out.size)⟩
theorem main_ExtentEqual (a : List (Int × Int)) (Aa : Option Addr) (capa : Nat) (b : List (Int × Int)) (Ab : Option Addr) (capb : Nat) {w : World} (hca : a.length ≤ capa) (hda : capa ≤ 9223372036854775807) (hra : RunsAt w (.slice Aa a.length capa) a) (hcb : b.length ≤ capb) (hdb : capb ≤ 9223372036854775807) (hrb : RunsAt w (.slice Ab b.length capb) b) :
    Calls Try.prog 7 #[.slice Aa a.length capa, .slice Ab b.length capb] w (Answers true w) := by
  by_cases h : a.length ≤ 30 ∧ b.length ≤ 30
  · exact short_ExtentEqual a Aa capa b Ab capb hca hda hra hcb hdb hrb  h.1 h.2
  · exact long_ExtentEqual a Aa capa b Ab capb hca hda hra hcb hdb hrb h
theorem walk_ExtentEqual (Aa : Option Addr) (lena capa : Nat) (Ca : Nat → Nat → Value) (Ab : Option Addr) (lenb capb : Nat) (Cb : Nat → Nat → Value) (w : World) (hla : lena ≤ capa) (hma : capa ≤ maxLen) (hEa : Elems w Aa lena 2 Ca) (ha0 : ∀ i, i < lena → ∃ n : Int, Ca i 0 = .int .i64 n ∧ -9223372036854775808 ≤ n ∧ n ≤ 9223372036854775807) (ha1 : ∀ i, i < lena → ∃ n : Int, Ca i 1 = .int .i64 n ∧ -9223372036854775808 ≤ n ∧ n ≤ 9223372036854775807) (hlb : lenb ≤ capb) (hmb : capb ≤ maxLen) (hEb : Elems w Ab lenb 2 Cb) (hb0 : ∀ i, i < lenb → ∃ n : Int, Cb i 0 = .int .i64 n ∧ -9223372036854775808 ≤ n ∧ n ≤ 9223372036854775807) (hb1 : ∀ i, i < lenb → ∃ n : Int, Cb i 1 = .int .i64 n ∧ -9223372036854775808 ≤ n ∧ n ≤ 9223372036854775807) :
    Calls Try.prog 7 #[.slice Aa lena capa, .slice Ab lenb capb] w fun e w' => e = .returned (.bool true) ∧ Below w.heap.size w w' := by
  obtain ⟨a, hna, hra⟩ := runs_of hla hma hEa ha0 ha1
  subst hna
  unfold maxLen at hma
  obtain ⟨b, hnb, hrb⟩ := runs_of hlb hmb hEb hb0 hb1
  subst hnb
  unfold maxLen at hmb
  exact main_ExtentEqual a _ capa b _ capb hla (by omega) hra hlb (by omega) hrb
namespace extentEqual
theorem own : ownKnob Try.prog.godebug = none := by kernel_rfl
theorem laidOut : laidOutB Try.prog = true := by kernel_rfl
set_option linter.unusedVariables false
set_option maxRecDepth 100000 in
theorem lifted (os : Os) (started : os.Started) (H : Type) (enc : TypeId × Value → H) :
    ReturnsInHanded {} Try.checked os 7 .any (Rows.extentEqualSpec.pre6 enc Try.prog Try.f7 Rows.extentEqualRow.domain false) (Rows.extentEqualSpec.post enc Try.prog Try.f7 false true false false) := by
  refine returnsInHanded_of_change (C := Try.checked) own started (by kernel_rfl) Try.func7
    (ChangeSpec.witness6 (enc := enc) (C := Try.checked) false ⟨#[], #[.slice none 0 0, .slice none 0 0], []⟩ 8 (by kernel_rfl) (by kernel_rfl) (by kernel_rfl) (by kernel_rfl)) ?_
  intro W base args ds gs before hval0 hW hcnd _
  have hval : ∀ (j : Nat) t v, Try.f7.params[j]? = some t → args[j]? = some v → Value.okWide Try.prog W .any base t v := hval0
  have hW' := hW
  obtain ⟨p, q, hA0, hV, rfl, hfz, hnd⟩ := hW
  have hA : DataW.TrodAll enc Try.prog W 0 (fun _ => true) true Try.f7.params.toList args.toList ds p := hA0
  rw [Try.params7] at hA hval
  obtain ⟨v0, vs0, d0, ds0, p0, q0, hargs, rfl, rfl, h0, r0⟩ := trodAll_cons hA
  obtain ⟨v1, vs1, d1, ds1, p1, q1, rfl, rfl, rfl, h1, r1⟩ := trodAll_cons r0
  obtain ⟨rfl, rfl, rfl⟩ := trodAll_nil r1
  obtain rfl : args = #[v0, v1] := by cases args; simp_all
  obtain ⟨rfl, rfl⟩ := trodVars_none hV
  obtain ⟨a0, len0, cap0, rfl⟩ := okWide_slice Try.underlying22 (hval 0 22 v0 rfl rfl)
  have k0 := h0
  have lt0 : ∀ x ∈ p0, x.block < W.heap.size := by obtain ⟨m, hm⟩ := k0; exact DataW.trod_lt m _ _ _ hm
  obtain ⟨fuel0, hf0⟩ := h0
  obtain ⟨A0, l0, c0, C0, hcs0, hl0, hm0, hE0, hF0⟩ := open_elems Try.underlying22 Try.underlying47 (by kernel_rfl) (by kernel_rfl) (by decide) hf0
  simp only [Value.cells, List.cons.injEq, Value.slice.injEq, and_true] at hcs0
  obtain ⟨rfl, rfl, rfl⟩ := hcs0
  have s0_0 : ∀ i, i < len0 → ∃ n : Int, C0 i 0 = .int .i64 n ∧ -9223372036854775808 ≤ n ∧ n ≤ 9223372036854775807 := fun i hi => by obtain ⟨y, n, hy⟩ := hF0 i 0 _ hi rfl; obtain ⟨n, e, _, hw⟩ := DataW.trod_int Try.underlying3 hy; exact ⟨n, List.head_eq_of_cons_eq e, bounds_i64 hw⟩
  have s0_1 : ∀ i, i < len0 → ∃ n : Int, C0 i 1 = .int .i64 n ∧ -9223372036854775808 ≤ n ∧ n ≤ 9223372036854775807 := fun i hi => by obtain ⟨y, n, hy⟩ := hF0 i 1 _ hi rfl; obtain ⟨n, e, _, hw⟩ := DataW.trod_int Try.underlying3 hy; exact ⟨n, List.head_eq_of_cons_eq e, bounds_i64 hw⟩
  obtain ⟨a1, len1, cap1, rfl⟩ := okWide_slice Try.underlying22 (hval 1 22 v1 rfl rfl)
  have k1 := h1
  have lt1 : ∀ x ∈ p1, x.block < W.heap.size := by obtain ⟨m, hm⟩ := k1; exact DataW.trod_lt m _ _ _ hm
  obtain ⟨fuel1, hf1⟩ := h1
  obtain ⟨A1, l1, c1, C1, hcs1, hl1, hm1, hE1, hF1⟩ := open_elems Try.underlying22 Try.underlying47 (by kernel_rfl) (by kernel_rfl) (by decide) hf1
  simp only [Value.cells, List.cons.injEq, Value.slice.injEq, and_true] at hcs1
  obtain ⟨rfl, rfl, rfl⟩ := hcs1
  have s1_0 : ∀ i, i < len1 → ∃ n : Int, C1 i 0 = .int .i64 n ∧ -9223372036854775808 ≤ n ∧ n ≤ 9223372036854775807 := fun i hi => by obtain ⟨y, n, hy⟩ := hF1 i 0 _ hi rfl; obtain ⟨n, e, _, hw⟩ := DataW.trod_int Try.underlying3 hy; exact ⟨n, List.head_eq_of_cons_eq e, bounds_i64 hw⟩
  have s1_1 : ∀ i, i < len1 → ∃ n : Int, C1 i 1 = .int .i64 n ∧ -9223372036854775808 ≤ n ∧ n ≤ 9223372036854775807 := fun i hi => by obtain ⟨y, n, hy⟩ := hF1 i 1 _ hi rfl; obtain ⟨n, e, _, hw⟩ := DataW.trod_int Try.underlying3 hy; exact ⟨n, List.head_eq_of_cons_eq e, bounds_i64 hw⟩
  clear hA0 hval0
  refine (walk_ExtentEqual a0 len0 cap0 C0 a1 len1 cap1 C1 hl0 hm0 hE0 s0_0 s0_1 hl1 hm1 hE1 s1_0 s1_1 (w := W)).mono fun e W' ⟨he, bel⟩ => ?_
  subst he
  exact ⟨_, rfl, _, _, _, [], _, [], hW', trodAll_mk1 (shut_bool Try.underlying4 _), (trodAll_cons_mk (Below.trod laidOut (by kernel_rfl) (of_decide_eq_true (by kernel_rfl)) k0 bel lt0) (trodAll_cons_mk (Below.trod laidOut (by kernel_rfl) (of_decide_eq_true (by kernel_rfl)) k1 bel lt1) trodAll_mk0)), rfl, bel.frame _, fun h => by cases h⟩
theorem over : Rows.extentEqualRow.holds Try.pinned (OpenSpec.ofChange Rows.extentEqualSpec) :=
  OpenClaim.holds_of_wide 7 Try.f7 rfl rfl rfl rfl rfl rfl rfl ⟨rfl, rfl, rfl, rfl, rfl⟩ rfl rfl rfl rfl rfl (by kernel_rfl) Try.func7 (by kernel_rfl)
    (of_decide_eq_true (by kernel_rfl)) (by unfold Func.isWrapper; first | (rw [if_pos (by decide +kernel)]; kernel_rfl) | (rw [if_neg (by decide +kernel)]; exact ⟨rfl, rfl⟩))
    (fun os started H enc _ => lifted os started H enc)
theorem proved : Rows.ExtentEqualSaid := over
end extentEqual

end Go.Proofs.Ytpcigmjbjcgdbaa
