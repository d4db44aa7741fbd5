/- Statement ExtentSets: Union, Common, Minus and Contains return what the specification says, for any runs. For all lists of at most 30 runs each, which is the statement's own bound. -/
import Derived.Test.YtpcigmjbjcgdbaaRows
import Derived.WalkKit
import Derived.ProofKit
import Derived.OpenShut
import Derived.ShutString
import Derived.ChangeOld
import Derived.Below
import Derived.Test.YtpcigmjbjcgdbaaExtL
import Derived.Test.YtpcigmjbjcgdbaaSlices
import Derived.Test.YtpcigmjbjcgdbaaOpen
namespace Go.Proofs.Ytpcigmjbjcgdbaa
open Go.Lib Go.ChangeShapes Go.WideShapes Go.ChangeAt Go.RowKit
open Go.ChangeMaps (open_string shut_string)
set_option linter.unusedVariables false
set_option maxRecDepth 100000 in
theorem long_ExtentSets (a : List (Int × Int)) (Aa : Option Addr) (capa : Nat) (b : List (Int × Int)) (Ab : Option Addr) (capb : Nat) (track : Int) {w : World} (hca : a.length ≤ capa) (hda : capa ≤ 9223372036854775807) (hra : RunsAt w (.slice Aa a.length capa) a) (hcb : b.length ≤ capb) (hdb : capb ≤ 9223372036854775807) (hrb : RunsAt w (.slice Ab b.length capb) b) (htrack : -9223372036854775808 ≤ track ∧ track ≤ 9223372036854775807) (hlong : ¬ (a.length ≤ 30 ∧ b.length ≤ 30)) :
    Calls Try.prog 4 #[.slice Aa a.length capa, .slice Ab b.length capb, .int .i64 track] w (Answers true w) := by
  clear hra
  clear hrb
  by_cases h1 : a.length ≤ 30
  · have h2 : ¬ b.length ≤ 30 := fun h => hlong ⟨h1, h⟩
    clear hlong
    go_enter Try.func4, Try.ntmps4
    go_wp2_with fail
    refine (awake_any _).mono ?_
    rintro e w1 ⟨rfl, hb⟩
    have B1 := hid (hb)
    clear hb
    go_wp2_with fail
    refine (awake_any _).mono ?_
    rintro e w2 ⟨rfl, hb⟩
    have B2 := hid (B1.out.trans (hb.mono B1.out.size))
    clear hb
    go_wp2_with fail
    go_ret
    exact ⟨rfl, B2.out⟩
  · clear hlong
    go_enter Try.func4, Try.ntmps4
    go_wp2_with fail
    refine (awake_any _).mono ?_
    rintro e w1 ⟨rfl, hb⟩
    have B1 := hid (hb)
    clear hb
    go_wp2_with fail
    refine (awake_any _).mono ?_
    rintro e w2 ⟨rfl, hb⟩
    have B2 := hid (B1.out.trans (hb.mono B1.out.size))
    clear hb
    go_wp2_with fail
    go_ret
    exact ⟨rfl, B2.out⟩
set_option maxRecDepth 100000 in
set_option maxHeartbeats 4000000 in
theorem short_ExtentSets (a : List (Int × Int)) (Aa : Option Addr) (capa : Nat) (b : List (Int × Int)) (Ab : Option Addr) (capb : Nat) (track : Int) {w : World} (hca : a.length ≤ capa) (hda : capa ≤ 9223372036854775807) (hra : RunsAt w (.slice Aa a.length capa) a) (hcb : b.length ≤ capb) (hdb : capb ≤ 9223372036854775807) (hrb : RunsAt w (.slice Ab b.length capb) b) (htrack : -9223372036854775808 ≤ track ∧ track ≤ 9223372036854775807) (hsa : a.length ≤ 30) (hsb : b.length ≤ 30) :
    Calls Try.prog 4 #[.slice Aa a.length capa, .slice Ab b.length capb, .int .i64 track] w (Answers true w) := by
  have Ha := hid hra
  have Ka : Hid (a.length ≤ 4000) := by show _ ≤ _; omega
  clear hra
  have Hb := hid hrb
  have Kb : Hid (b.length ≤ 4000) := by show _ ≤ _; omega
  clear hrb
  obtain ⟨R, hR⟩ : ∃ R, R = (FirstAt (seqI a) track).2 := ⟨_, rfl⟩
  have HR := hid hR
  have HT := hid htrack
  clear hR htrack
  go_enter Try.func4, Try.ntmps4
  go_wp2_with fail
  refine (awake_any _).mono ?_
  rintro e w1 ⟨rfl, hb⟩
  replace Ha := hid (Ha.out.below hb (Nat.le_refl _))
  replace Hb := hid (Hb.out.below hb (Nat.le_refl _))
  have B1 := hid (hb)
  clear hb
  go_wp2_with fail
  refine (union_any _ _ a b Ka.out Kb.out _ Ha.out Hb.out).mono ?_
  rintro e w2 ⟨u, rfl, h1, h2, hb⟩
  replace Ha := hid (Ha.out.below hb (Nat.le_refl _))
  replace Hb := hid (Hb.out.below hb (Nat.le_refl _))
  have B2 := hid (B1.out.trans (hb.mono B1.out.size))
  have Hu := hid (OwnRuns.at h1 (norm_bd _))
  clear h1 h2 hb
  go_wp2_with fail
  refine (setOf_any true true true (.inl ⟨rfl, rfl, rfl⟩) _ _ a b Ka.out Kb.out _ Ha.out Hb.out).mono ?_
  rintro e w3 ⟨u2, rfl, h1, h2, hb⟩
  rw [wish_union] at h1
  replace Ha := hid (Ha.out.below hb (Nat.le_refl _))
  replace Hb := hid (Hb.out.below hb (Nat.le_refl _))
  replace Hu := hid (Hu.out.below hb (Nat.le_refl _))
  have B3 := hid (B2.out.trans (hb.mono B2.out.size))
  have Hu2 := hid (OwnRuns.at h1 (norm_bd _))
  clear h1 h2 hb
  go_wp2_with fail
  refine (same_any _ _ (norm fun t => inB a t || inB b t) (norm fun t => inB a t || inB b t) (norm_len _) (norm_len _) _ Hu.out Hu2.out).mono ?_
  rintro e w4 ⟨rfl, hb⟩
  rw [decide_eq_true (rfl : (norm fun t => inB a t || inB b t) = (norm fun t => inB a t || inB b t))]
  replace Ha := hid (Ha.out.below hb (Nat.le_refl _))
  replace Hb := hid (Hb.out.below hb (Nat.le_refl _))
  replace Hu := hid (Hu.out.below hb (Nat.le_refl _))
  replace Hu2 := hid (Hu2.out.below hb (Nat.le_refl _))
  have B4 := hid (B3.out.trans (hb.mono B3.out.size))
  clear hb
  go_wp2_with fail
  refine (common_any _ _ a b Ka.out Kb.out _ Ha.out Hb.out).mono ?_
  rintro e w5 ⟨c, rfl, h1, h2, hb⟩
  replace Ha := hid (Ha.out.below hb (Nat.le_refl _))
  replace Hb := hid (Hb.out.below hb (Nat.le_refl _))
  have B5 := hid (B4.out.trans (hb.mono B4.out.size))
  have Hc := hid (OwnRuns.at h1 (norm_bd _))
  clear h1 h2 hb
  go_wp2_with fail
  refine (setOf_any false false true (.inr (.inl ⟨rfl, rfl, rfl⟩)) _ _ a b Ka.out Kb.out _ Ha.out Hb.out).mono ?_
  rintro e w6 ⟨c2, rfl, h1, h2, hb⟩
  rw [wish_common] at h1
  replace Ha := hid (Ha.out.below hb (Nat.le_refl _))
  replace Hb := hid (Hb.out.below hb (Nat.le_refl _))
  replace Hc := hid (Hc.out.below hb (Nat.le_refl _))
  have B6 := hid (B5.out.trans (hb.mono B5.out.size))
  have Hc2 := hid (OwnRuns.at h1 (norm_bd _))
  clear h1 h2 hb
  go_wp2_with fail
  refine (same_any _ _ (norm fun t => inB a t && inB b t) (norm fun t => inB a t && inB b t) (norm_len _) (norm_len _) _ Hc.out Hc2.out).mono ?_
  rintro e w7 ⟨rfl, hb⟩
  rw [decide_eq_true (rfl : (norm fun t => inB a t && inB b t) = (norm fun t => inB a t && inB b t))]
  replace Ha := hid (Ha.out.below hb (Nat.le_refl _))
  replace Hb := hid (Hb.out.below hb (Nat.le_refl _))
  replace Hc := hid (Hc.out.below hb (Nat.le_refl _))
  replace Hc2 := hid (Hc2.out.below hb (Nat.le_refl _))
  have B7 := hid (B6.out.trans (hb.mono B6.out.size))
  clear hb
  go_wp2_with fail
  refine (minus_any _ _ a b Ka.out Kb.out _ Ha.out Hb.out).mono ?_
  rintro e w8 ⟨m, rfl, h1, h2, hb⟩
  replace Ha := hid (Ha.out.below hb (Nat.le_refl _))
  replace Hb := hid (Hb.out.below hb (Nat.le_refl _))
  have B8 := hid (B7.out.trans (hb.mono B7.out.size))
  have Hm := hid (OwnRuns.at h1 (norm_bd _))
  clear h1 h2 hb
  go_wp2_with fail
  refine (setOf_any true false false (.inr (.inr ⟨rfl, rfl, rfl⟩)) _ _ a b Ka.out Kb.out _ Ha.out Hb.out).mono ?_
  rintro e w9 ⟨m2, rfl, h1, h2, hb⟩
  rw [wish_minus] at h1
  replace Ha := hid (Ha.out.below hb (Nat.le_refl _))
  replace Hb := hid (Hb.out.below hb (Nat.le_refl _))
  replace Hm := hid (Hm.out.below hb (Nat.le_refl _))
  have B9 := hid (B8.out.trans (hb.mono B8.out.size))
  have Hm2 := hid (OwnRuns.at h1 (norm_bd _))
  clear h1 h2 hb
  go_wp2_with fail
  refine (same_any _ _ (norm fun t => inB a t && !inB b t) (norm fun t => inB a t && !inB b t) (norm_len _) (norm_len _) _ Hm.out Hm2.out).mono ?_
  rintro e w10 ⟨rfl, hb⟩
  rw [decide_eq_true (rfl : (norm fun t => inB a t && !inB b t) = (norm fun t => inB a t && !inB b t))]
  replace Ha := hid (Ha.out.below hb (Nat.le_refl _))
  replace Hb := hid (Hb.out.below hb (Nat.le_refl _))
  replace Hm := hid (Hm.out.below hb (Nat.le_refl _))
  replace Hm2 := hid (Hm2.out.below hb (Nat.le_refl _))
  have B10 := hid (B9.out.trans (hb.mono B9.out.size))
  clear hb
  go_wp2_with fail
  refine (contains_any _ a Ka.out track HT.out _ Ha.out).mono ?_
  rintro e w11 ⟨rfl, hb⟩
  rw [← HR.out]
  replace Ha := hid (Ha.out.below hb (Nat.le_refl _))
  replace Hb := hid (Hb.out.below hb (Nat.le_refl _))
  have B11 := hid (B10.out.trans (hb.mono B10.out.size))
  clear hb
  go_wp2_with fail
  refine (in_any _ a Ka.out track HT.out _ Ha.out).mono ?_
  rintro e w12 ⟨rfl, hb⟩
  rw [← HR.out]
  replace Ha := hid (Ha.out.below hb (Nat.le_refl _))
  replace Hb := hid (Hb.out.below hb (Nat.le_refl _))
  have B12 := hid (B11.out.trans (hb.mono B11.out.size))
  clear hb
  go_wp2_with fail
  go_ret
  exact ⟨rfl, B12.out⟩
theorem main_ExtentSets (a : List (Int × Int)) (Aa : Option Addr) (capa : Nat) (b : List (Int × Int)) (Ab : Option Addr) (capb : Nat) (track : Int) {w : World} (hca : a.length ≤ capa) (hda : capa ≤ 9223372036854775807) (hra : RunsAt w (.slice Aa a.length capa) a) (hcb : b.length ≤ capb) (hdb : capb ≤ 9223372036854775807) (hrb : RunsAt w (.slice Ab b.length capb) b) (htrack : -9223372036854775808 ≤ track ∧ track ≤ 9223372036854775807) :
    Calls Try.prog 4 #[.slice Aa a.length capa, .slice Ab b.length capb, .int .i64 track] w (Answers true w) := by
  by_cases h : a.length ≤ 30 ∧ b.length ≤ 30
  · exact short_ExtentSets a Aa capa b Ab capb track hca hda hra hcb hdb hrb htrack  h.1 h.2
  · exact long_ExtentSets a Aa capa b Ab capb track hca hda hra hcb hdb hrb htrack h
theorem walk_ExtentSets (Aa : Option Addr) (lena capa : Nat) (Ca : Nat → Nat → Value) (Ab : Option Addr) (lenb capb : Nat) (Cb : Nat → Nat → Value) (track : Int) (w : World) (hla : lena ≤ capa) (hma : capa ≤ maxLen) (hEa : Elems w Aa lena 2 Ca) (ha0 : ∀ i, i < lena → ∃ n : Int, Ca i 0 = .int .i64 n ∧ -9223372036854775808 ≤ n ∧ n ≤ 9223372036854775807) (ha1 : ∀ i, i < lena → ∃ n : Int, Ca i 1 = .int .i64 n ∧ -9223372036854775808 ≤ n ∧ n ≤ 9223372036854775807) (hlb : lenb ≤ capb) (hmb : capb ≤ maxLen) (hEb : Elems w Ab lenb 2 Cb) (hb0 : ∀ i, i < lenb → ∃ n : Int, Cb i 0 = .int .i64 n ∧ -9223372036854775808 ≤ n ∧ n ≤ 9223372036854775807) (hb1 : ∀ i, i < lenb → ∃ n : Int, Cb i 1 = .int .i64 n ∧ -9223372036854775808 ≤ n ∧ n ≤ 9223372036854775807) (htrack : -9223372036854775808 ≤ track ∧ track ≤ 9223372036854775807) :
    Calls Try.prog 4 #[.slice Aa lena capa, .slice Ab lenb capb, .int .i64 track] w fun e w' => e = .returned (.bool true) ∧ Below w.heap.size w w' := by
  obtain ⟨a, hna, hra⟩ := runs_of hla hma hEa ha0 ha1
  subst hna
  unfold maxLen at hma
  obtain ⟨b, hnb, hrb⟩ := runs_of hlb hmb hEb hb0 hb1
  subst hnb
  unfold maxLen at hmb
  exact main_ExtentSets a _ capa b _ capb track hla (by omega) hra hlb (by omega) hrb htrack
namespace extentSets
theorem own : ownKnob Try.prog.godebug = none := by kernel_rfl
theorem laidOut : laidOutB Try.prog = true := by kernel_rfl
set_option linter.unusedVariables false
set_option maxRecDepth 100000 in
theorem lifted (os : Os) (started : os.Started) (H : Type) (enc : TypeId × Value → H) :
    ReturnsInHanded {} Try.checked os 4 .any (Rows.extentSetsSpec.pre6 enc Try.prog Try.f4 Rows.extentSetsRow.domain false) (Rows.extentSetsSpec.post enc Try.prog Try.f4 false true false false) := by
  refine returnsInHanded_of_change (C := Try.checked) own started (by kernel_rfl) Try.func4
    (ChangeSpec.witness6 (enc := enc) (C := Try.checked) false ⟨#[], #[.slice none 0 0, .slice none 0 0, .int .i64 0], []⟩ 8 (by kernel_rfl) (by kernel_rfl) (by kernel_rfl) (by kernel_rfl)) ?_
  intro W base args ds gs before hval0 hW hcnd _
  have hval : ∀ (j : Nat) t v, Try.f4.params[j]? = some t → args[j]? = some v → Value.okWide Try.prog W .any base t v := hval0
  have hW' := hW
  obtain ⟨p, q, hA0, hV, rfl, hfz, hnd⟩ := hW
  have hA : DataW.TrodAll enc Try.prog W 0 (fun _ => true) true Try.f4.params.toList args.toList ds p := hA0
  rw [Try.params4] at hA hval
  obtain ⟨v0, vs0, d0, ds0, p0, q0, hargs, rfl, rfl, h0, r0⟩ := trodAll_cons hA
  obtain ⟨v1, vs1, d1, ds1, p1, q1, rfl, rfl, rfl, h1, r1⟩ := trodAll_cons r0
  obtain ⟨v2, vs2, d2, ds2, p2, q2, rfl, rfl, rfl, h2, r2⟩ := trodAll_cons r1
  obtain ⟨rfl, rfl, rfl⟩ := trodAll_nil r2
  obtain rfl : args = #[v0, v1, v2] := by cases args; simp_all
  obtain ⟨rfl, rfl⟩ := trodVars_none hV
  obtain ⟨a0, len0, cap0, rfl⟩ := okWide_slice Try.underlying22 (hval 0 22 v0 rfl rfl)
  have k0 := h0
  have lt0 : ∀ x ∈ p0, x.block < W.heap.size := by obtain ⟨m, hm⟩ := k0; exact DataW.trod_lt m _ _ _ hm
  obtain ⟨fuel0, hf0⟩ := h0
  obtain ⟨A0, l0, c0, C0, hcs0, hl0, hm0, hE0, hF0⟩ := open_elems Try.underlying22 Try.underlying47 (by kernel_rfl) (by kernel_rfl) (by decide) hf0
  simp only [Value.cells, List.cons.injEq, Value.slice.injEq, and_true] at hcs0
  obtain ⟨rfl, rfl, rfl⟩ := hcs0
  have s0_0 : ∀ i, i < len0 → ∃ n : Int, C0 i 0 = .int .i64 n ∧ -9223372036854775808 ≤ n ∧ n ≤ 9223372036854775807 := fun i hi => by obtain ⟨y, n, hy⟩ := hF0 i 0 _ hi rfl; obtain ⟨n, e, _, hw⟩ := DataW.trod_int Try.underlying3 hy; exact ⟨n, List.head_eq_of_cons_eq e, bounds_i64 hw⟩
  have s0_1 : ∀ i, i < len0 → ∃ n : Int, C0 i 1 = .int .i64 n ∧ -9223372036854775808 ≤ n ∧ n ≤ 9223372036854775807 := fun i hi => by obtain ⟨y, n, hy⟩ := hF0 i 1 _ hi rfl; obtain ⟨n, e, _, hw⟩ := DataW.trod_int Try.underlying3 hy; exact ⟨n, List.head_eq_of_cons_eq e, bounds_i64 hw⟩
  obtain ⟨a1, len1, cap1, rfl⟩ := okWide_slice Try.underlying22 (hval 1 22 v1 rfl rfl)
  have k1 := h1
  have lt1 : ∀ x ∈ p1, x.block < W.heap.size := by obtain ⟨m, hm⟩ := k1; exact DataW.trod_lt m _ _ _ hm
  obtain ⟨fuel1, hf1⟩ := h1
  obtain ⟨A1, l1, c1, C1, hcs1, hl1, hm1, hE1, hF1⟩ := open_elems Try.underlying22 Try.underlying47 (by kernel_rfl) (by kernel_rfl) (by decide) hf1
  simp only [Value.cells, List.cons.injEq, Value.slice.injEq, and_true] at hcs1
  obtain ⟨rfl, rfl, rfl⟩ := hcs1
  have s1_0 : ∀ i, i < len1 → ∃ n : Int, C1 i 0 = .int .i64 n ∧ -9223372036854775808 ≤ n ∧ n ≤ 9223372036854775807 := fun i hi => by obtain ⟨y, n, hy⟩ := hF1 i 0 _ hi rfl; obtain ⟨n, e, _, hw⟩ := DataW.trod_int Try.underlying3 hy; exact ⟨n, List.head_eq_of_cons_eq e, bounds_i64 hw⟩
  have s1_1 : ∀ i, i < len1 → ∃ n : Int, C1 i 1 = .int .i64 n ∧ -9223372036854775808 ≤ n ∧ n ≤ 9223372036854775807 := fun i hi => by obtain ⟨y, n, hy⟩ := hF1 i 1 _ hi rfl; obtain ⟨n, e, _, hw⟩ := DataW.trod_int Try.underlying3 hy; exact ⟨n, List.head_eq_of_cons_eq e, bounds_i64 hw⟩
  obtain ⟨a2, rfl, rfl, rfl, w2⟩ := open_int Try.underlying3 (hval 2 3 v2 rfl rfl) h2
  clear hA0 hval0
  refine (walk_ExtentSets a0 len0 cap0 C0 a1 len1 cap1 C1 a2 hl0 hm0 hE0 s0_0 s0_1 hl1 hm1 hE1 s1_0 s1_1 (bounds_i64 w2) (w := W)).mono fun e W' ⟨he, bel⟩ => ?_
  subst he
  exact ⟨_, rfl, _, _, _, [], _, [], hW', trodAll_mk1 (shut_bool Try.underlying4 _), (trodAll_cons_mk (Below.trod laidOut (by kernel_rfl) (of_decide_eq_true (by kernel_rfl)) k0 bel lt0) (trodAll_cons_mk (Below.trod laidOut (by kernel_rfl) (of_decide_eq_true (by kernel_rfl)) k1 bel lt1) (trodAll_cons_mk (shut_int Try.underlying3 w2) trodAll_mk0))), rfl, bel.frame _, fun h => by cases h⟩
theorem over : Rows.extentSetsRow.holds Try.pinned (OpenSpec.ofChange Rows.extentSetsSpec) :=
  OpenClaim.holds_of_wide 4 Try.f4 rfl rfl rfl rfl rfl rfl rfl ⟨rfl, rfl, rfl, rfl, rfl⟩ rfl rfl rfl rfl rfl (by kernel_rfl) Try.func4 (by kernel_rfl)
    (of_decide_eq_true (by kernel_rfl)) (by unfold Func.isWrapper; first | (rw [if_pos (by decide +kernel)]; kernel_rfl) | (rw [if_neg (by decide +kernel)]; exact ⟨rfl, rfl⟩))
    (fun os started H enc _ => lifted os started H enc)
theorem proved : Rows.ExtentSetsSaid := over
end extentSets

end Go.Proofs.Ytpcigmjbjcgdbaa
