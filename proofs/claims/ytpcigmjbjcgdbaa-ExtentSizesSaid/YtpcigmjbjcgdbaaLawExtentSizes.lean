/- Statement ExtentSizes: The sizes of the union and of the common part are together those of both sets, and the union consists of the common part and both differences. For all lists of at most 30 runs each, which is the statement's own bound. -/
import Derived.Test.YtpcigmjbjcgdbaaRows
import Derived.WalkKit
import Derived.ProofKit
import Derived.OpenShut
import Derived.ShutString
import Derived.ChangeOld
import Derived.Below
import Derived.Test.YtpcigmjbjcgdbaaExtL
import Derived.Test.YtpcigmjbjcgdbaaSlices
import Derived.Test.YtpcigmjbjcgdbaaOpen
namespace Go.Proofs.Ytpcigmjbjcgdbaa
open Go.Lib Go.ChangeShapes Go.WideShapes Go.ChangeAt Go.RowKit
open Go.ChangeMaps (open_string shut_string)
set_option linter.unusedVariables false
set_option maxRecDepth 100000 in
theorem long_ExtentSizes (a : List (Int × Int)) (Aa : Option Addr) (capa : Nat) (b : List (Int × Int)) (Ab : Option Addr) (capb : Nat) {w : World} (hca : a.length ≤ capa) (hda : capa ≤ 9223372036854775807) (hra : RunsAt w (.slice Aa a.length capa) a) (hcb : b.length ≤ capb) (hdb : capb ≤ 9223372036854775807) (hrb : RunsAt w (.slice Ab b.length capb) b) (hlong : ¬ (a.length ≤ 30 ∧ b.length ≤ 30)) :
    Calls Try.prog 8 #[.slice Aa a.length capa, .slice Ab b.length capb] w (Answers true w) := by
  clear hra
  clear hrb
  by_cases h1 : a.length ≤ 30
  · have h2 : ¬ b.length ≤ 30 := fun h => hlong ⟨h1, h⟩
    clear hlong
    go_enter Try.func8, Try.ntmps8
    go_wp2_with fail
    refine (awake_any _).mono ?_
    rintro e w1 ⟨rfl, hb⟩
    have B1 := hid (hb)
    clear hb
    go_wp2_with fail
    refine (awake_any _).mono ?_
    rintro e w2 ⟨rfl, hb⟩
    have B2 := hid (B1.out.trans (hb.mono B1.out.size))
    clear hb
    go_wp2_with fail
    go_ret
    exact ⟨rfl, B2.out⟩
  · clear hlong
    go_enter Try.func8, Try.ntmps8
    go_wp2_with fail
    refine (awake_any _).mono ?_
    rintro e w1 ⟨rfl, hb⟩
    have B1 := hid (hb)
    clear hb
    go_wp2_with fail
    refine (awake_any _).mono ?_
    rintro e w2 ⟨rfl, hb⟩
    have B2 := hid (B1.out.trans (hb.mono B1.out.size))
    clear hb
    go_wp2_with fail
    go_ret
    exact ⟨rfl, B2.out⟩
set_option maxRecDepth 100000 in
set_option maxHeartbeats 4000000 in
theorem short_ExtentSizes (a : List (Int × Int)) (Aa : Option Addr) (capa : Nat) (b : List (Int × Int)) (Ab : Option Addr) (capb : Nat) {w : World} (hca : a.length ≤ capa) (hda : capa ≤ 9223372036854775807) (hra : RunsAt w (.slice Aa a.length capa) a) (hcb : b.length ≤ capb) (hdb : capb ≤ 9223372036854775807) (hrb : RunsAt w (.slice Ab b.length capb) b) (hsa : a.length ≤ 30) (hsb : b.length ≤ 30) :
    Calls Try.prog 8 #[.slice Aa a.length capa, .slice Ab b.length capb] w (Answers true w) := by
  have Ha := hid hra
  have Ka : Hid (a.length ≤ 4000) := by show _ ≤ _; omega
  clear hra
  have Hb := hid hrb
  have Kb : Hid (b.length ≤ 4000) := by show _ ≤ _; omega
  clear hrb
  obtain ⟨m1, e1⟩ : ∃ m, m = (ofB fun t => inB a t || inB b t).length := ⟨_, rfl⟩
  obtain ⟨m2, e2⟩ : ∃ m, m = (ofB fun t => inB a t && inB b t).length := ⟨_, rfl⟩
  obtain ⟨m3, e3⟩ : ∃ m, m = (ofB (inB a)).length := ⟨_, rfl⟩
  obtain ⟨m4, e4⟩ : ∃ m, m = (ofB (inB b)).length := ⟨_, rfl⟩
  have hsum : m1 + m2 = m3 + m4 := by rw [e1, e2, e3, e4]; exact cnt_or_and 128 (inB a) (inB b)
  have l1 : m1 ≤ 128 := by rw [e1]; exact ofB_len _
  have l2 : m2 ≤ 128 := by rw [e2]; exact ofB_len _
  have l3 : m3 ≤ 128 := by rw [e3]; exact ofB_len _
  have l4 : m4 ≤ 128 := by rw [e4]; exact ofB_len _
  have hq : (((m1 : Int) + m2) == ((m3 : Int) + m4)) = true := by simp; omega
  have hq2 : (((m1 : Int) + m2) != ((m3 : Int) + m4)) = false := by simp; omega
  have M1 := hid e1
  have M2 := hid e2
  have M3 := hid e3
  have M4 := hid e4
  clear e1 e2 e3 e4 hsum
  go_enter Try.func8, Try.ntmps8
  go_wp2_with fail
  refine (awake_any _).mono ?_
  rintro e w1 ⟨rfl, hb⟩
  replace Ha := hid (Ha.out.below hb (Nat.le_refl _))
  replace Hb := hid (Hb.out.below hb (Nat.le_refl _))
  have B1 := hid (hb)
  clear hb
  go_wp2_with fail
  refine (normal_any _ a Ka.out _ Ha.out).mono ?_
  rintro e w2 ⟨x, rfl, h1, h2, hb⟩
  replace Ha := hid (Ha.out.below hb (Nat.le_refl _))
  replace Hb := hid (Hb.out.below hb (Nat.le_refl _))
  have B2 := hid (B1.out.trans (hb.mono B1.out.size))
  have Hx := hid (OwnRuns.at h1 (norm_bd _))
  clear h1 h2 hb
  go_wp2_with fail
  refine (normal_any _ b Kb.out _ Hb.out).mono ?_
  rintro e w3 ⟨y, rfl, h1, h2, hb⟩
  replace Ha := hid (Ha.out.below hb (Nat.le_refl _))
  replace Hb := hid (Hb.out.below hb (Nat.le_refl _))
  replace Hx := hid (Hx.out.below hb (Nat.le_refl _))
  have B3 := hid (B2.out.trans (hb.mono B2.out.size))
  have Hy := hid (OwnRuns.at h1 (norm_bd _))
  clear h1 h2 hb
  go_wp2_with fail
  refine (union_any _ _ a b Ka.out Kb.out _ Ha.out Hb.out).mono ?_
  rintro e w4 ⟨u, rfl, h1, h2, hb⟩
  replace Ha := hid (Ha.out.below hb (Nat.le_refl _))
  replace Hb := hid (Hb.out.below hb (Nat.le_refl _))
  replace Hx := hid (Hx.out.below hb (Nat.le_refl _))
  replace Hy := hid (Hy.out.below hb (Nat.le_refl _))
  have B4 := hid (B3.out.trans (hb.mono B3.out.size))
  have Hu := hid (OwnRuns.at h1 (norm_bd _))
  clear h1 h2 hb
  go_wp2_with fail
  refine (common_any _ _ a b Ka.out Kb.out _ Ha.out Hb.out).mono ?_
  rintro e w5 ⟨c, rfl, h1, h2, hb⟩
  replace Ha := hid (Ha.out.below hb (Nat.le_refl _))
  replace Hb := hid (Hb.out.below hb (Nat.le_refl _))
  replace Hx := hid (Hx.out.below hb (Nat.le_refl _))
  replace Hy := hid (Hy.out.below hb (Nat.le_refl _))
  replace Hu := hid (Hu.out.below hb (Nat.le_refl _))
  have B5 := hid (B4.out.trans (hb.mono B4.out.size))
  have Hc := hid (OwnRuns.at h1 (norm_bd _))
  clear h1 h2 hb
  go_wp2_with fail
  refine (size_any _ (norm fun t => inB a t || inB b t) (norm_len _) _ Hu.out).mono ?_
  rintro e w6 ⟨rfl, hb⟩
  rw [norm_seq]
  rw [← M1.out]
  replace Ha := hid (Ha.out.below hb (Nat.le_refl _))
  replace Hb := hid (Hb.out.below hb (Nat.le_refl _))
  replace Hx := hid (Hx.out.below hb (Nat.le_refl _))
  replace Hy := hid (Hy.out.below hb (Nat.le_refl _))
  replace Hu := hid (Hu.out.below hb (Nat.le_refl _))
  replace Hc := hid (Hc.out.below hb (Nat.le_refl _))
  have B6 := hid (B5.out.trans (hb.mono B5.out.size))
  clear hb
  go_wp2_with fail
  refine (size_any _ (norm fun t => inB a t && inB b t) (norm_len _) _ Hc.out).mono ?_
  rintro e w7 ⟨rfl, hb⟩
  rw [norm_seq]
  rw [← M2.out]
  replace Ha := hid (Ha.out.below hb (Nat.le_refl _))
  replace Hb := hid (Hb.out.below hb (Nat.le_refl _))
  replace Hx := hid (Hx.out.below hb (Nat.le_refl _))
  replace Hy := hid (Hy.out.below hb (Nat.le_refl _))
  replace Hu := hid (Hu.out.below hb (Nat.le_refl _))
  replace Hc := hid (Hc.out.below hb (Nat.le_refl _))
  have B7 := hid (B6.out.trans (hb.mono B6.out.size))
  clear hb
  go_wp2_with fail
  refine (size_any _ (norm (inB a)) (norm_len _) _ Hx.out).mono ?_
  rintro e w8 ⟨rfl, hb⟩
  rw [norm_seq]
  rw [← M3.out]
  replace Ha := hid (Ha.out.below hb (Nat.le_refl _))
  replace Hb := hid (Hb.out.below hb (Nat.le_refl _))
  replace Hx := hid (Hx.out.below hb (Nat.le_refl _))
  replace Hy := hid (Hy.out.below hb (Nat.le_refl _))
  replace Hu := hid (Hu.out.below hb (Nat.le_refl _))
  replace Hc := hid (Hc.out.below hb (Nat.le_refl _))
  have B8 := hid (B7.out.trans (hb.mono B7.out.size))
  clear hb
  go_wp2_with fail
  refine (size_any _ (norm (inB b)) (norm_len _) _ Hy.out).mono ?_
  rintro e w9 ⟨rfl, hb⟩
  rw [norm_seq]
  rw [← M4.out]
  replace Ha := hid (Ha.out.below hb (Nat.le_refl _))
  replace Hb := hid (Hb.out.below hb (Nat.le_refl _))
  replace Hx := hid (Hx.out.below hb (Nat.le_refl _))
  replace Hy := hid (Hy.out.below hb (Nat.le_refl _))
  replace Hu := hid (Hu.out.below hb (Nat.le_refl _))
  replace Hc := hid (Hc.out.below hb (Nat.le_refl _))
  have B9 := hid (B8.out.trans (hb.mono B8.out.size))
  clear hb
  go_upto_region 7 with fail
  go_wp2_with (at_builtin; refine wpList_append_runs (by rfl) (.tmp 44) (.tmp 45) rfl (.slice (some ⟨w9.heap.size, 0, none⟩) 0 0) [] rfl (.inl ⟨_, rfl, rfl, rfl⟩) _ (norm fun t => inB a t && inB b t) rfl (Hc.out.below ((Below.refl _ _).alloc (Nat.le_refl _) _) (Nat.le_refl _)) (by simp) (Nat.le_trans (norm_len _) (by omega)) ?_; intro v1 x1 h1 h2 h3)
  have F1 : Hid (∀ b, Value.home v1 b → w9.heap.size ≤ b) := fun b hb => (h3.out b hb).elim (fun h => by obtain ⟨_, _, _, e, h0, _⟩ := h; simp only [Value.slice.injEq] at e; omega) (fun h => by simp only [World.size_alloc] at h; omega)
  have D1 := hid (((Below.refl w9.heap.size w9).alloc (Nat.le_refl _) (.cells #[] 47)).trans (h2.out.below (by simp) (fun b hb => by obtain ⟨_, _, _, e, h0, _⟩ := hb; simp only [Value.slice.injEq] at e; omega)))
  have O1 : Hid (OwnRuns x1 v1 (norm fun t => inB a t && inB b t)) := by have := h1.out; rw [List.nil_append] at this; exact this
  clear h1 h2 h3
  refine (minus_any _ _ a b Ka.out Kb.out _ (Ha.out.below D1.out (Nat.le_refl _)) (Hb.out.below D1.out (Nat.le_refl _))).mono ?_
  rintro e x2 ⟨m, rfl, h1, h2, hb⟩
  have D2 := hid (D1.out.trans (hb.mono D1.out.size))
  have O2 := hid (O1.out.below hb (Nat.le_refl _))
  have Hm := hid (h1.at (norm_bd _))
  clear h1 h2 hb
  go_wp2_with (at_builtin; refine wpList_append_runs (by rfl) (.tmp 46) (.tmp 49) rfl v1 (norm fun t => inB a t && inB b t) rfl O2.out _ (norm fun t => inB a t && !inB b t) rfl Hm.out (by show _ ≤ _; exact Nat.le_trans (norm_len _) (by omega)) (Nat.le_trans (norm_len _) (by omega)) ?_; intro v3 x3 h1 h2 h3)
  have F3 : Hid (∀ b, Value.home v3 b → w9.heap.size ≤ b) := fun b hb => (h3.out b hb).elim (fun h => F1.out b h) (fun h => Nat.le_trans D2.out.size h)
  have D3 := hid (D2.out.trans (h2.out.below D2.out.size (fun b hb => F1.out b hb)))
  have O3 := hid h1.out
  clear h1 h2 h3
  refine (minus_any _ _ b a Kb.out Ka.out _ (Hb.out.below D3.out (Nat.le_refl _)) (Ha.out.below D3.out (Nat.le_refl _))).mono ?_
  rintro e x4 ⟨z, rfl, h1, h2, hb⟩
  have D4 := hid (D3.out.trans (hb.mono D3.out.size))
  have O4 := hid (O3.out.below hb (Nat.le_refl _))
  have Hz := hid (h1.at (norm_bd _))
  clear h1 h2 hb
  go_wp2_with (at_builtin; refine wpList_append_runs (by rfl) (.tmp 50) (.tmp 53) rfl v3 ((norm fun t => inB a t && inB b t) ++ (norm fun t => inB a t && !inB b t)) rfl O4.out _ (norm fun t => inB b t && !inB a t) rfl Hz.out (by show _ ≤ _; exact by rw [List.length_append]; have := norm_len (fun t => inB a t && inB b t); have := norm_len (fun t => inB a t && !inB b t); omega) (Nat.le_trans (norm_len _) (by omega)) ?_; intro v5 x5 h1 h2 h3)
  have F5 : Hid (∀ b, Value.home v5 b → w9.heap.size ≤ b) := fun b hb => (h3.out b hb).elim (fun h => F3.out b h) (fun h => Nat.le_trans D4.out.size h)
  have D5 := hid (D4.out.trans (h2.out.below D4.out.size (fun b hb => F3.out b hb)))
  have O5 := hid h1.out
  clear h1 h2 h3
  have HP : Hid (RunsAt x5 v5 (parts3 a b)) := OwnRuns.at O5.out (parts3_bd a b)
  refine (disjoint_any _ (parts3 a b) (parts3_len a b) _ HP.out).mono ?_
  rintro e x6 ⟨rfl, hb⟩
  rw [parts3_disjoint]
  have D6 := hid (D5.out.trans (hb.mono D5.out.size))
  have HP6 := hid (HP.out.below hb (Nat.le_refl _))
  clear hb
  go_wp2_with fail
  refine (normal_any _ (parts3 a b) (parts3_len a b) _ HP6.out).mono ?_
  rintro e x7 ⟨p, rfl, h1, h2, hb⟩
  rw [parts3_norm] at h1
  have D7 := hid (D6.out.trans (hb.mono D6.out.size))
  have Hp := hid (h1.at (norm_bd _))
  have J7 := hid hb
  clear h1 h2 hb
  go_wp2_with fail
  refine (same_any _ _ (norm fun t => inB a t || inB b t) (norm fun t => inB a t || inB b t) (norm_len _) (norm_len _) _ Hp.out (Hu.out.below D7.out (Nat.le_refl _))).mono ?_
  rintro e x8 ⟨rfl, hb⟩
  rw [decide_eq_true (rfl : (norm fun t => inB a t || inB b t) = (norm fun t => inB a t || inB b t))]
  have D8 := hid (D7.out.trans (hb.mono D7.out.size))
  clear hb
  go_wp2_with fail
  refine (minus_any _ _ (norm fun t => inB a t || inB b t) (norm (inB b)) (norm_len _) (norm_len _) _ (Hu.out.below D8.out (Nat.le_refl _)) (Hy.out.below D8.out (Nat.le_refl _))).mono ?_
  rintro e x9 ⟨q, rfl, h1, h2, hb⟩
  rw [minus_union] at h1
  have D9 := hid (D8.out.trans (hb.mono D8.out.size))
  have Hq := hid (h1.at (norm_bd _))
  have J9 := hid hb
  clear h1 h2 hb
  go_wp2_with fail
  refine (minus_any _ _ a b Ka.out Kb.out _ (Ha.out.below D9.out (Nat.le_refl _)) (Hb.out.below D9.out (Nat.le_refl _))).mono ?_
  rintro e x10 ⟨s, rfl, h1, h2, hb⟩
  have D10 := hid (D9.out.trans (hb.mono D9.out.size))
  have Hs := hid (h1.at (norm_bd _))
  have J10 := hid hb
  clear h1 h2 hb
  go_wp2_with fail
  refine (same_any _ _ (norm fun t => inB a t && !inB b t) (norm fun t => inB a t && !inB b t) (norm_len _) (norm_len _) _ (Hq.out.below J10.out (Nat.le_refl _)) Hs.out).mono ?_
  rintro e x11 ⟨rfl, hb⟩
  rw [decide_eq_true (rfl : (norm fun t => inB a t && !inB b t) = (norm fun t => inB a t && !inB b t))]
  have D11 := hid (D10.out.trans (hb.mono D10.out.size))
  clear hb
  go_wp2_with fail
  go_ret
  exact ⟨rfl, B9.out.trans (D11.out.mono B9.out.size)⟩
theorem main_ExtentSizes (a : List (Int × Int)) (Aa : Option Addr) (capa : Nat) (b : List (Int × Int)) (Ab : Option Addr) (capb : Nat) {w : World} (hca : a.length ≤ capa) (hda : capa ≤ 9223372036854775807) (hra : RunsAt w (.slice Aa a.length capa) a) (hcb : b.length ≤ capb) (hdb : capb ≤ 9223372036854775807) (hrb : RunsAt w (.slice Ab b.length capb) b) :
    Calls Try.prog 8 #[.slice Aa a.length capa, .slice Ab b.length capb] w (Answers true w) := by
  by_cases h : a.length ≤ 30 ∧ b.length ≤ 30
  · exact short_ExtentSizes a Aa capa b Ab capb hca hda hra hcb hdb hrb  h.1 h.2
  · exact long_ExtentSizes a Aa capa b Ab capb hca hda hra hcb hdb hrb h
theorem walk_ExtentSizes (Aa : Option Addr) (lena capa : Nat) (Ca : Nat → Nat → Value) (Ab : Option Addr) (lenb capb : Nat) (Cb : Nat → Nat → Value) (w : World) (hla : lena ≤ capa) (hma : capa ≤ maxLen) (hEa : Elems w Aa lena 2 Ca) (ha0 : ∀ i, i < lena → ∃ n : Int, Ca i 0 = .int .i64 n ∧ -9223372036854775808 ≤ n ∧ n ≤ 9223372036854775807) (ha1 : ∀ i, i < lena → ∃ n : Int, Ca i 1 = .int .i64 n ∧ -9223372036854775808 ≤ n ∧ n ≤ 9223372036854775807) (hlb : lenb ≤ capb) (hmb : capb ≤ maxLen) (hEb : Elems w Ab lenb 2 Cb) (hb0 : ∀ i, i < lenb → ∃ n : Int, Cb i 0 = .int .i64 n ∧ -9223372036854775808 ≤ n ∧ n ≤ 9223372036854775807) (hb1 : ∀ i, i < lenb → ∃ n : Int, Cb i 1 = .int .i64 n ∧ -9223372036854775808 ≤ n ∧ n ≤ 9223372036854775807) :
    Calls Try.prog 8 #[.slice Aa lena capa, .slice Ab lenb capb] w fun e w' => e = .returned (.bool true) ∧ Below w.heap.size w w' := by
  obtain ⟨a, hna, hra⟩ := runs_of hla hma hEa ha0 ha1
  subst hna
  unfold maxLen at hma
  obtain ⟨b, hnb, hrb⟩ := runs_of hlb hmb hEb hb0 hb1
  subst hnb
  unfold maxLen at hmb
  exact main_ExtentSizes a _ capa b _ capb hla (by omega) hra hlb (by omega) hrb
namespace extentSizes
theorem own : ownKnob Try.prog.godebug = none := by kernel_rfl
theorem laidOut : laidOutB Try.prog = true := by kernel_rfl
set_option linter.unusedVariables false
set_option maxRecDepth 100000 in
theorem lifted (os : Os) (started : os.Started) (H : Type) (enc : TypeId × Value → H) :
    ReturnsInHanded {} Try.checked os 8 .any (Rows.extentSizesSpec.pre6 enc Try.prog Try.f8 Rows.extentSizesRow.domain false) (Rows.extentSizesSpec.post enc Try.prog Try.f8 false true false false) := by
  refine returnsInHanded_of_change (C := Try.checked) own started (by kernel_rfl) Try.func8
    (ChangeSpec.witness6 (enc := enc) (C := Try.checked) false ⟨#[], #[.slice none 0 0, .slice none 0 0], []⟩ 8 (by kernel_rfl) (by kernel_rfl) (by kernel_rfl) (by kernel_rfl)) ?_
  intro W base args ds gs before hval0 hW hcnd _
  have hval : ∀ (j : Nat) t v, Try.f8.params[j]? = some t → args[j]? = some v → Value.okWide Try.prog W .any base t v := hval0
  have hW' := hW
  obtain ⟨p, q, hA0, hV, rfl, hfz, hnd⟩ := hW
  have hA : DataW.TrodAll enc Try.prog W 0 (fun _ => true) true Try.f8.params.toList args.toList ds p := hA0
  rw [Try.params8] at hA hval
  obtain ⟨v0, vs0, d0, ds0, p0, q0, hargs, rfl, rfl, h0, r0⟩ := trodAll_cons hA
  obtain ⟨v1, vs1, d1, ds1, p1, q1, rfl, rfl, rfl, h1, r1⟩ := trodAll_cons r0
  obtain ⟨rfl, rfl, rfl⟩ := trodAll_nil r1
  obtain rfl : args = #[v0, v1] := by cases args; simp_all
  obtain ⟨rfl, rfl⟩ := trodVars_none hV
  obtain ⟨a0, len0, cap0, rfl⟩ := okWide_slice Try.underlying22 (hval 0 22 v0 rfl rfl)
  have k0 := h0
  have lt0 : ∀ x ∈ p0, x.block < W.heap.size := by obtain ⟨m, hm⟩ := k0; exact DataW.trod_lt m _ _ _ hm
  obtain ⟨fuel0, hf0⟩ := h0
  obtain ⟨A0, l0, c0, C0, hcs0, hl0, hm0, hE0, hF0⟩ := open_elems Try.underlying22 Try.underlying47 (by kernel_rfl) (by kernel_rfl) (by decide) hf0
  simp only [Value.cells, List.cons.injEq, Value.slice.injEq, and_true] at hcs0
  obtain ⟨rfl, rfl, rfl⟩ := hcs0
  have s0_0 : ∀ i, i < len0 → ∃ n : Int, C0 i 0 = .int .i64 n ∧ -9223372036854775808 ≤ n ∧ n ≤ 9223372036854775807 := fun i hi => by obtain ⟨y, n, hy⟩ := hF0 i 0 _ hi rfl; obtain ⟨n, e, _, hw⟩ := DataW.trod_int Try.underlying3 hy; exact ⟨n, List.head_eq_of_cons_eq e, bounds_i64 hw⟩
  have s0_1 : ∀ i, i < len0 → ∃ n : Int, C0 i 1 = .int .i64 n ∧ -9223372036854775808 ≤ n ∧ n ≤ 9223372036854775807 := fun i hi => by obtain ⟨y, n, hy⟩ := hF0 i 1 _ hi rfl; obtain ⟨n, e, _, hw⟩ := DataW.trod_int Try.underlying3 hy; exact ⟨n, List.head_eq_of_cons_eq e, bounds_i64 hw⟩
  obtain ⟨a1, len1, cap1, rfl⟩ := okWide_slice Try.underlying22 (hval 1 22 v1 rfl rfl)
  have k1 := h1
  have lt1 : ∀ x ∈ p1, x.block < W.heap.size := by obtain ⟨m, hm⟩ := k1; exact DataW.trod_lt m _ _ _ hm
  obtain ⟨fuel1, hf1⟩ := h1
  obtain ⟨A1, l1, c1, C1, hcs1, hl1, hm1, hE1, hF1⟩ := open_elems Try.underlying22 Try.underlying47 (by kernel_rfl) (by kernel_rfl) (by decide) hf1
  simp only [Value.cells, List.cons.injEq, Value.slice.injEq, and_true] at hcs1
  obtain ⟨rfl, rfl, rfl⟩ := hcs1
  have s1_0 : ∀ i, i < len1 → ∃ n : Int, C1 i 0 = .int .i64 n ∧ -9223372036854775808 ≤ n ∧ n ≤ 9223372036854775807 := fun i hi => by obtain ⟨y, n, hy⟩ := hF1 i 0 _ hi rfl; obtain ⟨n, e, _, hw⟩ := DataW.trod_int Try.underlying3 hy; exact ⟨n, List.head_eq_of_cons_eq e, bounds_i64 hw⟩
  have s1_1 : ∀ i, i < len1 → ∃ n : Int, C1 i 1 = .int .i64 n ∧ -9223372036854775808 ≤ n ∧ n ≤ 9223372036854775807 := fun i hi => by obtain ⟨y, n, hy⟩ := hF1 i 1 _ hi rfl; obtain ⟨n, e, _, hw⟩ := DataW.trod_int Try.underlying3 hy; exact ⟨n, List.head_eq_of_cons_eq e, bounds_i64 hw⟩
  clear hA0 hval0
  refine (walk_ExtentSizes a0 len0 cap0 C0 a1 len1 cap1 C1 hl0 hm0 hE0 s0_0 s0_1 hl1 hm1 hE1 s1_0 s1_1 (w := W)).mono fun e W' ⟨he, bel⟩ => ?_
  subst he
  exact ⟨_, rfl, _, _, _, [], _, [], hW', trodAll_mk1 (shut_bool Try.underlying4 _), (trodAll_cons_mk (Below.trod laidOut (by kernel_rfl) (of_decide_eq_true (by kernel_rfl)) k0 bel lt0) (trodAll_cons_mk (Below.trod laidOut (by kernel_rfl) (of_decide_eq_true (by kernel_rfl)) k1 bel lt1) trodAll_mk0)), rfl, bel.frame _, fun h => by cases h⟩
theorem over : Rows.extentSizesRow.holds Try.pinned (OpenSpec.ofChange Rows.extentSizesSpec) :=
  OpenClaim.holds_of_wide 8 Try.f8 rfl rfl rfl rfl rfl rfl rfl ⟨rfl, rfl, rfl, rfl, rfl⟩ rfl rfl rfl rfl rfl (by kernel_rfl) Try.func8 (by kernel_rfl)
    (of_decide_eq_true (by kernel_rfl)) (by unfold Func.isWrapper; first | (rw [if_pos (by decide +kernel)]; kernel_rfl) | (rw [if_neg (by decide +kernel)]; exact ⟨rfl, rfl⟩))
    (fun os started H enc _ => lifted os started H enc)
theorem proved : Rows.ExtentSizesSaid := over
end extentSizes

end Go.Proofs.Ytpcigmjbjcgdbaa
