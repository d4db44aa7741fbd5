/- Statement SpaceFree: Free, Largest and Fragments return what the specification says, for any runs. For every list of at most 30 runs, which is the statement's own bound. -/
import Derived.Test.YtpcigmjbjcgdbaaRows
import Derived.WalkKit
import Derived.ProofKit
import Derived.OpenShut
import Derived.ShutString
import Derived.ChangeOld
import Derived.Below
import Derived.Test.YtpcigmjbjcgdbaaSpJ
import Derived.Test.YtpcigmjbjcgdbaaSpAw
import Derived.Test.YtpcigmjbjcgdbaaSlices
import Derived.Test.YtpcigmjbjcgdbaaOpen
namespace Go.Proofs.Ytpcigmjbjcgdbaa
open Go.Lib Go.ChangeShapes Go.WideShapes Go.ChangeAt Go.RowKit
open Go.ChangeMaps (open_string shut_string)
set_option linter.unusedVariables false
set_option maxRecDepth 100000 in
theorem long_SpaceFree (first : Int) (last : Int) (used : List (Int × Int)) (Aused : Option Addr) (capused : Nat) {w : World} (hfirst : -9223372036854775808 ≤ first ∧ first ≤ 9223372036854775807) (hlast : -9223372036854775808 ≤ last ∧ last ≤ 9223372036854775807) (hcused : used.length ≤ capused) (hdused : capused ≤ 9223372036854775807) (hrused : RunsAt w (.slice Aused used.length capused) used) (hlong : ¬ (used.length ≤ 30)) :
    Calls Try.prog 10 #[.int .i64 first, .int .i64 last, .slice Aused used.length capused] w (Answers true w) := by
  clear hrused
  have h1 : ¬ (used.length : Int) ≤ 30 := by omega
  go_enter Try.func10, Try.ntmps10
  go_wp2_with fail
  refine (awake6_any _).mono ?_
  rintro e w1 ⟨rfl, hb⟩
  have B1 := hid (hb)
  clear hb
  go_wp2_with fail
  refine (awake6_any _).mono ?_
  rintro e w2 ⟨rfl, hb⟩
  have B2 := hid (B1.out.trans (hb.mono B1.out.size))
  clear hb
  go_wp2_with fail
  go_ret
  exact ⟨rfl, B2.out⟩
set_option maxRecDepth 100000 in
set_option maxHeartbeats 4000000 in
theorem short_SpaceFree (first : Int) (last : Int) (used : List (Int × Int)) (Aused : Option Addr) (capused : Nat) {w : World} (hfirst : -9223372036854775808 ≤ first ∧ first ≤ 9223372036854775807) (hlast : -9223372036854775808 ≤ last ∧ last ≤ 9223372036854775807) (hcused : used.length ≤ capused) (hdused : capused ≤ 9223372036854775807) (hrused : RunsAt w (.slice Aused used.length capused) used) (hsused : used.length ≤ 30) :
    Calls Try.prog 10 #[.int .i64 first, .int .i64 last, .slice Aused used.length capused] w (Answers true w) := by
  have Hused := hid hrused
  have Kused : Hid (used.length ≤ 4000) := by show _ ≤ _; omega
  clear hrused
  obtain ⟨⟨x, y⟩, hFR⟩ : ∃ C, C = FragAns used := ⟨_, rfl⟩
  obtain ⟨z, hLG⟩ : ∃ z, z = LargestAns used := ⟨_, rfl⟩
  have HFR := hid hFR
  have HLG := hid hLG
  have HF := hid hfirst
  have HLa := hid hlast
  have hdx : (x == x) = true := by simp
  have hdy : (y == y) = true := by simp
  have hdz : (z == z) = true := by simp
  clear hFR hLG
  obtain ⟨hf1, hf2⟩ := hfirst
  obtain ⟨hl1, hl2⟩ := hlast
  go_enter Try.func10, Try.ntmps10
  go_wp2_with fail
  refine (awake6_any _).mono ?_
  rintro e w1 ⟨rfl, hb⟩
  replace Hused := hid (Hused.out.below hb (Nat.le_refl _))
  have B1 := hid (hb)
  clear hb
  go_wp2_with fail
  refine (fragments_any _ used Kused.out _ Hused.out).mono ?_
  rintro e w2 ⟨rfl, hb⟩
  rw [← HFR.out]
  replace Hused := hid (Hused.out.below hb (Nat.le_refl _))
  have B2 := hid (B1.out.trans (hb.mono B1.out.size))
  clear hb
  go_wp2_with fail
  refine (refFragments_any _ used Kused.out _ Hused.out).mono ?_
  rintro e w3 ⟨rfl, hb⟩
  rw [← HFR.out]
  replace Hused := hid (Hused.out.below hb (Nat.le_refl _))
  have B3 := hid (B2.out.trans (hb.mono B2.out.size))
  clear hb
  go_wp2_with fail
  refine (free_any _ used Kused.out first last HF.out HLa.out _ Hused.out).mono ?_
  rintro e w4 ⟨f, rfl, h1, h2, hb⟩
  replace Hused := hid (Hused.out.below hb (Nat.le_refl _))
  have B4 := hid (B3.out.trans (hb.mono B3.out.size))
  have Hf := hid (OwnRuns.at h1 (minusI_bd _ _))
  clear h1 h2 hb
  go_wp2_with fail
  refine (refFree_any _ used Kused.out first last HF.out HLa.out _ Hused.out).mono ?_
  rintro e w5 ⟨g, rfl, h1, h2, hb⟩
  replace Hused := hid (Hused.out.below hb (Nat.le_refl _))
  replace Hf := hid (Hf.out.below hb (Nat.le_refl _))
  have B5 := hid (B4.out.trans (hb.mono B4.out.size))
  have Hg := hid (OwnRuns.at h1 (minusI_bd _ _))
  clear h1 h2 hb
  go_wp2_with fail
  refine (same_any _ _ (FreeAns first last used) (FreeAns first last used) (minusI_len _ _) (minusI_len _ _) _ Hf.out Hg.out).mono ?_
  rintro e w6 ⟨rfl, hb⟩
  rw [decide_eq_true (rfl : FreeAns first last used = FreeAns first last used)]
  replace Hused := hid (Hused.out.below hb (Nat.le_refl _))
  replace Hf := hid (Hf.out.below hb (Nat.le_refl _))
  replace Hg := hid (Hg.out.below hb (Nat.le_refl _))
  have B6 := hid (B5.out.trans (hb.mono B5.out.size))
  clear hb
  go_wp2_with fail
  refine (largest_any _ used Kused.out _ Hused.out).mono ?_
  rintro e w7 ⟨rfl, hb⟩
  rw [← HLG.out]
  replace Hused := hid (Hused.out.below hb (Nat.le_refl _))
  replace Hf := hid (Hf.out.below hb (Nat.le_refl _))
  replace Hg := hid (Hg.out.below hb (Nat.le_refl _))
  have B7 := hid (B6.out.trans (hb.mono B6.out.size))
  clear hb
  go_wp2_with fail
  refine (refLargest_any _ used Kused.out _ Hused.out).mono ?_
  rintro e w8 ⟨rfl, hb⟩
  rw [← HLG.out]
  replace Hused := hid (Hused.out.below hb (Nat.le_refl _))
  replace Hf := hid (Hf.out.below hb (Nat.le_refl _))
  replace Hg := hid (Hg.out.below hb (Nat.le_refl _))
  have B8 := hid (B7.out.trans (hb.mono B7.out.size))
  clear hb
  go_wp2_with fail
  go_ret
  exact ⟨rfl, B8.out⟩
theorem main_SpaceFree (first : Int) (last : Int) (used : List (Int × Int)) (Aused : Option Addr) (capused : Nat) {w : World} (hfirst : -9223372036854775808 ≤ first ∧ first ≤ 9223372036854775807) (hlast : -9223372036854775808 ≤ last ∧ last ≤ 9223372036854775807) (hcused : used.length ≤ capused) (hdused : capused ≤ 9223372036854775807) (hrused : RunsAt w (.slice Aused used.length capused) used) :
    Calls Try.prog 10 #[.int .i64 first, .int .i64 last, .slice Aused used.length capused] w (Answers true w) := by
  by_cases h : used.length ≤ 30
  · exact short_SpaceFree first last used Aused capused hfirst hlast hcused hdused hrused  h
  · exact long_SpaceFree first last used Aused capused hfirst hlast hcused hdused hrused h
theorem walk_SpaceFree (first : Int) (last : Int) (Aused : Option Addr) (lenused capused : Nat) (Cused : Nat → Nat → Value) (w : World) (hfirst : -9223372036854775808 ≤ first ∧ first ≤ 9223372036854775807) (hlast : -9223372036854775808 ≤ last ∧ last ≤ 9223372036854775807) (hlused : lenused ≤ capused) (hmused : capused ≤ maxLen) (hEused : Elems w Aused lenused 2 Cused) (hused0 : ∀ i, i < lenused → ∃ n : Int, Cused i 0 = .int .i64 n ∧ -9223372036854775808 ≤ n ∧ n ≤ 9223372036854775807) (hused1 : ∀ i, i < lenused → ∃ n : Int, Cused i 1 = .int .i64 n ∧ -9223372036854775808 ≤ n ∧ n ≤ 9223372036854775807) :
    Calls Try.prog 10 #[.int .i64 first, .int .i64 last, .slice Aused lenused capused] w fun e w' => e = .returned (.bool true) ∧ Below w.heap.size w w' := by
  obtain ⟨used, hnused, hrused⟩ := runs_of hlused hmused hEused hused0 hused1
  subst hnused
  unfold maxLen at hmused
  exact main_SpaceFree first last used _ capused hfirst hlast hlused (by omega) hrused
namespace spaceFree
theorem own : ownKnob Try.prog.godebug = none := by kernel_rfl
theorem laidOut : laidOutB Try.prog = true := by kernel_rfl
set_option linter.unusedVariables false
set_option maxRecDepth 100000 in
theorem lifted (os : Os) (started : os.Started) (H : Type) (enc : TypeId × Value → H) :
    ReturnsInHanded {} Try.checked os 10 .any (Rows.spaceFreeSpec.pre6 enc Try.prog Try.f10 Rows.spaceFreeRow.domain false) (Rows.spaceFreeSpec.post enc Try.prog Try.f10 false true false false) := by
  refine returnsInHanded_of_change (C := Try.checked) own started (by kernel_rfl) Try.func10
    (ChangeSpec.witness6 (enc := enc) (C := Try.checked) false ⟨#[], #[.int .i64 0, .int .i64 0, .slice none 0 0], []⟩ 8 (by kernel_rfl) (by kernel_rfl) (by kernel_rfl) (by kernel_rfl)) ?_
  intro W base args ds gs before hval0 hW hcnd _
  have hval : ∀ (j : Nat) t v, Try.f10.params[j]? = some t → args[j]? = some v → Value.okWide Try.prog W .any base t v := hval0
  have hW' := hW
  obtain ⟨p, q, hA0, hV, rfl, hfz, hnd⟩ := hW
  have hA : DataW.TrodAll enc Try.prog W 0 (fun _ => true) true Try.f10.params.toList args.toList ds p := hA0
  rw [Try.params10] at hA hval
  obtain ⟨v0, vs0, d0, ds0, p0, q0, hargs, rfl, rfl, h0, r0⟩ := trodAll_cons hA
  obtain ⟨v1, vs1, d1, ds1, p1, q1, rfl, rfl, rfl, h1, r1⟩ := trodAll_cons r0
  obtain ⟨v2, vs2, d2, ds2, p2, q2, rfl, rfl, rfl, h2, r2⟩ := trodAll_cons r1
  obtain ⟨rfl, rfl, rfl⟩ := trodAll_nil r2
  obtain rfl : args = #[v0, v1, v2] := by cases args; simp_all
  obtain ⟨rfl, rfl⟩ := trodVars_none hV
  obtain ⟨a0, rfl, rfl, rfl, w0⟩ := open_int Try.underlying3 (hval 0 3 v0 rfl rfl) h0
  obtain ⟨a1, rfl, rfl, rfl, w1⟩ := open_int Try.underlying3 (hval 1 3 v1 rfl rfl) h1
  obtain ⟨a2, len2, cap2, rfl⟩ := okWide_slice Try.underlying22 (hval 2 22 v2 rfl rfl)
  have k2 := h2
  have lt2 : ∀ x ∈ p2, x.block < W.heap.size := by obtain ⟨m, hm⟩ := k2; exact DataW.trod_lt m _ _ _ hm
  obtain ⟨fuel2, hf2⟩ := h2
  obtain ⟨A2, l2, c2, C2, hcs2, hl2, hm2, hE2, hF2⟩ := open_elems Try.underlying22 Try.underlying47 (by kernel_rfl) (by kernel_rfl) (by decide) hf2
  simp only [Value.cells, List.cons.injEq, Value.slice.injEq, and_true] at hcs2
  obtain ⟨rfl, rfl, rfl⟩ := hcs2
  have s2_0 : ∀ i, i < len2 → ∃ n : Int, C2 i 0 = .int .i64 n ∧ -9223372036854775808 ≤ n ∧ n ≤ 9223372036854775807 := fun i hi => by obtain ⟨y, n, hy⟩ := hF2 i 0 _ hi rfl; obtain ⟨n, e, _, hw⟩ := DataW.trod_int Try.underlying3 hy; exact ⟨n, List.head_eq_of_cons_eq e, bounds_i64 hw⟩
  have s2_1 : ∀ i, i < len2 → ∃ n : Int, C2 i 1 = .int .i64 n ∧ -9223372036854775808 ≤ n ∧ n ≤ 9223372036854775807 := fun i hi => by obtain ⟨y, n, hy⟩ := hF2 i 1 _ hi rfl; obtain ⟨n, e, _, hw⟩ := DataW.trod_int Try.underlying3 hy; exact ⟨n, List.head_eq_of_cons_eq e, bounds_i64 hw⟩
  clear hA0 hval0
  refine (walk_SpaceFree a0 a1 a2 len2 cap2 C2 (bounds_i64 w0) (bounds_i64 w1) hl2 hm2 hE2 s2_0 s2_1 (w := W)).mono fun e W' ⟨he, bel⟩ => ?_
  subst he
  exact ⟨_, rfl, _, _, _, [], _, [], hW', trodAll_mk1 (shut_bool Try.underlying4 _), (trodAll_cons_mk (shut_int Try.underlying3 w0) (trodAll_cons_mk (shut_int Try.underlying3 w1) (trodAll_cons_mk (Below.trod laidOut (by kernel_rfl) (of_decide_eq_true (by kernel_rfl)) k2 bel lt2) trodAll_mk0))), rfl, bel.frame _, fun h => by cases h⟩
theorem over : Rows.spaceFreeRow.holds Try.pinned (OpenSpec.ofChange Rows.spaceFreeSpec) :=
  OpenClaim.holds_of_wide 10 Try.f10 rfl rfl rfl rfl rfl rfl rfl ⟨rfl, rfl, rfl, rfl, rfl⟩ rfl rfl rfl rfl rfl (by kernel_rfl) Try.func10 (by kernel_rfl)
    (of_decide_eq_true (by kernel_rfl)) (by unfold Func.isWrapper; first | (rw [if_pos (by decide +kernel)]; kernel_rfl) | (rw [if_neg (by decide +kernel)]; exact ⟨rfl, rfl⟩))
    (fun os started H enc _ => lifted os started H enc)
theorem proved : Rows.SpaceFreeSaid := over
end spaceFree

end Go.Proofs.Ytpcigmjbjcgdbaa
