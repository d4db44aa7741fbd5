/- Statement SpaceWithin: Allocate takes free tracks, as many as wanted, in no more than the allowed extents, or says that there is no space. For every list of at most 30 runs, which is the statement's own bound. -/
import Derived.Test.YtpcigmjbjcgdbaaRows
import Derived.WalkKit
import Derived.ProofKit
import Derived.OpenShut
import Derived.ShutString
import Derived.ChangeOld
import Derived.Below
import Derived.Test.YtpcigmjbjcgdbaaSpW
import Derived.Test.YtpcigmjbjcgdbaaSpAw
import Derived.Test.YtpcigmjbjcgdbaaSlices
import Derived.Test.YtpcigmjbjcgdbaaOpen
namespace Go.Proofs.Ytpcigmjbjcgdbaa
open Go.Lib Go.ChangeShapes Go.WideShapes Go.ChangeAt Go.RowKit
open Go.ChangeMaps (open_string shut_string)
set_option linter.unusedVariables false
set_option maxRecDepth 100000 in
theorem long_SpaceWithin (free : List (Int × Int)) (Afree : Option Addr) (capfree : Nat) (n : Int) (most : Int) {w : World} (hcfree : free.length ≤ capfree) (hdfree : capfree ≤ 9223372036854775807) (hrfree : RunsAt w (.slice Afree free.length capfree) free) (hn : -9223372036854775808 ≤ n ∧ n ≤ 9223372036854775807) (hmost : -9223372036854775808 ≤ most ∧ most ≤ 9223372036854775807) (hlong : ¬ (free.length ≤ 30)) :
    Calls Try.prog 15 #[.slice Afree free.length capfree, .int .i64 n, .int .i64 most] w (Answers true w) := by
  clear hrfree
  have h1 : ¬ (free.length : Int) ≤ 30 := by omega
  go_enter Try.func15, Try.ntmps15
  go_wp2_with fail
  refine (awake6_any _).mono ?_
  rintro e w1 ⟨rfl, hb⟩
  have B1 := hid (hb)
  clear hb
  go_wp2_with fail
  refine (awake6_any _).mono ?_
  rintro e w2 ⟨rfl, hb⟩
  have B2 := hid (B1.out.trans (hb.mono B1.out.size))
  clear hb
  go_wp2_with fail
  go_ret
  exact ⟨rfl, B2.out⟩
set_option maxRecDepth 100000 in
set_option maxHeartbeats 4000000 in
theorem short_SpaceWithin (free : List (Int × Int)) (Afree : Option Addr) (capfree : Nat) (n : Int) (most : Int) {w : World} (hcfree : free.length ≤ capfree) (hdfree : capfree ≤ 9223372036854775807) (hrfree : RunsAt w (.slice Afree free.length capfree) free) (hn : -9223372036854775808 ≤ n ∧ n ≤ 9223372036854775807) (hmost : -9223372036854775808 ≤ most ∧ most ≤ 9223372036854775807) (hsfree : free.length ≤ 30) :
    Calls Try.prog 15 #[.slice Afree free.length capfree, .int .i64 n, .int .i64 most] w (Answers true w) := by
  by_cases hs1 : n < 1
  · clear hrfree
    go_enter Try.func15, Try.ntmps15
    go_wp2_with fail
    refine (awake6_any _).mono ?_
    rintro e w1 ⟨rfl, hb⟩
    have B1 := hid (hb)
    clear hb
    go_wp2_with fail
    refine (awake6_any _).mono ?_
    rintro e w2 ⟨rfl, hb⟩
    have B2 := hid (B1.out.trans (hb.mono B1.out.size))
    clear hb
    go_wp2_with fail
    go_ret
    exact ⟨rfl, B2.out⟩
  by_cases hs2 : most < 1
  · clear hrfree
    go_enter Try.func15, Try.ntmps15
    go_wp2_with fail
    refine (awake6_any _).mono ?_
    rintro e w1 ⟨rfl, hb⟩
    have B1 := hid (hb)
    clear hb
    go_wp2_with fail
    refine (awake6_any _).mono ?_
    rintro e w2 ⟨rfl, hb⟩
    have B2 := hid (B1.out.trans (hb.mono B1.out.size))
    clear hb
    go_wp2_with fail
    go_ret
    exact ⟨rfl, B2.out⟩
  have Hfree := hid hrfree
  have Kfree : Hid (free.length ≤ 4000) := by show _ ≤ _; omega
  clear hrfree
  have hw := alloc_within free n most (by omega) (by omega)
  have HW := hid hw
  have HNN := hid hn
  have HMM := hid hmost
  obtain ⟨hn1, hn2⟩ := hn
  obtain ⟨hm1, hm2⟩ := hmost
  clear hw
  go_enter Try.func15, Try.ntmps15
  go_wp2_with fail
  refine (awake6_any _).mono ?_
  rintro e w1 ⟨rfl, hb⟩
  replace Hfree := hid (Hfree.out.below hb (Nat.le_refl _))
  have B1 := hid (hb)
  clear hb
  go_wp2_with fail
  rcases HW.out with ⟨hA1, hA2⟩ | ⟨hB1, hB2, hB3, hB4⟩
  · skip
    have HA1 := hid hA1
    obtain ⟨rm, hrm⟩ : ∃ rm, rm = RoomAns free most := ⟨_, rfl⟩
    rw [← hrm] at hA2
    have HRM := hid hrm
    have hdl : decide (rm < n) = true := by simpa using hA2
    clear hA1 hrm
    refine (allocate_any _ free Kfree.out n most HNN.out HMM.out _ Hfree.out).mono ?_
    rintro e w2 ⟨a, rfl, h1, h2, hb⟩
    rw [HA1.out] at h1 ⊢
    obtain ⟨A2, cap2, e0⟩ := OwnRuns.shape h1
    simp only [List.length_nil] at e0
    subst e0
    replace Hfree := hid (Hfree.out.below hb (Nat.le_refl _))
    have B2 := hid (B1.out.trans (hb.mono B1.out.size))
    clear h1 h2 hb
    go_wp2_with fail
    refine (refRoom_any _ free Kfree.out most HMM.out _ Hfree.out).mono ?_
    rintro e w3 ⟨rfl, hb⟩
    rw [← HRM.out]
    replace Hfree := hid (Hfree.out.below hb (Nat.le_refl _))
    have B3 := hid (B2.out.trans (hb.mono B2.out.size))
    clear hb
    go_wp2_with fail
    go_ret
    exact ⟨rfl, B3.out⟩
  · skip
    have hfine := alloc_fine free n most
    obtain ⟨⟨P, P3⟩, hP⟩ : ∃ P, P = AllocAns free n most := ⟨_, rfl⟩
    rw [← hP] at hB1 hB2 hB3 hB4 hfine
    simp only at hB1 hB2 hB3 hB4 hfine
    subst hB1
    obtain ⟨z, hz⟩ : ∃ z, z = P.length := ⟨_, rfl⟩
    rw [← hz] at hB2 hfine
    have HL1 : Hid (P.length ≤ 4000) := by show _ ≤ _; omega
    have hz2 : z ≤ 128 := hfine.1
    have HBD := hid hfine.2
    have HP := hid hP
    have HZ := hid hz
    have HSZ := hid hB3
    have HIN := hid hB4
    have hdn : (n == n) = true := by simp
    clear hfine hP hz hB3 hB4
    refine (allocate_any _ free Kfree.out n most HNN.out HMM.out _ Hfree.out).mono ?_
    rintro e w2 ⟨a, rfl, h1, h2, hb⟩
    rw [← HP.out] at h1 ⊢
    obtain ⟨A2, cap2, rfl⟩ := OwnRuns.shape h1
    replace Hfree := hid (Hfree.out.below hb (Nat.le_refl _))
    have B2 := hid (B1.out.trans (hb.mono B1.out.size))
    have Ha := hid (OwnRuns.at h1 HBD.out)
    simp only at Ha
    rw [← HZ.out] at Ha ⊢
    clear h1 h2 hb
    go_wp2_with fail
    refine (size_any _ P HL1.out _ Ha.out).mono ?_
    rintro e w3 ⟨rfl, hb⟩
    rw [HSZ.out]
    replace Hfree := hid (Hfree.out.below hb (Nat.le_refl _))
    replace Ha := hid (Ha.out.below hb (Nat.le_refl _))
    have B3 := hid (B2.out.trans (hb.mono B2.out.size))
    clear hb
    go_wp2_with fail
    refine (disjoint_any _ P HL1.out _ Ha.out).mono ?_
    rintro e w4 ⟨rfl, hb⟩
    rw [inside_disjoint HIN.out]
    replace Hfree := hid (Hfree.out.below hb (Nat.le_refl _))
    replace Ha := hid (Ha.out.below hb (Nat.le_refl _))
    have B4 := hid (B3.out.trans (hb.mono B3.out.size))
    clear hb
    go_wp2_with fail
    refine (minus_any _ _ P free HL1.out Kfree.out _ Ha.out Hfree.out).mono ?_
    rintro e w5 ⟨b, rfl, h1, h2, hb⟩
    replace h1 : OwnRuns w5 b (minusI P free) := h1
    rw [inside_minus HIN.out] at h1
    obtain ⟨A3, cap3, e0⟩ := OwnRuns.shape h1
    simp only [List.length_nil] at e0
    subst e0
    replace Hfree := hid (Hfree.out.below hb (Nat.le_refl _))
    replace Ha := hid (Ha.out.below hb (Nat.le_refl _))
    have B5 := hid (B4.out.trans (hb.mono B4.out.size))
    clear h1 h2 hb
    go_wp2_with fail
    go_ret
    exact ⟨rfl, B5.out⟩
theorem main_SpaceWithin (free : List (Int × Int)) (Afree : Option Addr) (capfree : Nat) (n : Int) (most : Int) {w : World} (hcfree : free.length ≤ capfree) (hdfree : capfree ≤ 9223372036854775807) (hrfree : RunsAt w (.slice Afree free.length capfree) free) (hn : -9223372036854775808 ≤ n ∧ n ≤ 9223372036854775807) (hmost : -9223372036854775808 ≤ most ∧ most ≤ 9223372036854775807) :
    Calls Try.prog 15 #[.slice Afree free.length capfree, .int .i64 n, .int .i64 most] w (Answers true w) := by
  by_cases h : free.length ≤ 30
  · exact short_SpaceWithin free Afree capfree n most hcfree hdfree hrfree hn hmost  h
  · exact long_SpaceWithin free Afree capfree n most hcfree hdfree hrfree hn hmost h
theorem walk_SpaceWithin (Afree : Option Addr) (lenfree capfree : Nat) (Cfree : Nat → Nat → Value) (n : Int) (most : Int) (w : World) (hlfree : lenfree ≤ capfree) (hmfree : capfree ≤ maxLen) (hEfree : Elems w Afree lenfree 2 Cfree) (hfree0 : ∀ i, i < lenfree → ∃ n : Int, Cfree i 0 = .int .i64 n ∧ -9223372036854775808 ≤ n ∧ n ≤ 9223372036854775807) (hfree1 : ∀ i, i < lenfree → ∃ n : Int, Cfree i 1 = .int .i64 n ∧ -9223372036854775808 ≤ n ∧ n ≤ 9223372036854775807) (hn : -9223372036854775808 ≤ n ∧ n ≤ 9223372036854775807) (hmost : -9223372036854775808 ≤ most ∧ most ≤ 9223372036854775807) :
    Calls Try.prog 15 #[.slice Afree lenfree capfree, .int .i64 n, .int .i64 most] w fun e w' => e = .returned (.bool true) ∧ Below w.heap.size w w' := by
  obtain ⟨free, hnfree, hrfree⟩ := runs_of hlfree hmfree hEfree hfree0 hfree1
  subst hnfree
  unfold maxLen at hmfree
  exact main_SpaceWithin free _ capfree n most hlfree (by omega) hrfree hn hmost
namespace spaceWithin
theorem own : ownKnob Try.prog.godebug = none := by kernel_rfl
theorem laidOut : laidOutB Try.prog = true := by kernel_rfl
set_option linter.unusedVariables false
set_option maxRecDepth 100000 in
theorem lifted (os : Os) (started : os.Started) (H : Type) (enc : TypeId × Value → H) :
    ReturnsInHanded {} Try.checked os 15 .any (Rows.spaceWithinSpec.pre6 enc Try.prog Try.f15 Rows.spaceWithinRow.domain false) (Rows.spaceWithinSpec.post enc Try.prog Try.f15 false true false false) := by
  refine returnsInHanded_of_change (C := Try.checked) own started (by kernel_rfl) Try.func15
    (ChangeSpec.witness6 (enc := enc) (C := Try.checked) false ⟨#[], #[.slice none 0 0, .int .i64 0, .int .i64 0], []⟩ 8 (by kernel_rfl) (by kernel_rfl) (by kernel_rfl) (by kernel_rfl)) ?_
  intro W base args ds gs before hval0 hW hcnd _
  have hval : ∀ (j : Nat) t v, Try.f15.params[j]? = some t → args[j]? = some v → Value.okWide Try.prog W .any base t v := hval0
  have hW' := hW
  obtain ⟨p, q, hA0, hV, rfl, hfz, hnd⟩ := hW
  have hA : DataW.TrodAll enc Try.prog W 0 (fun _ => true) true Try.f15.params.toList args.toList ds p := hA0
  rw [Try.params15] at hA hval
  obtain ⟨v0, vs0, d0, ds0, p0, q0, hargs, rfl, rfl, h0, r0⟩ := trodAll_cons hA
  obtain ⟨v1, vs1, d1, ds1, p1, q1, rfl, rfl, rfl, h1, r1⟩ := trodAll_cons r0
  obtain ⟨v2, vs2, d2, ds2, p2, q2, rfl, rfl, rfl, h2, r2⟩ := trodAll_cons r1
  obtain ⟨rfl, rfl, rfl⟩ := trodAll_nil r2
  obtain rfl : args = #[v0, v1, v2] := by cases args; simp_all
  obtain ⟨rfl, rfl⟩ := trodVars_none hV
  obtain ⟨a0, len0, cap0, rfl⟩ := okWide_slice Try.underlying22 (hval 0 22 v0 rfl rfl)
  have k0 := h0
  have lt0 : ∀ x ∈ p0, x.block < W.heap.size := by obtain ⟨m, hm⟩ := k0; exact DataW.trod_lt m _ _ _ hm
  obtain ⟨fuel0, hf0⟩ := h0
  obtain ⟨A0, l0, c0, C0, hcs0, hl0, hm0, hE0, hF0⟩ := open_elems Try.underlying22 Try.underlying47 (by kernel_rfl) (by kernel_rfl) (by decide) hf0
  simp only [Value.cells, List.cons.injEq, Value.slice.injEq, and_true] at hcs0
  obtain ⟨rfl, rfl, rfl⟩ := hcs0
  have s0_0 : ∀ i, i < len0 → ∃ n : Int, C0 i 0 = .int .i64 n ∧ -9223372036854775808 ≤ n ∧ n ≤ 9223372036854775807 := fun i hi => by obtain ⟨y, n, hy⟩ := hF0 i 0 _ hi rfl; obtain ⟨n, e, _, hw⟩ := DataW.trod_int Try.underlying3 hy; exact ⟨n, List.head_eq_of_cons_eq e, bounds_i64 hw⟩
  have s0_1 : ∀ i, i < len0 → ∃ n : Int, C0 i 1 = .int .i64 n ∧ -9223372036854775808 ≤ n ∧ n ≤ 9223372036854775807 := fun i hi => by obtain ⟨y, n, hy⟩ := hF0 i 1 _ hi rfl; obtain ⟨n, e, _, hw⟩ := DataW.trod_int Try.underlying3 hy; exact ⟨n, List.head_eq_of_cons_eq e, bounds_i64 hw⟩
  obtain ⟨a1, rfl, rfl, rfl, w1⟩ := open_int Try.underlying3 (hval 1 3 v1 rfl rfl) h1
  obtain ⟨a2, rfl, rfl, rfl, w2⟩ := open_int Try.underlying3 (hval 2 3 v2 rfl rfl) h2
  clear hA0 hval0
  refine (walk_SpaceWithin a0 len0 cap0 C0 a1 a2 hl0 hm0 hE0 s0_0 s0_1 (bounds_i64 w1) (bounds_i64 w2) (w := W)).mono fun e W' ⟨he, bel⟩ => ?_
  subst he
  exact ⟨_, rfl, _, _, _, [], _, [], hW', trodAll_mk1 (shut_bool Try.underlying4 _), (trodAll_cons_mk (Below.trod laidOut (by kernel_rfl) (of_decide_eq_true (by kernel_rfl)) k0 bel lt0) (trodAll_cons_mk (shut_int Try.underlying3 w1) (trodAll_cons_mk (shut_int Try.underlying3 w2) trodAll_mk0))), rfl, bel.frame _, fun h => by cases h⟩
theorem over : Rows.spaceWithinRow.holds Try.pinned (OpenSpec.ofChange Rows.spaceWithinSpec) :=
  OpenClaim.holds_of_wide 15 Try.f15 rfl rfl rfl rfl rfl rfl rfl ⟨rfl, rfl, rfl, rfl, rfl⟩ rfl rfl rfl rfl rfl (by kernel_rfl) Try.func15 (by kernel_rfl)
    (of_decide_eq_true (by kernel_rfl)) (by unfold Func.isWrapper; first | (rw [if_pos (by decide +kernel)]; kernel_rfl) | (rw [if_neg (by decide +kernel)]; exact ⟨rfl, rfl⟩))
    (fun os started H enc _ => lifted os started H enc)
theorem proved : Rows.SpaceWithinSaid := over
end spaceWithin

end Go.Proofs.Ytpcigmjbjcgdbaa
