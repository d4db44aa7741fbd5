/- Statement SpaceAllocates: Best and Allocate return what the specification says, for any runs. For every list of at most 30 runs, which is the statement's own bound. -/
import Derived.Test.YtpcigmjbjcgdbaaRows
import Derived.WalkKit
import Derived.ProofKit
import Derived.OpenShut
import Derived.ShutString
import Derived.ChangeOld
import Derived.Below
import Derived.Test.YtpcigmjbjcgdbaaSpK
import Derived.Test.YtpcigmjbjcgdbaaSpAw
import Derived.Laws.StructEq
import Derived.Test.YtpcigmjbjcgdbaaSlices
import Derived.Test.YtpcigmjbjcgdbaaOpen
namespace Go.Proofs.Ytpcigmjbjcgdbaa
open Go.Lib Go.ChangeShapes Go.WideShapes Go.ChangeAt Go.RowKit
open Go.ChangeMaps (open_string shut_string)
set_option linter.unusedVariables false
set_option maxRecDepth 100000 in
theorem long_SpaceAllocates (free : List (Int × Int)) (Afree : Option Addr) (capfree : Nat) (n : Int) (most : Int) {w : World} (hcfree : free.length ≤ capfree) (hdfree : capfree ≤ 9223372036854775807) (hrfree : RunsAt w (.slice Afree free.length capfree) free) (hn : -9223372036854775808 ≤ n ∧ n ≤ 9223372036854775807) (hmost : -9223372036854775808 ≤ most ∧ most ≤ 9223372036854775807) (hlong : ¬ (free.length ≤ 30)) :
    Calls Try.prog 11 #[.slice Afree free.length capfree, .int .i64 n, .int .i64 most] w (Answers true w) := by
  clear hrfree
  have h1 : ¬ (free.length : Int) ≤ 30 := by omega
  go_enter Try.func11, Try.ntmps11
  go_wp2_with fail
  refine (awake6_any _).mono ?_
  rintro e w1 ⟨rfl, hb⟩
  have B1 := hid (hb)
  clear hb
  go_wp2_with fail
  refine (awake6_any _).mono ?_
  rintro e w2 ⟨rfl, hb⟩
  have B2 := hid (B1.out.trans (hb.mono B1.out.size))
  clear hb
  go_wp2_with fail
  go_ret
  exact ⟨rfl, B2.out⟩
set_option maxRecDepth 100000 in
set_option maxHeartbeats 4000000 in
theorem short_SpaceAllocates (free : List (Int × Int)) (Afree : Option Addr) (capfree : Nat) (n : Int) (most : Int) {w : World} (hcfree : free.length ≤ capfree) (hdfree : capfree ≤ 9223372036854775807) (hrfree : RunsAt w (.slice Afree free.length capfree) free) (hn : -9223372036854775808 ≤ n ∧ n ≤ 9223372036854775807) (hmost : -9223372036854775808 ≤ most ∧ most ≤ 9223372036854775807) (hsfree : free.length ≤ 30) :
    Calls Try.prog 11 #[.slice Afree free.length capfree, .int .i64 n, .int .i64 most] w (Answers true w) := by
  have Hfree := hid hrfree
  have Kfree : Hid (free.length ≤ 4000) := by show _ ≤ _; omega
  clear hrfree
  have hfine := alloc_fine free n most
  obtain ⟨⟨P, P3⟩, hP⟩ : ∃ P, P = AllocAns free n most := ⟨_, rfl⟩
  obtain ⟨⟨⟨x, y⟩, ok⟩, hC⟩ : ∃ C, C = BestAns free n := ⟨_, rfl⟩
  rw [← hP] at hfine
  have HL1 : Hid (P.length ≤ 4000) := by have h9 := hfine.1; simp only at h9; show _ ≤ _; omega
  have HBD : Hid (Bd P) := hid hfine.2
  have HP := hid hP
  have HC := hid hC
  have HNN := hid hn
  have HMM := hid hmost
  have hd3 : (P3 == P3) = true := by simp
  have hdx : (x == x) = true := by simp
  have hdy : (y == y) = true := by simp
  clear hP hC hfine hn hmost
  go_enter Try.func11, Try.ntmps11
  go_wp2_with fail
  refine (awake6_any _).mono ?_
  rintro e w1 ⟨rfl, hb⟩
  replace Hfree := hid (Hfree.out.below hb (Nat.le_refl _))
  have B1 := hid (hb)
  clear hb
  go_wp2_with fail
  refine (best_any _ free Kfree.out n HNN.out _ Hfree.out).mono ?_
  rintro e w2 ⟨rfl, hb⟩
  rw [← HC.out]
  replace Hfree := hid (Hfree.out.below hb (Nat.le_refl _))
  have B2 := hid (B1.out.trans (hb.mono B1.out.size))
  clear hb
  go_upto_region 4 with fail
  obtain ⟨w3, hw3⟩ : ∃ q, q = w2.alloc (.cells #[.int .i64 x, .int .i64 y] 47) := ⟨_, rfl⟩
  obtain ⟨bx, hbx⟩ : ∃ q, q = w2.heap.size := ⟨_, rfl⟩
  have hr : Row w3 bx 47 [.int .i64 x, .int .i64 y] := by rw [hw3, hbx]; exact Row.new _ _ _
  have hb : Below w2.heap.size w2 w3 := by rw [hw3]; exact (Below.refl _ _).alloc (Nat.le_refl _) _
  replace Hfree := hid (Hfree.out.below hb (Nat.le_refl _))
  have B3 := hid (B2.out.trans (hb.mono B2.out.size))
  rw [← hw3, ← hbx]
  have Rbx := hid hr
  clear hr hb hw3 hbx
  go_wp2_with fail
  refine (refBest_any _ free Kfree.out n HNN.out _ Hfree.out).mono ?_
  rintro e w4 ⟨rfl, hb⟩
  rw [← HC.out]
  replace Rbx := hid (Rbx.out.keep hb)
  replace Hfree := hid (Hfree.out.below hb (Nat.le_refl _))
  have B4 := hid (B3.out.trans (hb.mono B3.out.size))
  clear hb
  go_upto_region 5 with fail
  obtain ⟨w5, hw5⟩ : ∃ q, q = w4.alloc (.cells #[.int .i64 x, .int .i64 y] 47) := ⟨_, rfl⟩
  obtain ⟨by1, hby1⟩ : ∃ q, q = w4.heap.size := ⟨_, rfl⟩
  have hr : Row w5 by1 47 [.int .i64 x, .int .i64 y] := by rw [hw5, hby1]; exact Row.new _ _ _
  have hb : Below w4.heap.size w4 w5 := by rw [hw5]; exact (Below.refl _ _).alloc (Nat.le_refl _) _
  replace Rbx := hid (Rbx.out.keep hb)
  replace Hfree := hid (Hfree.out.below hb (Nat.le_refl _))
  have B5 := hid (B4.out.trans (hb.mono B4.out.size))
  rw [← hw5, ← hby1]
  have Rby1 := hid hr
  clear hr hb hw5 hby1
  go_wp2_with fail
  refine (allocate_any _ free Kfree.out n most HNN.out HMM.out _ Hfree.out).mono ?_
  rintro e w6 ⟨a, rfl, h1, h2, hb⟩
  rw [← HP.out] at h1 ⊢
  replace Rbx := hid (Rbx.out.keep hb)
  replace Rby1 := hid (Rby1.out.keep hb)
  replace Hfree := hid (Hfree.out.below hb (Nat.le_refl _))
  have B6 := hid (B5.out.trans (hb.mono B5.out.size))
  have Ha := hid (OwnRuns.at h1 HBD.out)
  clear h1 h2 hb
  go_wp2_with fail
  refine (refAllocate_any _ free Kfree.out n most HNN.out HMM.out _ Hfree.out).mono ?_
  rintro e w7 ⟨b, rfl, h1, h2, hb⟩
  rw [← HP.out] at h1 ⊢
  replace Rbx := hid (Rbx.out.keep hb)
  replace Rby1 := hid (Rby1.out.keep hb)
  replace Hfree := hid (Hfree.out.below hb (Nat.le_refl _))
  replace Ha := hid (Ha.out.below hb (Nat.le_refl _))
  have B7 := hid (B6.out.trans (hb.mono B6.out.size))
  have Hb := hid (OwnRuns.at h1 HBD.out)
  clear h1 h2 hb
  have bx0 := Rbx.out.cell (i := 0) rfl
  have bx1 := Rbx.out.cell (i := 1) rfl
  have by10 := Rby1.out.cell (i := 0) rfl
  have by11 := Rby1.out.cell (i := 1) rfl
  cases ok
  all_goals
    go_wp2_with fail
    refine (same_any _ _ P P HL1.out HL1.out _ Ha.out Hb.out).mono ?_
    rintro e w8 ⟨rfl, hb⟩
    rw [decide_eq_true (rfl : P = P)]
    have B8 := hid (B7.out.trans (hb.mono B7.out.size))
    clear hb
    go_wp2_with fail
    go_ret
    exact ⟨rfl, B8.out⟩
theorem main_SpaceAllocates (free : List (Int × Int)) (Afree : Option Addr) (capfree : Nat) (n : Int) (most : Int) {w : World} (hcfree : free.length ≤ capfree) (hdfree : capfree ≤ 9223372036854775807) (hrfree : RunsAt w (.slice Afree free.length capfree) free) (hn : -9223372036854775808 ≤ n ∧ n ≤ 9223372036854775807) (hmost : -9223372036854775808 ≤ most ∧ most ≤ 9223372036854775807) :
    Calls Try.prog 11 #[.slice Afree free.length capfree, .int .i64 n, .int .i64 most] w (Answers true w) := by
  by_cases h : free.length ≤ 30
  · exact short_SpaceAllocates free Afree capfree n most hcfree hdfree hrfree hn hmost  h
  · exact long_SpaceAllocates free Afree capfree n most hcfree hdfree hrfree hn hmost h
theorem walk_SpaceAllocates (Afree : Option Addr) (lenfree capfree : Nat) (Cfree : Nat → Nat → Value) (n : Int) (most : Int) (w : World) (hlfree : lenfree ≤ capfree) (hmfree : capfree ≤ maxLen) (hEfree : Elems w Afree lenfree 2 Cfree) (hfree0 : ∀ i, i < lenfree → ∃ n : Int, Cfree i 0 = .int .i64 n ∧ -9223372036854775808 ≤ n ∧ n ≤ 9223372036854775807) (hfree1 : ∀ i, i < lenfree → ∃ n : Int, Cfree i 1 = .int .i64 n ∧ -9223372036854775808 ≤ n ∧ n ≤ 9223372036854775807) (hn : -9223372036854775808 ≤ n ∧ n ≤ 9223372036854775807) (hmost : -9223372036854775808 ≤ most ∧ most ≤ 9223372036854775807) :
    Calls Try.prog 11 #[.slice Afree lenfree capfree, .int .i64 n, .int .i64 most] w fun e w' => e = .returned (.bool true) ∧ Below w.heap.size w w' := by
  obtain ⟨free, hnfree, hrfree⟩ := runs_of hlfree hmfree hEfree hfree0 hfree1
  subst hnfree
  unfold maxLen at hmfree
  exact main_SpaceAllocates free _ capfree n most hlfree (by omega) hrfree hn hmost
namespace spaceAllocates
theorem own : ownKnob Try.prog.godebug = none := by kernel_rfl
theorem laidOut : laidOutB Try.prog = true := by kernel_rfl
set_option linter.unusedVariables false
set_option maxRecDepth 100000 in
theorem lifted (os : Os) (started : os.Started) (H : Type) (enc : TypeId × Value → H) :
    ReturnsInHanded {} Try.checked os 11 .any (Rows.spaceAllocatesSpec.pre6 enc Try.prog Try.f11 Rows.spaceAllocatesRow.domain false) (Rows.spaceAllocatesSpec.post enc Try.prog Try.f11 false true false false) := by
  refine returnsInHanded_of_change (C := Try.checked) own started (by kernel_rfl) Try.func11
    (ChangeSpec.witness6 (enc := enc) (C := Try.checked) false ⟨#[], #[.slice none 0 0, .int .i64 0, .int .i64 0], []⟩ 8 (by kernel_rfl) (by kernel_rfl) (by kernel_rfl) (by kernel_rfl)) ?_
  intro W base args ds gs before hval0 hW hcnd _
  have hval : ∀ (j : Nat) t v, Try.f11.params[j]? = some t → args[j]? = some v → Value.okWide Try.prog W .any base t v := hval0
  have hW' := hW
  obtain ⟨p, q, hA0, hV, rfl, hfz, hnd⟩ := hW
  have hA : DataW.TrodAll enc Try.prog W 0 (fun _ => true) true Try.f11.params.toList args.toList ds p := hA0
  rw [Try.params11] at hA hval
  obtain ⟨v0, vs0, d0, ds0, p0, q0, hargs, rfl, rfl, h0, r0⟩ := trodAll_cons hA
  obtain ⟨v1, vs1, d1, ds1, p1, q1, rfl, rfl, rfl, h1, r1⟩ := trodAll_cons r0
  obtain ⟨v2, vs2, d2, ds2, p2, q2, rfl, rfl, rfl, h2, r2⟩ := trodAll_cons r1
  obtain ⟨rfl, rfl, rfl⟩ := trodAll_nil r2
  obtain rfl : args = #[v0, v1, v2] := by cases args; simp_all
  obtain ⟨rfl, rfl⟩ := trodVars_none hV
  obtain ⟨a0, len0, cap0, rfl⟩ := okWide_slice Try.underlying22 (hval 0 22 v0 rfl rfl)
  have k0 := h0
  have lt0 : ∀ x ∈ p0, x.block < W.heap.size := by obtain ⟨m, hm⟩ := k0; exact DataW.trod_lt m _ _ _ hm
  obtain ⟨fuel0, hf0⟩ := h0
  obtain ⟨A0, l0, c0, C0, hcs0, hl0, hm0, hE0, hF0⟩ := open_elems Try.underlying22 Try.underlying47 (by kernel_rfl) (by kernel_rfl) (by decide) hf0
  simp only [Value.cells, List.cons.injEq, Value.slice.injEq, and_true] at hcs0
  obtain ⟨rfl, rfl, rfl⟩ := hcs0
  have s0_0 : ∀ i, i < len0 → ∃ n : Int, C0 i 0 = .int .i64 n ∧ -9223372036854775808 ≤ n ∧ n ≤ 9223372036854775807 := fun i hi => by obtain ⟨y, n, hy⟩ := hF0 i 0 _ hi rfl; obtain ⟨n, e, _, hw⟩ := DataW.trod_int Try.underlying3 hy; exact ⟨n, List.head_eq_of_cons_eq e, bounds_i64 hw⟩
  have s0_1 : ∀ i, i < len0 → ∃ n : Int, C0 i 1 = .int .i64 n ∧ -9223372036854775808 ≤ n ∧ n ≤ 9223372036854775807 := fun i hi => by obtain ⟨y, n, hy⟩ := hF0 i 1 _ hi rfl; obtain ⟨n, e, _, hw⟩ := DataW.trod_int Try.underlying3 hy; exact ⟨n, List.head_eq_of_cons_eq e, bounds_i64 hw⟩
  obtain ⟨a1, rfl, rfl, rfl, w1⟩ := open_int Try.underlying3 (hval 1 3 v1 rfl rfl) h1
  obtain ⟨a2, rfl, rfl, rfl, w2⟩ := open_int Try.underlying3 (hval 2 3 v2 rfl rfl) h2
  clear hA0 hval0
  refine (walk_SpaceAllocates a0 len0 cap0 C0 a1 a2 hl0 hm0 hE0 s0_0 s0_1 (bounds_i64 w1) (bounds_i64 w2) (w := W)).mono fun e W' ⟨he, bel⟩ => ?_
  subst he
  exact ⟨_, rfl, _, _, _, [], _, [], hW', trodAll_mk1 (shut_bool Try.underlying4 _), (trodAll_cons_mk (Below.trod laidOut (by kernel_rfl) (of_decide_eq_true (by kernel_rfl)) k0 bel lt0) (trodAll_cons_mk (shut_int Try.underlying3 w1) (trodAll_cons_mk (shut_int Try.underlying3 w2) trodAll_mk0))), rfl, bel.frame _, fun h => by cases h⟩
theorem over : Rows.spaceAllocatesRow.holds Try.pinned (OpenSpec.ofChange Rows.spaceAllocatesSpec) :=
  OpenClaim.holds_of_wide 11 Try.f11 rfl rfl rfl rfl rfl rfl rfl ⟨rfl, rfl, rfl, rfl, rfl⟩ rfl rfl rfl rfl rfl (by kernel_rfl) Try.func11 (by kernel_rfl)
    (of_decide_eq_true (by kernel_rfl)) (by unfold Func.isWrapper; first | (rw [if_pos (by decide +kernel)]; kernel_rfl) | (rw [if_neg (by decide +kernel)]; exact ⟨rfl, rfl⟩))
    (fun os started H enc _ => lifted os started H enc)
theorem proved : Rows.SpaceAllocatesSaid := over
end spaceAllocates

end Go.Proofs.Ytpcigmjbjcgdbaa
