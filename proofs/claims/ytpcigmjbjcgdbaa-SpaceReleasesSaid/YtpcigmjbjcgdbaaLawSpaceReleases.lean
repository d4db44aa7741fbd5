/- Statement SpaceReleases: Release and Consolidate return what the specification says. For all lists of at most 30 runs each, which is the statement's own bound. -/
import Derived.Test.YtpcigmjbjcgdbaaRows
import Derived.WalkKit
import Derived.ProofKit
import Derived.OpenShut
import Derived.ShutString
import Derived.ChangeOld
import Derived.Below
import Derived.Test.YtpcigmjbjcgdbaaSpQ
import Derived.Test.YtpcigmjbjcgdbaaSpAw
import Derived.Laws.StructEq
import Derived.Test.YtpcigmjbjcgdbaaSlices
import Derived.Test.YtpcigmjbjcgdbaaOpen
namespace Go.Proofs.Ytpcigmjbjcgdbaa
open Go.Lib Go.ChangeShapes Go.WideShapes Go.ChangeAt Go.RowKit
open Go.ChangeMaps (open_string shut_string)
set_option linter.unusedVariables false
theorem rel_len (l : List (Int × Int)) (n : Int) (h : l.length ≤ 4000) : (RelAns l n).1.1.length ≤ 4000 ∧ (RelAns l n).1.2.length ≤ 4000 := by
  unfold RelAns
  split
  · simp
  · exact ⟨by have := (cut_len l n.toNat).1; simp only; omega, minusI_len _ _⟩
set_option maxRecDepth 100000 in
theorem long_SpaceReleases (extents : List (Int × Int)) (Aextents : Option Addr) (capextents : Nat) (free : List (Int × Int)) (Afree : Option Addr) (capfree : Nat) (keep : Int) {w : World} (hcextents : extents.length ≤ capextents) (hdextents : capextents ≤ 9223372036854775807) (hrextents : RunsAt w (.slice Aextents extents.length capextents) extents) (hcfree : free.length ≤ capfree) (hdfree : capfree ≤ 9223372036854775807) (hrfree : RunsAt w (.slice Afree free.length capfree) free) (hkeep : -9223372036854775808 ≤ keep ∧ keep ≤ 9223372036854775807) (hlong : ¬ (extents.length ≤ 30 ∧ free.length ≤ 30)) :
    Calls Try.prog 13 #[.slice Aextents extents.length capextents, .slice Afree free.length capfree, .int .i64 keep] w (Answers true w) := by
  clear hrextents
  clear hrfree
  by_cases h1 : extents.length ≤ 30
  · have h2 : ¬ free.length ≤ 30 := fun h => hlong ⟨h1, h⟩
    clear hlong
    go_enter Try.func13, Try.ntmps13
    go_wp2_with fail
    refine (awake6_any _).mono ?_
    rintro e w1 ⟨rfl, hb⟩
    have B1 := hid (hb)
    clear hb
    go_wp2_with fail
    refine (awake6_any _).mono ?_
    rintro e w2 ⟨rfl, hb⟩
    have B2 := hid (B1.out.trans (hb.mono B1.out.size))
    clear hb
    go_wp2_with fail
    go_ret
    exact ⟨rfl, B2.out⟩
  · clear hlong
    go_enter Try.func13, Try.ntmps13
    go_wp2_with fail
    refine (awake6_any _).mono ?_
    rintro e w1 ⟨rfl, hb⟩
    have B1 := hid (hb)
    clear hb
    go_wp2_with fail
    refine (awake6_any _).mono ?_
    rintro e w2 ⟨rfl, hb⟩
    have B2 := hid (B1.out.trans (hb.mono B1.out.size))
    clear hb
    go_wp2_with fail
    go_ret
    exact ⟨rfl, B2.out⟩
set_option maxRecDepth 100000 in
set_option maxHeartbeats 4000000 in
theorem short_SpaceReleases (extents : List (Int × Int)) (Aextents : Option Addr) (capextents : Nat) (free : List (Int × Int)) (Afree : Option Addr) (capfree : Nat) (keep : Int) {w : World} (hcextents : extents.length ≤ capextents) (hdextents : capextents ≤ 9223372036854775807) (hrextents : RunsAt w (.slice Aextents extents.length capextents) extents) (hcfree : free.length ≤ capfree) (hdfree : capfree ≤ 9223372036854775807) (hrfree : RunsAt w (.slice Afree free.length capfree) free) (hkeep : -9223372036854775808 ≤ keep ∧ keep ≤ 9223372036854775807) (hsextents : extents.length ≤ 30) (hsfree : free.length ≤ 30) :
    Calls Try.prog 13 #[.slice Aextents extents.length capextents, .slice Afree free.length capfree, .int .i64 keep] w (Answers true w) := by
  have Hextents := hid hrextents
  have Kextents : Hid (extents.length ≤ 4000) := by show _ ≤ _; omega
  clear hrextents
  have Hfree := hid hrfree
  have Kfree : Hid (free.length ≤ 4000) := by show _ ≤ _; omega
  clear hrfree
  obtain ⟨⟨⟨P1, P2⟩, P3⟩, hP⟩ : ∃ P, P = RelAns extents keep := ⟨_, rfl⟩
  obtain ⟨⟨⟨x, y⟩, ok⟩, hC⟩ : ∃ C, C = ConAns extents free := ⟨_, rfl⟩
  have hL := rel_len extents keep (by omega)
  rw [← hP] at hL
  have HL1 : Hid (P1.length ≤ 4000) := hid hL.1
  have HL2 : Hid (P2.length ≤ 4000) := hid hL.2
  have HP := hid hP
  have HC := hid hC
  have HK := hid hkeep
  have hd3 : (P3 == P3) = true := by simp
  have hdx : (x == x) = true := by simp
  have hdy : (y == y) = true := by simp
  clear hP hC hL hkeep
  go_enter Try.func13, Try.ntmps13
  go_wp2_with fail
  refine (awake6_any _).mono ?_
  rintro e w1 ⟨rfl, hb⟩
  replace Hextents := hid (Hextents.out.below hb (Nat.le_refl _))
  replace Hfree := hid (Hfree.out.below hb (Nat.le_refl _))
  have B1 := hid (hb)
  clear hb
  go_wp2_with fail
  refine (release_any _ extents Kextents.out keep HK.out _ Hextents.out).mono ?_
  rintro e w2 ⟨a, b, rfl, h1, h2, hb⟩
  rw [← HP.out] at h1 h2 ⊢
  replace Hextents := hid (Hextents.out.below hb (Nat.le_refl _))
  replace Hfree := hid (Hfree.out.below hb (Nat.le_refl _))
  have B2 := hid (B1.out.trans (hb.mono B1.out.size))
  have Ha := hid h1
  have Hb := hid h2
  clear h1 h2 hb
  go_wp2_with fail
  refine (refRelease_any _ extents Kextents.out keep HK.out _ Hextents.out).mono ?_
  rintro e w3 ⟨c, d, rfl, h1, h2, hb⟩
  rw [← HP.out] at h1 h2 ⊢
  replace Hextents := hid (Hextents.out.below hb (Nat.le_refl _))
  replace Hfree := hid (Hfree.out.below hb (Nat.le_refl _))
  replace Ha := hid (Ha.out.below hb (Nat.le_refl _))
  replace Hb := hid (Hb.out.below hb (Nat.le_refl _))
  have B3 := hid (B2.out.trans (hb.mono B2.out.size))
  have Hc := hid h1
  have Hd := hid h2
  clear h1 h2 hb
  go_wp2_with fail
  refine (consolidate_any _ _ extents free Kextents.out Kfree.out _ Hextents.out Hfree.out).mono ?_
  rintro e w4 ⟨rfl, hb⟩
  rw [← HC.out]
  replace Hextents := hid (Hextents.out.below hb (Nat.le_refl _))
  replace Hfree := hid (Hfree.out.below hb (Nat.le_refl _))
  replace Ha := hid (Ha.out.below hb (Nat.le_refl _))
  replace Hb := hid (Hb.out.below hb (Nat.le_refl _))
  replace Hc := hid (Hc.out.below hb (Nat.le_refl _))
  replace Hd := hid (Hd.out.below hb (Nat.le_refl _))
  have B4 := hid (B3.out.trans (hb.mono B3.out.size))
  clear hb
  go_upto_region 6 with fail
  obtain ⟨w5, hw5⟩ : ∃ q, q = w4.alloc (.cells #[.int .i64 x, .int .i64 y] 47) := ⟨_, rfl⟩
  obtain ⟨bx, hbx⟩ : ∃ q, q = w4.heap.size := ⟨_, rfl⟩
  have hr : Row w5 bx 47 [.int .i64 x, .int .i64 y] := by rw [hw5, hbx]; exact Row.new _ _ _
  have hb : Below w4.heap.size w4 w5 := by rw [hw5]; exact (Below.refl _ _).alloc (Nat.le_refl _) _
  replace Hextents := hid (Hextents.out.below hb (Nat.le_refl _))
  replace Hfree := hid (Hfree.out.below hb (Nat.le_refl _))
  replace Ha := hid (Ha.out.below hb (Nat.le_refl _))
  replace Hb := hid (Hb.out.below hb (Nat.le_refl _))
  replace Hc := hid (Hc.out.below hb (Nat.le_refl _))
  replace Hd := hid (Hd.out.below hb (Nat.le_refl _))
  have B5 := hid (B4.out.trans (hb.mono B4.out.size))
  rw [← hw5, ← hbx]
  have Rbx := hid hr
  clear hr hb hw5 hbx
  go_wp2_with fail
  refine (refConsolidate_any _ _ extents free Kextents.out Kfree.out _ Hextents.out Hfree.out).mono ?_
  rintro e w6 ⟨rfl, hb⟩
  rw [← HC.out]
  replace Rbx := hid (Rbx.out.keep hb)
  replace Hextents := hid (Hextents.out.below hb (Nat.le_refl _))
  replace Hfree := hid (Hfree.out.below hb (Nat.le_refl _))
  replace Ha := hid (Ha.out.below hb (Nat.le_refl _))
  replace Hb := hid (Hb.out.below hb (Nat.le_refl _))
  replace Hc := hid (Hc.out.below hb (Nat.le_refl _))
  replace Hd := hid (Hd.out.below hb (Nat.le_refl _))
  have B6 := hid (B5.out.trans (hb.mono B5.out.size))
  clear hb
  go_upto_region 7 with fail
  obtain ⟨w7, hw7⟩ : ∃ q, q = w6.alloc (.cells #[.int .i64 x, .int .i64 y] 47) := ⟨_, rfl⟩
  obtain ⟨by1, hby1⟩ : ∃ q, q = w6.heap.size := ⟨_, rfl⟩
  have hr : Row w7 by1 47 [.int .i64 x, .int .i64 y] := by rw [hw7, hby1]; exact Row.new _ _ _
  have hb : Below w6.heap.size w6 w7 := by rw [hw7]; exact (Below.refl _ _).alloc (Nat.le_refl _) _
  replace Rbx := hid (Rbx.out.keep hb)
  replace Hextents := hid (Hextents.out.below hb (Nat.le_refl _))
  replace Hfree := hid (Hfree.out.below hb (Nat.le_refl _))
  replace Ha := hid (Ha.out.below hb (Nat.le_refl _))
  replace Hb := hid (Hb.out.below hb (Nat.le_refl _))
  replace Hc := hid (Hc.out.below hb (Nat.le_refl _))
  replace Hd := hid (Hd.out.below hb (Nat.le_refl _))
  have B7 := hid (B6.out.trans (hb.mono B6.out.size))
  rw [← hw7, ← hby1]
  have Rby1 := hid hr
  clear hr hb hw7 hby1
  go_wp2_with fail
  refine (same_any _ _ P1 P1 HL1.out HL1.out _ Ha.out Hc.out).mono ?_
  rintro e w8 ⟨rfl, hb⟩
  rw [decide_eq_true (rfl : P1 = P1)]
  replace Rbx := hid (Rbx.out.keep hb)
  replace Rby1 := hid (Rby1.out.keep hb)
  replace Hextents := hid (Hextents.out.below hb (Nat.le_refl _))
  replace Hfree := hid (Hfree.out.below hb (Nat.le_refl _))
  replace Ha := hid (Ha.out.below hb (Nat.le_refl _))
  replace Hb := hid (Hb.out.below hb (Nat.le_refl _))
  replace Hc := hid (Hc.out.below hb (Nat.le_refl _))
  replace Hd := hid (Hd.out.below hb (Nat.le_refl _))
  have B8 := hid (B7.out.trans (hb.mono B7.out.size))
  clear hb
  go_wp2_with fail
  refine (same_any _ _ P2 P2 HL2.out HL2.out _ Hb.out Hd.out).mono ?_
  rintro e w9 ⟨rfl, hb⟩
  rw [decide_eq_true (rfl : P2 = P2)]
  replace Rbx := hid (Rbx.out.keep hb)
  replace Rby1 := hid (Rby1.out.keep hb)
  replace Hextents := hid (Hextents.out.below hb (Nat.le_refl _))
  replace Hfree := hid (Hfree.out.below hb (Nat.le_refl _))
  replace Ha := hid (Ha.out.below hb (Nat.le_refl _))
  replace Hb := hid (Hb.out.below hb (Nat.le_refl _))
  replace Hc := hid (Hc.out.below hb (Nat.le_refl _))
  replace Hd := hid (Hd.out.below hb (Nat.le_refl _))
  have B9 := hid (B8.out.trans (hb.mono B8.out.size))
  clear hb
  have bx0 := Rbx.out.cell (i := 0) rfl
  have bx1 := Rbx.out.cell (i := 1) rfl
  have by10 := Rby1.out.cell (i := 0) rfl
  have by11 := Rby1.out.cell (i := 1) rfl
  cases ok
  all_goals
    go_wp2_with fail
    go_ret
    exact ⟨rfl, B9.out⟩
theorem main_SpaceReleases (extents : List (Int × Int)) (Aextents : Option Addr) (capextents : Nat) (free : List (Int × Int)) (Afree : Option Addr) (capfree : Nat) (keep : Int) {w : World} (hcextents : extents.length ≤ capextents) (hdextents : capextents ≤ 9223372036854775807) (hrextents : RunsAt w (.slice Aextents extents.length capextents) extents) (hcfree : free.length ≤ capfree) (hdfree : capfree ≤ 9223372036854775807) (hrfree : RunsAt w (.slice Afree free.length capfree) free) (hkeep : -9223372036854775808 ≤ keep ∧ keep ≤ 9223372036854775807) :
    Calls Try.prog 13 #[.slice Aextents extents.length capextents, .slice Afree free.length capfree, .int .i64 keep] w (Answers true w) := by
  by_cases h : extents.length ≤ 30 ∧ free.length ≤ 30
  · exact short_SpaceReleases extents Aextents capextents free Afree capfree keep hcextents hdextents hrextents hcfree hdfree hrfree hkeep  h.1 h.2
  · exact long_SpaceReleases extents Aextents capextents free Afree capfree keep hcextents hdextents hrextents hcfree hdfree hrfree hkeep h
theorem walk_SpaceReleases (Aextents : Option Addr) (lenextents capextents : Nat) (Cextents : Nat → Nat → Value) (Afree : Option Addr) (lenfree capfree : Nat) (Cfree : Nat → Nat → Value) (keep : Int) (w : World) (hlextents : lenextents ≤ capextents) (hmextents : capextents ≤ maxLen) (hEextents : Elems w Aextents lenextents 2 Cextents) (hextents0 : ∀ i, i < lenextents → ∃ n : Int, Cextents i 0 = .int .i64 n ∧ -9223372036854775808 ≤ n ∧ n ≤ 9223372036854775807) (hextents1 : ∀ i, i < lenextents → ∃ n : Int, Cextents i 1 = .int .i64 n ∧ -9223372036854775808 ≤ n ∧ n ≤ 9223372036854775807) (hlfree : lenfree ≤ capfree) (hmfree : capfree ≤ maxLen) (hEfree : Elems w Afree lenfree 2 Cfree) (hfree0 : ∀ i, i < lenfree → ∃ n : Int, Cfree i 0 = .int .i64 n ∧ -9223372036854775808 ≤ n ∧ n ≤ 9223372036854775807) (hfree1 : ∀ i, i < lenfree → ∃ n : Int, Cfree i 1 = .int .i64 n ∧ -9223372036854775808 ≤ n ∧ n ≤ 9223372036854775807) (hkeep : -9223372036854775808 ≤ keep ∧ keep ≤ 9223372036854775807) :
    Calls Try.prog 13 #[.slice Aextents lenextents capextents, .slice Afree lenfree capfree, .int .i64 keep] w fun e w' => e = .returned (.bool true) ∧ Below w.heap.size w w' := by
  obtain ⟨extents, hnextents, hrextents⟩ := runs_of hlextents hmextents hEextents hextents0 hextents1
  subst hnextents
  unfold maxLen at hmextents
  obtain ⟨free, hnfree, hrfree⟩ := runs_of hlfree hmfree hEfree hfree0 hfree1
  subst hnfree
  unfold maxLen at hmfree
  exact main_SpaceReleases extents _ capextents free _ capfree keep hlextents (by omega) hrextents hlfree (by omega) hrfree hkeep
namespace spaceReleases
theorem own : ownKnob Try.prog.godebug = none := by kernel_rfl
theorem laidOut : laidOutB Try.prog = true := by kernel_rfl
set_option linter.unusedVariables false
set_option maxRecDepth 100000 in
theorem lifted (os : Os) (started : os.Started) (H : Type) (enc : TypeId × Value → H) :
    ReturnsInHanded {} Try.checked os 13 .any (Rows.spaceReleasesSpec.pre6 enc Try.prog Try.f13 Rows.spaceReleasesRow.domain false) (Rows.spaceReleasesSpec.post enc Try.prog Try.f13 false true false false) := by
  refine returnsInHanded_of_change (C := Try.checked) own started (by kernel_rfl) Try.func13
    (ChangeSpec.witness6 (enc := enc) (C := Try.checked) false ⟨#[], #[.slice none 0 0, .slice none 0 0, .int .i64 0], []⟩ 8 (by kernel_rfl) (by kernel_rfl) (by kernel_rfl) (by kernel_rfl)) ?_
  intro W base args ds gs before hval0 hW hcnd _
  have hval : ∀ (j : Nat) t v, Try.f13.params[j]? = some t → args[j]? = some v → Value.okWide Try.prog W .any base t v := hval0
  have hW' := hW
  obtain ⟨p, q, hA0, hV, rfl, hfz, hnd⟩ := hW
  have hA : DataW.TrodAll enc Try.prog W 0 (fun _ => true) true Try.f13.params.toList args.toList ds p := hA0
  rw [Try.params13] at hA hval
  obtain ⟨v0, vs0, d0, ds0, p0, q0, hargs, rfl, rfl, h0, r0⟩ := trodAll_cons hA
  obtain ⟨v1, vs1, d1, ds1, p1, q1, rfl, rfl, rfl, h1, r1⟩ := trodAll_cons r0
  obtain ⟨v2, vs2, d2, ds2, p2, q2, rfl, rfl, rfl, h2, r2⟩ := trodAll_cons r1
  obtain ⟨rfl, rfl, rfl⟩ := trodAll_nil r2
  obtain rfl : args = #[v0, v1, v2] := by cases args; simp_all
  obtain ⟨rfl, rfl⟩ := trodVars_none hV
  obtain ⟨a0, len0, cap0, rfl⟩ := okWide_slice Try.underlying22 (hval 0 22 v0 rfl rfl)
  have k0 := h0
  have lt0 : ∀ x ∈ p0, x.block < W.heap.size := by obtain ⟨m, hm⟩ := k0; exact DataW.trod_lt m _ _ _ hm
  obtain ⟨fuel0, hf0⟩ := h0
  obtain ⟨A0, l0, c0, C0, hcs0, hl0, hm0, hE0, hF0⟩ := open_elems Try.underlying22 Try.underlying47 (by kernel_rfl) (by kernel_rfl) (by decide) hf0
  simp only [Value.cells, List.cons.injEq, Value.slice.injEq, and_true] at hcs0
  obtain ⟨rfl, rfl, rfl⟩ := hcs0
  have s0_0 : ∀ i, i < len0 → ∃ n : Int, C0 i 0 = .int .i64 n ∧ -9223372036854775808 ≤ n ∧ n ≤ 9223372036854775807 := fun i hi => by obtain ⟨y, n, hy⟩ := hF0 i 0 _ hi rfl; obtain ⟨n, e, _, hw⟩ := DataW.trod_int Try.underlying3 hy; exact ⟨n, List.head_eq_of_cons_eq e, bounds_i64 hw⟩
  have s0_1 : ∀ i, i < len0 → ∃ n : Int, C0 i 1 = .int .i64 n ∧ -9223372036854775808 ≤ n ∧ n ≤ 9223372036854775807 := fun i hi => by obtain ⟨y, n, hy⟩ := hF0 i 1 _ hi rfl; obtain ⟨n, e, _, hw⟩ := DataW.trod_int Try.underlying3 hy; exact ⟨n, List.head_eq_of_cons_eq e, bounds_i64 hw⟩
  obtain ⟨a1, len1, cap1, rfl⟩ := okWide_slice Try.underlying22 (hval 1 22 v1 rfl rfl)
  have k1 := h1
  have lt1 : ∀ x ∈ p1, x.block < W.heap.size := by obtain ⟨m, hm⟩ := k1; exact DataW.trod_lt m _ _ _ hm
  obtain ⟨fuel1, hf1⟩ := h1
  obtain ⟨A1, l1, c1, C1, hcs1, hl1, hm1, hE1, hF1⟩ := open_elems Try.underlying22 Try.underlying47 (by kernel_rfl) (by kernel_rfl) (by decide) hf1
  simp only [Value.cells, List.cons.injEq, Value.slice.injEq, and_true] at hcs1
  obtain ⟨rfl, rfl, rfl⟩ := hcs1
  have s1_0 : ∀ i, i < len1 → ∃ n : Int, C1 i 0 = .int .i64 n ∧ -9223372036854775808 ≤ n ∧ n ≤ 9223372036854775807 := fun i hi => by obtain ⟨y, n, hy⟩ := hF1 i 0 _ hi rfl; obtain ⟨n, e, _, hw⟩ := DataW.trod_int Try.underlying3 hy; exact ⟨n, List.head_eq_of_cons_eq e, bounds_i64 hw⟩
  have s1_1 : ∀ i, i < len1 → ∃ n : Int, C1 i 1 = .int .i64 n ∧ -9223372036854775808 ≤ n ∧ n ≤ 9223372036854775807 := fun i hi => by obtain ⟨y, n, hy⟩ := hF1 i 1 _ hi rfl; obtain ⟨n, e, _, hw⟩ := DataW.trod_int Try.underlying3 hy; exact ⟨n, List.head_eq_of_cons_eq e, bounds_i64 hw⟩
  obtain ⟨a2, rfl, rfl, rfl, w2⟩ := open_int Try.underlying3 (hval 2 3 v2 rfl rfl) h2
  clear hA0 hval0
  refine (walk_SpaceReleases a0 len0 cap0 C0 a1 len1 cap1 C1 a2 hl0 hm0 hE0 s0_0 s0_1 hl1 hm1 hE1 s1_0 s1_1 (bounds_i64 w2) (w := W)).mono fun e W' ⟨he, bel⟩ => ?_
  subst he
  exact ⟨_, rfl, _, _, _, [], _, [], hW', trodAll_mk1 (shut_bool Try.underlying4 _), (trodAll_cons_mk (Below.trod laidOut (by kernel_rfl) (of_decide_eq_true (by kernel_rfl)) k0 bel lt0) (trodAll_cons_mk (Below.trod laidOut (by kernel_rfl) (of_decide_eq_true (by kernel_rfl)) k1 bel lt1) (trodAll_cons_mk (shut_int Try.underlying3 w2) trodAll_mk0))), rfl, bel.frame _, fun h => by cases h⟩
theorem over : Rows.spaceReleasesRow.holds Try.pinned (OpenSpec.ofChange Rows.spaceReleasesSpec) :=
  OpenClaim.holds_of_wide 13 Try.f13 rfl rfl rfl rfl rfl rfl rfl ⟨rfl, rfl, rfl, rfl, rfl⟩ rfl rfl rfl rfl rfl (by kernel_rfl) Try.func13 (by kernel_rfl)
    (of_decide_eq_true (by kernel_rfl)) (by unfold Func.isWrapper; first | (rw [if_pos (by decide +kernel)]; kernel_rfl) | (rw [if_neg (by decide +kernel)]; exact ⟨rfl, rfl⟩))
    (fun os started H enc _ => lifted os started H enc)
theorem proved : Rows.SpaceReleasesSaid := over
end spaceReleases

end Go.Proofs.Ytpcigmjbjcgdbaa
