/- Statement SpaceExtends: Extend returns what the specification says, for any runs and numbers. For all lists of at most 30 runs each, which is the statement's own bound. -/
import Derived.Test.YtfdmieeldiljlaaRows
import Derived.WalkKit
import Derived.ProofKit
import Derived.OpenShut
import Derived.ShutString
import Derived.ChangeOld
import Derived.Below
import Derived.Test.YtfdmieeldiljlaaSpY
import Derived.Test.YtfdmieeldiljlaaSpAw
import Derived.Test.YtfdmieeldiljlaaSlices
import Derived.Test.YtfdmieeldiljlaaOpen
namespace Go.Proofs.Ytfdmieeldiljlaa
open Go.Lib Go.ChangeShapes Go.WideShapes Go.ChangeAt Go.RowKit
open Go.ChangeMaps (open_string shut_string)
set_option linter.unusedVariables false
theorem ext_fine (E F : List (Int × Int)) (n : Int) (h : E.length ≤ 3000) : (ExtAns E F n).1.length ≤ 4000 ∧ Bd (ExtAns E F n).1 := by
  have h1 := joinI_len E
  have h2 := joinI_len (joinI E ++ [nextOf E F n])
  rw [List.length_append] at h2
  simp only [List.length_singleton] at h2
  unfold ExtAns
  split
  · exact ⟨by simp, fun r hr => by cases hr⟩
  · split
    · exact ⟨by simp only; omega, joinI_bd _⟩
    · split
      · have h3 := alloc_fine (minusI F (joinI (joinI E ++ [nextOf E F n]))) (n - (nextOf E F n).2) (16 - ((joinI (joinI E ++ [nextOf E F n])).length : Int))
        have h4 := joinI_len (joinI (joinI E ++ [nextOf E F n]) ++ (AllocAns (minusI F (joinI (joinI E ++ [nextOf E F n]))) (n - (nextOf E F n).2) (16 - ((joinI (joinI E ++ [nextOf E F n])).length : Int))).1)
        rw [List.length_append] at h4
        exact ⟨by simp only; omega, joinI_bd _⟩
      · exact ⟨by simp, fun r hr => by cases hr⟩
set_option maxRecDepth 100000 in
theorem long_SpaceExtends (extents : List (Int × Int)) (Aextents : Option Addr) (capextents : Nat) (free : List (Int × Int)) (Afree : Option Addr) (capfree : Nat) (n : Int) {w : World} (hcextents : extents.length ≤ capextents) (hdextents : capextents ≤ 9223372036854775807) (hrextents : RunsAt w (.slice Aextents extents.length capextents) extents) (hcfree : free.length ≤ capfree) (hdfree : capfree ≤ 9223372036854775807) (hrfree : RunsAt w (.slice Afree free.length capfree) free) (hn : -9223372036854775808 ≤ n ∧ n ≤ 9223372036854775807) (hlong : ¬ (extents.length ≤ 30 ∧ free.length ≤ 30)) :
    Calls Try.prog 12 #[.slice Aextents extents.length capextents, .slice Afree free.length capfree, .int .i64 n] w (Answers true w) := by
  clear hrextents
  clear hrfree
  by_cases h1 : extents.length ≤ 30
  · have h2 : ¬ free.length ≤ 30 := fun h => hlong ⟨h1, h⟩
    clear hlong
    go_enter Try.func12, Try.ntmps12
    go_wp2_with fail
    refine (awake6_any _).mono ?_
    rintro e w1 ⟨rfl, hb⟩
    have B1 := hid (hb)
    clear hb
    go_wp2_with fail
    refine (awake6_any _).mono ?_
    rintro e w2 ⟨rfl, hb⟩
    have B2 := hid (B1.out.trans (hb.mono B1.out.size))
    clear hb
    go_wp2_with fail
    go_ret
    exact ⟨rfl, B2.out⟩
  · clear hlong
    go_enter Try.func12, Try.ntmps12
    go_wp2_with fail
    refine (awake6_any _).mono ?_
    rintro e w1 ⟨rfl, hb⟩
    have B1 := hid (hb)
    clear hb
    go_wp2_with fail
    refine (awake6_any _).mono ?_
    rintro e w2 ⟨rfl, hb⟩
    have B2 := hid (B1.out.trans (hb.mono B1.out.size))
    clear hb
    go_wp2_with fail
    go_ret
    exact ⟨rfl, B2.out⟩
set_option maxRecDepth 100000 in
set_option maxHeartbeats 4000000 in
theorem short_SpaceExtends (extents : List (Int × Int)) (Aextents : Option Addr) (capextents : Nat) (free : List (Int × Int)) (Afree : Option Addr) (capfree : Nat) (n : Int) {w : World} (hcextents : extents.length ≤ capextents) (hdextents : capextents ≤ 9223372036854775807) (hrextents : RunsAt w (.slice Aextents extents.length capextents) extents) (hcfree : free.length ≤ capfree) (hdfree : capfree ≤ 9223372036854775807) (hrfree : RunsAt w (.slice Afree free.length capfree) free) (hn : -9223372036854775808 ≤ n ∧ n ≤ 9223372036854775807) (hsextents : extents.length ≤ 30) (hsfree : free.length ≤ 30) :
    Calls Try.prog 12 #[.slice Aextents extents.length capextents, .slice Afree free.length capfree, .int .i64 n] w (Answers true w) := by
  have Hextents := hid hrextents
  have Kextents : Hid (extents.length ≤ 4000) := by show _ ≤ _; omega
  clear hrextents
  have Hfree := hid hrfree
  have Kfree : Hid (free.length ≤ 4000) := by show _ ≤ _; omega
  clear hrfree
  obtain ⟨⟨P, P3⟩, hP⟩ : ∃ P, P = ExtAns extents free n := ⟨_, rfl⟩
  have hfi := ext_fine extents free n (by omega)
  rw [← hP] at hfi
  have HPL : Hid (P.length ≤ 4000) := hid hfi.1
  have HPB : Hid (Bd P) := hid hfi.2
  have hd3 : (P3 == P3) = true := by simp
  have HP := hid hP
  have HN := hid hn
  clear hP hn hfi
  go_enter Try.func12, Try.ntmps12
  go_wp2_with fail
  refine (awake6_any _).mono ?_
  rintro e w1 ⟨rfl, hb⟩
  replace Hextents := hid (Hextents.out.below hb (Nat.le_refl _))
  replace Hfree := hid (Hfree.out.below hb (Nat.le_refl _))
  have B1 := hid (hb)
  clear hb
  go_wp2_with fail
  refine (extend_any _ _ extents free (by omega) Kfree.out n HN.out _ Hextents.out Hfree.out).mono ?_
  rintro e w2 ⟨a, rfl, h1, h2, hb⟩
  rw [← HP.out] at h1 ⊢
  simp only at h1 ⊢
  replace Hextents := hid (Hextents.out.below hb (Nat.le_refl _))
  replace Hfree := hid (Hfree.out.below hb (Nat.le_refl _))
  have B2 := hid (B1.out.trans (hb.mono B1.out.size))
  have Ha := hid (OwnRuns.at h1 HPB.out)
  clear h1 h2 hb
  go_wp2_with fail
  refine (refExtend_any _ _ extents free (by omega) Kfree.out n HN.out _ Hextents.out Hfree.out).mono ?_
  rintro e w3 ⟨b, rfl, h1, h2, hb⟩
  rw [← HP.out] at h1 ⊢
  simp only at h1 ⊢
  replace Hextents := hid (Hextents.out.below hb (Nat.le_refl _))
  replace Hfree := hid (Hfree.out.below hb (Nat.le_refl _))
  replace Ha := hid (Ha.out.below hb (Nat.le_refl _))
  have B3 := hid (B2.out.trans (hb.mono B2.out.size))
  have Hb := hid (OwnRuns.at h1 HPB.out)
  clear h1 h2 hb
  go_wp2_with fail
  refine (same_any _ _ P P HPL.out HPL.out _ Ha.out Hb.out).mono ?_
  rintro e w4 ⟨rfl, hb⟩
  rw [decide_eq_true (rfl : P = P)]
  replace Hextents := hid (Hextents.out.below hb (Nat.le_refl _))
  replace Hfree := hid (Hfree.out.below hb (Nat.le_refl _))
  replace Ha := hid (Ha.out.below hb (Nat.le_refl _))
  replace Hb := hid (Hb.out.below hb (Nat.le_refl _))
  have B4 := hid (B3.out.trans (hb.mono B3.out.size))
  clear hb
  go_wp2_with fail
  go_ret
  exact ⟨rfl, B4.out⟩
theorem main_SpaceExtends (extents : List (Int × Int)) (Aextents : Option Addr) (capextents : Nat) (free : List (Int × Int)) (Afree : Option Addr) (capfree : Nat) (n : Int) {w : World} (hcextents : extents.length ≤ capextents) (hdextents : capextents ≤ 9223372036854775807) (hrextents : RunsAt w (.slice Aextents extents.length capextents) extents) (hcfree : free.length ≤ capfree) (hdfree : capfree ≤ 9223372036854775807) (hrfree : RunsAt w (.slice Afree free.length capfree) free) (hn : -9223372036854775808 ≤ n ∧ n ≤ 9223372036854775807) :
    Calls Try.prog 12 #[.slice Aextents extents.length capextents, .slice Afree free.length capfree, .int .i64 n] w (Answers true w) := by
  by_cases h : extents.length ≤ 30 ∧ free.length ≤ 30
  · exact short_SpaceExtends extents Aextents capextents free Afree capfree n hcextents hdextents hrextents hcfree hdfree hrfree hn  h.1 h.2
  · exact long_SpaceExtends extents Aextents capextents free Afree capfree n hcextents hdextents hrextents hcfree hdfree hrfree hn h
theorem walk_SpaceExtends (Aextents : Option Addr) (lenextents capextents : Nat) (Cextents : Nat → Nat → Value) (Afree : Option Addr) (lenfree capfree : Nat) (Cfree : Nat → Nat → Value) (n : Int) (w : World) (hlextents : lenextents ≤ capextents) (hmextents : capextents ≤ maxLen) (hEextents : Elems w Aextents lenextents 2 Cextents) (hextents0 : ∀ i, i < lenextents → ∃ n : Int, Cextents i 0 = .int .i64 n ∧ -9223372036854775808 ≤ n ∧ n ≤ 9223372036854775807) (hextents1 : ∀ i, i < lenextents → ∃ n : Int, Cextents i 1 = .int .i64 n ∧ -9223372036854775808 ≤ n ∧ n ≤ 9223372036854775807) (hlfree : lenfree ≤ capfree) (hmfree : capfree ≤ maxLen) (hEfree : Elems w Afree lenfree 2 Cfree) (hfree0 : ∀ i, i < lenfree → ∃ n : Int, Cfree i 0 = .int .i64 n ∧ -9223372036854775808 ≤ n ∧ n ≤ 9223372036854775807) (hfree1 : ∀ i, i < lenfree → ∃ n : Int, Cfree i 1 = .int .i64 n ∧ -9223372036854775808 ≤ n ∧ n ≤ 9223372036854775807) (hn : -9223372036854775808 ≤ n ∧ n ≤ 9223372036854775807) :
    Calls Try.prog 12 #[.slice Aextents lenextents capextents, .slice Afree lenfree capfree, .int .i64 n] w fun e w' => e = .returned (.bool true) ∧ Below w.heap.size w w' := by
  obtain ⟨extents, hnextents, hrextents⟩ := runs_of hlextents hmextents hEextents hextents0 hextents1
  subst hnextents
  unfold maxLen at hmextents
  obtain ⟨free, hnfree, hrfree⟩ := runs_of hlfree hmfree hEfree hfree0 hfree1
  subst hnfree
  unfold maxLen at hmfree
  exact main_SpaceExtends extents _ capextents free _ capfree n hlextents (by omega) hrextents hlfree (by omega) hrfree hn
namespace spaceExtends
theorem own : ownKnob Try.prog.godebug = none := by kernel_rfl
theorem laidOut : laidOutB Try.prog = true := by kernel_rfl
set_option linter.unusedVariables false
set_option maxRecDepth 100000 in
theorem lifted (os : Os) (started : os.Started) (H : Type) (enc : TypeId × Value → H) :
    ReturnsInHanded {} Try.checked os 12 .any (Rows.spaceExtendsSpec.pre6 enc Try.prog Try.f12 Rows.spaceExtendsRow.domain false) (Rows.spaceExtendsSpec.post enc Try.prog Try.f12 false true false false) := by
  refine returnsInHanded_of_change (C := Try.checked) own started (by kernel_rfl) Try.func12
    (ChangeSpec.witness6 (enc := enc) (C := Try.checked) false ⟨#[], #[.slice none 0 0, .slice none 0 0, .int .i64 0], []⟩ 8 (by kernel_rfl) (by kernel_rfl) (by kernel_rfl) (by kernel_rfl)) ?_
  intro W base args ds gs before hval0 hW hcnd _
  have hval : ∀ (j : Nat) t v, Try.f12.params[j]? = some t → args[j]? = some v → Value.okWide Try.prog W .any base t v := hval0
  have hW' := hW
  obtain ⟨p, q, hA0, hV, rfl, hfz, hnd⟩ := hW
  have hA : DataW.TrodAll enc Try.prog W 0 (fun _ => true) true Try.f12.params.toList args.toList ds p := hA0
  rw [Try.params12] at hA hval
  obtain ⟨v0, vs0, d0, ds0, p0, q0, hargs, rfl, rfl, h0, r0⟩ := trodAll_cons hA
  obtain ⟨v1, vs1, d1, ds1, p1, q1, rfl, rfl, rfl, h1, r1⟩ := trodAll_cons r0
  obtain ⟨v2, vs2, d2, ds2, p2, q2, rfl, rfl, rfl, h2, r2⟩ := trodAll_cons r1
  obtain ⟨rfl, rfl, rfl⟩ := trodAll_nil r2
  obtain rfl : args = #[v0, v1, v2] := by cases args; simp_all
  obtain ⟨rfl, rfl⟩ := trodVars_none hV
  obtain ⟨a0, len0, cap0, rfl⟩ := okWide_slice Try.underlying22 (hval 0 22 v0 rfl rfl)
  have k0 := h0
  have lt0 : ∀ x ∈ p0, x.block < W.heap.size := by obtain ⟨m, hm⟩ := k0; exact DataW.trod_lt m _ _ _ hm
  obtain ⟨fuel0, hf0⟩ := h0
  obtain ⟨A0, l0, c0, C0, hcs0, hl0, hm0, hE0, hF0⟩ := open_elems Try.underlying22 Try.underlying47 (by kernel_rfl) (by kernel_rfl) (by decide) hf0
  simp only [Value.cells, List.cons.injEq, Value.slice.injEq, and_true] at hcs0
  obtain ⟨rfl, rfl, rfl⟩ := hcs0
  have s0_0 : ∀ i, i < len0 → ∃ n : Int, C0 i 0 = .int .i64 n ∧ -9223372036854775808 ≤ n ∧ n ≤ 9223372036854775807 := fun i hi => by obtain ⟨y, n, hy⟩ := hF0 i 0 _ hi rfl; obtain ⟨n, e, _, hw⟩ := DataW.trod_int Try.underlying3 hy; exact ⟨n, List.head_eq_of_cons_eq e, bounds_i64 hw⟩
  have s0_1 : ∀ i, i < len0 → ∃ n : Int, C0 i 1 = .int .i64 n ∧ -9223372036854775808 ≤ n ∧ n ≤ 9223372036854775807 := fun i hi => by obtain ⟨y, n, hy⟩ := hF0 i 1 _ hi rfl; obtain ⟨n, e, _, hw⟩ := DataW.trod_int Try.underlying3 hy; exact ⟨n, List.head_eq_of_cons_eq e, bounds_i64 hw⟩
  obtain ⟨a1, len1, cap1, rfl⟩ := okWide_slice Try.underlying22 (hval 1 22 v1 rfl rfl)
  have k1 := h1
  have lt1 : ∀ x ∈ p1, x.block < W.heap.size := by obtain ⟨m, hm⟩ := k1; exact DataW.trod_lt m _ _ _ hm
  obtain ⟨fuel1, hf1⟩ := h1
  obtain ⟨A1, l1, c1, C1, hcs1, hl1, hm1, hE1, hF1⟩ := open_elems Try.underlying22 Try.underlying47 (by kernel_rfl) (by kernel_rfl) (by decide) hf1
  simp only [Value.cells, List.cons.injEq, Value.slice.injEq, and_true] at hcs1
  obtain ⟨rfl, rfl, rfl⟩ := hcs1
  have s1_0 : ∀ i, i < len1 → ∃ n : Int, C1 i 0 = .int .i64 n ∧ -9223372036854775808 ≤ n ∧ n ≤ 9223372036854775807 := fun i hi => by obtain ⟨y, n, hy⟩ := hF1 i 0 _ hi rfl; obtain ⟨n, e, _, hw⟩ := DataW.trod_int Try.underlying3 hy; exact ⟨n, List.head_eq_of_cons_eq e, bounds_i64 hw⟩
  have s1_1 : ∀ i, i < len1 → ∃ n : Int, C1 i 1 = .int .i64 n ∧ -9223372036854775808 ≤ n ∧ n ≤ 9223372036854775807 := fun i hi => by obtain ⟨y, n, hy⟩ := hF1 i 1 _ hi rfl; obtain ⟨n, e, _, hw⟩ := DataW.trod_int Try.underlying3 hy; exact ⟨n, List.head_eq_of_cons_eq e, bounds_i64 hw⟩
  obtain ⟨a2, rfl, rfl, rfl, w2⟩ := open_int Try.underlying3 (hval 2 3 v2 rfl rfl) h2
  clear hA0 hval0
  refine (walk_SpaceExtends a0 len0 cap0 C0 a1 len1 cap1 C1 a2 hl0 hm0 hE0 s0_0 s0_1 hl1 hm1 hE1 s1_0 s1_1 (bounds_i64 w2) (w := W)).mono fun e W' ⟨he, bel⟩ => ?_
  subst he
  exact ⟨_, rfl, _, _, _, [], _, [], hW', trodAll_mk1 (shut_bool Try.underlying4 _), (trodAll_cons_mk (Below.trod laidOut (by kernel_rfl) (of_decide_eq_true (by kernel_rfl)) k0 bel lt0) (trodAll_cons_mk (Below.trod laidOut (by kernel_rfl) (of_decide_eq_true (by kernel_rfl)) k1 bel lt1) (trodAll_cons_mk (shut_int Try.underlying3 w2) trodAll_mk0))), rfl, bel.frame _, fun h => by cases h⟩
theorem over : Rows.spaceExtendsRow.holds Try.pinned (OpenSpec.ofChange Rows.spaceExtendsSpec) :=
  OpenClaim.holds_of_wide 12 Try.f12 rfl rfl rfl rfl rfl rfl rfl ⟨rfl, rfl, rfl, rfl, rfl⟩ rfl rfl rfl rfl rfl (by kernel_rfl) Try.func12 (by kernel_rfl)
    (of_decide_eq_true (by kernel_rfl)) (by unfold Func.isWrapper; first | (rw [if_pos (by decide +kernel)]; kernel_rfl) | (rw [if_neg (by decide +kernel)]; exact ⟨rfl, rfl⟩))
    (fun os started H enc _ => lifted os started H enc)
theorem proved : Rows.SpaceExtendsSaid := over
end spaceExtends

end Go.Proofs.Ytfdmieeldiljlaa
