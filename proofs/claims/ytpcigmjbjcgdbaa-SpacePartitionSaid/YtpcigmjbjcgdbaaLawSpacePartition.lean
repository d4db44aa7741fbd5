/- Statement SpacePartition: Free and used tracks of an interval are all of its tracks, and none of them is both. For every list of at most 30 runs, which is the statement's own bound. -/
import Derived.Test.YtpcigmjbjcgdbaaRows
import Derived.WalkKit
import Derived.ProofKit
import Derived.OpenShut
import Derived.ShutString
import Derived.ChangeOld
import Derived.Below
import Derived.Test.YtpcigmjbjcgdbaaSpF
import Derived.Test.YtpcigmjbjcgdbaaSlices
import Derived.Test.YtpcigmjbjcgdbaaOpen
namespace Go.Proofs.Ytpcigmjbjcgdbaa
open Go.Lib Go.ChangeShapes Go.WideShapes Go.ChangeAt Go.RowKit
open Go.ChangeMaps (open_string shut_string)
set_option linter.unusedVariables false
set_option maxRecDepth 100000 in
theorem long_SpacePartition (first : Int) (last : Int) (used : List (Int × Int)) (Aused : Option Addr) (capused : Nat) {w : World} (hfirst : -9223372036854775808 ≤ first ∧ first ≤ 9223372036854775807) (hlast : -9223372036854775808 ≤ last ∧ last ≤ 9223372036854775807) (hcused : used.length ≤ capused) (hdused : capused ≤ 9223372036854775807) (hrused : RunsAt w (.slice Aused used.length capused) used) (hlong : ¬ (used.length ≤ 30)) :
    Calls Try.prog 14 #[.int .i64 first, .int .i64 last, .slice Aused used.length capused] w (Answers true w) := by
  clear hrused
  have h1 : ¬ (used.length : Int) ≤ 30 := by omega
  go_enter Try.func14, Try.ntmps14
  go_wp2_with fail
  refine (awake6_any _).mono ?_
  rintro e w1 ⟨rfl, hb⟩
  have B1 := hid (hb)
  clear hb
  go_wp2_with fail
  refine (awake6_any _).mono ?_
  rintro e w2 ⟨rfl, hb⟩
  have B2 := hid (B1.out.trans (hb.mono B1.out.size))
  clear hb
  go_wp2_with fail
  go_ret
  exact ⟨rfl, B2.out⟩
set_option maxRecDepth 100000 in
set_option maxHeartbeats 4000000 in
theorem short_SpacePartition (first : Int) (last : Int) (used : List (Int × Int)) (Aused : Option Addr) (capused : Nat) {w : World} (hfirst : -9223372036854775808 ≤ first ∧ first ≤ 9223372036854775807) (hlast : -9223372036854775808 ≤ last ∧ last ≤ 9223372036854775807) (hcused : used.length ≤ capused) (hdused : capused ≤ 9223372036854775807) (hrused : RunsAt w (.slice Aused used.length capused) used) (hsused : used.length ≤ 30) :
    Calls Try.prog 14 #[.int .i64 first, .int .i64 last, .slice Aused used.length capused] w (Answers true w) := by
  have Hused := hid hrused
  have Kused : Hid (used.length ≤ 4000) := by show _ ≤ _; omega
  clear hrused
  have HV : Hid (decide (FreeAns first last used = norm (inB (FreeAns first last used))) = true) := by
    show _ = _
    rw [decide_eq_true_iff]
    exact (norm_inB _).symm
  have HF := hid hfirst
  have HLa := hid hlast
  obtain ⟨hf1, hf2⟩ := hfirst
  obtain ⟨hl1, hl2⟩ := hlast
  go_enter Try.func14, Try.ntmps14
  go_wp2_with fail
  refine (awake6_any _).mono ?_
  rintro e w1 ⟨rfl, hb⟩
  replace Hused := hid (Hused.out.below hb (Nat.le_refl _))
  have B1 := hid (hb)
  clear hb
  go_wp2_with fail
  refine (free_any _ used Kused.out first last HF.out HLa.out _ Hused.out).mono ?_
  rintro e w2 ⟨f, rfl, h1, h2, hb⟩
  replace Hused := hid (Hused.out.below hb (Nat.le_refl _))
  have B2 := hid (B1.out.trans (hb.mono B1.out.size))
  have Hf := hid (OwnRuns.at h1 (minusI_bd _ _))
  clear h1 h2 hb
  go_wp2_with fail
  refine (valid_any _ (FreeAns first last used) (minusI_len _ _) _ Hf.out).mono ?_
  rintro e w3 ⟨rfl, hb⟩
  rw [HV.out]
  replace Hused := hid (Hused.out.below hb (Nat.le_refl _))
  replace Hf := hid (Hf.out.below hb (Nat.le_refl _))
  have B3 := hid (B2.out.trans (hb.mono B2.out.size))
  clear hb
  go_wp2_with fail
  go_loopw [8] (fun i wr => ∃ j : Nat, j ≤ 128 ∧ i = .int .i64 j ∧ Below w3.heap.size w3 wr) (fun i _ => (128 - intOf i).toNat)
  case atStart => exact ⟨0, by omega, rfl, Below.refl _ _⟩
  case round =>
    obtain ⟨j, hj, rfl, hb⟩ := hrel
    have HB := hid hb
    by_cases hlt : j < 128
    · have hx : (FirstAt (seqI (FreeAns first last used)) j).2 = (decide (first ≤ j ∧ (j : Int) < last) && !hasT used j) := hasT_free first last used j hlt
      have hy : (FirstAt (seqI used) j).2 = hasT used j := rfl
      have HT : Hid (-9223372036854775808 ≤ (j : Int) ∧ (j : Int) ≤ 9223372036854775807) := hid (by omega)
      obtain ⟨y, ey⟩ : ∃ y, y = hasT used j := ⟨_, rfl⟩
      rw [← ey] at hx hy
      have GY := hid hy
      clear hb hy ey
      by_cases h1 : first ≤ j
      · by_cases h2 : (j : Int) < last
        · skip
          have hx2 : (FirstAt (seqI (FreeAns first last used)) j).2 = !y := by rw [hx]; simp [h1, h2]
          have GX := hid hx2
          clear hx hx2
          cases y
          all_goals
            go_wp2_with fail
            refine (contains_any _ (FreeAns first last used) (minusI_len _ _) j HT.out _ (Hf.out.below HB.out (Nat.le_refl _))).mono ?_
            rintro e y1 ⟨rfl, hb⟩
            rw [GX.out]
            have E1 := hid (HB.out.trans (hb.mono HB.out.size))
            clear hb
            go_wp2_with fail
            refine (contains_any _ used Kused.out j HT.out _ (Hused.out.below E1.out (Nat.le_refl _))).mono ?_
            rintro e y2 ⟨rfl, hb⟩
            rw [GY.out]
            have E2 := hid (E1.out.trans (hb.mono E1.out.size))
            clear hb
            go_wp2_with fail
            go_roundw
            case rel => exact ⟨j + 1, by omega, by go_num, E2.out⟩
            case measure => simp [intOf]; omega
        · skip
          have hx2 : (FirstAt (seqI (FreeAns first last used)) j).2 = false := by rw [hx]; simp [h1, h2]
          have GX := hid hx2
          clear hx hx2
          go_wp2_with fail
          refine (contains_any _ (FreeAns first last used) (minusI_len _ _) j HT.out _ (Hf.out.below HB.out (Nat.le_refl _))).mono ?_
          rintro e y1 ⟨rfl, hb⟩
          rw [GX.out]
          have E1 := hid (HB.out.trans (hb.mono HB.out.size))
          clear hb
          go_wp2_with fail
          go_roundw
          case rel => exact ⟨j + 1, by omega, by go_num, E1.out⟩
          case measure => simp [intOf]; omega
      · skip
        have hx2 : (FirstAt (seqI (FreeAns first last used)) j).2 = false := by rw [hx]; simp [h1]
        have GX := hid hx2
        clear hx hx2
        go_wp2_with fail
        refine (contains_any _ (FreeAns first last used) (minusI_len _ _) j HT.out _ (Hf.out.below HB.out (Nat.le_refl _))).mono ?_
        rintro e y1 ⟨rfl, hb⟩
        rw [GX.out]
        have E1 := hid (HB.out.trans (hb.mono HB.out.size))
        clear hb
        go_wp2_with fail
        go_roundw
        case rel => exact ⟨j + 1, by omega, by go_num, E1.out⟩
        case measure => simp [intOf]; omega
    · obtain rfl : j = 128 := by omega
      clear hb
      go_wp2_with fail
      go_ret
      exact ⟨rfl, B3.out.trans (HB.out.mono B3.out.size)⟩
theorem main_SpacePartition (first : Int) (last : Int) (used : List (Int × Int)) (Aused : Option Addr) (capused : Nat) {w : World} (hfirst : -9223372036854775808 ≤ first ∧ first ≤ 9223372036854775807) (hlast : -9223372036854775808 ≤ last ∧ last ≤ 9223372036854775807) (hcused : used.length ≤ capused) (hdused : capused ≤ 9223372036854775807) (hrused : RunsAt w (.slice Aused used.length capused) used) :
    Calls Try.prog 14 #[.int .i64 first, .int .i64 last, .slice Aused used.length capused] w (Answers true w) := by
  by_cases h : used.length ≤ 30
  · exact short_SpacePartition first last used Aused capused hfirst hlast hcused hdused hrused  h
  · exact long_SpacePartition first last used Aused capused hfirst hlast hcused hdused hrused h
theorem walk_SpacePartition (first : Int) (last : Int) (Aused : Option Addr) (lenused capused : Nat) (Cused : Nat → Nat → Value) (w : World) (hfirst : -9223372036854775808 ≤ first ∧ first ≤ 9223372036854775807) (hlast : -9223372036854775808 ≤ last ∧ last ≤ 9223372036854775807) (hlused : lenused ≤ capused) (hmused : capused ≤ maxLen) (hEused : Elems w Aused lenused 2 Cused) (hused0 : ∀ i, i < lenused → ∃ n : Int, Cused i 0 = .int .i64 n ∧ -9223372036854775808 ≤ n ∧ n ≤ 9223372036854775807) (hused1 : ∀ i, i < lenused → ∃ n : Int, Cused i 1 = .int .i64 n ∧ -9223372036854775808 ≤ n ∧ n ≤ 9223372036854775807) :
    Calls Try.prog 14 #[.int .i64 first, .int .i64 last, .slice Aused lenused capused] w fun e w' => e = .returned (.bool true) ∧ Below w.heap.size w w' := by
  obtain ⟨used, hnused, hrused⟩ := runs_of hlused hmused hEused hused0 hused1
  subst hnused
  unfold maxLen at hmused
  exact main_SpacePartition first last used _ capused hfirst hlast hlused (by omega) hrused
namespace spacePartition
theorem own : ownKnob Try.prog.godebug = none := by kernel_rfl
theorem laidOut : laidOutB Try.prog = true := by kernel_rfl
set_option linter.unusedVariables false
set_option maxRecDepth 100000 in
theorem lifted (os : Os) (started : os.Started) (H : Type) (enc : TypeId × Value → H) :
    ReturnsInHanded {} Try.checked os 14 .any (Rows.spacePartitionSpec.pre6 enc Try.prog Try.f14 Rows.spacePartitionRow.domain false) (Rows.spacePartitionSpec.post enc Try.prog Try.f14 false true false false) := by
  refine returnsInHanded_of_change (C := Try.checked) own started (by kernel_rfl) Try.func14
    (ChangeSpec.witness6 (enc := enc) (C := Try.checked) false ⟨#[], #[.int .i64 0, .int .i64 0, .slice none 0 0], []⟩ 8 (by kernel_rfl) (by kernel_rfl) (by kernel_rfl) (by kernel_rfl)) ?_
  intro W base args ds gs before hval0 hW hcnd _
  have hval : ∀ (j : Nat) t v, Try.f14.params[j]? = some t → args[j]? = some v → Value.okWide Try.prog W .any base t v := hval0
  have hW' := hW
  obtain ⟨p, q, hA0, hV, rfl, hfz, hnd⟩ := hW
  have hA : DataW.TrodAll enc Try.prog W 0 (fun _ => true) true Try.f14.params.toList args.toList ds p := hA0
  rw [Try.params14] at hA hval
  obtain ⟨v0, vs0, d0, ds0, p0, q0, hargs, rfl, rfl, h0, r0⟩ := trodAll_cons hA
  obtain ⟨v1, vs1, d1, ds1, p1, q1, rfl, rfl, rfl, h1, r1⟩ := trodAll_cons r0
  obtain ⟨v2, vs2, d2, ds2, p2, q2, rfl, rfl, rfl, h2, r2⟩ := trodAll_cons r1
  obtain ⟨rfl, rfl, rfl⟩ := trodAll_nil r2
  obtain rfl : args = #[v0, v1, v2] := by cases args; simp_all
  obtain ⟨rfl, rfl⟩ := trodVars_none hV
  obtain ⟨a0, rfl, rfl, rfl, w0⟩ := open_int Try.underlying3 (hval 0 3 v0 rfl rfl) h0
  obtain ⟨a1, rfl, rfl, rfl, w1⟩ := open_int Try.underlying3 (hval 1 3 v1 rfl rfl) h1
  obtain ⟨a2, len2, cap2, rfl⟩ := okWide_slice Try.underlying22 (hval 2 22 v2 rfl rfl)
  have k2 := h2
  have lt2 : ∀ x ∈ p2, x.block < W.heap.size := by obtain ⟨m, hm⟩ := k2; exact DataW.trod_lt m _ _ _ hm
  obtain ⟨fuel2, hf2⟩ := h2
  obtain ⟨A2, l2, c2, C2, hcs2, hl2, hm2, hE2, hF2⟩ := open_elems Try.underlying22 Try.underlying47 (by kernel_rfl) (by kernel_rfl) (by decide) hf2
  simp only [Value.cells, List.cons.injEq, Value.slice.injEq, and_true] at hcs2
  obtain ⟨rfl, rfl, rfl⟩ := hcs2
  have s2_0 : ∀ i, i < len2 → ∃ n : Int, C2 i 0 = .int .i64 n ∧ -9223372036854775808 ≤ n ∧ n ≤ 9223372036854775807 := fun i hi => by obtain ⟨y, n, hy⟩ := hF2 i 0 _ hi rfl; obtain ⟨n, e, _, hw⟩ := DataW.trod_int Try.underlying3 hy; exact ⟨n, List.head_eq_of_cons_eq e, bounds_i64 hw⟩
  have s2_1 : ∀ i, i < len2 → ∃ n : Int, C2 i 1 = .int .i64 n ∧ -9223372036854775808 ≤ n ∧ n ≤ 9223372036854775807 := fun i hi => by obtain ⟨y, n, hy⟩ := hF2 i 1 _ hi rfl; obtain ⟨n, e, _, hw⟩ := DataW.trod_int Try.underlying3 hy; exact ⟨n, List.head_eq_of_cons_eq e, bounds_i64 hw⟩
  clear hA0 hval0
  refine (walk_SpacePartition a0 a1 a2 len2 cap2 C2 (bounds_i64 w0) (bounds_i64 w1) hl2 hm2 hE2 s2_0 s2_1 (w := W)).mono fun e W' ⟨he, bel⟩ => ?_
  subst he
  exact ⟨_, rfl, _, _, _, [], _, [], hW', trodAll_mk1 (shut_bool Try.underlying4 _), (trodAll_cons_mk (shut_int Try.underlying3 w0) (trodAll_cons_mk (shut_int Try.underlying3 w1) (trodAll_cons_mk (Below.trod laidOut (by kernel_rfl) (of_decide_eq_true (by kernel_rfl)) k2 bel lt2) trodAll_mk0))), rfl, bel.frame _, fun h => by cases h⟩
theorem over : Rows.spacePartitionRow.holds Try.pinned (OpenSpec.ofChange Rows.spacePartitionSpec) :=
  OpenClaim.holds_of_wide 14 Try.f14 rfl rfl rfl rfl rfl rfl rfl ⟨rfl, rfl, rfl, rfl, rfl⟩ rfl rfl rfl rfl rfl (by kernel_rfl) Try.func14 (by kernel_rfl)
    (of_decide_eq_true (by kernel_rfl)) (by unfold Func.isWrapper; first | (rw [if_pos (by decide +kernel)]; kernel_rfl) | (rw [if_neg (by decide +kernel)]; exact ⟨rfl, rfl⟩))
    (fun os started H enc _ => lifted os started H enc)
theorem proved : Rows.SpacePartitionSaid := over
end spacePartition

end Go.Proofs.Ytpcigmjbjcgdbaa
