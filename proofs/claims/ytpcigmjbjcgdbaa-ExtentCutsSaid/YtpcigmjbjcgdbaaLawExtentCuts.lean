/- Statement ExtentCuts: Join and Cut return what the specification says, for any lists and numbers. For all lists of at most 30 runs, which is the statement's own bound. -/
import Derived.Test.YtpcigmjbjcgdbaaRows
import Derived.WalkKit
import Derived.ProofKit
import Derived.OpenShut
import Derived.ShutString
import Derived.ChangeOld
import Derived.Below
import Derived.Test.YtpcigmjbjcgdbaaExtL
import Derived.Test.YtpcigmjbjcgdbaaSlices
import Derived.Test.YtpcigmjbjcgdbaaOpen
namespace Go.Proofs.Ytpcigmjbjcgdbaa
open Go.Lib Go.ChangeShapes Go.WideShapes Go.ChangeAt Go.RowKit
open Go.ChangeMaps (open_string shut_string)
set_option linter.unusedVariables false
set_option maxRecDepth 100000 in
theorem long_ExtentCuts (l : List (Int × Int)) (Al : Option Addr) (capl : Nat) (n : Int) {w : World} (hcl : l.length ≤ capl) (hdl : capl ≤ 9223372036854775807) (hrl : RunsAt w (.slice Al l.length capl) l) (hn : -9223372036854775808 ≤ n ∧ n ≤ 9223372036854775807) (hlong : ¬ (l.length ≤ 30)) :
    Calls Try.prog 6 #[.slice Al l.length capl, .int .i64 n] w (Answers true w) := by
  clear hrl
  have h1 : ¬ (l.length : Int) ≤ 30 := by omega
  go_enter Try.func6, Try.ntmps6
  go_wp2_with fail
  refine (awake_any _).mono ?_
  rintro e w1 ⟨rfl, hb⟩
  have B1 := hid (hb)
  clear hb
  go_wp2_with fail
  refine (awake_any _).mono ?_
  rintro e w2 ⟨rfl, hb⟩
  have B2 := hid (B1.out.trans (hb.mono B1.out.size))
  clear hb
  go_wp2_with fail
  go_ret
  exact ⟨rfl, B2.out⟩
set_option maxRecDepth 100000 in
set_option maxHeartbeats 4000000 in
theorem short_ExtentCuts (l : List (Int × Int)) (Al : Option Addr) (capl : Nat) (n : Int) {w : World} (hcl : l.length ≤ capl) (hdl : capl ≤ 9223372036854775807) (hrl : RunsAt w (.slice Al l.length capl) l) (hn : -9223372036854775808 ≤ n ∧ n ≤ 9223372036854775807) (hsl : l.length ≤ 30) :
    Calls Try.prog 6 #[.slice Al l.length capl, .int .i64 n] w (Answers true w) := by
  have Hl := hid hrl
  have Kl : Hid (l.length ≤ 4000) := by show _ ≤ _; omega
  clear hrl
  have HT := hid hn
  clear hn
  go_enter Try.func6, Try.ntmps6
  go_wp2_with fail
  refine (awake_any _).mono ?_
  rintro e w1 ⟨rfl, hb⟩
  replace Hl := hid (Hl.out.below hb (Nat.le_refl _))
  have B1 := hid (hb)
  clear hb
  go_wp2_with fail
  refine (cut_any _ l Kl.out n HT.out _ Hl.out).mono ?_
  rintro e w2 ⟨a, b, rfl, h1, h2, h3, h4, h5, hb⟩
  replace Hl := hid (Hl.out.below hb (Nat.le_refl _))
  have B2 := hid (B1.out.trans (hb.mono B1.out.size))
  have Ha := hid (OwnRuns.at h1 (seq_bd _ (take_lt _ _)))
  have Hb := hid (OwnRuns.at h2 (seq_bd _ (drop_lt _ _)))
  clear h1 h2 h3 h4 h5 hb
  go_wp2_with fail
  refine (refCut_any _ l Kl.out n HT.out _ Hl.out).mono ?_
  rintro e w3 ⟨p, q, rfl, h1, h2, h3, h4, h5, hb⟩
  replace Hl := hid (Hl.out.below hb (Nat.le_refl _))
  replace Ha := hid (Ha.out.below hb (Nat.le_refl _))
  replace Hb := hid (Hb.out.below hb (Nat.le_refl _))
  have B3 := hid (B2.out.trans (hb.mono B2.out.size))
  have Hp := hid (OwnRuns.at h1 (seq_bd _ (take_lt _ _)))
  have Hq := hid (OwnRuns.at h2 (seq_bd _ (drop_lt _ _)))
  clear h1 h2 h3 h4 h5 hb
  go_wp2_with fail
  refine (same_any _ _ (up (canon ((seqI l).take n.toNat))) (up (canon ((seqI l).take n.toNat))) (Nat.le_trans (cut_len _ _).1 Kl.out) (Nat.le_trans (cut_len _ _).1 Kl.out) _ Ha.out Hp.out).mono ?_
  rintro e w4 ⟨rfl, hb⟩
  rw [decide_eq_true (rfl : (up (canon ((seqI l).take n.toNat))) = (up (canon ((seqI l).take n.toNat))))]
  replace Hl := hid (Hl.out.below hb (Nat.le_refl _))
  replace Ha := hid (Ha.out.below hb (Nat.le_refl _))
  replace Hb := hid (Hb.out.below hb (Nat.le_refl _))
  replace Hp := hid (Hp.out.below hb (Nat.le_refl _))
  replace Hq := hid (Hq.out.below hb (Nat.le_refl _))
  have B4 := hid (B3.out.trans (hb.mono B3.out.size))
  clear hb
  go_wp2_with fail
  refine (same_any _ _ (up (canon ((seqI l).drop n.toNat))) (up (canon ((seqI l).drop n.toNat))) (Nat.le_trans (cut_len _ _).2 Kl.out) (Nat.le_trans (cut_len _ _).2 Kl.out) _ Hb.out Hq.out).mono ?_
  rintro e w5 ⟨rfl, hb⟩
  rw [decide_eq_true (rfl : (up (canon ((seqI l).drop n.toNat))) = (up (canon ((seqI l).drop n.toNat))))]
  replace Hl := hid (Hl.out.below hb (Nat.le_refl _))
  replace Ha := hid (Ha.out.below hb (Nat.le_refl _))
  replace Hb := hid (Hb.out.below hb (Nat.le_refl _))
  replace Hp := hid (Hp.out.below hb (Nat.le_refl _))
  replace Hq := hid (Hq.out.below hb (Nat.le_refl _))
  have B5 := hid (B4.out.trans (hb.mono B4.out.size))
  clear hb
  go_wp2_with fail
  refine (join_any _ l Kl.out _ Hl.out).mono ?_
  rintro e w6 ⟨j, rfl, h1, h2, hb⟩
  replace Hl := hid (Hl.out.below hb (Nat.le_refl _))
  have B6 := hid (B5.out.trans (hb.mono B5.out.size))
  have Hj := hid (OwnRuns.at h1 (seq_bd _ (seqI_lt _)))
  clear h1 h2 hb
  go_wp2_with fail
  refine (refJoin_any _ l Kl.out _ Hl.out).mono ?_
  rintro e w7 ⟨k, rfl, h1, h2, hb⟩
  replace Hl := hid (Hl.out.below hb (Nat.le_refl _))
  replace Hj := hid (Hj.out.below hb (Nat.le_refl _))
  have B7 := hid (B6.out.trans (hb.mono B6.out.size))
  have Hk := hid (OwnRuns.at h1 (seq_bd _ (seqI_lt _)))
  clear h1 h2 hb
  go_wp2_with fail
  refine (same_any _ _ (up (canon (seqI l))) (up (canon (seqI l))) (Nat.le_trans (join_len _) Kl.out) (Nat.le_trans (join_len _) Kl.out) _ Hj.out Hk.out).mono ?_
  rintro e w8 ⟨rfl, hb⟩
  rw [decide_eq_true (rfl : (up (canon (seqI l))) = (up (canon (seqI l))))]
  replace Hl := hid (Hl.out.below hb (Nat.le_refl _))
  replace Hj := hid (Hj.out.below hb (Nat.le_refl _))
  replace Hk := hid (Hk.out.below hb (Nat.le_refl _))
  have B8 := hid (B7.out.trans (hb.mono B7.out.size))
  clear hb
  go_wp2_with fail
  go_ret
  exact ⟨rfl, B8.out⟩
theorem main_ExtentCuts (l : List (Int × Int)) (Al : Option Addr) (capl : Nat) (n : Int) {w : World} (hcl : l.length ≤ capl) (hdl : capl ≤ 9223372036854775807) (hrl : RunsAt w (.slice Al l.length capl) l) (hn : -9223372036854775808 ≤ n ∧ n ≤ 9223372036854775807) :
    Calls Try.prog 6 #[.slice Al l.length capl, .int .i64 n] w (Answers true w) := by
  by_cases h : l.length ≤ 30
  · exact short_ExtentCuts l Al capl n hcl hdl hrl hn  h
  · exact long_ExtentCuts l Al capl n hcl hdl hrl hn h
theorem walk_ExtentCuts (Al : Option Addr) (lenl capl : Nat) (Cl : Nat → Nat → Value) (n : Int) (w : World) (hll : lenl ≤ capl) (hml : capl ≤ maxLen) (hEl : Elems w Al lenl 2 Cl) (hl0 : ∀ i, i < lenl → ∃ n : Int, Cl i 0 = .int .i64 n ∧ -9223372036854775808 ≤ n ∧ n ≤ 9223372036854775807) (hl1 : ∀ i, i < lenl → ∃ n : Int, Cl i 1 = .int .i64 n ∧ -9223372036854775808 ≤ n ∧ n ≤ 9223372036854775807) (hn : -9223372036854775808 ≤ n ∧ n ≤ 9223372036854775807) :
    Calls Try.prog 6 #[.slice Al lenl capl, .int .i64 n] w fun e w' => e = .returned (.bool true) ∧ Below w.heap.size w w' := by
  obtain ⟨l, hnl, hrl⟩ := runs_of hll hml hEl hl0 hl1
  subst hnl
  unfold maxLen at hml
  exact main_ExtentCuts l _ capl n hll (by omega) hrl hn
namespace extentCuts
theorem own : ownKnob Try.prog.godebug = none := by kernel_rfl
theorem laidOut : laidOutB Try.prog = true := by kernel_rfl
set_option linter.unusedVariables false
set_option maxRecDepth 100000 in
theorem lifted (os : Os) (started : os.Started) (H : Type) (enc : TypeId × Value → H) :
    ReturnsInHanded {} Try.checked os 6 .any (Rows.extentCutsSpec.pre6 enc Try.prog Try.f6 Rows.extentCutsRow.domain false) (Rows.extentCutsSpec.post enc Try.prog Try.f6 false true false false) := by
  refine returnsInHanded_of_change (C := Try.checked) own started (by kernel_rfl) Try.func6
    (ChangeSpec.witness6 (enc := enc) (C := Try.checked) false ⟨#[], #[.slice none 0 0, .int .i64 0], []⟩ 8 (by kernel_rfl) (by kernel_rfl) (by kernel_rfl) (by kernel_rfl)) ?_
  intro W base args ds gs before hval0 hW hcnd _
  have hval : ∀ (j : Nat) t v, Try.f6.params[j]? = some t → args[j]? = some v → Value.okWide Try.prog W .any base t v := hval0
  have hW' := hW
  obtain ⟨p, q, hA0, hV, rfl, hfz, hnd⟩ := hW
  have hA : DataW.TrodAll enc Try.prog W 0 (fun _ => true) true Try.f6.params.toList args.toList ds p := hA0
  rw [Try.params6] at hA hval
  obtain ⟨v0, vs0, d0, ds0, p0, q0, hargs, rfl, rfl, h0, r0⟩ := trodAll_cons hA
  obtain ⟨v1, vs1, d1, ds1, p1, q1, rfl, rfl, rfl, h1, r1⟩ := trodAll_cons r0
  obtain ⟨rfl, rfl, rfl⟩ := trodAll_nil r1
  obtain rfl : args = #[v0, v1] := by cases args; simp_all
  obtain ⟨rfl, rfl⟩ := trodVars_none hV
  obtain ⟨a0, len0, cap0, rfl⟩ := okWide_slice Try.underlying22 (hval 0 22 v0 rfl rfl)
  have k0 := h0
  have lt0 : ∀ x ∈ p0, x.block < W.heap.size := by obtain ⟨m, hm⟩ := k0; exact DataW.trod_lt m _ _ _ hm
  obtain ⟨fuel0, hf0⟩ := h0
  obtain ⟨A0, l0, c0, C0, hcs0, hl0, hm0, hE0, hF0⟩ := open_elems Try.underlying22 Try.underlying47 (by kernel_rfl) (by kernel_rfl) (by decide) hf0
  simp only [Value.cells, List.cons.injEq, Value.slice.injEq, and_true] at hcs0
  obtain ⟨rfl, rfl, rfl⟩ := hcs0
  have s0_0 : ∀ i, i < len0 → ∃ n : Int, C0 i 0 = .int .i64 n ∧ -9223372036854775808 ≤ n ∧ n ≤ 9223372036854775807 := fun i hi => by obtain ⟨y, n, hy⟩ := hF0 i 0 _ hi rfl; obtain ⟨n, e, _, hw⟩ := DataW.trod_int Try.underlying3 hy; exact ⟨n, List.head_eq_of_cons_eq e, bounds_i64 hw⟩
  have s0_1 : ∀ i, i < len0 → ∃ n : Int, C0 i 1 = .int .i64 n ∧ -9223372036854775808 ≤ n ∧ n ≤ 9223372036854775807 := fun i hi => by obtain ⟨y, n, hy⟩ := hF0 i 1 _ hi rfl; obtain ⟨n, e, _, hw⟩ := DataW.trod_int Try.underlying3 hy; exact ⟨n, List.head_eq_of_cons_eq e, bounds_i64 hw⟩
  obtain ⟨a1, rfl, rfl, rfl, w1⟩ := open_int Try.underlying3 (hval 1 3 v1 rfl rfl) h1
  clear hA0 hval0
  refine (walk_ExtentCuts a0 len0 cap0 C0 a1 hl0 hm0 hE0 s0_0 s0_1 (bounds_i64 w1) (w := W)).mono fun e W' ⟨he, bel⟩ => ?_
  subst he
  exact ⟨_, rfl, _, _, _, [], _, [], hW', trodAll_mk1 (shut_bool Try.underlying4 _), (trodAll_cons_mk (Below.trod laidOut (by kernel_rfl) (of_decide_eq_true (by kernel_rfl)) k0 bel lt0) (trodAll_cons_mk (shut_int Try.underlying3 w1) trodAll_mk0)), rfl, bel.frame _, fun h => by cases h⟩
theorem over : Rows.extentCutsRow.holds Try.pinned (OpenSpec.ofChange Rows.extentCutsSpec) :=
  OpenClaim.holds_of_wide 6 Try.f6 rfl rfl rfl rfl rfl rfl rfl ⟨rfl, rfl, rfl, rfl, rfl⟩ rfl rfl rfl rfl rfl (by kernel_rfl) Try.func6 (by kernel_rfl)
    (of_decide_eq_true (by kernel_rfl)) (by unfold Func.isWrapper; first | (rw [if_pos (by decide +kernel)]; kernel_rfl) | (rw [if_neg (by decide +kernel)]; exact ⟨rfl, rfl⟩))
    (fun os started H enc _ => lifted os started H enc)
theorem proved : Rows.ExtentCutsSaid := over
end extentCuts

end Go.Proofs.Ytpcigmjbjcgdbaa
