/- For every number of tracks, the tables and slots are those of the specification, and enough tracks are left for data sets. -/
import Derived.Test.YtabbkgbgldgfeaaRows
import Derived.WalkKit
import Derived.ProofKit
import Derived.OpenShut
import Derived.ShutString
import Derived.ChangeOld
import Derived.Below
import Derived.Test.YtabbkgbgldgfeaaLabAw
import Derived.Test.YtabbkgbgldgfeaaLabR1
namespace Go.Proofs.Ytabbkgbgldgfeaa
open Go.Lib Go.ChangeShapes Go.WideShapes Go.ChangeAt Go.RowKit
open Go.ChangeMaps (open_string shut_string)
set_option linter.unusedVariables false
set_option maxRecDepth 100000 in
set_option maxHeartbeats 1000000 in
theorem walk_LabelSlots (tr : Int) (h : -9223372036854775808 ≤ tr ∧ tr ≤ 9223372036854775807) (w : World) :
    Calls Try.prog 6 #[.int .i64 tr] w fun e w' => e = .returned (.bool true) ∧ Below w.heap.size w w' := by
  have A1 := fun W => hid (tableTracks_any tr h W)
  have A2 := fun W => hid (slots_any tr h W)
  have A3 := fun W => hid (refTableTracks_any tr W)
  have A4 := fun W => hid (refSlots_any tr W)
  have hle := tabM_le tr
  have hcase : (¬ trOk tr ∧ tabM tr = 0) ∨ (trOk tr ∧ tabM tr = (tr + 3) / 4 ∧ 0 < tabM tr) := by
    by_cases ht : trOk tr
    · right; exact ⟨ht, by unfold tabM; rw [if_pos ht], (tabM_pos tr).2 ht⟩
    · left; exact ⟨ht, by unfold tabM; rw [if_neg ht]⟩
  obtain ⟨T, hT⟩ : ∃ T, T = tabM tr := ⟨_, rfl⟩
  rw [← hT] at A1 A2 A3 A4 hle hcase
  obtain ⟨S, hS⟩ : ∃ S, S = max (T - 1) 0 := ⟨_, rfl⟩
  rw [← hS] at A2 A4
  rcases hcase with ⟨_, h0⟩ | ⟨ht, h0, hp⟩
  · have hS0 : S = 0 := by omega
    subst h0 hS0
    clear hT hS hle
    go_enter Try.func6, Try.ntmps6
    go_wp2_with fail
    refine (labAwake_any _).mono ?_
    rintro e w1 ⟨rfl, hb⟩
    go_wp2_with fail
    refine (A1 _).out.mono ?_
    rintro e w2 ⟨rfl, rfl⟩
    go_wp2_with fail
    refine (A2 _).out.mono ?_
    rintro e w2 ⟨rfl, rfl⟩
    go_wp2_with fail
    refine (A3 _).out.mono ?_
    rintro e w2 ⟨rfl, rfl⟩
    go_wp2_with fail
    refine (A4 _).out.mono ?_
    rintro e w2 ⟨rfl, rfl⟩
    go_wp2_with fail
    go_ret
    exact ⟨rfl, hb⟩
  · have hS0 : S = T - 1 := by omega
    obtain ⟨h4, h8⟩ := ht
    have q0 : (T == 0) = false := by simp; omega
    have q1 : (T == S + 1) = true := by simp; omega
    have q2 : decide (S ≤ tr - T) = true := by simp; omega
    have q3 : decide (1 ≤ T) = true := by simp; omega
    have q4 : decide (tr ≤ 4 * T) = true := by simp; omega
    have q5 : decide (4 * T < tr + 4) = true := by simp; omega
    have e1 : IntKind.i64.wrap (S + 1) = S + 1 := IntWalk.i64_in _ (by omega)
    have e2 : IntKind.i64.wrap (tr - T) = tr - T := IntWalk.i64_in _ (by omega)
    have e3 : IntKind.i64.wrap (4 * T) = 4 * T := IntWalk.i64_in _ (by omega)
    have e4 : IntKind.i64.wrap (tr + 4) = tr + 4 := IntWalk.i64_in _ (by omega)
    have b1 : 0 ≤ S ∧ S ≤ 32 := by omega
    have qt : (T == T) = true := by simp
    have qs : (S == S) = true := by simp
    clear hT hS hS0 h0
    go_enter Try.func6, Try.ntmps6
    go_wp2_with fail
    refine (labAwake_any _).mono ?_
    rintro e w1 ⟨rfl, hb⟩
    go_wp2_with fail
    refine (A1 _).out.mono ?_
    rintro e w2 ⟨rfl, rfl⟩
    go_wp2_with fail
    refine (A2 _).out.mono ?_
    rintro e w2 ⟨rfl, rfl⟩
    go_wp2_with fail
    refine (A3 _).out.mono ?_
    rintro e w2 ⟨rfl, rfl⟩
    go_wp2_with fail
    refine (A4 _).out.mono ?_
    rintro e w2 ⟨rfl, rfl⟩
    go_wp2_with fail
    go_ret
    exact ⟨rfl, hb⟩
namespace labelSlots
theorem own : ownKnob Try.prog.godebug = none := by kernel_rfl
set_option linter.unusedVariables false
set_option maxRecDepth 100000 in
theorem lifted (os : Os) (started : os.Started) (H : Type) (enc : TypeId × Value → H) :
    ReturnsInHanded {} Try.checked os 6 .any (Rows.labelSlotsSpec.pre6 enc Try.prog Try.f6 Rows.labelSlotsRow.domain false) (Rows.labelSlotsSpec.post enc Try.prog Try.f6 false true false false) := by
  refine returnsInHanded_of_change (C := Try.checked) own started (by kernel_rfl) Try.func6
    (ChangeSpec.witness6 (enc := enc) (C := Try.checked) false ⟨#[], #[.int .i64 0], []⟩ 8 (by kernel_rfl) (by kernel_rfl) (by kernel_rfl) (by kernel_rfl)) ?_
  intro W base args ds gs before hval0 hW hcnd _
  have hval : ∀ (j : Nat) t v, Try.f6.params[j]? = some t → args[j]? = some v → Value.okWide Try.prog W .any base t v := hval0
  have hW' := hW
  obtain ⟨p, q, hA0, hV, rfl, hfz, hnd⟩ := hW
  have hA : DataW.TrodAll enc Try.prog W 0 (fun _ => true) true Try.f6.params.toList args.toList ds p := hA0
  rw [Try.params6] at hA hval
  obtain ⟨v0, vs0, d0, ds0, p0, q0, hargs, rfl, rfl, h0, r0⟩ := trodAll_cons hA
  obtain ⟨rfl, rfl, rfl⟩ := trodAll_nil r0
  obtain rfl : args = #[v0] := by cases args; simp_all
  obtain ⟨rfl, rfl⟩ := trodVars_none hV
  obtain ⟨a0, rfl, rfl, rfl, w0⟩ := open_int Try.underlying3 (hval 0 3 v0 rfl rfl) h0
  clear hA0 hval0
  refine (walk_LabelSlots a0 (bounds_i64 w0) (w := W)).mono fun e W' ⟨he, bel⟩ => ?_
  subst he
  exact ⟨_, rfl, _, _, _, [], _, [], hW', trodAll_mk1 (shut_bool Try.underlying4 _), (trodAll_cons_mk (shut_int Try.underlying3 w0) trodAll_mk0), rfl, bel.frame _, fun h => by cases h⟩
theorem over : Rows.labelSlotsRow.holds Try.pinned (OpenSpec.ofChange Rows.labelSlotsSpec) :=
  OpenClaim.holds_of_wide 6 Try.f6 rfl rfl rfl rfl rfl rfl rfl ⟨rfl, rfl, rfl, rfl, rfl⟩ rfl rfl rfl rfl rfl (by kernel_rfl) Try.func6 (by kernel_rfl)
    (of_decide_eq_true (by kernel_rfl)) (by unfold Func.isWrapper; first | (rw [if_pos (by decide +kernel)]; kernel_rfl) | (rw [if_neg (by decide +kernel)]; exact ⟨rfl, rfl⟩))
    (fun os started H enc _ => lifted os started H enc)
theorem proved : Rows.LabelSlotsSaid := over
end labelSlots

end Go.Proofs.Ytabbkgbgldgfeaa
