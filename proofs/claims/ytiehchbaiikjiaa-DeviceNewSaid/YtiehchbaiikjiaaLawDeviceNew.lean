/- Statement DeviceNew: a device exists for 1 to 1155 sectors, which are zeros; for every number up to 2000, which is the statement's own bound. -/
import Derived.Test.YtiehchbaiikjiaaRows
import Derived.WalkKit
import Derived.ProofKit
import Derived.OpenShut
import Derived.ShutString
import Derived.ChangeOld
import Derived.Below
import Derived.Test.YtiehchbaiikjiaaNewBad
namespace Go.Proofs.Ytiehchbaiikjiaa
open Go.Lib Go.ChangeShapes Go.WideShapes Go.ChangeAt Go.RowKit
open Go.ChangeMaps (open_string shut_string)

set_option maxRecDepth 100000 in
set_option maxHeartbeats 4000000 in
theorem new_great (n : Int) (hn : 2000 < n) (w : World) : Calls Try.prog 3 #[.int .i64 n] w fun e w' => e = .returned (.bool true) ∧ Below w.heap.size w w' := by
  go_enter Try.func3, Try.ntmps3
  go_wp2_with fail
  refine (awake_dev _).mono ?_
  rintro e w1 ⟨rfl, hb⟩
  have B1 := hid hb
  clear hb
  go_wp2_with fail
  refine (awake_dev _).mono ?_
  rintro e w2 ⟨rfl, hb⟩
  have B2 := hid (B1.out.trans (hb.mono B1.out.size))
  clear hb
  go_wp2_with fail
  go_ret
  exact ⟨rfl, B2.out⟩
set_option maxRecDepth 100000 in
set_option maxHeartbeats 4000000 in
theorem new_out (n : Int) (hn : n ≤ 2000) (h : n < 1 ∨ 1155 < n) (w : World) : Calls Try.prog 3 #[.int .i64 n] w fun e w' => e = .returned (.bool true) ∧ Below w.heap.size w w' := by
  have H := hid h
  clear h
  go_enter Try.func3, Try.ntmps3
  go_wp2_with fail
  refine (awake_dev _).mono ?_
  rintro e w1 ⟨rfl, hb⟩
  have B1 := hid hb
  clear hb
  go_wp2_with fail
  refine (new_bad n H.out _).mono ?_
  rintro e w2 ⟨rfl, rfl⟩
  go_wp2_with fail
  refine (rnew_bad n H.out _).mono ?_
  rintro e w2 ⟨rfl, hb⟩
  have B2 := hid (B1.out.trans (hb.mono B1.out.size))
  clear hb
  go_wp2_with fail
  go_ret
  exact ⟨rfl, by first | exact B2.out | exact B2.out.alloc B2.out.size _⟩
set_option maxRecDepth 100000 in
set_option maxHeartbeats 4000000 in
theorem new_in (n : Nat) (h1 : 1 ≤ n) (h2 : n ≤ 1155) (w : World) : Calls Try.prog 3 #[.int .i64 n] w fun e w' => e = .returned (.bool true) ∧ Below w.heap.size w w' := by
  go_enter Try.func3, Try.ntmps3
  go_wp2_with fail
  refine (awake_dev _).mono ?_
  rintro e w1 ⟨rfl, hb⟩
  have B1 := hid hb
  clear hb
  go_wp2_with fail
  refine (new_any n h1 h2 w1).mono ?_
  intro e w2 hx
  obtain ⟨L, rfl, hd, hu⟩ := hx
  have HD2 := hid hd
  have HU2 := hid hu
  clear hd hu
  go_wp2_with fail
  refine (rnew_any n h1 h2 w2).mono ?_
  intro e w3 hx
  obtain ⟨R, rfl, hd, hu⟩ := hx
  have HX3 := hid hd
  have HD3 := hid (HD2.out.calm hu)
  have HU3 := hid (HU2.out.trans hu)
  clear hd hu HU2 HD2
  rw [show R.agg (DS.fresh n) = .agg #[.slice (some ⟨R.sg, 0, none⟩) n R.scap, .slice (some ⟨R.og, 0, none⟩) n R.ocap, .slice R.pa 0 R.pc, .slice (some ⟨R.fg, 0, none⟩) 5 R.fcap, .bool false, .int .i64 (-1), .slice R.va R.vn R.vc] from rfl]
  obtain ⟨w4, hw4⟩ : ∃ w4, w4 = w3.alloc (.cells #[.slice (some ⟨R.sg, 0, none⟩) n R.scap, .slice (some ⟨R.og, 0, none⟩) n R.ocap, .slice R.pa 0 R.pc, .slice (some ⟨R.fg, 0, none⟩) 5 R.fcap, .bool false, .int .i64 (-1), .slice R.va R.vn R.vc] 32) := ⟨_, rfl⟩
  have hr4 : Row w4 w3.heap.size 32 [.slice (some ⟨R.sg, 0, none⟩) n R.scap, .slice (some ⟨R.og, 0, none⟩) n R.ocap, .slice R.pa 0 R.pc, .slice (some ⟨R.fg, 0, none⟩) 5 R.fcap, .bool false, .int .i64 (-1), .slice R.va R.vn R.vc] := by
    rw [hw4]; exact Row.new w3 [.slice (some ⟨R.sg, 0, none⟩) n R.scap, .slice (some ⟨R.og, 0, none⟩) n R.ocap, .slice R.pa 0 R.pc, .slice (some ⟨R.fg, 0, none⟩) 5 R.fcap, .bool false, .int .i64 (-1), .slice R.va R.vn R.vc] _
  have hu4 : Upds (fun _ => False) w3 w4 := by rw [hw4]; exact Upds.alloc _ _
  have HX4 := hid (HX3.out.calm hu4)
  have HD4 := hid (HD3.out.calm hu4)
  have HU4 := hid (HU3.out.trans hu4)
  have HW4 := hid hw4
  have c0 := hr4.cell (i := 0) rfl
  have c1 := hr4.cell (i := 1) rfl
  have c2 := hr4.cell (i := 2) rfl
  have c3 := hr4.cell (i := 3) rfl
  have c4 := hr4.cell (i := 4) rfl
  have c5 := hr4.cell (i := 5) rfl
  have c6 := hr4.cell (i := 6) rfl
  clear hr4 hu4 HX3 HD3 HU3 hw4
  have hs := same_any w1.heap.size L R (DS.fresh n) w4 HD4.out HX4.out
  rw [show R.agg (DS.fresh n) = .agg #[.slice (some ⟨R.sg, 0, none⟩) n R.scap, .slice (some ⟨R.og, 0, none⟩) n R.ocap, .slice R.pa 0 R.pc, .slice (some ⟨R.fg, 0, none⟩) 5 R.fcap, .bool false, .int .i64 (-1), .slice R.va R.vn R.vc] from rfl] at hs
  have HS := hid hs
  clear hs
  go_upto_region 5 with fail
  rw [← HW4.out]
  go_wp2_with fail
  refine HS.out.mono ?_
  rintro e w5 ⟨rfl, hu⟩
  have B5 := hid (B1.out.trans ((HU4.out.trans hu).below (B := w.heap.size) B1.out.size (fun _ h => h.elim)))
  clear hu
  go_wp2_with fail
  go_ret
  exact ⟨rfl, B5.out⟩
theorem walk_DeviceNew (n : Int) (h : -9223372036854775808 ≤ n ∧ n ≤ 9223372036854775807) (w : World) :
    Calls Try.prog 3 #[.int .i64 n] w fun e w' => e = .returned (.bool true) ∧ Below w.heap.size w w' := by
  by_cases hg : 2000 < n
  · exact new_great n hg w
  · by_cases ho : n < 1 ∨ 1155 < n
    · exact new_out n (by omega) ho w
    · obtain ⟨k, rfl⟩ := Int.eq_ofNat_of_zero_le (show 0 ≤ n by omega)
      exact new_in k (by omega) (by omega) w
namespace deviceNew
theorem own : ownKnob Try.prog.godebug = none := by kernel_rfl
set_option linter.unusedVariables false
set_option maxRecDepth 100000 in
theorem lifted (os : Os) (started : os.Started) (H : Type) (enc : TypeId × Value → H) :
    ReturnsInHanded {} Try.checked os 3 .any (Rows.deviceNewSpec.pre6 enc Try.prog Try.f3 Rows.deviceNewRow.domain false) (Rows.deviceNewSpec.post enc Try.prog Try.f3 false true false false) := by
  refine returnsInHanded_of_change (C := Try.checked) own started (by kernel_rfl) Try.func3
    (ChangeSpec.witness6 (enc := enc) (C := Try.checked) false ⟨#[], #[.int .i64 0], []⟩ 8 (by kernel_rfl) (by kernel_rfl) (by kernel_rfl) (by kernel_rfl)) ?_
  intro W base args ds gs before hval0 hW hcnd _
  have hval : ∀ (j : Nat) t v, Try.f3.params[j]? = some t → args[j]? = some v → Value.okWide Try.prog W .any base t v := hval0
  have hW' := hW
  obtain ⟨p, q, hA0, hV, rfl, hfz, hnd⟩ := hW
  have hA : DataW.TrodAll enc Try.prog W 0 (fun _ => true) true Try.f3.params.toList args.toList ds p := hA0
  rw [Try.params3] at hA hval
  obtain ⟨v0, vs0, d0, ds0, p0, q0, hargs, rfl, rfl, h0, r0⟩ := trodAll_cons hA
  obtain ⟨rfl, rfl, rfl⟩ := trodAll_nil r0
  obtain rfl : args = #[v0] := by cases args; simp_all
  obtain ⟨rfl, rfl⟩ := trodVars_none hV
  obtain ⟨a0, rfl, rfl, rfl, w0⟩ := open_int Try.underlying3 (hval 0 3 v0 rfl rfl) h0
  clear hA0 hval0
  refine (walk_DeviceNew a0 (bounds_i64 w0) (w := W)).mono fun e W' ⟨he, bel⟩ => ?_
  subst he
  exact ⟨_, rfl, _, _, _, [], _, [], hW', trodAll_mk1 (shut_bool Try.underlying4 _), (trodAll_cons_mk (shut_int Try.underlying3 w0) trodAll_mk0), rfl, bel.frame _, fun h => by cases h⟩
theorem over : Rows.deviceNewRow.holds Try.pinned (OpenSpec.ofChange Rows.deviceNewSpec) :=
  OpenClaim.holds_of_wide 3 Try.f3 rfl rfl rfl rfl rfl rfl rfl ⟨rfl, rfl, rfl, rfl, rfl⟩ rfl rfl rfl rfl rfl (by kernel_rfl) Try.func3 (by kernel_rfl)
    (of_decide_eq_true (by kernel_rfl)) (by unfold Func.isWrapper; first | (rw [if_pos (by decide +kernel)]; kernel_rfl) | (rw [if_neg (by decide +kernel)]; exact ⟨rfl, rfl⟩))
    (fun os started H enc _ => lifted os started H enc)
theorem proved : Rows.DeviceNewSaid := over
end deviceNew

end Go.Proofs.Ytiehchbaiikjiaa
