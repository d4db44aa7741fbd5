/- Statement VariableStrict: what Unpack accepts is the block of its records. For all numbers, and at most 1100 bytes, which is the statement's own bound. -/
import Derived.Test.YtklbckonlbpbgaaRows
import Derived.WalkKit
import Derived.ProofKit
import Derived.OpenShut
import Derived.ShutString
import Derived.ChangeOld
import Derived.Below
import Derived.Test.YtklbckonlbpbgaaSlices
import Derived.Test.YtklbckonlbpbgaaOpen
import Derived.Test.YtklbckonlbpbgaaVarT7
import Derived.Test.YtklbckonlbpbgaaVarT4
namespace Go.Proofs.Ytklbckonlbpbgaa
open Go.Lib Go.ChangeShapes Go.WideShapes Go.ChangeAt Go.RowKit
open Go.ChangeMaps (open_string shut_string)
set_option linter.unusedVariables false
set_option maxRecDepth 100000 in
theorem long_VariableStrict (L B : Int) (d : ByteArray) (w : World) (hz : d.size ≤ 9223372036854775807) (hd : ¬ d.size ≤ 1100) :
    Calls Try.prog 8 #[.int .i64 L, .int .i64 B, .string d] w (Gives (.bool true) w) := by
  go_enter Try.func8, Try.ntmps8
  go_wp2_with fail
  refine (vawake_any _).mono ?_
  rintro e w1 ⟨rfl, hb⟩
  have B1 := hid (hb)
  clear hb
  go_wp2_with fail
  refine (vawake_any _).mono ?_
  rintro e w2 ⟨rfl, hb⟩
  have B2 := hid (B1.out.trans (hb.mono B1.out.size))
  clear hb
  go_wp2_with fail
  go_ret
  exact ⟨rfl, B2.out⟩
set_option maxRecDepth 100000 in
set_option maxHeartbeats 4000000 in
theorem short_VariableStrict (L B : Int) (d : ByteArray) (hB : B ≤ 9223372036854775807) (w : World) (hd : d.size ≤ 1100) :
    Calls Try.prog 8 #[.int .i64 L, .int .i64 B, .string d] w (Gives (.bool true) w) := by
  have V1 := fun W => hid (vvalid_any L B hB W)
  by_cases hft : vfits L B
  · rw [decide_eq_true hft] at V1
    obtain ⟨x, b, rfl, rfl, hx1, hx2, hx3, hx4⟩ := hft.nat
    have HFT := hid hft
    by_cases hn : ∃ l, isV x b l d
    · obtain ⟨l, hn⟩ := hn
      have U := fun W => hid (vunpack_ok x b HFT.out l d hn W)
      have hll : l.length ≤ 1000 := by
        have h1 := vbody_len l
        have h2 := hn.2.2.2
        rw [hn.1, vblock_size] at h2; omega
      have hsz : ∀ y ∈ l, y.size ≤ x := hn.2.2.1
      have P : ∀ (A : Option Addr) cap W, StrsAt W (.slice A l.length cap) l → Hid (Calls Try.prog 13 #[.int .i64 x, .int .i64 b, .slice A l.length cap] W (fun e w' => ∃ v, e = .returned (.tuple #[v, .int .i64 0]) ∧ StrsAt w' v [d] ∧ Below W.heap.size W w')) := fun A cap W hW =>
        hid ((vpack_ok x b HFT.out A cap l hll l.length (Nat.le_refl _) (fun i hi hj => hsz _ (List.getElem_mem hj)) (fun y hy => by have := hsz y hy; omega) (fun h => absurd h (Nat.lt_irrefl _)) W hW).mono fun e w' ⟨h1, h2⟩ => by
          rw [if_neg (Nat.lt_irrefl _)] at h1
          obtain ⟨v, h3, h4⟩ := h1
          rw [vblocks_one hn] at h4
          exact ⟨v, h3, h4, h2⟩)
      have HP := hid P
      clear hft hn hsz P
      go_enter Try.func8, Try.ntmps8
      go_wp2_with fail
      refine (vawake_any _).mono ?_
      rintro e w1 ⟨rfl, hb⟩
      have B1 := hid (hb)
      clear hb
      go_wp2_with fail
      refine ((U _).out).mono ?_
      rintro e w2 ⟨v1, rfl, h1, hb⟩
      have B2 := hid (B1.out.trans (hb.mono B1.out.size))
      have Hv1 := hid h1
      clear h1 hb
      obtain ⟨Aq, capq, e8, _, _⟩ := Hv1.out.shape
      subst e8
      go_wp2_with fail
      refine ((HP.out _ _ _ Hv1.out).out).mono ?_
      rintro e w3 ⟨v2, rfl, h1, hb⟩
      replace Hv1 := hid (Hv1.out.below hb (Nat.le_refl _))
      have B3 := hid (B2.out.trans (hb.mono B2.out.size))
      have Hv2 := hid h1
      clear h1 hb
      go_wp2_with fail
      have hnew := strs_new1 w3 d _ rfl
      have hb : Below w3.heap.size w3 (w3.alloc (.cells #[.string d] 9)) := (Below.refl _ _).alloc (Nat.le_refl _) _
      obtain ⟨wn, hwn⟩ : ∃ q, q = w3.alloc (.cells #[.string d] 9) := ⟨_, rfl⟩
      obtain ⟨g, hg⟩ : ∃ g, g = w3.heap.size := ⟨_, rfl⟩
      rw [← hwn, ← hg] at hnew
      rw [← hwn] at hb
      have Hn := hid hnew
      have Hv2n := hid (Hv2.out.below hb (Nat.le_refl _))
      have Bn := hid (B3.out.trans (hb.mono B3.out.size))
      rw [← hwn, ← hg]
      clear hnew hb hwn hg
      refine (same_yes _ _ [d] _ Hv2n.out Hn.out).mono ?_
      rintro e wl ⟨rfl, hb⟩
      have BL := hid (Bn.out.trans (hb.mono Bn.out.size))
      clear hb
      go_wp2_with fail
      go_ret
      exact ⟨rfl, BL.out⟩
    · have U := fun W => hid (vunpack_no x b HFT.out d (by omega) hn W)
      clear hft hn
      go_enter Try.func8, Try.ntmps8
      go_wp2_with fail
      refine (vawake_any _).mono ?_
      rintro e w1 ⟨rfl, hb⟩
      have B1 := hid (hb)
      clear hb
      go_wp2_with fail
      refine ((U _).out).mono ?_
      rintro e w2 ⟨rfl, hb⟩
      have B2 := hid (B1.out.trans (hb.mono B1.out.size))
      clear hb
      go_wp2_with fail
      refine ((V1 _).out).mono ?_
      rintro e wq ⟨rfl, rfl⟩
      go_wp2_with fail
      go_ret
      exact ⟨rfl, B2.out⟩
  · rw [decide_eq_false hft] at V1
    have U := fun W => hid (vunpack_bad L B hB hft d W)
    clear hft
    go_enter Try.func8, Try.ntmps8
    go_wp2_with fail
    refine (vawake_any _).mono ?_
    rintro e w1 ⟨rfl, hb⟩
    have B1 := hid (hb)
    clear hb
    go_wp2_with fail
    refine ((U _).out).mono ?_
    rintro e w2 ⟨rfl, hb⟩
    have B2 := hid (B1.out.trans (hb.mono B1.out.size))
    clear hb
    go_wp2_with fail
    refine ((V1 _).out).mono ?_
    rintro e wq ⟨rfl, rfl⟩
    go_wp2_with fail
    go_ret
    exact ⟨rfl, B2.out⟩
theorem walk_VariableStrict (L : Int) (B : Int) (d : ByteArray) (w : World) (hL : -9223372036854775808 ≤ L ∧ L ≤ 9223372036854775807) (hB : -9223372036854775808 ≤ B ∧ B ≤ 9223372036854775807) (hd : d.size ≤ maxLen) :
    Calls Try.prog 8 #[.int .i64 L, .int .i64 B, .string d] w fun e w' => e = .returned (.bool true) ∧ Below w.heap.size w w' := by
  unfold maxLen at hd
  by_cases hs : d.size ≤ 1100
  · exact short_VariableStrict L B d hB.2 w hs
  · exact long_VariableStrict L B d w (by omega) hs
namespace variableStrict
theorem own : ownKnob Try.prog.godebug = none := by kernel_rfl
set_option linter.unusedVariables false
set_option maxRecDepth 100000 in
theorem lifted (os : Os) (started : os.Started) (H : Type) (enc : TypeId × Value → H) :
    ReturnsInHanded {} Try.checked os 8 .any (Rows.variableStrictSpec.pre6 enc Try.prog Try.f8 Rows.variableStrictRow.domain false) (Rows.variableStrictSpec.post enc Try.prog Try.f8 false true false false) := by
  refine returnsInHanded_of_change (C := Try.checked) own started (by kernel_rfl) Try.func8
    (ChangeSpec.witness6 (enc := enc) (C := Try.checked) false ⟨#[], #[.int .i64 0, .int .i64 0, .string ByteArray.empty], []⟩ 8 (by kernel_rfl) (by kernel_rfl) (by kernel_rfl) (by kernel_rfl)) ?_
  intro W base args ds gs before hval0 hW hcnd _
  have hval : ∀ (j : Nat) t v, Try.f8.params[j]? = some t → args[j]? = some v → Value.okWide Try.prog W .any base t v := hval0
  have hW' := hW
  obtain ⟨p, q, hA0, hV, rfl, hfz, hnd⟩ := hW
  have hA : DataW.TrodAll enc Try.prog W 0 (fun _ => true) true Try.f8.params.toList args.toList ds p := hA0
  rw [Try.params8] at hA hval
  obtain ⟨v0, vs0, d0, ds0, p0, q0, hargs, rfl, rfl, h0, r0⟩ := trodAll_cons hA
  obtain ⟨v1, vs1, d1, ds1, p1, q1, rfl, rfl, rfl, h1, r1⟩ := trodAll_cons r0
  obtain ⟨v2, vs2, d2, ds2, p2, q2, rfl, rfl, rfl, h2, r2⟩ := trodAll_cons r1
  obtain ⟨rfl, rfl, rfl⟩ := trodAll_nil r2
  obtain rfl : args = #[v0, v1, v2] := by cases args; simp_all
  obtain ⟨rfl, rfl⟩ := trodVars_none hV
  obtain ⟨a0, rfl, rfl, rfl, w0⟩ := open_int Try.underlying3 (hval 0 3 v0 rfl rfl) h0
  obtain ⟨a1, rfl, rfl, rfl, w1⟩ := open_int Try.underlying3 (hval 1 3 v1 rfl rfl) h1
  obtain ⟨a2, rfl, rfl, rfl, w2⟩ := open_string Try.underlying9 (hval 2 9 v2 rfl rfl) h2
  clear hA0 hval0
  refine (walk_VariableStrict a0 a1 a2 (bounds_i64 w0) (bounds_i64 w1) w2 (w := W)).mono fun e W' ⟨he, bel⟩ => ?_
  subst he
  exact ⟨_, rfl, _, _, _, [], _, [], hW', trodAll_mk1 (shut_bool Try.underlying4 _), (trodAll_cons_mk (shut_int Try.underlying3 w0) (trodAll_cons_mk (shut_int Try.underlying3 w1) (trodAll_cons_mk (shut_string Try.underlying9 w2) trodAll_mk0))), rfl, bel.frame _, fun h => by cases h⟩
theorem over : Rows.variableStrictRow.holds Try.pinned (OpenSpec.ofChange Rows.variableStrictSpec) :=
  OpenClaim.holds_of_wide 8 Try.f8 rfl rfl rfl rfl rfl rfl rfl ⟨rfl, rfl, rfl, rfl, rfl⟩ rfl rfl rfl rfl rfl (by kernel_rfl) Try.func8 (by kernel_rfl)
    (of_decide_eq_true (by kernel_rfl)) (by unfold Func.isWrapper; first | (rw [if_pos (by decide +kernel)]; kernel_rfl) | (rw [if_neg (by decide +kernel)]; exact ⟨rfl, rfl⟩))
    (fun os started H enc _ => lifted os started H enc)
theorem proved : Rows.VariableStrictSaid := over
end variableStrict

end Go.Proofs.Ytklbckonlbpbgaa
