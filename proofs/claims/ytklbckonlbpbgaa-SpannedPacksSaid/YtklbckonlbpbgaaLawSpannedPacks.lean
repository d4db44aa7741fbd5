/- Statement SpannedPacks: Valid and Pack return what the specification says. For all numbers, and at most 20 records of at most 1100 bytes, which is the statement's own bound. -/
import Derived.Test.YtklbckonlbpbgaaRows
import Derived.WalkKit
import Derived.ProofKit
import Derived.OpenShut
import Derived.ShutString
import Derived.ChangeOld
import Derived.Below
import Derived.Test.YtklbckonlbpbgaaSlices
import Derived.Test.YtklbckonlbpbgaaOpen
import Derived.Test.YtklbckonlbpbgaaSpnT7
import Derived.Test.YtklbckonlbpbgaaSpnR3
namespace Go.Proofs.Ytklbckonlbpbgaa
open Go.Lib Go.ChangeShapes Go.WideShapes Go.ChangeAt Go.RowKit
open Go.ChangeMaps (open_string shut_string)
set_option linter.unusedVariables false
set_option maxRecDepth 100000 in
set_option maxHeartbeats 4000000 in
theorem long_SpannedPacks (L B : Int) (A : Option Addr) (cap : Nat) (l : List ByteArray) (hz : ∀ x ∈ l, x.size ≤ 9223372036854775807) (w : World) (hr : StrsAt w (.slice A l.length cap) l) (hf : ¬ few l 20 1100) :
    Calls Try.prog 10 #[.int .i64 L, .int .i64 B, .slice A l.length cap] w (Gives (.bool true) w) := by
  have Hr := hid hr
  have HN := hid hf
  have HZ := hid hz
  clear hr hf hz
  go_enter Try.func10, Try.ntmps10
  go_wp2_with fail
  refine (sawake_any _).mono ?_
  rintro e w1 ⟨rfl, hb⟩
  replace Hr := hid (Hr.out.below hb (Nat.le_refl _))
  have B1 := hid (hb)
  clear hb
  go_wp2_with fail
  refine (few_no _ l 20 1100 (by omega) (by omega) HZ.out HN.out _ Hr.out).mono ?_
  rintro e wq ⟨rfl, rfl⟩
  go_wp2_with fail
  refine (sawake_any _).mono ?_
  rintro e w2 ⟨rfl, hb⟩
  replace Hr := hid (Hr.out.below hb (Nat.le_refl _))
  have B2 := hid (B1.out.trans (hb.mono B1.out.size))
  clear hb
  go_wp2_with fail
  go_ret
  exact ⟨rfl, B2.out⟩
set_option maxRecDepth 100000 in
set_option maxHeartbeats 4000000 in
theorem short_SpannedPacks (L B : Int) (A : Option Addr) (cap : Nat) (l : List ByteArray) (hB : B ≤ 9223372036854775807) (hz : ∀ x ∈ l, x.size ≤ 9223372036854775807) (w : World) (hr : StrsAt w (.slice A l.length cap) l) (hf : few l 20 1100) :
    Calls Try.prog 10 #[.int .i64 L, .int .i64 B, .slice A l.length cap] w (Gives (.bool true) w) := by
  have Hr := hid hr
  have HN := hid hf
  have HZ := hid hz
  have hn40 := hf.1
  have HS : Hid (∀ x ∈ l, x.size ≤ 100000) := hid (fun x hx => by have := hf.2 x hx; omega)
  obtain ⟨vd, hvd⟩ : ∃ vd, vd = decide (sfits L B) := ⟨_, rfl⟩
  have V1 := fun W => hid (svalid_any L B hB W)
  have V2 := fun W => hid (refSvalid_any L B hB W)
  rw [← hvd] at V1 V2
  have q1 : (vd == vd) = true := by simp
  clear hvd hf hz
  by_cases hft : sfits L B
  · obtain ⟨x, b, rfl, rfl, _⟩ := hft.nat
    have HFT := hid hft
    obtain ⟨s, hs1, hs2, hs3⟩ := first_longer x l
    have P := fun W hW => hid (spack_ok x b HFT.out A cap l (by omega) s hs1 hs2 HS.out hs3 W hW)
    have R := fun W hW => hid (refSpack_ok x b HFT.out A cap l (by omega) s hs1 hs2 HS.out hs3 W hW)
    by_cases hsl : s < l.length
    · clear hs1 hs2 hs3 hft hr
      go_enter Try.func10, Try.ntmps10
      go_wp2_with fail
      refine (sawake_any _).mono ?_
      rintro e w1 ⟨rfl, hb⟩
      replace Hr := hid (Hr.out.below hb (Nat.le_refl _))
      have B1 := hid (hb)
      clear hb
      go_wp2_with fail
      refine (few_yes _ l 20 1100 (by omega) (by omega) HN.out _ Hr.out).mono ?_
      rintro e wq ⟨rfl, rfl⟩
      go_wp2_with fail
      refine (P _ Hr.out).out.mono ?_
      rintro e w2 ⟨he, hb⟩
      rw [if_pos hsl] at he
      subst he
      replace Hr := hid (Hr.out.below hb (Nat.le_refl _))
      have B2 := hid (B1.out.trans (hb.mono B1.out.size))
      clear hb
      go_wp2_with fail
      refine (R _ Hr.out).out.mono ?_
      rintro e w3 ⟨he, hb⟩
      rw [if_pos hsl] at he
      subst he
      replace Hr := hid (Hr.out.below hb (Nat.le_refl _))
      have B3 := hid (B2.out.trans (hb.mono B2.out.size))
      clear hb
      go_wp2_with fail
      have Hv1 : Hid (StrsAt w3 (.slice none 0 0) []) := hid (StrsAt.nil _)
      have Hv2 := Hv1
      refine ((V1 _).out).mono ?_
      rintro e wq ⟨rfl, rfl⟩
      go_wp2_with fail
      refine ((V2 _).out).mono ?_
      rintro e wq ⟨rfl, rfl⟩
      go_wp2_with fail
      refine (same_yes _ _ [] _ Hv1.out Hv2.out).mono ?_
      rintro e w4 ⟨rfl, hb⟩
      replace Hr := hid (Hr.out.below hb (Nat.le_refl _))
      have B4 := hid (B3.out.trans (hb.mono B3.out.size))
      clear hb
      go_wp2_with fail
      go_ret
      exact ⟨rfl, B4.out⟩
    · obtain rfl : s = l.length := by omega
      clear hs1 hs2 hs3 hft hr
      go_enter Try.func10, Try.ntmps10
      go_wp2_with fail
      refine (sawake_any _).mono ?_
      rintro e w1 ⟨rfl, hb⟩
      replace Hr := hid (Hr.out.below hb (Nat.le_refl _))
      have B1 := hid (hb)
      clear hb
      go_wp2_with fail
      refine (few_yes _ l 20 1100 (by omega) (by omega) HN.out _ Hr.out).mono ?_
      rintro e wq ⟨rfl, rfl⟩
      go_wp2_with fail
      refine (P _ Hr.out).out.mono ?_
      rintro e w2 ⟨he, hb⟩
      rw [if_neg hsl] at he
      obtain ⟨v1, rfl, h1⟩ := he
      replace Hr := hid (Hr.out.below hb (Nat.le_refl _))
      have B2 := hid (B1.out.trans (hb.mono B1.out.size))
      have Hv1 := hid h1
      clear hb h1
      go_wp2_with fail
      refine (R _ Hr.out).out.mono ?_
      rintro e w3 ⟨he, hb⟩
      rw [if_neg hsl] at he
      obtain ⟨v2, rfl, h1⟩ := he
      replace Hr := hid (Hr.out.below hb (Nat.le_refl _))
      replace Hv1 := hid (Hv1.out.below hb (Nat.le_refl _))
      have B3 := hid (B2.out.trans (hb.mono B2.out.size))
      have Hv2 := hid h1
      clear hb h1
      go_wp2_with fail
      refine ((V1 _).out).mono ?_
      rintro e wq ⟨rfl, rfl⟩
      go_wp2_with fail
      refine ((V2 _).out).mono ?_
      rintro e wq ⟨rfl, rfl⟩
      go_wp2_with fail
      refine (same_yes _ _ (spack b l) _ Hv1.out Hv2.out).mono ?_
      rintro e w4 ⟨rfl, hb⟩
      replace Hr := hid (Hr.out.below hb (Nat.le_refl _))
      replace Hv1 := hid (Hv1.out.below hb (Nat.le_refl _))
      replace Hv2 := hid (Hv2.out.below hb (Nat.le_refl _))
      have B4 := hid (B3.out.trans (hb.mono B3.out.size))
      clear hb
      go_wp2_with fail
      go_ret
      exact ⟨rfl, B4.out⟩
  · have P := fun v W => hid (spack_bad L B hB hft v W)
    have R := fun v W => hid (refSpack_bad L B hB hft v W)
    clear hft hr
    go_enter Try.func10, Try.ntmps10
    go_wp2_with fail
    refine (sawake_any _).mono ?_
    rintro e w1 ⟨rfl, hb⟩
    replace Hr := hid (Hr.out.below hb (Nat.le_refl _))
    have B1 := hid (hb)
    clear hb
    go_wp2_with fail
    refine (few_yes _ l 20 1100 (by omega) (by omega) HN.out _ Hr.out).mono ?_
    rintro e wq ⟨rfl, rfl⟩
    go_wp2_with fail
    refine ((P _ _).out).mono ?_
    rintro e w2 ⟨rfl, hb⟩
    replace Hr := hid (Hr.out.below hb (Nat.le_refl _))
    have B2 := hid (B1.out.trans (hb.mono B1.out.size))
    clear hb
    go_wp2_with fail
    refine ((R _ _).out).mono ?_
    rintro e w3 ⟨rfl, hb⟩
    replace Hr := hid (Hr.out.below hb (Nat.le_refl _))
    have B3 := hid (B2.out.trans (hb.mono B2.out.size))
    clear hb
    go_wp2_with fail
    have Hv1 : Hid (StrsAt w3 (.slice none 0 0) []) := hid (StrsAt.nil _)
    have Hv2 := Hv1
    refine ((V1 _).out).mono ?_
    rintro e wq ⟨rfl, rfl⟩
    go_wp2_with fail
    refine ((V2 _).out).mono ?_
    rintro e wq ⟨rfl, rfl⟩
    go_wp2_with fail
    refine (same_yes _ _ [] _ Hv1.out Hv2.out).mono ?_
    rintro e w4 ⟨rfl, hb⟩
    replace Hr := hid (Hr.out.below hb (Nat.le_refl _))
    have B4 := hid (B3.out.trans (hb.mono B3.out.size))
    clear hb
    go_wp2_with fail
    go_ret
    exact ⟨rfl, B4.out⟩
theorem walk_SpannedPacks (L : Int) (B : Int) (Arecs : Option Addr) (lenrecs caprecs : Nat) (Crecs : Nat → Nat → Value) (w : World) (hL : -9223372036854775808 ≤ L ∧ L ≤ 9223372036854775807) (hB : -9223372036854775808 ≤ B ∧ B ≤ 9223372036854775807) (hlrecs : lenrecs ≤ caprecs) (hmrecs : caprecs ≤ maxLen) (hErecs : Elems w Arecs lenrecs 1 Crecs) (hsrecs : ∀ i, i < lenrecs → ∃ n : ByteArray, Crecs i 0 = .string n ∧ n.size ≤ maxLen) :
    Calls Try.prog 10 #[.int .i64 L, .int .i64 B, .slice Arecs lenrecs caprecs] w fun e w' => e = .returned (.bool true) ∧ Below w.heap.size w w' := by
  obtain ⟨l, hn, hr, hz⟩ := strs_of hlrecs hmrecs hErecs hsrecs
  subst hn
  by_cases hf : few l 20 1100
  · exact short_SpannedPacks L B Arecs caprecs l hB.2 hz w hr hf
  · exact long_SpannedPacks L B Arecs caprecs l hz w hr hf
namespace spannedPacks
theorem own : ownKnob Try.prog.godebug = none := by kernel_rfl
theorem laidOut : laidOutB Try.prog = true := by kernel_rfl
set_option linter.unusedVariables false
set_option maxRecDepth 100000 in
theorem lifted (os : Os) (started : os.Started) (H : Type) (enc : TypeId × Value → H) :
    ReturnsInHanded {} Try.checked os 10 .any (Rows.spannedPacksSpec.pre6 enc Try.prog Try.f10 Rows.spannedPacksRow.domain false) (Rows.spannedPacksSpec.post enc Try.prog Try.f10 false true false false) := by
  refine returnsInHanded_of_change (C := Try.checked) own started (by kernel_rfl) Try.func10
    (ChangeSpec.witness6 (enc := enc) (C := Try.checked) false ⟨#[], #[.int .i64 0, .int .i64 0, .slice none 0 0], []⟩ 8 (by kernel_rfl) (by kernel_rfl) (by kernel_rfl) (by kernel_rfl)) ?_
  intro W base args ds gs before hval0 hW hcnd _
  have hval : ∀ (j : Nat) t v, Try.f10.params[j]? = some t → args[j]? = some v → Value.okWide Try.prog W .any base t v := hval0
  have hW' := hW
  obtain ⟨p, q, hA0, hV, rfl, hfz, hnd⟩ := hW
  have hA : DataW.TrodAll enc Try.prog W 0 (fun _ => true) true Try.f10.params.toList args.toList ds p := hA0
  rw [Try.params10] at hA hval
  obtain ⟨v0, vs0, d0, ds0, p0, q0, hargs, rfl, rfl, h0, r0⟩ := trodAll_cons hA
  obtain ⟨v1, vs1, d1, ds1, p1, q1, rfl, rfl, rfl, h1, r1⟩ := trodAll_cons r0
  obtain ⟨v2, vs2, d2, ds2, p2, q2, rfl, rfl, rfl, h2, r2⟩ := trodAll_cons r1
  obtain ⟨rfl, rfl, rfl⟩ := trodAll_nil r2
  obtain rfl : args = #[v0, v1, v2] := by cases args; simp_all
  obtain ⟨rfl, rfl⟩ := trodVars_none hV
  obtain ⟨a0, rfl, rfl, rfl, w0⟩ := open_int Try.underlying3 (hval 0 3 v0 rfl rfl) h0
  obtain ⟨a1, rfl, rfl, rfl, w1⟩ := open_int Try.underlying3 (hval 1 3 v1 rfl rfl) h1
  obtain ⟨a2, len2, cap2, rfl⟩ := okWide_slice Try.underlying22 (hval 2 22 v2 rfl rfl)
  have k2 := h2
  have lt2 : ∀ x ∈ p2, x.block < W.heap.size := by obtain ⟨m, hm⟩ := k2; exact DataW.trod_lt m _ _ _ hm
  obtain ⟨fuel2, hf2⟩ := h2
  obtain ⟨A2, l2, c2, C2, hcs2, hl2, hm2, hE2, hF2⟩ := open_cells Try.underlying22 (by kernel_rfl) hf2
  simp only [Value.cells, List.cons.injEq, Value.slice.injEq, and_true] at hcs2
  obtain ⟨rfl, rfl, rfl⟩ := hcs2
  have s2_0 : ∀ i, i < len2 → ∃ n : ByteArray, C2 i 0 = .string n ∧ n.size ≤ maxLen := fun i hi => by obtain ⟨y, n, hy⟩ := hF2 i hi; obtain ⟨n, e, _, hw⟩ := DataW.trod_string Try.underlying9 hy; exact ⟨n, List.head_eq_of_cons_eq e, hw⟩
  clear hA0 hval0
  refine (walk_SpannedPacks a0 a1 a2 len2 cap2 C2 (bounds_i64 w0) (bounds_i64 w1) hl2 hm2 hE2 s2_0 (w := W)).mono fun e W' ⟨he, bel⟩ => ?_
  subst he
  exact ⟨_, rfl, _, _, _, [], _, [], hW', trodAll_mk1 (shut_bool Try.underlying4 _), (trodAll_cons_mk (shut_int Try.underlying3 w0) (trodAll_cons_mk (shut_int Try.underlying3 w1) (trodAll_cons_mk (Below.trod laidOut (by kernel_rfl) (of_decide_eq_true (by kernel_rfl)) k2 bel lt2) trodAll_mk0))), rfl, bel.frame _, fun h => by cases h⟩
theorem over : Rows.spannedPacksRow.holds Try.pinned (OpenSpec.ofChange Rows.spannedPacksSpec) :=
  OpenClaim.holds_of_wide 10 Try.f10 rfl rfl rfl rfl rfl rfl rfl ⟨rfl, rfl, rfl, rfl, rfl⟩ rfl rfl rfl rfl rfl (by kernel_rfl) Try.func10 (by kernel_rfl)
    (of_decide_eq_true (by kernel_rfl)) (by unfold Func.isWrapper; first | (rw [if_pos (by decide +kernel)]; kernel_rfl) | (rw [if_neg (by decide +kernel)]; exact ⟨rfl, rfl⟩))
    (fun os started H enc _ => lifted os started H enc)
theorem proved : Rows.SpannedPacksSaid := over
end spannedPacks

end Go.Proofs.Ytklbckonlbpbgaa
