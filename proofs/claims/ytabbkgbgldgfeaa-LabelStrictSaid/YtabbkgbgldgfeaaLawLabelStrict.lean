/- What Decode accepts is a slot that Encode returns for the label; a head that DecodeHead accepts is what EncodeHead returns; at most 1100 bytes. -/
import Derived.Test.YtabbkgbgldgfeaaRows
import Derived.WalkKit
import Derived.ProofKit
import Derived.OpenShut
import Derived.ShutString
import Derived.ChangeOld
import Derived.Below
import Derived.Test.YtabbkgbgldgfeaaLabF
import Derived.Test.YtabbkgbgldgfeaaLabH3
namespace Go.Proofs.Ytabbkgbgldgfeaa
open Go.Lib Go.ChangeShapes Go.WideShapes Go.ChangeAt Go.RowKit
open Go.ChangeMaps (open_string shut_string)
set_option linter.unusedVariables false
set_option maxRecDepth 100000 in
set_option maxHeartbeats 2000000 in
theorem strict_head (s : ByteArray) : ((decH s).2.2 = 11 ∧ (decH s).1 = ⟨#[]⟩ ∧ (decH s).2.1 = 0) ∨ ((decH s).2.2 = 0 ∧ encH (decH s).1 (decH s).2.1 = s ∧ nameOk (decH s).1 ∧ 0 < tabM (decH s).2.1) := by
  unfold decH
  by_cases hk : decHok s
  · rw [if_pos hk]
    right
    have hg := (encH_ne (rdH s).1 ((rdH s).2.1 : Nat)).1 (by rw [hk.2]; exact hk.1)
    exact ⟨rfl, hk.2, hg.1, (tabM_pos _).2 hg.2⟩
  · rw [if_neg hk]
    left
    exact ⟨rfl, rfl, rfl⟩
set_option maxRecDepth 100000 in
set_option maxHeartbeats 4000000 in
theorem walk_LabelStrict (s : ByteArray) (tr : Int) (hs : s.size ≤ maxLen) (h : -9223372036854775808 ≤ tr ∧ tr ≤ 9223372036854775807) {w : World} :
    Calls Try.prog 8 #[.string s, .int .i64 tr] w fun e w' => e = .returned (.bool true) ∧ Below w.heap.size w w' := by
  clear hs
  by_cases h2 : s.size ≤ 1100
  rotate_left
  · have d2 : decide ((1100 : Int) < (s.size : Int)) = true := by simp; omega
    clear h
    go_enter Try.func8, Try.ntmps8
    go_wp2_with fail
    refine (labAwake_any _).mono ?_
    rintro e w1 ⟨rfl, hb⟩
    have B1 := hid (hb)
    clear hb
    go_wp2_with fail
    refine (labAwake_any _).mono ?_
    rintro e w2 ⟨rfl, hb⟩
    have B2 := hid (B1.out.trans (hb.mono B1.out.size))
    clear hb
    go_wp2_with fail
    go_ret
    exact ⟨rfl, B2.out⟩
  have d2 : decide ((1100 : Int) < (s.size : Int)) = false := by simp; omega
  have C1 := fun W => hid (decode_lab s (by omega) tr h W)
  have C2 := fun W => hid (decodeHead_any s (by omega) W)
  unfold HeadPost at C2
  unfold DecPost at C1
  have hlen := decL_len s tr
  have hdec : ((decL s tr).2 = 11 ∧ (decL s tr).1 = zeroL) ∨ ((decL s tr).2 = 0 ∧ encL (decL s tr).1 tr = s) := by
    unfold decL
    by_cases hk : decOk s tr
    · rw [if_pos hk]; right
      exact ⟨rfl, ((decOk_iff s tr _).1 ⟨hk, rfl⟩).2⟩
    · rw [if_neg hk]; left
      exact ⟨rfl, rfl⟩
  have hhead := strict_head s
  have h8 : (decH s).1.size ≤ 8 ∧ 0 ≤ (decH s).2.1 ∧ (decH s).2.1 ≤ 128 := by
    unfold decH
    have hle := rdH_le s
    split
    · simp only; omega
    · refine ⟨?_, ?_, ?_⟩ <;> decide
  obtain ⟨D, hD⟩ : ∃ D, D = decH s := ⟨_, rfl⟩
  rw [← hD] at C2 hhead h8
  obtain ⟨x, y, z⟩ := D
  simp only at C2 hhead h8
  have C3 := fun W => hid (encodeHead_any x (by omega) y (by omega) W)
  have C4 := fun W => hid (validName_any x (by omega) W)
  have C5 := fun W => hid (tableTracks_any y (by omega) W)
  obtain ⟨K, hK⟩ : ∃ K, K = decL s tr := ⟨_, rfl⟩
  rw [← hK] at C1 hlen hdec
  obtain ⟨L, er⟩ := K
  simp only at C1 hlen hdec
  have C6 := fun W v (hv : RunsAt W v L.ext) => hid (encode_lab L v tr h (by omega) W hv)
  have C7 := fun W v (hv : RunsAt W v L.ext) => hid (labEqual_any L zeroL v (.slice none 0 0) (by omega) (by simp [zeroL]) W hv (zero_runs W))
  have q0 : (s.toList == s.toList) = true := str_eq s
  clear hD hK h2
  rcases hdec with ⟨rfl, hz⟩ | ⟨rfl, h3⟩
  · have HZ := hid hz
    clear hz
    go_enter Try.func8, Try.ntmps8
    go_wp2_with fail
    refine (labAwake_any _).mono ?_
    rintro e w1 ⟨rfl, hb⟩
    have B1 := hid (hb)
    clear hb
    go_wp2_with fail
    refine (C1 _).out.mono ?_
    rintro e w2 ⟨v5, rfl, hr5, hb⟩
    obtain ⟨A5, cap5, rfl, hq1, hq2, hq3⟩ := hr5
    have HR5 : Hid (RunsAt w2 (.slice A5 L.ext.length cap5) L.ext) := ⟨A5, cap5, rfl, hq1, hq2, hq3⟩
    have B2 := hid (B1.out.trans (hb.mono B1.out.size))
    clear hb hq1 hq2 hq3
    obtain ⟨c, hc⟩ : ∃ c, c = w2.heap.size := ⟨_, rfl⟩
    obtain ⟨w3, hw3⟩ : ∃ w3, w3 = w2.alloc (.cells #[.int .i64 L.id, .int .i64 L.unit, .string L.name, .string L.note, .slice A5 L.ext.length cap5] 24) := ⟨_, rfl⟩
    have hbw : Below w2.heap.size w2 w3 := by rw [hw3]; exact (Below.refl _ _).alloc (Nat.le_refl _) _
    have B3 := hid (B2.out.trans (hbw.mono B2.out.size))
    have hc3 : Row w3 c 24 (labCells L (.slice A5 L.ext.length cap5)) := by rw [hw3, hc]; exact Row.new w2 (labCells L (.slice A5 L.ext.length cap5)) _
    have HC3 := hid hc3
    have HR3 := hid (HR5.out.below hbw (Nat.le_refl _))
    have HW3 := hid hw3
    have HCE := hid hc
    clear hbw hc3 hw3 hc HR5
    go_upto_region 4 with fail
    rw [← HW3.out, ← HCE.out]
    have c0 := HC3.out.cell (i := 0) rfl
    have c1 := HC3.out.cell (i := 1) rfl
    have c2 := HC3.out.cell (i := 2) rfl
    have c3 := HC3.out.cell (i := 3) rfl
    have c4 := HC3.out.cell (i := 4) rfl
    have clt := HC3.out.lt
    have C8 := C7 w3 _ HR3.out
    rw [decide_eq_true ((eqL_iff L zeroL).2 HZ.out)] at C8
    clear C6 C7
    go_wp2_with fail
    refine C8.out.mono ?_
    rintro e w4 ⟨rfl, hb⟩
    have B4 := hid (B3.out.trans (hb.mono B3.out.size))
    clear hb C8
    go_wp2_with fail
    rcases hhead with ⟨rfl, rfl, rfl⟩ | ⟨rfl, e2, e3, e4⟩
    · have z0 : (ByteArray.mk #[]).toList.isEmpty = true := by rw [ByteArray.toList_eq]; rfl
      refine (C2 _).out.mono ?_
      rintro e w5 ⟨rfl, hb⟩
      have B5 := hid (B4.out.trans (hb.mono B4.out.size))
      clear hb
      go_wp2_with fail
      go_ret
      exact ⟨rfl, B5.out⟩
    · rw [e2] at C3
      rw [decide_eq_true e3] at C4
      obtain ⟨T, hT⟩ : ∃ T, T = tabM y := ⟨_, rfl⟩
      rw [← hT] at C5 e4
      clear hT e2 e3
      refine (C2 _).out.mono ?_
      rintro e w5 ⟨rfl, hb⟩
      have B5 := hid (B4.out.trans (hb.mono B4.out.size))
      clear hb
      go_wp2_with fail
      refine (C3 _).out.mono ?_
      rintro e w6 ⟨rfl, hb⟩
      have B6 := hid (B5.out.trans (hb.mono B5.out.size))
      clear hb
      go_wp2_with fail
      refine (C4 _).out.mono ?_
      rintro e w7 ⟨rfl, rfl⟩
      go_wp2_with fail
      refine (C5 _).out.mono ?_
      rintro e w7 ⟨rfl, rfl⟩
      go_wp2_with fail
      go_ret
      exact ⟨rfl, B6.out⟩
  · skip
    go_enter Try.func8, Try.ntmps8
    go_wp2_with fail
    refine (labAwake_any _).mono ?_
    rintro e w1 ⟨rfl, hb⟩
    have B1 := hid (hb)
    clear hb
    go_wp2_with fail
    refine (C1 _).out.mono ?_
    rintro e w2 ⟨v5, rfl, hr5, hb⟩
    obtain ⟨A5, cap5, rfl, hq1, hq2, hq3⟩ := hr5
    have HR5 : Hid (RunsAt w2 (.slice A5 L.ext.length cap5) L.ext) := ⟨A5, cap5, rfl, hq1, hq2, hq3⟩
    have B2 := hid (B1.out.trans (hb.mono B1.out.size))
    clear hb hq1 hq2 hq3
    obtain ⟨c, hc⟩ : ∃ c, c = w2.heap.size := ⟨_, rfl⟩
    obtain ⟨w3, hw3⟩ : ∃ w3, w3 = w2.alloc (.cells #[.int .i64 L.id, .int .i64 L.unit, .string L.name, .string L.note, .slice A5 L.ext.length cap5] 24) := ⟨_, rfl⟩
    have hbw : Below w2.heap.size w2 w3 := by rw [hw3]; exact (Below.refl _ _).alloc (Nat.le_refl _) _
    have B3 := hid (B2.out.trans (hbw.mono B2.out.size))
    have hc3 : Row w3 c 24 (labCells L (.slice A5 L.ext.length cap5)) := by rw [hw3, hc]; exact Row.new w2 (labCells L (.slice A5 L.ext.length cap5)) _
    have HC3 := hid hc3
    have HR3 := hid (HR5.out.below hbw (Nat.le_refl _))
    have HW3 := hid hw3
    have HCE := hid hc
    clear hbw hc3 hw3 hc HR5
    go_upto_region 4 with fail
    rw [← HW3.out, ← HCE.out]
    have c0 := HC3.out.cell (i := 0) rfl
    have c1 := HC3.out.cell (i := 1) rfl
    have c2 := HC3.out.cell (i := 2) rfl
    have c3 := HC3.out.cell (i := 3) rfl
    have c4 := HC3.out.cell (i := 4) rfl
    have clt := HC3.out.lt
    have C8 := C6 w3 _ HR3.out
    rw [h3] at C8
    clear C6 C7 h3
    go_wp2_with fail
    refine C8.out.mono ?_
    rintro e w4 ⟨rfl, hb⟩
    have B4 := hid (B3.out.trans (hb.mono B3.out.size))
    clear hb C8
    go_wp2_with fail
    rcases hhead with ⟨rfl, rfl, rfl⟩ | ⟨rfl, e2, e3, e4⟩
    · have z0 : (ByteArray.mk #[]).toList.isEmpty = true := by rw [ByteArray.toList_eq]; rfl
      refine (C2 _).out.mono ?_
      rintro e w5 ⟨rfl, hb⟩
      have B5 := hid (B4.out.trans (hb.mono B4.out.size))
      clear hb
      go_wp2_with fail
      go_ret
      exact ⟨rfl, B5.out⟩
    · rw [e2] at C3
      rw [decide_eq_true e3] at C4
      obtain ⟨T, hT⟩ : ∃ T, T = tabM y := ⟨_, rfl⟩
      rw [← hT] at C5 e4
      clear hT e2 e3
      refine (C2 _).out.mono ?_
      rintro e w5 ⟨rfl, hb⟩
      have B5 := hid (B4.out.trans (hb.mono B4.out.size))
      clear hb
      go_wp2_with fail
      refine (C3 _).out.mono ?_
      rintro e w6 ⟨rfl, hb⟩
      have B6 := hid (B5.out.trans (hb.mono B5.out.size))
      clear hb
      go_wp2_with fail
      refine (C4 _).out.mono ?_
      rintro e w7 ⟨rfl, rfl⟩
      go_wp2_with fail
      refine (C5 _).out.mono ?_
      rintro e w7 ⟨rfl, rfl⟩
      go_wp2_with fail
      go_ret
      exact ⟨rfl, B6.out⟩
namespace labelStrict
theorem own : ownKnob Try.prog.godebug = none := by kernel_rfl
set_option linter.unusedVariables false
set_option maxRecDepth 100000 in
theorem lifted (os : Os) (started : os.Started) (H : Type) (enc : TypeId × Value → H) :
    ReturnsInHanded {} Try.checked os 8 .any (Rows.labelStrictSpec.pre6 enc Try.prog Try.f8 Rows.labelStrictRow.domain false) (Rows.labelStrictSpec.post enc Try.prog Try.f8 false true false false) := by
  refine returnsInHanded_of_change (C := Try.checked) own started (by kernel_rfl) Try.func8
    (ChangeSpec.witness6 (enc := enc) (C := Try.checked) false ⟨#[], #[.string ByteArray.empty, .int .i64 0], []⟩ 8 (by kernel_rfl) (by kernel_rfl) (by kernel_rfl) (by kernel_rfl)) ?_
  intro W base args ds gs before hval0 hW hcnd _
  have hval : ∀ (j : Nat) t v, Try.f8.params[j]? = some t → args[j]? = some v → Value.okWide Try.prog W .any base t v := hval0
  have hW' := hW
  obtain ⟨p, q, hA0, hV, rfl, hfz, hnd⟩ := hW
  have hA : DataW.TrodAll enc Try.prog W 0 (fun _ => true) true Try.f8.params.toList args.toList ds p := hA0
  rw [Try.params8] at hA hval
  obtain ⟨v0, vs0, d0, ds0, p0, q0, hargs, rfl, rfl, h0, r0⟩ := trodAll_cons hA
  obtain ⟨v1, vs1, d1, ds1, p1, q1, rfl, rfl, rfl, h1, r1⟩ := trodAll_cons r0
  obtain ⟨rfl, rfl, rfl⟩ := trodAll_nil r1
  obtain rfl : args = #[v0, v1] := by cases args; simp_all
  obtain ⟨rfl, rfl⟩ := trodVars_none hV
  obtain ⟨a0, rfl, rfl, rfl, w0⟩ := open_string Try.underlying9 (hval 0 9 v0 rfl rfl) h0
  obtain ⟨a1, rfl, rfl, rfl, w1⟩ := open_int Try.underlying3 (hval 1 3 v1 rfl rfl) h1
  clear hA0 hval0
  refine (walk_LabelStrict a0 a1 w0 (bounds_i64 w1) (w := W)).mono fun e W' ⟨he, bel⟩ => ?_
  subst he
  exact ⟨_, rfl, _, _, _, [], _, [], hW', trodAll_mk1 (shut_bool Try.underlying4 _), (trodAll_cons_mk (shut_string Try.underlying9 w0) (trodAll_cons_mk (shut_int Try.underlying3 w1) trodAll_mk0)), rfl, bel.frame _, fun h => by cases h⟩
theorem over : Rows.labelStrictRow.holds Try.pinned (OpenSpec.ofChange Rows.labelStrictSpec) :=
  OpenClaim.holds_of_wide 8 Try.f8 rfl rfl rfl rfl rfl rfl rfl ⟨rfl, rfl, rfl, rfl, rfl⟩ rfl rfl rfl rfl rfl (by kernel_rfl) Try.func8 (by kernel_rfl)
    (of_decide_eq_true (by kernel_rfl)) (by unfold Func.isWrapper; first | (rw [if_pos (by decide +kernel)]; kernel_rfl) | (rw [if_neg (by decide +kernel)]; exact ⟨rfl, rfl⟩))
    (fun os started H enc _ => lifted os started H enc)
theorem proved : Rows.LabelStrictSaid := over
end labelStrict

end Go.Proofs.Ytabbkgbgldgfeaa
