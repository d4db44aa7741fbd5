/- Statement VariableWords: Word and ReadWord return what the specification says, and are inverse to each other. For all numbers, and at most 20 bytes, which is the statement's own bound. -/
import Derived.Test.YtklbckonlbpbgaaRows
import Derived.WalkKit
import Derived.ProofKit
import Derived.OpenShut
import Derived.ShutString
import Derived.ChangeOld
import Derived.Below
import Derived.Test.YtklbckonlbpbgaaSlices
import Derived.Test.YtklbckonlbpbgaaOpen
import Derived.Test.YtklbckonlbpbgaaVarT7
import Derived.Test.YtklbckonlbpbgaaVarR2
namespace Go.Proofs.Ytklbckonlbpbgaa
open Go.Lib Go.ChangeShapes Go.WideShapes Go.ChangeAt Go.RowKit
open Go.ChangeMaps (open_string shut_string)
set_option linter.unusedVariables false
set_option maxRecDepth 100000 in
theorem long_VariableWords (n : Int) (s : ByteArray) (w : World) (hz : s.size ≤ 9223372036854775807) (hd : ¬ s.size ≤ 20) :
    Calls Try.prog 6 #[.int .i64 n, .string s] w (Gives (.bool true) w) := by
  go_enter Try.func6, Try.ntmps6
  go_wp2_with fail
  refine (vawake_any _).mono ?_
  rintro e w1 ⟨rfl, hb⟩
  have B1 := hid (hb)
  clear hb
  go_wp2_with fail
  refine (vawake_any _).mono ?_
  rintro e w2 ⟨rfl, hb⟩
  have B2 := hid (B1.out.trans (hb.mono B1.out.size))
  clear hb
  go_wp2_with fail
  go_ret
  exact ⟨rfl, B2.out⟩
set_option maxRecDepth 100000 in
set_option maxHeartbeats 4000000 in
theorem w00_VariableWords (n : Int) (hn : ¬ (0 ≤ n ∧ n ≤ 65535)) (s : ByteArray) (hs : s.size ≤ 20) (hno : ∀ n ≤ 65535, s ≠ word n) (w : World) :
    Calls Try.prog 6 #[.int .i64 n, .string s] w (Gives (.bool true) w) := by
  have R1 := fun W => hid (readWord_no s (by omega) hno W)
  have R2 := fun W => hid (refReadWord_no s (by omega) hno W)
  have W1 := fun W => hid (word_none n hn W)
  have W2 := fun W => hid (refWord_none n hn W)
  have N1 := fun W => hid (readWord_no ⟨#[]⟩ (by show 0 ≤ _; omega) (fun k _ h => by have := congrArg ByteArray.size h; rw [word_size] at this; cases this) W)
  clear hno
  by_cases h0 : n < 0
  · clear hn
    go_enter Try.func6, Try.ntmps6
    go_wp2_with fail
    refine (vawake_any _).mono ?_
    rintro e w1 ⟨rfl, hb⟩
    have B1 := hid (hb)
    clear hb
    go_wp2_with fail
    refine ((R1 _).out).mono ?_
    rintro e w2 ⟨rfl, hb⟩
    have B2 := hid (B1.out.trans (hb.mono B1.out.size))
    clear hb
    go_wp2_with fail
    refine ((R2 _).out).mono ?_
    rintro e w3 ⟨rfl, hb⟩
    have B3 := hid (B2.out.trans (hb.mono B2.out.size))
    clear hb
    go_wp2_with fail
    refine ((W1 _).out).mono ?_
    rintro e w4 ⟨rfl, hb⟩
    have B4 := hid (B3.out.trans (hb.mono B3.out.size))
    clear hb
    go_wp2_with fail
    refine ((W2 _).out).mono ?_
    rintro e w5 ⟨rfl, hb⟩
    have B5 := hid (B4.out.trans (hb.mono B4.out.size))
    clear hb
    go_wp2_with fail
    refine ((W1 _).out).mono ?_
    rintro e w6 ⟨rfl, hb⟩
    have B6 := hid (B5.out.trans (hb.mono B5.out.size))
    clear hb
    go_wp2_with fail
    refine ((N1 _).out).mono ?_
    rintro e w7 ⟨rfl, hb⟩
    have B7 := hid (B6.out.trans (hb.mono B6.out.size))
    clear hb
    go_wp2_with fail
    go_ret
    exact ⟨rfl, B7.out⟩
  · have h1 : (65535 : Int) < n := by omega
    have h2 : decide (n ≤ 65535) = false := decide_eq_false (by omega)
    clear hn
    go_enter Try.func6, Try.ntmps6
    go_wp2_with fail
    refine (vawake_any _).mono ?_
    rintro e w1 ⟨rfl, hb⟩
    have B1 := hid (hb)
    clear hb
    go_wp2_with fail
    refine ((R1 _).out).mono ?_
    rintro e w2 ⟨rfl, hb⟩
    have B2 := hid (B1.out.trans (hb.mono B1.out.size))
    clear hb
    go_wp2_with fail
    refine ((R2 _).out).mono ?_
    rintro e w3 ⟨rfl, hb⟩
    have B3 := hid (B2.out.trans (hb.mono B2.out.size))
    clear hb
    go_wp2_with fail
    refine ((W1 _).out).mono ?_
    rintro e w4 ⟨rfl, hb⟩
    have B4 := hid (B3.out.trans (hb.mono B3.out.size))
    clear hb
    go_wp2_with fail
    refine ((W2 _).out).mono ?_
    rintro e w5 ⟨rfl, hb⟩
    have B5 := hid (B4.out.trans (hb.mono B4.out.size))
    clear hb
    go_wp2_with fail
    refine ((W1 _).out).mono ?_
    rintro e w6 ⟨rfl, hb⟩
    have B6 := hid (B5.out.trans (hb.mono B5.out.size))
    clear hb
    go_wp2_with fail
    refine ((N1 _).out).mono ?_
    rintro e w7 ⟨rfl, hb⟩
    have B7 := hid (B6.out.trans (hb.mono B6.out.size))
    clear hb
    go_wp2_with fail
    go_ret
    exact ⟨rfl, B7.out⟩
set_option maxRecDepth 100000 in
set_option maxHeartbeats 4000000 in
theorem w01_VariableWords (n : Int) (hn : ¬ (0 ≤ n ∧ n ≤ 65535)) (m : Nat) (hm : m ≤ 65535) (w : World) :
    Calls Try.prog 6 #[.int .i64 n, .string (word m)] w (Gives (.bool true) w) := by
  have R1 := fun W => hid (readWord_yes m hm W)
  have R2 := fun W => hid (refReadWord_yes m hm W)
  have M1 := fun W => hid (word_nat m hm W)
  obtain ⟨s, hs⟩ : ∃ s, s = word m := ⟨_, rfl⟩
  have hss : s.size ≤ 4 := by rw [hs, word_size]; omega
  have qs := sne_false s
  have q3 : ((m : Int) != (m : Int)) = false := by simp
  have q4 : (s.toList == s.toList) = true := by simp
  have W1 := fun W => hid (word_none n hn W)
  have W2 := fun W => hid (refWord_none n hn W)
  have N1 := fun W => hid (readWord_no ⟨#[]⟩ (by show 0 ≤ _; omega) (fun k _ h => by have := congrArg ByteArray.size h; rw [word_size] at this; cases this) W)
  rw [← hs] at R1 R2 M1 ⊢
  clear hs
  by_cases h0 : n < 0
  · clear hn
    go_enter Try.func6, Try.ntmps6
    go_wp2_with fail
    refine (vawake_any _).mono ?_
    rintro e w1 ⟨rfl, hb⟩
    have B1 := hid (hb)
    clear hb
    go_wp2_with fail
    refine ((R1 _).out).mono ?_
    rintro e w2 ⟨rfl, hb⟩
    have B2 := hid (B1.out.trans (hb.mono B1.out.size))
    clear hb
    go_wp2_with fail
    refine ((R2 _).out).mono ?_
    rintro e w3 ⟨rfl, hb⟩
    have B3 := hid (B2.out.trans (hb.mono B2.out.size))
    clear hb
    go_wp2_with fail
    refine ((W1 _).out).mono ?_
    rintro e w4 ⟨rfl, hb⟩
    have B4 := hid (B3.out.trans (hb.mono B3.out.size))
    clear hb
    go_wp2_with fail
    refine ((W2 _).out).mono ?_
    rintro e w5 ⟨rfl, hb⟩
    have B5 := hid (B4.out.trans (hb.mono B4.out.size))
    clear hb
    go_wp2_with fail
    refine ((M1 _).out).mono ?_
    rintro e w6 ⟨rfl, hb⟩
    have B6 := hid (B5.out.trans (hb.mono B5.out.size))
    clear hb
    go_wp2_with fail
    refine ((W1 _).out).mono ?_
    rintro e w7 ⟨rfl, hb⟩
    have B7 := hid (B6.out.trans (hb.mono B6.out.size))
    clear hb
    go_wp2_with fail
    refine ((N1 _).out).mono ?_
    rintro e w8 ⟨rfl, hb⟩
    have B8 := hid (B7.out.trans (hb.mono B7.out.size))
    clear hb
    go_wp2_with fail
    go_ret
    exact ⟨rfl, B8.out⟩
  · have h1 : (65535 : Int) < n := by omega
    have h2 : decide (n ≤ 65535) = false := decide_eq_false (by omega)
    clear hn
    go_enter Try.func6, Try.ntmps6
    go_wp2_with fail
    refine (vawake_any _).mono ?_
    rintro e w1 ⟨rfl, hb⟩
    have B1 := hid (hb)
    clear hb
    go_wp2_with fail
    refine ((R1 _).out).mono ?_
    rintro e w2 ⟨rfl, hb⟩
    have B2 := hid (B1.out.trans (hb.mono B1.out.size))
    clear hb
    go_wp2_with fail
    refine ((R2 _).out).mono ?_
    rintro e w3 ⟨rfl, hb⟩
    have B3 := hid (B2.out.trans (hb.mono B2.out.size))
    clear hb
    go_wp2_with fail
    refine ((W1 _).out).mono ?_
    rintro e w4 ⟨rfl, hb⟩
    have B4 := hid (B3.out.trans (hb.mono B3.out.size))
    clear hb
    go_wp2_with fail
    refine ((W2 _).out).mono ?_
    rintro e w5 ⟨rfl, hb⟩
    have B5 := hid (B4.out.trans (hb.mono B4.out.size))
    clear hb
    go_wp2_with fail
    refine ((M1 _).out).mono ?_
    rintro e w6 ⟨rfl, hb⟩
    have B6 := hid (B5.out.trans (hb.mono B5.out.size))
    clear hb
    go_wp2_with fail
    refine ((W1 _).out).mono ?_
    rintro e w7 ⟨rfl, hb⟩
    have B7 := hid (B6.out.trans (hb.mono B6.out.size))
    clear hb
    go_wp2_with fail
    refine ((N1 _).out).mono ?_
    rintro e w8 ⟨rfl, hb⟩
    have B8 := hid (B7.out.trans (hb.mono B7.out.size))
    clear hb
    go_wp2_with fail
    go_ret
    exact ⟨rfl, B8.out⟩
set_option maxRecDepth 100000 in
set_option maxHeartbeats 4000000 in
theorem w10_VariableWords (n : Nat) (hn : n ≤ 65535) (s : ByteArray) (hs : s.size ≤ 20) (hno : ∀ n ≤ 65535, s ≠ word n) (w : World) :
    Calls Try.prog 6 #[.int .i64 n, .string s] w (Gives (.bool true) w) := by
  have R1 := fun W => hid (readWord_no s (by omega) hno W)
  have R2 := fun W => hid (refReadWord_no s (by omega) hno W)
  have W1 := fun W => hid (word_nat n hn W)
  have W2 := fun W => hid (refWord_nat n hn W)
  have N1 := fun W => hid (readWord_yes n hn W)
  obtain ⟨q, hq⟩ : ∃ q, q = word n := ⟨_, rfl⟩
  rw [← hq] at W1 W2 N1
  have qq := sne_false q
  have q5 : ((n : Int) == (n : Int)) = true := by simp
  have q6 : (0 : Int) ≤ (n : Int) := by omega
  clear hq
  clear hno
  go_enter Try.func6, Try.ntmps6
  go_wp2_with fail
  refine (vawake_any _).mono ?_
  rintro e w1 ⟨rfl, hb⟩
  have B1 := hid (hb)
  clear hb
  go_wp2_with fail
  refine ((R1 _).out).mono ?_
  rintro e w2 ⟨rfl, hb⟩
  have B2 := hid (B1.out.trans (hb.mono B1.out.size))
  clear hb
  go_wp2_with fail
  refine ((R2 _).out).mono ?_
  rintro e w3 ⟨rfl, hb⟩
  have B3 := hid (B2.out.trans (hb.mono B2.out.size))
  clear hb
  go_wp2_with fail
  refine ((W1 _).out).mono ?_
  rintro e w4 ⟨rfl, hb⟩
  have B4 := hid (B3.out.trans (hb.mono B3.out.size))
  clear hb
  go_wp2_with fail
  refine ((W2 _).out).mono ?_
  rintro e w5 ⟨rfl, hb⟩
  have B5 := hid (B4.out.trans (hb.mono B4.out.size))
  clear hb
  go_wp2_with fail
  refine ((W1 _).out).mono ?_
  rintro e w6 ⟨rfl, hb⟩
  have B6 := hid (B5.out.trans (hb.mono B5.out.size))
  clear hb
  go_wp2_with fail
  refine ((N1 _).out).mono ?_
  rintro e w7 ⟨rfl, hb⟩
  have B7 := hid (B6.out.trans (hb.mono B6.out.size))
  clear hb
  go_wp2_with fail
  go_ret
  exact ⟨rfl, B7.out⟩
set_option maxRecDepth 100000 in
set_option maxHeartbeats 4000000 in
theorem w11_VariableWords (n : Nat) (hn : n ≤ 65535) (m : Nat) (hm : m ≤ 65535) (w : World) :
    Calls Try.prog 6 #[.int .i64 n, .string (word m)] w (Gives (.bool true) w) := by
  have R1 := fun W => hid (readWord_yes m hm W)
  have R2 := fun W => hid (refReadWord_yes m hm W)
  have M1 := fun W => hid (word_nat m hm W)
  obtain ⟨s, hs⟩ : ∃ s, s = word m := ⟨_, rfl⟩
  have hss : s.size ≤ 4 := by rw [hs, word_size]; omega
  have qs := sne_false s
  have q3 : ((m : Int) != (m : Int)) = false := by simp
  have q4 : (s.toList == s.toList) = true := by simp
  have W1 := fun W => hid (word_nat n hn W)
  have W2 := fun W => hid (refWord_nat n hn W)
  have N1 := fun W => hid (readWord_yes n hn W)
  obtain ⟨q, hq⟩ : ∃ q, q = word n := ⟨_, rfl⟩
  rw [← hq] at W1 W2 N1
  have qq := sne_false q
  have q5 : ((n : Int) == (n : Int)) = true := by simp
  have q6 : (0 : Int) ≤ (n : Int) := by omega
  clear hq
  rw [← hs] at R1 R2 M1 ⊢
  clear hs
  go_enter Try.func6, Try.ntmps6
  go_wp2_with fail
  refine (vawake_any _).mono ?_
  rintro e w1 ⟨rfl, hb⟩
  have B1 := hid (hb)
  clear hb
  go_wp2_with fail
  refine ((R1 _).out).mono ?_
  rintro e w2 ⟨rfl, hb⟩
  have B2 := hid (B1.out.trans (hb.mono B1.out.size))
  clear hb
  go_wp2_with fail
  refine ((R2 _).out).mono ?_
  rintro e w3 ⟨rfl, hb⟩
  have B3 := hid (B2.out.trans (hb.mono B2.out.size))
  clear hb
  go_wp2_with fail
  refine ((W1 _).out).mono ?_
  rintro e w4 ⟨rfl, hb⟩
  have B4 := hid (B3.out.trans (hb.mono B3.out.size))
  clear hb
  go_wp2_with fail
  refine ((W2 _).out).mono ?_
  rintro e w5 ⟨rfl, hb⟩
  have B5 := hid (B4.out.trans (hb.mono B4.out.size))
  clear hb
  go_wp2_with fail
  refine ((M1 _).out).mono ?_
  rintro e w6 ⟨rfl, hb⟩
  have B6 := hid (B5.out.trans (hb.mono B5.out.size))
  clear hb
  go_wp2_with fail
  refine ((W1 _).out).mono ?_
  rintro e w7 ⟨rfl, hb⟩
  have B7 := hid (B6.out.trans (hb.mono B6.out.size))
  clear hb
  go_wp2_with fail
  refine ((N1 _).out).mono ?_
  rintro e w8 ⟨rfl, hb⟩
  have B8 := hid (B7.out.trans (hb.mono B7.out.size))
  clear hb
  go_wp2_with fail
  go_ret
  exact ⟨rfl, B8.out⟩
theorem walk_VariableWords (n : Int) (s : ByteArray) (w : World) (hn : -9223372036854775808 ≤ n ∧ n ≤ 9223372036854775807) (hs : s.size ≤ maxLen) :
    Calls Try.prog 6 #[.int .i64 n, .string s] w fun e w' => e = .returned (.bool true) ∧ Below w.heap.size w w' := by
  unfold maxLen at hs
  by_cases h20 : s.size ≤ 20
  · by_cases hw : ∃ m, m ≤ 65535 ∧ s = word m
    · obtain ⟨m, hm, rfl⟩ := hw
      by_cases h : 0 ≤ n ∧ n ≤ 65535
      · obtain ⟨k, rfl⟩ := Int.eq_ofNat_of_zero_le h.1
        exact w11_VariableWords k (by omega) m hm w
      · exact w01_VariableWords n h m hm w
    · by_cases h : 0 ≤ n ∧ n ≤ 65535
      · obtain ⟨k, rfl⟩ := Int.eq_ofNat_of_zero_le h.1
        exact w10_VariableWords k (by omega) s h20 (fun m hm e => hw ⟨m, hm, e⟩) w
      · exact w00_VariableWords n h s h20 (fun m hm e => hw ⟨m, hm, e⟩) w
  · exact long_VariableWords n s w (by omega) h20
namespace variableWords
theorem own : ownKnob Try.prog.godebug = none := by kernel_rfl
set_option linter.unusedVariables false
set_option maxRecDepth 100000 in
theorem lifted (os : Os) (started : os.Started) (H : Type) (enc : TypeId × Value → H) :
    ReturnsInHanded {} Try.checked os 6 .any (Rows.variableWordsSpec.pre6 enc Try.prog Try.f6 Rows.variableWordsRow.domain false) (Rows.variableWordsSpec.post enc Try.prog Try.f6 false true false false) := by
  refine returnsInHanded_of_change (C := Try.checked) own started (by kernel_rfl) Try.func6
    (ChangeSpec.witness6 (enc := enc) (C := Try.checked) false ⟨#[], #[.int .i64 0, .string ByteArray.empty], []⟩ 8 (by kernel_rfl) (by kernel_rfl) (by kernel_rfl) (by kernel_rfl)) ?_
  intro W base args ds gs before hval0 hW hcnd _
  have hval : ∀ (j : Nat) t v, Try.f6.params[j]? = some t → args[j]? = some v → Value.okWide Try.prog W .any base t v := hval0
  have hW' := hW
  obtain ⟨p, q, hA0, hV, rfl, hfz, hnd⟩ := hW
  have hA : DataW.TrodAll enc Try.prog W 0 (fun _ => true) true Try.f6.params.toList args.toList ds p := hA0
  rw [Try.params6] at hA hval
  obtain ⟨v0, vs0, d0, ds0, p0, q0, hargs, rfl, rfl, h0, r0⟩ := trodAll_cons hA
  obtain ⟨v1, vs1, d1, ds1, p1, q1, rfl, rfl, rfl, h1, r1⟩ := trodAll_cons r0
  obtain ⟨rfl, rfl, rfl⟩ := trodAll_nil r1
  obtain rfl : args = #[v0, v1] := by cases args; simp_all
  obtain ⟨rfl, rfl⟩ := trodVars_none hV
  obtain ⟨a0, rfl, rfl, rfl, w0⟩ := open_int Try.underlying3 (hval 0 3 v0 rfl rfl) h0
  obtain ⟨a1, rfl, rfl, rfl, w1⟩ := open_string Try.underlying9 (hval 1 9 v1 rfl rfl) h1
  clear hA0 hval0
  refine (walk_VariableWords a0 a1 (bounds_i64 w0) w1 (w := W)).mono fun e W' ⟨he, bel⟩ => ?_
  subst he
  exact ⟨_, rfl, _, _, _, [], _, [], hW', trodAll_mk1 (shut_bool Try.underlying4 _), (trodAll_cons_mk (shut_int Try.underlying3 w0) (trodAll_cons_mk (shut_string Try.underlying9 w1) trodAll_mk0)), rfl, bel.frame _, fun h => by cases h⟩
theorem over : Rows.variableWordsRow.holds Try.pinned (OpenSpec.ofChange Rows.variableWordsSpec) :=
  OpenClaim.holds_of_wide 6 Try.f6 rfl rfl rfl rfl rfl rfl rfl ⟨rfl, rfl, rfl, rfl, rfl⟩ rfl rfl rfl rfl rfl (by kernel_rfl) Try.func6 (by kernel_rfl)
    (of_decide_eq_true (by kernel_rfl)) (by unfold Func.isWrapper; first | (rw [if_pos (by decide +kernel)]; kernel_rfl) | (rw [if_neg (by decide +kernel)]; exact ⟨rfl, rfl⟩))
    (fun os started H enc _ => lifted os started H enc)
theorem proved : Rows.VariableWordsSaid := over
end variableWords

end Go.Proofs.Ytklbckonlbpbgaa
