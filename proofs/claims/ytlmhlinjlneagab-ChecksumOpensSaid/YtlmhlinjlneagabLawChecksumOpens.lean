/- Statement ChecksumOpens: opening a sealed text returns its bytes, and a sealed text is only one for its own bytes; for every text of at most 500 bytes, which is the statement's own bound. -/
import Derived.Test.YtlmhlinjlneagabRows
import Derived.WalkKit
import Derived.ProofKit
import Derived.OpenShut
import Derived.ShutString
import Derived.ChangeOld
import Derived.Below
import Derived.Test.YtlmhlinjlneagabCrcT3
namespace Go.Proofs.Ytlmhlinjlneagab
open Go.Lib Go.ChangeShapes Go.WideShapes Go.ChangeAt Go.RowKit
open Go.ChangeMaps (open_string shut_string)

set_option maxRecDepth 100000 in
theorem long_ChecksumOpens (s : ByteArray) (h : ¬ s.size ≤ 500) (w : World) :
    Calls Try.prog 3 #[.string s] w fun e w' => e = .returned (.bool true) ∧ Below w.heap.size w w' := by
  go_enter Try.func3, Try.ntmps3
  go_wp2_with fail
  refine (cawake_any _).mono ?_
  rintro e w1 ⟨rfl, hb1⟩
  go_wp2_with fail
  refine (cawake_any _).mono ?_
  rintro e w2 ⟨rfl, hb2⟩
  go_wp2_with fail
  go_ret
  exact ⟨rfl, hb1.trans (hb2.mono hb1.size)⟩

theorem openS_seal (s : ByteArray) : openS (s ++ le4 (sumS s)) = some s := by
  have hz : (s ++ le4 (sumS s)).size = s.size + 4 := by rw [ByteArray.size_append, le4_size]
  have he : (s ++ le4 (sumS s)).extract 0 ((s ++ le4 (sumS s)).size - 4) = s := by
    apply ext_list
    rw [ext_take, hz, Nat.add_sub_cancel, ByteArray.data_append, Array.toList_append]
    exact List.take_left' rfl
  unfold openS
  rw [if_neg (by omega), he, if_pos rfl]
theorem openS_some (s t : ByteArray) (h : openS s = some t) : t ++ le4 (sumS t) = s ∧ t.size ≤ s.size := by
  unfold openS at h
  by_cases h4 : s.size < 4
  · rw [if_pos h4] at h; cases h
  · rw [if_neg h4] at h
    split at h
    · simp only [Option.some.injEq] at h
      subst h
      exact ⟨by assumption, by simp⟩
    · cases h
set_option maxRecDepth 100000 in
theorem opens_case (s : ByteArray) (h : s.size ≤ 500) (w : World) :
    Calls Try.prog 3 #[.string s] w fun e w' => e = .returned (.bool true) ∧ Below w.heap.size w w' := by
  obtain ⟨t, ht⟩ : ∃ t, t = s ++ le4 (sumS s) := ⟨_, rfl⟩
  have hts : t.size = s.size + 4 := by rw [ht, ByteArray.size_append, le4_size]
  have HO : Hid (openS t = some s) := by rw [ht]; exact openS_seal s
  have hx : t.extract 0 s.size = s := by
    apply ext_list
    rw [ext_take, ht, ByteArray.data_append, Array.toList_append]
    exact List.take_left' rfl
  have HT := hid ht
  have hl1 : (t.size : Int) = s.size + 4 := by omega
  have hl2 : t.size ≤ 504 := by omega
  clear ht hts
  go_enter Try.func3, Try.ntmps3
  go_wp2_with fail
  refine (cawake_any _).mono ?_
  rintro e w1 ⟨rfl, hb1⟩
  go_wp2_with fail
  refine (seal_any s (by omega) _).mono ?_
  rintro e w2 ⟨rfl, hb2⟩
  rw [← HT.out]
  go_wp2_with fail
  refine (open_any t (by omega) _).mono ?_
  rintro e w3 ⟨hb3, he⟩
  rw [HO.out, openV] at he
  obtain rfl := he
  go_wp2_with fail
  refine (open_any s (by omega) _).mono ?_
  rintro e w4 ⟨hb4, he⟩
  have HB := hid (((hb1.trans (hb2.mono hb1.size)).trans (hb3.mono (by have := hb1.size; have := hb2.size; omega))).trans (hb4.mono (by have := hb1.size; have := hb2.size; have := hb3.size; omega)))
  clear hb1 hb2 hb3 hb4
  cases ho : openS s with
  | none =>
    rw [ho, openV] at he
    obtain rfl := he
    clear ho
    go_wp2_with fail
    go_ret
    exact ⟨rfl, HB.out⟩
  | some v =>
    rw [ho, openV] at he
    obtain rfl := he
    obtain ⟨h1, h2⟩ := openS_some s v ho
    have H1 := hid h1
    clear ho h1
    go_wp2_with fail
    refine (seal_any v (by omega) _).mono ?_
    rintro e w5 ⟨rfl, hb5⟩
    rw [H1.out]
    go_wp2_with fail
    go_ret
    exact ⟨by simp, HB.out.trans (hb5.mono HB.out.size)⟩
theorem walk_ChecksumOpens (s : ByteArray) (_h1 : s.size ≤ maxLen) (w : World) :
    Calls Try.prog 3 #[.string s] w fun e w' => e = .returned (.bool true) ∧ Below w.heap.size w w' := by
  by_cases h : s.size ≤ 500
  · exact opens_case s h w
  · exact long_ChecksumOpens s h w

namespace checksumOpens
theorem own : ownKnob Try.prog.godebug = none := by kernel_rfl
set_option linter.unusedVariables false
set_option maxRecDepth 100000 in
theorem lifted (os : Os) (started : os.Started) (H : Type) (enc : TypeId × Value → H) :
    ReturnsInHanded {} Try.checked os 3 .any (Rows.checksumOpensSpec.pre6 enc Try.prog Try.f3 Rows.checksumOpensRow.domain false) (Rows.checksumOpensSpec.post enc Try.prog Try.f3 false true false false) := by
  refine returnsInHanded_of_change (C := Try.checked) own started (by kernel_rfl) Try.func3
    (ChangeSpec.witness6 (enc := enc) (C := Try.checked) false ⟨#[], #[.string ByteArray.empty], []⟩ 8 (by kernel_rfl) (by kernel_rfl) (by kernel_rfl) (by kernel_rfl)) ?_
  intro W base args ds gs before hval0 hW hcnd _
  have hval : ∀ (j : Nat) t v, Try.f3.params[j]? = some t → args[j]? = some v → Value.okWide Try.prog W .any base t v := hval0
  have hW' := hW
  obtain ⟨p, q, hA0, hV, rfl, hfz, hnd⟩ := hW
  have hA : DataW.TrodAll enc Try.prog W 0 (fun _ => true) true Try.f3.params.toList args.toList ds p := hA0
  rw [Try.params3] at hA hval
  obtain ⟨v0, vs0, d0, ds0, p0, q0, hargs, rfl, rfl, h0, r0⟩ := trodAll_cons hA
  obtain ⟨rfl, rfl, rfl⟩ := trodAll_nil r0
  obtain rfl : args = #[v0] := by cases args; simp_all
  obtain ⟨rfl, rfl⟩ := trodVars_none hV
  obtain ⟨a0, rfl, rfl, rfl, w0⟩ := open_string Try.underlying9 (hval 0 9 v0 rfl rfl) h0
  clear hA0 hval0
  refine (walk_ChecksumOpens a0 w0 (w := W)).mono fun e W' ⟨he, bel⟩ => ?_
  subst he
  exact ⟨_, rfl, _, _, _, [], _, [], hW', trodAll_mk1 (shut_bool Try.underlying4 _), (trodAll_cons_mk (shut_string Try.underlying9 w0) trodAll_mk0), rfl, bel.frame _, fun h => by cases h⟩
theorem over : Rows.checksumOpensRow.holds Try.pinned (OpenSpec.ofChange Rows.checksumOpensSpec) :=
  OpenClaim.holds_of_wide 3 Try.f3 rfl rfl rfl rfl rfl rfl rfl ⟨rfl, rfl, rfl, rfl, rfl⟩ rfl rfl rfl rfl rfl (by kernel_rfl) Try.func3 (by kernel_rfl)
    (of_decide_eq_true (by kernel_rfl)) (by unfold Func.isWrapper; first | (rw [if_pos (by decide +kernel)]; kernel_rfl) | (rw [if_neg (by decide +kernel)]; exact ⟨rfl, rfl⟩))
    (fun os started H enc _ => lifted os started H enc)
theorem proved : Rows.ChecksumOpensSaid := over
end checksumOpens

end Go.Proofs.Ytlmhlinjlneagab
