/- Statement ChecksumParts: the sum of a text can be computed in two parts, and from the sums of two parts; for every two texts of at most 500 bytes each, which is the statement's own bound. -/
import Derived.Test.YtlmhlinjlneagaaRows
import Derived.WalkKit
import Derived.ProofKit
import Derived.OpenShut
import Derived.ShutString
import Derived.ChangeOld
import Derived.Below
import Derived.Test.YtlmhlinjlneagaaCrcT6
namespace Go.Proofs.Ytlmhlinjlneagaa
open Go.Lib Go.ChangeShapes Go.WideShapes Go.ChangeAt Go.RowKit
open Go.ChangeMaps (open_string shut_string)

theorem reg_append' (l : List UInt8) : ∀ c k, reg c (l ++ k) = reg (reg c l) k := by
  induction l with
  | nil => intro c k; rfl
  | cons b l ih => intro c k; exact ih _ k
attribute [local irreducible] shk
theorem reg_lin (l : List UInt8) : ∀ c, reg c l = shk (8 * l.length) c ^^^ reg 0 l := by
  induction l with
  | nil => intro c; show c = shk (8 * 0) c ^^^ 0; rw [Nat.xor_zero]; unfold shk; rfl
  | cons b l ih =>
    intro c
    have h1 : reg c (b :: l) = reg (shk 8 (c ^^^ b.toNat)) l := rfl
    have h2 : reg 0 (b :: l) = reg (shk 8 (0 ^^^ b.toNat)) l := rfl
    rw [h1, h2, ih (shk 8 (c ^^^ b.toNat)), ih (shk 8 (0 ^^^ b.toNat)), Nat.zero_xor, shk_xor, shk_xor, ← shk_add, List.length_cons, show 8 * (l.length + 1) = 8 + 8 * l.length by omega, Nat.xor_assoc]
theorem sum_parts (s t : ByteArray) : crc (sumS s) t.data.toList = sumS (s ++ t) := by
  unfold sumS crc
  rw [ByteArray.data_append, Array.toList_append, Nat.zero_xor, reg_append', Nat.xor_assoc, Nat.xor_self, Nat.xor_zero]
theorem sum_combined (s t : ByteArray) : shk (8 * t.size) (sumS s) ^^^ sumS t = sumS (s ++ t) := by
  rw [← sum_parts]
  unfold sumS crc
  rw [Nat.zero_xor, Nat.xor_assoc, Nat.xor_self, Nat.xor_zero, reg_lin t.data.toList (reg ones s.data.toList), reg_lin t.data.toList ones]
  rw [show t.data.toList.length = t.size by simp, shk_xor]
  rw [Nat.xor_assoc, Nat.xor_assoc, Nat.xor_assoc, ← Nat.xor_assoc (shk (8 * t.size) ones), Nat.xor_self, Nat.zero_xor]
set_option maxRecDepth 100000 in
theorem parts_case (s t : ByteArray) (hs : s.size ≤ 500) (ht : t.size ≤ 500) (w : World) :
    Calls Try.prog 12 #[.string s, .string t] w fun e w' => e = .returned (.bool true) ∧ Below w.heap.size w w' := by
  have hadd := cadd_ok s t (by omega) (by omega)
  obtain ⟨x, hx⟩ : ∃ x, x = s ++ t := ⟨_, rfl⟩
  have hxs : x.size ≤ 1000 := by rw [hx, ByteArray.size_append]; omega
  have H1 : Hid (crc (sumS s) t.data.toList = sumS x) := by rw [hx]; exact sum_parts s t
  have H2 : Hid (shk (8 * t.size) (sumS s) ^^^ sumS t = sumS x) := by rw [hx]; exact sum_combined s t
  rw [← hx] at hadd
  clear hx
  go_enter Try.func12, Try.ntmps12
  go_wp2_with fail
  refine (cawake_any _).mono ?_
  rintro e w1 ⟨rfl, hb1⟩
  go_wp2_with fail
  refine (sum_any x (by omega) _).mono ?_
  rintro e w2 ⟨rfl, hb2⟩
  rw [show crc 0 x.data.toList = sumS x from rfl]
  go_wp2_with fail
  refine (sum_any s (by omega) _).mono ?_
  rintro e w3 ⟨rfl, hb3⟩
  rw [show crc 0 s.data.toList = sumS s from rfl]
  go_wp2_with fail
  refine (update_any (sumS s) (sumS_lt s) t (by omega) _).mono ?_
  rintro e w4 ⟨rfl, hb4⟩
  rw [H1.out]
  go_wp2_with fail
  refine (sum_any s (by omega) _).mono ?_
  rintro e w5 ⟨rfl, hb5⟩
  rw [show crc 0 s.data.toList = sumS s from rfl]
  go_wp2_with fail
  refine (sum_any t (by omega) _).mono ?_
  rintro e w6 ⟨rfl, hb6⟩
  rw [show crc 0 t.data.toList = sumS t from rfl]
  go_wp2_with fail
  refine (combine_any (sumS s) (sumS t) t.size (sumS_lt s) (sumS_lt t) (by omega) _).mono ?_
  rintro e w7 ⟨rfl, rfl⟩
  rw [show ((t.size : Int)).toNat = t.size from rfl, H2.out]
  go_wp2_with fail
  go_ret
  have z1 := hb1.size
  have z2 := hb2.size
  have z3 := hb3.size
  have z4 := hb4.size
  have z5 := hb5.size
  exact ⟨by simp, ((((hb1.trans (hb2.mono z1)).trans (hb3.mono (by omega))).trans (hb4.mono (by omega))).trans (hb5.mono (by omega))).trans (hb6.mono (by omega))⟩
set_option maxRecDepth 100000 in
theorem long_parts (s t : ByteArray) (h : ¬ (s.size ≤ 500 ∧ t.size ≤ 500)) (w : World) :
    Calls Try.prog 12 #[.string s, .string t] w fun e w' => e = .returned (.bool true) ∧ Below w.heap.size w w' := by
  by_cases h1 : s.size ≤ 500
  · have h2 : ¬ t.size ≤ 500 := fun h2 => h ⟨h1, h2⟩
    clear h
    go_enter Try.func12, Try.ntmps12
    go_wp2_with fail
    refine (cawake_any _).mono ?_
    rintro e w1 ⟨rfl, hb1⟩
    go_wp2_with fail
    refine (cawake_any _).mono ?_
    rintro e w2 ⟨rfl, hb2⟩
    go_wp2_with fail
    go_ret
    exact ⟨rfl, hb1.trans (hb2.mono hb1.size)⟩
  · clear h
    go_enter Try.func12, Try.ntmps12
    go_wp2_with fail
    refine (cawake_any _).mono ?_
    rintro e w1 ⟨rfl, hb1⟩
    go_wp2_with fail
    refine (cawake_any _).mono ?_
    rintro e w2 ⟨rfl, hb2⟩
    go_wp2_with fail
    go_ret
    exact ⟨rfl, hb1.trans (hb2.mono hb1.size)⟩
theorem walk_ChecksumParts (s t : ByteArray) (_w0 : s.size ≤ maxLen) (_w1 : t.size ≤ maxLen) (w : World) :
    Calls Try.prog 12 #[.string s, .string t] w fun e w' => e = .returned (.bool true) ∧ Below w.heap.size w w' := by
  by_cases h : s.size ≤ 500 ∧ t.size ≤ 500
  · exact parts_case s t h.1 h.2 w
  · exact long_parts s t h w

namespace checksumParts
theorem own : ownKnob Try.prog.godebug = none := by kernel_rfl
set_option linter.unusedVariables false
set_option maxRecDepth 100000 in
theorem lifted (os : Os) (started : os.Started) (H : Type) (enc : TypeId × Value → H) :
    ReturnsInHanded {} Try.checked os 12 .any (Rows.checksumPartsSpec.pre6 enc Try.prog Try.f12 Rows.checksumPartsRow.domain false) (Rows.checksumPartsSpec.post enc Try.prog Try.f12 false true false false) := by
  refine returnsInHanded_of_change (C := Try.checked) own started (by kernel_rfl) Try.func12
    (ChangeSpec.witness6 (enc := enc) (C := Try.checked) false ⟨#[], #[.string ByteArray.empty, .string ByteArray.empty], []⟩ 8 (by kernel_rfl) (by kernel_rfl) (by kernel_rfl) (by kernel_rfl)) ?_
  intro W base args ds gs before hval0 hW hcnd _
  have hval : ∀ (j : Nat) t v, Try.f12.params[j]? = some t → args[j]? = some v → Value.okWide Try.prog W .any base t v := hval0
  have hW' := hW
  obtain ⟨p, q, hA0, hV, rfl, hfz, hnd⟩ := hW
  have hA : DataW.TrodAll enc Try.prog W 0 (fun _ => true) true Try.f12.params.toList args.toList ds p := hA0
  rw [Try.params12] at hA hval
  obtain ⟨v0, vs0, d0, ds0, p0, q0, hargs, rfl, rfl, h0, r0⟩ := trodAll_cons hA
  obtain ⟨v1, vs1, d1, ds1, p1, q1, rfl, rfl, rfl, h1, r1⟩ := trodAll_cons r0
  obtain ⟨rfl, rfl, rfl⟩ := trodAll_nil r1
  obtain rfl : args = #[v0, v1] := by cases args; simp_all
  obtain ⟨rfl, rfl⟩ := trodVars_none hV
  obtain ⟨a0, rfl, rfl, rfl, w0⟩ := open_string Try.underlying9 (hval 0 9 v0 rfl rfl) h0
  obtain ⟨a1, rfl, rfl, rfl, w1⟩ := open_string Try.underlying9 (hval 1 9 v1 rfl rfl) h1
  clear hA0 hval0
  refine (walk_ChecksumParts a0 a1 w0 w1 (w := W)).mono fun e W' ⟨he, bel⟩ => ?_
  subst he
  exact ⟨_, rfl, _, _, _, [], _, [], hW', trodAll_mk1 (shut_bool Try.underlying4 _), (trodAll_cons_mk (shut_string Try.underlying9 w0) (trodAll_cons_mk (shut_string Try.underlying9 w1) trodAll_mk0)), rfl, bel.frame _, fun h => by cases h⟩
theorem over : Rows.checksumPartsRow.holds Try.pinned (OpenSpec.ofChange Rows.checksumPartsSpec) :=
  OpenClaim.holds_of_wide 12 Try.f12 rfl rfl rfl rfl rfl rfl rfl ⟨rfl, rfl, rfl, rfl, rfl⟩ rfl rfl rfl rfl rfl (by kernel_rfl) Try.func12 (by kernel_rfl)
    (of_decide_eq_true (by kernel_rfl)) (by unfold Func.isWrapper; first | (rw [if_pos (by decide +kernel)]; kernel_rfl) | (rw [if_neg (by decide +kernel)]; exact ⟨rfl, rfl⟩))
    (fun os started H enc _ => lifted os started H enc)
theorem proved : Rows.ChecksumPartsSaid := over
end checksumParts

end Go.Proofs.Ytlmhlinjlneagaa
