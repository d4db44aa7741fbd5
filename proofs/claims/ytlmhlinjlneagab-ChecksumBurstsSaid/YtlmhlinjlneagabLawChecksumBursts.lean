/- Statement ChecksumBursts: a sealed text in which bits within 4 successive bytes have been changed is refused; for every text of at most 500 bytes, which is the statement's own bound, every place and every mask. -/
import Derived.Test.YtlmhlinjlneagabRows
import Derived.WalkKit
import Derived.ProofKit
import Derived.OpenShut
import Derived.ShutString
import Derived.ChangeOld
import Derived.Below
import Derived.Test.YtlmhlinjlneagabCrcM3
import Derived.Deep.RegionWith
namespace Go.Proofs.Ytlmhlinjlneagab
open Go.Lib Go.ChangeShapes Go.WideShapes Go.ChangeAt Go.RowKit
open Go.ChangeMaps (open_string shut_string)

set_option maxRecDepth 100000 in
theorem burst_long (s : ByteArray) (a m : Nat) (h : ¬ s.size ≤ 500) (w : World) :
    Calls Try.prog 4 #[.string s, .int .u16 a, .int .u32 m] w fun e w' => e = .returned (.bool true) ∧ Below w.heap.size w w' := by
  go_enter Try.func4, Try.ntmps4
  go_wp2_with fail
  refine (cawake_any _).mono ?_
  rintro e w1 ⟨rfl, hb1⟩
  go_wp2_with fail
  refine (cawake_any _).mono ?_
  rintro e w2 ⟨rfl, hb2⟩
  go_wp2_with fail
  go_ret
  exact ⟨rfl, hb1.trans (hb2.mono hb1.size)⟩
set_option maxRecDepth 100000 in
theorem burst_none (s : ByteArray) (a : Nat) (h : s.size ≤ 500) (w : World) :
    Calls Try.prog 4 #[.string s, .int .u16 a, .int .u32 0] w fun e w' => e = .returned (.bool true) ∧ Below w.heap.size w w' := by
  go_enter Try.func4, Try.ntmps4
  go_wp2_with fail
  refine (cawake_any _).mono ?_
  rintro e w1 ⟨rfl, hb1⟩
  go_wp2_with fail
  refine (cawake_any _).mono ?_
  rintro e w2 ⟨rfl, hb2⟩
  go_wp2_with fail
  go_ret
  exact ⟨rfl, hb1.trans (hb2.mono hb1.size)⟩
set_option maxRecDepth 100000 in
set_option maxHeartbeats 1000000 in
theorem burst_case (s : ByteArray) (a m : Nat) (ha : a ≤ 65535) (hm : Hid (m < 4294967296)) (h0 : m ≠ 0) (h : s.size ≤ 500) (w : World) :
    Calls Try.prog 4 #[.string s, .int .u16 a, .int .u32 m] w fun e w' => e = .returned (.bool true) ∧ Below w.heap.size w w' := by
  have h0' : ((m : Int) == 0) = false := by simp; omega
  obtain ⟨t, ht⟩ : ∃ t, t = s ++ le4 (sumS s) := ⟨_, rfl⟩
  have hts : t.size = s.size + 4 := by rw [ht, ByteArray.size_append, le4_size]
  obtain ⟨p, hp⟩ : ∃ p, p = a % (s.size + 1) := ⟨_, rfl⟩
  have hpl : p ≤ s.size := by have := Nat.mod_lt a (show 0 < s.size + 1 by omega); omega
  obtain ⟨u, hu⟩ : ∃ u, u = (⟨(xorL t p (le4 m)).toArray⟩ : ByteArray) := ⟨_, rfl⟩
  have hus : u.size ≤ 504 := by 
    have hz : u.size = t.size := by rw [hu]; exact xorL_len _ _ _
    omega
  have HO : Hid (openS u = none) := burst s u p m hm.out h0 hpl (by rw [hu, ht])
  obtain ⟨q, hq⟩ : ∃ q, q = s.size + 1 := ⟨_, rfl⟩
  have hmod : (a : Int) % (q : Int) = (p : Nat) := by rw [hp, hq]; rfl
  have htm : (a : Int).tmod (q : Int) = (p : Nat) := by rw [Int.tmod_eq_emod_of_nonneg (by omega)]; exact hmod
  have hw1 : IntKind.i64.wrap ((t.size : Int) - 3) = (q : Nat) := by rw [IntWalk.i64_in _ (by omega)]; omega
  have hw2 : IntKind.i64.wrap (p : Int) = (p : Nat) := IntWalk.i64_in _ (by omega)
  have hw3 : IntKind.i64.wrap (a : Int) = (a : Nat) := IntWalk.i64_in _ (by omega)
  have hqz : ((q : Int) == 0) = false := by simp; omega
  have hqz2 : ¬ (q : Int) = 0 := by omega
  have HT := hid ht
  have HU := hid hu
  have hl1 : (4 : Int) ≤ t.size := by omega
  have hl2 : t.size ≤ 504 := by omega
  clear ht hts hp hu h0 hq hmod
  go_enter Try.func4, Try.ntmps4
  go_wp2_with fail
  refine (cawake_any _).mono ?_
  rintro e w1 ⟨rfl, hb1⟩
  go_wp2_with fail
  refine (seal_any s (by omega) _).mono ?_
  rintro e w2 ⟨rfl, hb2⟩
  rw [← HT.out]
  go_wp2_with fail
  go_region_with (first | (go_at_call 11; refine (refbytes_any m hm _).mono ?_; rintro e w3 ⟨rfl, hb3⟩) | (go_at_call 10; refine (xor_any t (le4 m) p (by omega) (by rw [le4_size]; omega) (by omega) _).mono ?_; rintro e w4 ⟨rfl, hb4⟩))
  all_goals
    rw [← HU.out]
    go_wp2_with fail
    refine (open_any u (by omega) _).mono ?_
    rintro e w5 ⟨hb5, he⟩
    rw [HO.out, openV] at he
    obtain rfl := he
    go_wp2_with fail
    go_ret
    have z1 := hb1.size
    have z2 := hb2.size
    have z3 := hb3.size
    have z4 := hb4.size
    have z0 : w2.heap.size = w2.drew.heap.size := rfl
    exact ⟨rfl, (((hb1.trans (hb2.mono z1)).drew.trans (hb3.mono (by omega))).trans (hb4.mono (by omega))).trans (hb5.mono (by omega))⟩
theorem walk_ChecksumBursts (s : ByteArray) (a1 a2 : Int) (_w0 : s.size ≤ maxLen) (h1 : 0 ≤ a1 ∧ a1 ≤ 65535) (h2 : 0 ≤ a2 ∧ a2 ≤ 4294967295) (w : World) :
    Calls Try.prog 4 #[.string s, .int .u16 a1, .int .u32 a2] w fun e w' => e = .returned (.bool true) ∧ Below w.heap.size w w' := by
  obtain ⟨a, rfl⟩ := Int.eq_ofNat_of_zero_le h1.1
  obtain ⟨m, rfl⟩ := Int.eq_ofNat_of_zero_le h2.1
  by_cases h : s.size ≤ 500
  · by_cases h0 : m = 0
    · subst h0; exact burst_none s a h w
    · exact burst_case s a m (by omega) (by show m < _; omega) h0 h w
  · exact burst_long s a m h w

namespace checksumBursts
theorem own : ownKnob Try.prog.godebug = none := by kernel_rfl
set_option linter.unusedVariables false
set_option maxRecDepth 100000 in
theorem lifted (os : Os) (started : os.Started) (H : Type) (enc : TypeId × Value → H) :
    ReturnsInHanded {} Try.checked os 4 .any (Rows.checksumBurstsSpec.pre6 enc Try.prog Try.f4 Rows.checksumBurstsRow.domain false) (Rows.checksumBurstsSpec.post enc Try.prog Try.f4 false true false false) := by
  refine returnsInHanded_of_change (C := Try.checked) own started (by kernel_rfl) Try.func4
    (ChangeSpec.witness6 (enc := enc) (C := Try.checked) false ⟨#[], #[.string ByteArray.empty, .int .u16 0, .int .u32 0], []⟩ 8 (by kernel_rfl) (by kernel_rfl) (by kernel_rfl) (by kernel_rfl)) ?_
  intro W base args ds gs before hval0 hW hcnd _
  have hval : ∀ (j : Nat) t v, Try.f4.params[j]? = some t → args[j]? = some v → Value.okWide Try.prog W .any base t v := hval0
  have hW' := hW
  obtain ⟨p, q, hA0, hV, rfl, hfz, hnd⟩ := hW
  have hA : DataW.TrodAll enc Try.prog W 0 (fun _ => true) true Try.f4.params.toList args.toList ds p := hA0
  rw [Try.params4] at hA hval
  obtain ⟨v0, vs0, d0, ds0, p0, q0, hargs, rfl, rfl, h0, r0⟩ := trodAll_cons hA
  obtain ⟨v1, vs1, d1, ds1, p1, q1, rfl, rfl, rfl, h1, r1⟩ := trodAll_cons r0
  obtain ⟨v2, vs2, d2, ds2, p2, q2, rfl, rfl, rfl, h2, r2⟩ := trodAll_cons r1
  obtain ⟨rfl, rfl, rfl⟩ := trodAll_nil r2
  obtain rfl : args = #[v0, v1, v2] := by cases args; simp_all
  obtain ⟨rfl, rfl⟩ := trodVars_none hV
  obtain ⟨a0, rfl, rfl, rfl, w0⟩ := open_string Try.underlying9 (hval 0 9 v0 rfl rfl) h0
  obtain ⟨a1, rfl, rfl, rfl, w1⟩ := open_int Try.underlying28 (hval 1 28 v1 rfl rfl) h1
  obtain ⟨a2, rfl, rfl, rfl, w2⟩ := open_int Try.underlying29 (hval 2 29 v2 rfl rfl) h2
  clear hA0 hval0
  refine (walk_ChecksumBursts a0 a1 a2 w0 (bounds_u16 w1) (bounds_u32 w2) (w := W)).mono fun e W' ⟨he, bel⟩ => ?_
  subst he
  exact ⟨_, rfl, _, _, _, [], _, [], hW', trodAll_mk1 (shut_bool Try.underlying4 _), (trodAll_cons_mk (shut_string Try.underlying9 w0) (trodAll_cons_mk (shut_int Try.underlying28 w1) (trodAll_cons_mk (shut_int Try.underlying29 w2) trodAll_mk0))), rfl, bel.frame _, fun h => by cases h⟩
theorem over : Rows.checksumBurstsRow.holds Try.pinned (OpenSpec.ofChange Rows.checksumBurstsSpec) :=
  OpenClaim.holds_of_wide 4 Try.f4 rfl rfl rfl rfl rfl rfl rfl ⟨rfl, rfl, rfl, rfl, rfl⟩ rfl rfl rfl rfl rfl (by kernel_rfl) Try.func4 (by kernel_rfl)
    (of_decide_eq_true (by kernel_rfl)) (by unfold Func.isWrapper; first | (rw [if_pos (by decide +kernel)]; kernel_rfl) | (rw [if_neg (by decide +kernel)]; exact ⟨rfl, rfl⟩))
    (fun os started H enc _ => lifted os started H enc)
theorem proved : Rows.ChecksumBurstsSaid := over
end checksumBursts

end Go.Proofs.Ytlmhlinjlneagab
