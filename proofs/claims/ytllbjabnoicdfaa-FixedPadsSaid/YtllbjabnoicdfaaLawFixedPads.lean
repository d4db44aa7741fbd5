/- Statement FixedPads: a padded record has the length, begins like the record, and ends with blanks. For all numbers, and at most 1100 bytes, which is the statement's own bound. -/
import Derived.Test.YtllbjabnoicdfaaRows
import Derived.WalkKit
import Derived.ProofKit
import Derived.OpenShut
import Derived.ShutString
import Derived.ChangeOld
import Derived.Below
import Derived.Test.YtllbjabnoicdfaaSlices
import Derived.Test.YtllbjabnoicdfaaOpen
import Derived.Test.YtllbjabnoicdfaaFixT8
import Derived.Test.YtllbjabnoicdfaaFixT11
namespace Go.Proofs.Ytllbjabnoicdfaa
open Go.Lib Go.ChangeShapes Go.WideShapes Go.ChangeAt Go.RowKit
open Go.ChangeMaps (open_string shut_string)
set_option linter.unusedVariables false
theorem padB_blank (n : Nat) (r : ByteArray) (i : Nat) (hi : min n r.size ≤ i ∧ i < n) : (padB n r).data[i]? = some 32 := by
  unfold padB
  rw [if_neg (by omega)]
  rw [ByteArray.data_append, Array.getElem?_append_right (by show r.size ≤ i; omega)]
  show (List.replicate (n - r.size) (32 : UInt8)).toArray[i - r.size]? = _
  rw [List.getElem?_toArray, List.getElem?_replicate, if_pos (by omega)]
theorem padB_head (n : Nat) (r : ByteArray) : (padB n r).extract 0 (min n r.size) = r.extract 0 (min n r.size) := by
  unfold padB
  split
  · rw [ByteArray.extract_extract]
    congr 1 <;> omega
  · rw [show min n r.size = r.size by omega]
    apply ByteArray.ext
    apply Array.toList_inj.1
    simp [ByteArray.data_append, ByteArray.data_extract]
    exact List.take_of_length_le (by simp)
set_option maxRecDepth 100000 in
theorem long_FixedPads (L : Int) (r : ByteArray) (w : World) (hz : r.size ≤ 9223372036854775807) (hd : ¬ r.size ≤ 1100) :
    Calls Try.prog 9 #[.int .i64 L, .string r] w (Gives (.bool true) w) := by
  go_enter Try.func9, Try.ntmps9
  go_wp2_with fail
  refine (awake_any _).mono ?_
  rintro e w1 ⟨rfl, hb⟩
  have B1 := hid (hb)
  clear hb
  go_wp2_with fail
  refine (awake_any _).mono ?_
  rintro e w2 ⟨rfl, hb⟩
  have B2 := hid (B1.out.trans (hb.mono B1.out.size))
  clear hb
  go_wp2_with fail
  go_ret
  exact ⟨rfl, B2.out⟩
set_option maxRecDepth 100000 in
set_option maxHeartbeats 4000000 in
theorem short_FixedPads (L : Int) (r : ByteArray) (w : World) (hd : r.size ≤ 1100) :
    Calls Try.prog 9 #[.int .i64 L, .string r] w (Gives (.bool true) w) := by
  have D1 := fun W => hid (pad_any L r (by omega) W)
  have hmm : max 0 (min L 1000) = (lenOf L : Int) := by unfold lenOf; omega
  have hle := lenOf_le L
  obtain ⟨n, hn⟩ : ∃ n, n = lenOf L := ⟨_, rfl⟩
  rw [← hn] at D1 hmm hle
  have hps := padB_size n r
  have hblank := fun i hi => padB_blank n r i hi
  have hhead := padB_head n r
  obtain ⟨p, hp⟩ : ∃ p, p = padB n r := ⟨_, rfl⟩
  rw [← hp] at D1 hps hblank hhead
  have HBL := hid hblank
  obtain ⟨k, hk⟩ : ∃ k, k = min n r.size := ⟨_, rfl⟩
  rw [← hk] at hhead
  have hkm : min (n : Int) (r.size : Int) = (k : Int) := by omega
  have hk1 : k ≤ n := by omega
  have hk2 : k ≤ r.size := by omega
  have HK := hid hk
  have hpn : ((p.size : Int) != (n : Int)) = false := by simp [hps]
  have HHEAD := hid hhead
  clear hn hp hblank hk hhead
  go_enter Try.func9, Try.ntmps9
  go_wp2_with fail
  refine (awake_any _).mono ?_
  rintro e w1 ⟨rfl, hb⟩
  have B1 := hid (hb)
  clear hb
  go_wp2_with fail
  refine ((D1 _).out).mono ?_
  rintro e w2 ⟨rfl, hb⟩
  have B2 := hid (B1.out.trans (hb.mono B1.out.size))
  clear hb
  go_wp2_with fail
  go_loopw [8] (fun i wr => ∃ j : Nat, k ≤ j ∧ j ≤ n ∧ i = .int .i64 j ∧ wr = w2) (fun i _ => n - (RowKit.intOf i).toNat)
  case atStart => exact ⟨k, by omega, by omega, rfl, rfl⟩
  case round =>
    obtain ⟨j, hj1, hj2, rfl, rfl⟩ := hrel
    by_cases hlt : j < n
    · have hb := HBL.out j ⟨by have := HK.out; omega, hlt⟩
      have hjp : j < p.size := by omega
      have hb3 : ((p[j].toNat : Int) != 32) = false := by
        rw [show p[j] = 32 from (Array.getElem?_eq_some_iff.1 hb).2]; rfl
      clear hb
      go_wp2_with fail
      go_roundw
      case rel => exact ⟨j + 1, by omega, by omega, by go_num, trivial⟩
      case measure => simp [RowKit.intOf]; omega
    · obtain rfl : j = n := by omega
      have HH2 : Hid (((p.extract 0 k).toList == (r.extract 0 k).toList) = true) := hid (by rw [HHEAD.out]; simp)
      go_wp2_with fail
      go_quiet (fail)
      go_wp2_with fail
      go_ret
      exact ⟨by rw [HH2.out]; rfl, below_drewN B2.out _⟩
theorem walk_FixedPads (L : Int) (r : ByteArray) (w : World) (hL : -9223372036854775808 ≤ L ∧ L ≤ 9223372036854775807) (hr : r.size ≤ maxLen) :
    Calls Try.prog 9 #[.int .i64 L, .string r] w fun e w' => e = .returned (.bool true) ∧ Below w.heap.size w w' := by
  unfold maxLen at hr
  by_cases hs : r.size ≤ 1100
  · exact short_FixedPads L r w hs
  · exact long_FixedPads L r w (by omega) hs
namespace fixedPads
theorem own : ownKnob Try.prog.godebug = none := by kernel_rfl
set_option linter.unusedVariables false
set_option maxRecDepth 100000 in
theorem lifted (os : Os) (started : os.Started) (H : Type) (enc : TypeId × Value → H) :
    ReturnsInHanded {} Try.checked os 9 .any (Rows.fixedPadsSpec.pre6 enc Try.prog Try.f9 Rows.fixedPadsRow.domain false) (Rows.fixedPadsSpec.post enc Try.prog Try.f9 false true false false) := by
  refine returnsInHanded_of_change (C := Try.checked) own started (by kernel_rfl) Try.func9
    (ChangeSpec.witness6 (enc := enc) (C := Try.checked) false ⟨#[], #[.int .i64 0, .string ByteArray.empty], []⟩ 8 (by kernel_rfl) (by kernel_rfl) (by kernel_rfl) (by kernel_rfl)) ?_
  intro W base args ds gs before hval0 hW hcnd _
  have hval : ∀ (j : Nat) t v, Try.f9.params[j]? = some t → args[j]? = some v → Value.okWide Try.prog W .any base t v := hval0
  have hW' := hW
  obtain ⟨p, q, hA0, hV, rfl, hfz, hnd⟩ := hW
  have hA : DataW.TrodAll enc Try.prog W 0 (fun _ => true) true Try.f9.params.toList args.toList ds p := hA0
  rw [Try.params9] at hA hval
  obtain ⟨v0, vs0, d0, ds0, p0, q0, hargs, rfl, rfl, h0, r0⟩ := trodAll_cons hA
  obtain ⟨v1, vs1, d1, ds1, p1, q1, rfl, rfl, rfl, h1, r1⟩ := trodAll_cons r0
  obtain ⟨rfl, rfl, rfl⟩ := trodAll_nil r1
  obtain rfl : args = #[v0, v1] := by cases args; simp_all
  obtain ⟨rfl, rfl⟩ := trodVars_none hV
  obtain ⟨a0, rfl, rfl, rfl, w0⟩ := open_int Try.underlying3 (hval 0 3 v0 rfl rfl) h0
  obtain ⟨a1, rfl, rfl, rfl, w1⟩ := open_string Try.underlying9 (hval 1 9 v1 rfl rfl) h1
  clear hA0 hval0
  refine (walk_FixedPads a0 a1 (bounds_i64 w0) w1 (w := W)).mono fun e W' ⟨he, bel⟩ => ?_
  subst he
  exact ⟨_, rfl, _, _, _, [], _, [], hW', trodAll_mk1 (shut_bool Try.underlying4 _), (trodAll_cons_mk (shut_int Try.underlying3 w0) (trodAll_cons_mk (shut_string Try.underlying9 w1) trodAll_mk0)), rfl, bel.frame _, fun h => by cases h⟩
theorem over : Rows.fixedPadsRow.holds Try.pinned (OpenSpec.ofChange Rows.fixedPadsSpec) :=
  OpenClaim.holds_of_wide 9 Try.f9 rfl rfl rfl rfl rfl rfl rfl ⟨rfl, rfl, rfl, rfl, rfl⟩ rfl rfl rfl rfl rfl (by kernel_rfl) Try.func9 (by kernel_rfl)
    (of_decide_eq_true (by kernel_rfl)) (by unfold Func.isWrapper; first | (rw [if_pos (by decide +kernel)]; kernel_rfl) | (rw [if_neg (by decide +kernel)]; exact ⟨rfl, rfl⟩))
    (fun os started H enc _ => lifted os started H enc)
theorem proved : Rows.FixedPadsSaid := over
end fixedPads

end Go.Proofs.Ytllbjabnoicdfaa
