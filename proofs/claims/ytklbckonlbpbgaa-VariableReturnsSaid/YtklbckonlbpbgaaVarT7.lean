import Derived.Test.YtklbckonlbpbgaaVarT6
import Derived.Test.YtklbckonlbpbgaaStrA
/-! The chapter's example; the records that are short enough. -/
namespace Go.Proofs.Ytklbckonlbpbgaa
open Go.Lib Go.ChangeShapes Go.WideShapes Go.ChangeAt Go.RowKit
set_option linter.unusedVariables false

def vexRecs : List ByteArray := [⟨#[97, 98]⟩, ⟨#[]⟩]
def vexBlocks : List ByteArray := [⟨#[0, 14, 0, 0, 0, 6, 0, 0, 97, 98, 0, 4, 0, 0]⟩]
theorem vex_blocks : vblocks 100 vexRecs = vexBlocks := by decide +kernel
theorem vex_word : word 300 = ⟨#[1, 44, 0, 0]⟩ := by decide +kernel
set_option maxRecDepth 100000 in
set_option maxHeartbeats 1000000 in
theorem vawake_any (w : World) : Calls Try.prog 11 #[] w (Gives (.bool true) w) := by
  have hR := strs_new w vexRecs (by decide)
  have hb0 : Below w.heap.size w (w.alloc (.cells (vexRecs.map Value.string).toArray 9)) := (Below.refl _ _).alloc (Nat.le_refl _) _
  have HP := vpack_ok 20 100 (by decide) _ _ vexRecs (by decide) 2 (by decide) (by decide) (by decide) (fun h => absurd h (by decide)) _ hR
  have HM := fun W => hid (word_nat 300 (by omega) W)
  rw [vex_word] at HM
  obtain ⟨w1, hw1⟩ : ∃ q, q = w.alloc (.cells (vexRecs.map Value.string).toArray 9) := ⟨_, rfl⟩
  rw [← hw1] at HP hb0
  have HB0 := hid hb0
  have HW1 : Hid (w.alloc (.cells #[.string ⟨#[97, 98]⟩, .string ⟨#[]⟩] 9) = w1) := hid (by rw [hw1]; rfl)
  have HPP : Hid (Calls Try.prog 13 #[.int .i64 20, .int .i64 100, .slice (some ⟨w.heap.size, 0, none⟩) 2 2] w1 (fun e w' => ∃ v, e = .returned (.tuple #[v, .int .i64 0]) ∧ StrsAt w' v vexBlocks ∧ Below w1.heap.size w1 w')) := hid (HP.mono fun e w' h => by
    obtain ⟨h1, h2⟩ := h
    rw [if_neg (by decide)] at h1
    obtain ⟨v, h3, h4⟩ := h1
    rw [vex_blocks] at h4
    exact ⟨v, h3, h4, h2⟩)
  clear hR hb0 HP hw1
  go_enter Try.func11, Try.ntmps11
  go_wp2_with fail
  rw [HW1.out]
  refine HPP.out.mono ?_
  rintro e w2 ⟨v, rfl, hv, hb⟩
  have HB2 := hid (HB0.out.trans (hb.mono HB0.out.size))
  have HV := hid hv
  clear hb hv
  go_wp2_with fail
  refine (HM _).out.mono ?_
  rintro e w' ⟨rfl, hb⟩
  have HB3 := hid (HB2.out.trans (hb.mono HB2.out.size))
  have HV3 := hid (HV.out.below hb (Nat.le_refl _))
  clear hb
  have HA2 : Hid (w'.alloc (.cells #[.string ⟨#[0, 14, 0, 0, 0, 6, 0, 0, 97, 98, 0, 4, 0, 0]⟩] 9) = w'.alloc (.cells (vexBlocks.map Value.string).toArray 9)) := hid rfl
  go_wp2_with fail
  rw [HA2.out]
  have hb3 : Below w'.heap.size w' (w'.alloc (.cells (vexBlocks.map Value.string).toArray 9)) := (Below.refl _ _).alloc (Nat.le_refl _) _
  have HS := hid (same_yes v (.slice (some ⟨w'.heap.size, 0, none⟩) 1 1) vexBlocks _ (HV3.out.below hb3 (Nat.le_refl _)) (strs_new w' vexBlocks (by decide)))
  have HB4 := hid (HB3.out.trans (hb3.mono HB3.out.size))
  clear hb3
  obtain ⟨w3, hw3⟩ : ∃ q, q = w'.alloc (.cells (vexBlocks.map Value.string).toArray 9) := ⟨_, rfl⟩
  rw [← hw3] at HS HB4 ⊢
  clear hw3
  refine HS.out.mono ?_
  rintro e w4 ⟨rfl, hb⟩
  have HB5 := hid (HB4.out.trans (hb.mono HB4.out.size))
  clear hb
  go_wp2_with fail
  go_ret
  exact ⟨rfl, HB5.out⟩
/-- the texts that are not longer than a length -/
def fairL (x : Nat) (l : List ByteArray) : List ByteArray := l.filter fun s => decide (s.size ≤ x)
theorem fairL_le {x : Nat} {l : List ByteArray} {s : ByteArray} (h : s ∈ fairL x l) : s.size ≤ x ∧ s ∈ l := by
  unfold fairL at h
  obtain ⟨h1, h2⟩ := List.mem_filter.1 h
  exact ⟨of_decide_eq_true h2, h1⟩
theorem fairL_len (x : Nat) (l : List ByteArray) : (fairL x l).length ≤ l.length := List.length_filter_le _ _
theorem fairL_snoc (x : Nat) (l : List ByteArray) (s : ByteArray) : fairL x (l ++ [s]) = if s.size ≤ x then fairL x l ++ [s] else fairL x l := by
  unfold fairL
  rw [List.filter_append]
  split
  · rename_i h; simp [h]
  · rename_i h; simp [h]
set_option maxRecDepth 100000 in
set_option maxHeartbeats 2000000 in
theorem fair11_any (x : Nat) (hx : x ≤ 1000) (v : Value) (l : List ByteArray) (hl : l.length ≤ 1000) (hz : ∀ y ∈ l, y.size ≤ 100000) (w : World) (hs : StrsAt w v l) :
    Calls Try.prog 28 #[.int .i64 x, v] w (fun e w' => ∃ v, e = .returned v ∧ StrsAt w' v (fairL x l) ∧ Below w.heap.size w w') := by
  obtain ⟨A, cap, rfl, hcap, hcap2⟩ := hs.shape
  have HS := hid hs
  have HZ := hid hz
  clear hs hz
  go_enter Try.func28, Try.ntmps28
  go_wp2_with fail
  go_loopw [5, 11] (fun s5 i wr => ∃ (j : Nat) (u' : Value), u' = s5 ∧ j ≤ l.length ∧ i = .int .i64 j ∧ OwnStrs wr u' (fairL x (l.take j)) ∧ Fresh w u' ∧ Below w.heap.size w wr) (fun _ i _ => l.length - (RowKit.intOf i).toNat)
  case atStart => exact ⟨0, _, rfl, by omega, by go_num, OwnStrs.nil _ _, (by rintro k ⟨a, n, c, e, hc, _⟩; cases e; omega), (Below.refl _ _).alloc (Nat.le_refl _) _⟩
  case round =>
    obtain ⟨j, u, rfl, hj, rfl, ho, hfr, hb⟩ := hrel
    have HB := hid hb
    have HO := hid ho
    have HF := hid hfr
    by_cases hlt : j < l.length
    · obtain ⟨b0, off, rfl, hb0, c0⟩ := (HS.out.below hb (Nat.le_refl _)).round hlt
      have hxz := HZ.out _ (List.getElem_mem hlt)
      obtain ⟨r, hxe⟩ : ∃ x, x = l[j] := ⟨_, rfl⟩
      have htk : fairL x (l.take (j + 1)) = if r.size ≤ x then fairL x (l.take j) ++ [r] else fairL x (l.take j) := by rw [hxe, List.take_succ_eq_append_getElem hlt, fairL_snoc]
      rw [← hxe] at c0 hxz
      have hlf : (fairL x (l.take j)).length ≤ 100000 := by have := fairL_len x (l.take j); simp at this; omega
      by_cases hle : r.size ≤ x
      · rw [if_pos hle] at htk
        have HTK := hid htk
        have hle2 : (r.size : Int) ≤ (x : Int) := by omega
        have HSZ := hid hb.size
        clear hxe ho hfr hb htk
        go_wp2_with (at_builtin; refine wpList_append_strs (by rfl) (.tmp 19) (.tmp 21) rfl u (fairL x (l.take j)) rfl (OwnStrs.alloc HO.out _) _ [r] rfl (strs_new1 _ r _ (by simp)) hlf (by simp) ?_; intro u8 w8 hs8 hu8 hh8)
        go_roundw
        case rel =>
          exact ⟨j + 1, _, rfl, by omega, by go_num, by rw [HTK.out]; exact hs8.out, fun b hb => (hh8.out b hb).elim (HF.out b) (fun h => by have := HSZ.out; simp at h; omega), (HB.out.alloc HB.out.size _).trans (hu8.out.below (by have := HSZ.out; simp; omega) (fun b hb => HF.out b hb))⟩
        case measure => simp [RowKit.intOf]; omega
      · rw [if_neg hle] at htk
        have HTK := hid htk
        have hle2 : ¬ (r.size : Int) ≤ (x : Int) := by omega
        clear hxe ho hfr hb htk
        go_wp2_with fail
        go_roundw
        case rel =>
          exact ⟨j + 1, _, rfl, by omega, by go_num, by rw [HTK.out]; exact HO.out, HF.out, HB.out⟩
        case measure => simp [RowKit.intOf]; omega
    · obtain rfl : j = l.length := by omega
      rw [List.take_length] at HO
      clear ho hfr hb
      go_wp2_with fail
      go_ret
      exact ⟨_, rfl, HO.out.at, HB.out⟩
end Go.Proofs.Ytklbckonlbpbgaa
