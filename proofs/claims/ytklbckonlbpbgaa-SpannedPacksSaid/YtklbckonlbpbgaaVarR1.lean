import Derived.Test.YtklbckonlbpbgaaVarT3
import Derived.Deep.RegionHeld3
/-! The reference's Block and Unpack. -/
namespace Go.Proofs.Ytklbckonlbpbgaa
open Go.Lib Go.ChangeShapes Go.WideShapes Go.ChangeAt Go.RowKit
set_option linter.unusedVariables false

theorem sadd (a b : ByteArray) (ha : a.size ≤ 1000000) (hb : b.size ≤ 1000000) (w : World) : (Op.stringOp .add a b).run Try.prog w = .ok (.string (a ++ b)) w :=
  run_string_add_sum w _ _ (by omega)
theorem below_drew (w : World) : Below w.heap.size w w.drew := (Upds.drew (F := fun _ => False) w).below (Nat.le_refl _) (fun _ h => h.elim)
/-- a cell that is kept -/
def Keep1 (w : World) (p : Addr) (v : Value) (W : World) : Prop := W.cell? p = some v ∧ Below w.heap.size w W
theorem Keep1.step {w W W' : World} {p : Addr} {v : Value} (hp : p.block < w.heap.size) (h : W.cell? p = some v ∧ Below w.heap.size w W) (hb : Below W.heap.size W W') : W'.cell? p = some v ∧ Below w.heap.size w W' :=
  ⟨(hb.cell (Nat.lt_of_lt_of_le hp h.2.size)).trans h.1, h.2.trans (hb.mono h.2.size)⟩
set_option maxRecDepth 100000 in
set_option maxHeartbeats 2000000 in
theorem refBlock_any (v : Value) (l : List ByteArray) (hl : l.length ≤ 2000) (hz : (vbody l).size ≤ 60000) (w : World) (hs : StrsAt w v l) :
    Calls Try.prog 35 #[v] w (Gives (.string (vblock l)) w) := by
  obtain ⟨A, cap, rfl, hcap, hcap2⟩ := hs.shape
  have HS := hid hs
  have hpart : ∀ j, (vbody (l.take j)).size ≤ (vbody l).size := fun j => by
    conv => rhs; rw [← List.take_append_drop j l]
    unfold vbody
    rw [List.map_append, cat_append, ByteArray.size_append]; omega
  have HP := hid hpart
  clear hs hpart
  go_enter Try.func35, Try.ntmps35
  go_wp2_with fail
  go_loopw [3, 4] (fun s3 s4 wr => ∃ (j : Nat) (y : ByteArray), j ≤ l.length ∧ s4 = .int .i64 j ∧ s3 = .string y ∧ y = vbody (l.take j) ∧ Below w.heap.size w wr) (fun _ i _ => l.length - (intOf i).toNat)
  case atStart => exact ⟨0, _, by omega, by go_num, rfl, rfl, Below.refl _ _⟩
  case round =>
    obtain ⟨j, y, hj, rfl, rfl, hy, hb⟩ := hrel
    by_cases hlt : j < l.length
    · obtain ⟨b0, off, rfl, hb0, c0⟩ := (HS.out.below hb (Nat.le_refl _)).round hlt
      obtain ⟨r, hre⟩ : ∃ r, r = l[j] := ⟨_, rfl⟩
      have htk : l.take (j + 1) = l.take j ++ [r] := by rw [hre, List.take_succ_eq_append_getElem hlt]
      rw [← hre] at c0
      have hp1 := HP.out (j + 1)
      rw [htk, vbody_snoc_size, ← hy] at hp1
      have hrs : r.size ≤ 60000 := by omega
      have hys : y.size ≤ 60000 := by omega
      have W1 := fun W => hid (refWord_nat (4 + r.size) (by omega) W)
      rw [show ((4 + r.size : Nat) : Int) = 4 + (r.size : Int) by omega] at W1
      have hN : (y ++ word (4 + r.size)) ++ r = vbody (l.take (j + 1)) := by rw [htk, vbody_snoc, hy]; exact ByteArray.append_assoc
      have a1 := sadd y (word (4 + r.size)) (by omega) (by rw [word_size]; omega)
      have a2 := sadd (y ++ word (4 + r.size)) r (by rw [ByteArray.size_append, word_size]; omega) (by omega)
      rw [hN] at a2
      obtain ⟨q, hq⟩ : ∃ q, q = word (4 + r.size) := ⟨_, rfl⟩
      rw [← hq] at W1 a1 a2
      obtain ⟨p, hp⟩ : ∃ p, p = y ++ q := ⟨_, rfl⟩
      rw [← hp] at a1 a2
      obtain ⟨z, hz2⟩ : ∃ z, z = vbody (l.take (j + 1)) := ⟨_, rfl⟩
      rw [← hz2] at a2
      have HZ := hid hz2
      have HB := hid hb
      have hstart : wr.drew.cell? ⟨b0, off + j, none⟩ = some (.string r) ∧ Below wr.heap.size wr wr.drew := ⟨c0, below_drew wr⟩
      clear hre htk hp1 hN hq hp hz2 hy hb
      have HB0 := hid hb0
      have HST := hid hstart
      clear hstart
      go_upto_region 5 with fail
      have hstart := HST.out
      have hw : IntKind.i64.wrap (4 + (r.size : Int)) = 4 + (r.size : Int) := IntWalk.i64_in _ (by omega)
      have HCAP := hid hcap
      clear hcap hcap2 hb0
      go_region_held3 (fun W => W.cell? ⟨b0, off + j, none⟩ = some (.string r) ∧ Below wr.heap.size wr W) (first | assumption | exact Keep1.step HB0.out (by assumption) hb6) (first | (go_at_call 27; (with_reducible refine (W1 _).out.mono ?_); rintro x w6 ⟨rfl, hb6⟩))
      rename_i hh
      have HH := hid hh
      clear hh hstart
      go_wp2_with fail
      go_roundw
      case rel => exact ⟨j + 1, _, by omega, by go_num, rfl, HZ.out, HB.out.trans (HH.out.2.mono HB.out.size)⟩
      case measure => simp [intOf]; omega
    · obtain rfl : j = l.length := by omega
      rw [List.take_length] at hy
      have hys : y.size ≤ 60000 := by rw [hy]; exact hz
      have W1 := fun W => hid (refWord_nat (4 + y.size) (by omega) W)
      rw [show ((4 + y.size : Nat) : Int) = 4 + (y.size : Int) by omega] at W1
      have hN : vblock l = word (4 + y.size) ++ y := by rw [hy]; rfl
      obtain ⟨q, hq⟩ : ∃ q, q = word (4 + y.size) := ⟨_, rfl⟩
      have hqs : q.size = 4 := by rw [hq]; rfl
      have hqs2 : q.size ≤ 4 := by omega
      rw [← hq] at W1 hN
      have HN := hid hN
      have HB := hid hb
      clear hb hy hq hqs hN
      go_wp2_with fail
      refine (W1 _).out.mono ?_
      rintro e w2 ⟨rfl, hb⟩
      have HB2 := hid (HB.out.trans (hb.mono HB.out.size))
      clear hb
      go_wp2_with fail
      go_ret
      exact ⟨by rw [HN.out]; rfl, HB2.out⟩
end Go.Proofs.Ytklbckonlbpbgaa
