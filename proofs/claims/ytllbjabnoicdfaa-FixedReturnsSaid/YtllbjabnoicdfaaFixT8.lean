import Derived.Test.YtllbjabnoicdfaaFixT6
import Derived.Test.YtllbjabnoicdfaaFixT7
import Derived.Test.YtllbjabnoicdfaaRep
/-! The chapter's example; Unpack and Pad of both. -/
namespace Go.Proofs.Ytllbjabnoicdfaa
open Go.Lib Go.ChangeShapes Go.WideShapes Go.ChangeAt Go.RowKit
set_option linter.unusedVariables false

theorem strs_new (w : World) (l : List ByteArray) (h : l.length ≤ 1000) : StrsAt (w.alloc (.cells (l.map Value.string).toArray 9)) (.slice (some ⟨w.heap.size, 0, none⟩) l.length l.length) l :=
  ⟨_, _, rfl, Nat.le_refl _, by omega, fun _ => ⟨_, _, rfl, by simp, fun i hi => by
    rw [Nat.zero_add]
    exact (Row.new w (l.map Value.string) 9).cell (by simp [hi])⟩⟩
def exRecs : List ByteArray := [⟨#[97, 97, 97]⟩, ⟨#[98, 98, 98]⟩, ⟨#[99, 99, 99]⟩, ⟨#[100, 100, 100]⟩]
def exBlocks : List ByteArray := [⟨#[97, 97, 97, 98, 98, 98, 99, 99, 99]⟩, ⟨#[100, 100, 100]⟩]
theorem ex_blocks : blocks 3 exRecs = exBlocks := by decide +kernel
set_option maxRecDepth 100000 in
set_option maxHeartbeats 1000000 in
theorem awake_any (w : World) : Calls Try.prog 10 #[] w (Gives (.bool true) w) := by
  have hR := strs_new w exRecs (by decide)
  have hb0 : Below w.heap.size w (w.alloc (.cells (exRecs.map Value.string).toArray 9)) := (Below.refl _ _).alloc (Nat.le_refl _) _
  have HP := hid (pack_ok 3 10 (by decide) _ _ exRecs (by decide) (by decide) _ hR)
  rw [show (10 / 3 : Nat) = 3 from rfl, ex_blocks] at HP
  have HM := fun W => hid (most_any 3 10 W)
  rw [show mostI 3 10 = 3 from by decide] at HM
  obtain ⟨w1, hw1⟩ : ∃ q, q = w.alloc (.cells (exRecs.map Value.string).toArray 9) := ⟨_, rfl⟩
  rw [← hw1] at HP hb0
  have HB0 := hid hb0
  have HW1 : Hid (w.alloc (.cells #[.string ⟨#[97, 97, 97]⟩, .string ⟨#[98, 98, 98]⟩, .string ⟨#[99, 99, 99]⟩, .string ⟨#[100, 100, 100]⟩] 9) = w1) := hid (by rw [hw1]; rfl)
  have HPP : Hid (Calls Try.prog 12 #[.int .i64 3, .int .i64 10, .slice (some ⟨w.heap.size, 0, none⟩) 4 4] w1 (fun e w' => ∃ v, e = .returned (.tuple #[v, .int .i64 0]) ∧ StrsAt w' v exBlocks ∧ Below w1.heap.size w1 w')) := HP
  clear hR hb0 HP hw1
  go_enter Try.func10, Try.ntmps10
  go_wp2_with fail
  rw [HW1.out]
  refine HPP.out.mono ?_
  rintro e w2 ⟨v, rfl, hv, hb⟩
  have HB2 := hid (HB0.out.trans (hb.mono HB0.out.size))
  have HV := hid hv
  clear hb hv
  go_wp2_with fail
  refine (HM _).out.mono ?_
  rintro e w' ⟨rfl, rfl⟩
  have HA2 : Hid (w'.alloc (.cells #[.string ⟨#[97, 97, 97, 98, 98, 98, 99, 99, 99]⟩, .string ⟨#[100, 100, 100]⟩] 9) = w'.alloc (.cells (exBlocks.map Value.string).toArray 9)) := hid rfl
  go_wp2_with fail
  rw [HA2.out]
  have hb3 : Below w'.heap.size w' (w'.alloc (.cells (exBlocks.map Value.string).toArray 9)) := (Below.refl _ _).alloc (Nat.le_refl _) _
  have HS := hid (same_yes v (.slice (some ⟨w'.heap.size, 0, none⟩) 2 2) exBlocks _ (HV.out.below hb3 (Nat.le_refl _)) (strs_new w' exBlocks (by decide)))
  have HB3 := hid (HB2.out.trans (hb3.mono HB2.out.size))
  clear hb3
  obtain ⟨w3, hw3⟩ : ∃ q, q = w'.alloc (.cells (exBlocks.map Value.string).toArray 9) := ⟨_, rfl⟩
  rw [← hw3] at HS HB3 ⊢
  clear hw3
  refine HS.out.mono ?_
  rintro e w4 ⟨rfl, hb⟩
  have HB4 := hid (HB3.out.trans (hb.mono HB3.out.size))
  clear hb
  go_wp2_with fail
  go_ret
  exact ⟨rfl, HB4.out⟩
end Go.Proofs.Ytllbjabnoicdfaa
