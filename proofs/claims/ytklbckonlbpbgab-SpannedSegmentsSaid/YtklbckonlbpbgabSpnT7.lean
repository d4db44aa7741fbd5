import Derived.Test.YtklbckonlbpbgabSpnT6
import Derived.Test.YtklbckonlbpbgabStrA
/-! The chapter's example. -/
namespace Go.Proofs.Ytklbckonlbpbgab
open Go.Lib Go.ChangeShapes Go.WideShapes Go.ChangeAt Go.RowKit
set_option linter.unusedVariables false

def sexRecs : List ByteArray := [⟨#[97, 98, 99, 100, 101, 102]⟩]
def sexBlocks : List ByteArray := [⟨#[0, 12, 0, 0, 0, 8, 1, 0, 97, 98, 99, 100]⟩, ⟨#[0, 10, 0, 0, 0, 6, 2, 0, 101, 102]⟩]
theorem sex_blocks : spack 12 sexRecs = sexBlocks := by decide +kernel
set_option maxRecDepth 100000 in
set_option maxHeartbeats 1000000 in
theorem sawake_any (w : World) : Calls Try.prog 10 #[] w (Gives (.bool true) w) := by
  have hR := strs_new w sexRecs (by decide)
  have hb0 : Below w.heap.size w (w.alloc (.cells (sexRecs.map Value.string).toArray 9)) := (Below.refl _ _).alloc (Nat.le_refl _) _
  have HP := spack_ok 100 12 (by decide) _ _ sexRecs (by decide) 1 (by decide) (by decide) (by decide) (fun h => absurd h (by decide)) _ hR
  obtain ⟨w1, hw1⟩ : ∃ q, q = w.alloc (.cells (sexRecs.map Value.string).toArray 9) := ⟨_, rfl⟩
  rw [← hw1] at HP hb0
  have HB0 := hid hb0
  have HW1 : Hid (w.alloc (.cells #[.string ⟨#[97, 98, 99, 100, 101, 102]⟩] 9) = w1) := hid (by rw [hw1]; rfl)
  have HPP : Hid (Calls Try.prog 25 #[.int .i64 100, .int .i64 12, .slice (some ⟨w.heap.size, 0, none⟩) 1 1] w1 (fun e w' => ∃ v, e = .returned (.tuple #[v, .int .i64 0]) ∧ StrsAt w' v sexBlocks ∧ Below w1.heap.size w1 w')) := hid (HP.mono fun e w' h => by
    obtain ⟨h1, h2⟩ := h
    rw [if_neg (by decide)] at h1
    obtain ⟨v, h3, h4⟩ := h1
    rw [sex_blocks] at h4
    exact ⟨v, h3, h4, h2⟩)
  clear hR hb0 HP hw1
  have HA2 : ∀ w' : World, Hid (w'.alloc (.cells #[.string ⟨#[0, 12, 0, 0, 0, 8, 1, 0, 97, 98, 99, 100]⟩, .string ⟨#[0, 10, 0, 0, 0, 6, 2, 0, 101, 102]⟩] 9) = w'.alloc (.cells (sexBlocks.map Value.string).toArray 9)) := fun w' => hid rfl
  go_enter Try.func10, Try.ntmps10
  go_wp2_with fail
  rw [HW1.out]
  refine HPP.out.mono ?_
  rintro e w' ⟨v, rfl, hv, hb⟩
  have HB3 := hid (HB0.out.trans (hb.mono HB0.out.size))
  have HV3 := hid hv
  clear hb hv
  go_wp2_with fail
  rw [(HA2 w').out]
  have hb3 : Below w'.heap.size w' (w'.alloc (.cells (sexBlocks.map Value.string).toArray 9)) := (Below.refl _ _).alloc (Nat.le_refl _) _
  have HS := hid (same_yes v (.slice (some ⟨w'.heap.size, 0, none⟩) 2 2) sexBlocks _ (HV3.out.below hb3 (Nat.le_refl _)) (strs_new w' sexBlocks (by decide)))
  have HB4 := hid (HB3.out.trans (hb3.mono HB3.out.size))
  clear hb3
  obtain ⟨w3, hw3⟩ : ∃ q, q = w'.alloc (.cells (sexBlocks.map Value.string).toArray 9) := ⟨_, rfl⟩
  rw [← hw3] at HS HB4 ⊢
  clear hw3
  refine HS.out.mono ?_
  rintro e w4 ⟨rfl, hb⟩
  have HB5 := hid (HB4.out.trans (hb.mono HB4.out.size))
  clear hb
  go_wp2_with fail
  go_ret
  exact ⟨rfl, HB5.out⟩
end Go.Proofs.Ytklbckonlbpbgab
