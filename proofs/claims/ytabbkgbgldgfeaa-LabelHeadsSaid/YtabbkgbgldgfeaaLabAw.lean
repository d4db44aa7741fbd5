import Derived.Test.YtabbkgbgldgfeaaLabT8
/-! The chapter's example. -/
namespace Go.Proofs.Ytabbkgbgldgfeaa
open Go.Lib Go.ChangeShapes Go.WideShapes Go.ChangeAt Go.RowKit

def exLab : Lab := ⟨5, 2, ⟨#[65]⟩, ⟨#[]⟩, [(4, 2)]⟩
theorem exLab_good : goodL exLab 16 := by decide +kernel
theorem exLab_body : bodyL exLab = ⟨#[5, 2, 1, 65, 0, 1, 4, 2]⟩ := by decide +kernel
theorem exLab_first : (encL exLab 16).extract 0 9 = ⟨#[5, 2, 1, 65, 0, 1, 4, 2, 0]⟩ := by
  have e : encL exLab 16 = ⟨#[5, 2, 1, 65, 0, 1, 4, 2, 0]⟩ ++ zerosB 1015 := by
    unfold encL
    rw [if_pos exLab_good, exLab_body]
    unfold padS
    rw [show 1024 - (ByteArray.mk #[5, 2, 1, 65, 0, 1, 4, 2]).size = 1 + 1015 from rfl, ← zerosB_add, ← ByteArray.append_assoc]
    rfl
  rw [e]
  exact ByteArray.extract_append_eq_left rfl
set_option maxRecDepth 100000 in
set_option maxHeartbeats 1000000 in
theorem labAwake_any (w : World) : Calls Try.prog 10 #[] w (Answers true w) := by
  have hR : RunsAt (w.alloc (.cells #[.int .i64 4, .int .i64 2] 43)) (.slice (some ⟨w.heap.size, 0, none⟩) 1 1) exLab.ext := OwnRuns.at (lab_one_own w 4 2) (fun r hr => by simp only [exLab, List.mem_singleton] at hr; subst hr; refine ⟨?_, ?_, ?_, ?_⟩ <;> decide)
  have HC := hid (encode_lab exLab (.slice (some ⟨w.heap.size, 0, none⟩) 1 1) 16 (by omega) (by simp [exLab]) _ hR)
  have hb0 : Below w.heap.size w (w.alloc (.cells #[.int .i64 4, .int .i64 2] 43)) := (Below.refl _ _).alloc (Nat.le_refl _) _
  have HB0 := hid hb0
  have hz := exLab_good.size
  have hx := exLab_first
  obtain ⟨S, hS⟩ : ∃ S, S = encL exLab 16 := ⟨_, rfl⟩
  rw [← hS] at HC hz hx
  have T1 := fun W => hid (tableTracks_any 16 (by omega) W)
  have T2 := fun W => hid (slots_any 16 (by omega) W)
  rw [show tabM 16 = 4 from rfl] at T1 T2
  have hlen : (9 : Int) ≤ (S.size : Int) := by omega
  clear hR hb0 hS
  go_enter Try.func10, Try.ntmps10
  go_wp2_with fail
  refine HC.out.mono ?_
  rintro e w1 ⟨rfl, hb⟩
  have HB1 := hid (HB0.out.trans (hb.mono HB0.out.size))
  clear hb
  go_wp2_with fail
  refine (T1 _).out.mono ?_
  rintro e w' ⟨rfl, rfl⟩
  go_wp2_with fail
  refine (T2 _).out.mono ?_
  rintro e w' ⟨rfl, rfl⟩
  rw [show max ((4 : Int) - 1) 0 = 3 from rfl]
  go_wp2_with fail
  go_ret
  exact ⟨rfl, HB1.out⟩
end Go.Proofs.Ytabbkgbgldgfeaa
