import Derived.Test.YtimeebajpegknaaSpAw
import Derived.Test.YtimeebajpegknaaExt
/-! Free. -/
namespace Go.Proofs.Ytimeebajpegknaa
open Go.Lib Go.ChangeShapes Go.WideShapes Go.ChangeAt Go.RowKit

def cl (n : Int) : Int := min (max n 0) 128
def FreeAns (first last : Int) (used : List (Int × Int)) : List (Int × Int) := minusI [(cl first, cl last - cl first)] used
set_option maxRecDepth 100000 in
theorem bounded_any (n : Int) (hn : -9223372036854775808 ≤ n ∧ n ≤ 9223372036854775807) (w : World) : Calls Try.prog 73 #[.int .i64 n] w fun e w' => e = .returned (.int .i64 (cl n)) ∧ w = w' := by
  obtain ⟨h1, h2⟩ := hn
  go_enter Try.func73, Try.ntmps73
  go_wp2_with fail
  all_goals
    go_ret
    exact ⟨ret_int (by unfold cl; omega), rfl⟩
theorem cl_range (n : Int) : 0 ≤ cl n ∧ cl n ≤ 128 := by unfold cl; omega
set_option maxRecDepth 100000 in
theorem free_any (v : Value) (l : List (Int × Int)) (hl : l.length ≤ 4000) (first last : Int) (hf : -9223372036854775808 ≤ first ∧ first ≤ 9223372036854775807) (hla : -9223372036854775808 ≤ last ∧ last ≤ 9223372036854775807) (w : World) (hs : RunsAt w v l) :
    Calls Try.prog 44 #[.int .i64 first, .int .i64 last, v] w (Made w (FreeAns first last l)) := by
  have HS := hid hs
  have HF := hid hf
  have HLA := hid hla
  have c1 := cl_range first
  have c2 := cl_range last
  obtain ⟨R, hR⟩ : ∃ R, R = FreeAns first last l := ⟨_, rfl⟩
  rw [← hR]
  unfold FreeAns at hR
  obtain ⟨x, hx⟩ : ∃ x, x = cl first := ⟨_, rfl⟩
  obtain ⟨y, hy⟩ : ∃ y, y = cl last := ⟨_, rfl⟩
  rw [← hx, ← hy] at hR
  rw [← hx] at c1
  rw [← hy] at c2
  have HX := hid hx
  have HY := hid hy
  have HR := hid hR
  clear hs hf hla hR hx hy
  go_enter Try.func44, Try.ntmps44
  go_wp2_with fail
  refine (bounded_any first HF.out w).mono ?_
  rintro e w1 ⟨rfl, rfl⟩
  rw [← HX.out]
  go_wp2_with fail
  refine (bounded_any last HLA.out w).mono ?_
  rintro e w1 ⟨rfl, rfl⟩
  rw [← HY.out]
  go_wp2_with fail
  obtain ⟨w1, hw1⟩ : ∃ w1, w1 = w.alloc (.cells #[.int .i64 x, .int .i64 (y - x)] 47) := ⟨_, rfl⟩
  have b1 : Below w.heap.size w w1 := by rw [hw1]; exact (Below.refl _ _).alloc (Nat.le_refl _) _
  have h1 : RunsAt w1 (.slice (some ⟨w.heap.size, 0, none⟩) 1 1) [(x, y - x)] := by rw [hw1]; exact nx_at w x (y - x) (by omega) (by omega)
  rw [← hw1]
  have HB := hid b1
  have H1 := hid h1
  clear b1 h1 hw1
  refine (minus_any _ v [(x, y - x)] l (by simp) hl w1 H1.out (HS.out.below HB.out (Nat.le_refl _))).mono ?_
  rintro e w2 ⟨v2, rfl, a1, a2, hb⟩
  have A1 : Hid (OwnRuns w2 v2 R) := by rw [HR.out]; exact a1
  have A2 : Hid (Fresh w v2) := fun k hk => Nat.le_trans HB.out.size (a2 k hk)
  have A3 := hid (HB.out.trans (hb.mono HB.out.size))
  clear a1 a2 hb
  go_wp2_with fail
  go_ret
  exact ⟨_, rfl, A1.out, A2.out, A3.out⟩
theorem interval_in (first last : Int) (t : Nat) (ht : t < 128) : inB [(cl first, cl last - cl first)] t = decide (first ≤ t ∧ (t : Int) < last) := by
  have h1 := cl_range first
  have h2 := cl_range last
  unfold inB
  rw [seqI_one, Bool.eq_iff_iff, List.contains_iff_mem, decide_eq_true_iff]
  obtain ⟨F, C, hX, hF⟩ := ex_form (cl first) (cl last - cl first)
  rw [hX]
  unfold tracks
  rw [List.mem_range'_1]
  simp only
  unfold cl at *
  omega
theorem hasT_free (first last : Int) (used : List (Int × Int)) (t : Nat) (ht : t < 128) : hasT (FreeAns first last used) t = (decide (first ≤ t ∧ (t : Int) < last) && !hasT used t) := by
  unfold FreeAns minusI
  rw [hasT_nat, hasT_nat]
  have h1 : inB (norm fun t => inB [(cl first, cl last - cl first)] t && !inB used t) t = (inB [(cl first, cl last - cl first)] t && !inB used t) := inB_canon _ t ht
  rw [h1, interval_in first last t ht]
end Go.Proofs.Ytimeebajpegknaa
