import Derived.Test.YtpcigmjbjcgdbaaExtR9
import Derived.Test.YtpcigmjbjcgdbaaExtR7
import Derived.Deep.RegionLaw
import Derived.IntWalk
/-! The statements' own helpers: runs, awake. -/
namespace Go.Proofs.Ytpcigmjbjcgdbaa
open Go.Lib Go.ChangeShapes Go.WideShapes Go.ChangeAt Go.RowKit

set_option maxRecDepth 100000 in
set_option maxHeartbeats 1000000 in
theorem mk_runs (ps : List (Int × Int)) (g n : Nat) (hn : n = ps.length * 2) (hl : ps.length ≤ 1000) (w : World) (hg : g < w.heap.size) (hc : ∀ i (h : i < ps.length), w.cell? ⟨g, i * 2, none⟩ = some (.int .i64 ps[i].1) ∧ w.cell? ⟨g, i * 2 + 1, none⟩ = some (.int .i64 ps[i].2)) :
    Calls Try.prog 59 #[.slice (some ⟨g, 0, none⟩) n n] w (Made w ps) := by
  have HC := hid hc
  have HN := hid hn
  have hn2 : n ≤ 2000 := by omega
  clear hc hn
  go_enter Try.func59, Try.ntmps59
  go_wp2_with fail
  go_loopw [3, 4] (fun o i wr => ∃ (k j : Nat) (v : Value), k ≤ ps.length ∧ j = k * 2 ∧ i = .int .i64 j ∧ v = o ∧ OwnRuns wr v (ps.take k) ∧ Fresh w v ∧ Below w.heap.size w wr) (fun _ i _ => n - (intOf i).toNat)
  case atStart => exact ⟨0, 0, _, by omega, rfl, rfl, rfl, OwnRuns.nil w, Fresh.nil w, Below.refl _ _⟩
  case round =>
    obtain ⟨k, j, v, hk, hj, rfl, rfl, ho, hf, hb⟩ := hrel
    have HB := hid hb
    have HF := hid hf
    have HJ := hid hj
    have hlen : (ps.take k).length = k := by simp; omega
    unfold OwnRuns at ho
    rw [hlen] at ho
    obtain ⟨cs, hcs⟩ : ∃ cs, cs = runCells (ps.take k) := ⟨_, rfl⟩
    rw [← hcs] at ho
    have HO := hid ho
    have HCS := hid hcs
    by_cases hlt : k < ps.length
    · have hjn : j + 1 < n := by have := HN.out; omega
      have hj0 : j < n := by omega
      have d1 := (hb.cell (p := ⟨g, k * 2, none⟩) hg).trans (HC.out k hlt).1
      have d2 := (hb.cell (p := ⟨g, k * 2 + 1, none⟩) hg).trans (HC.out k hlt).2
      rw [← hj] at d1 d2
      obtain ⟨r, hr⟩ : ∃ r, r = ps[k] := ⟨_, rfl⟩
      rw [← hr] at d1 d2
      obtain ⟨a, b⟩ := r
      simp only at d1 d2
      have hstep : ps.take (k + 1) = ps.take k ++ [(a, b)] := by rw [List.take_succ_eq_append_getElem hlt, hr]
      have HST := hid hstep
      have hk1 : k ≤ 1000 := by omega
      obtain ⟨w4, hw4⟩ : ∃ w4, w4 = (wr.alloc (.cells #[.int .i64 a, .int .i64 b] 47)).drew := ⟨_, rfl⟩
      have hnew : ∀ j u, [Value.int .i64 a, Value.int .i64 b][j]? = some u → ((wr.alloc (.cells #[.int .i64 a, .int .i64 b] 47)).drew).cell? ((⟨wr.heap.size, 0, none⟩ : Addr).add j) = some u := fun j u hu => news2 wr (.int .i64 a) (.int .i64 b) 47 wr.heap.size rfl j u hu
      rw [← hw4] at hnew
      have HNW := hid hnew
      have hown : SliceIs w4 47 2 v k cs := by rw [hw4]; exact SliceIs.upd (F := fun _ => False) (SliceIs.alloc ho _) (Upds.drew _) (fun _ _ h => h)
      have HOW := hid hown
      have HB4 : Hid (Below w.heap.size w w4) := by rw [hw4]; exact (HB.out.alloc HB.out.size _).drew
      have HSZ : Hid (w.heap.size ≤ w4.heap.size) := HB4.out.size
      have HW4 := hid hw4
      clear hj hb hf ho hcs hlen hr hstep hw4 hnew hown
      go_wp2_with fail
      have hw1 : IntKind.i64.wrap ((j : Int) + 1) = (j : Int) + 1 := IntWalk.i64_in _ (by omega)
      have hw2 : (0 : Int) ≤ (j : Int) + 1 := by omega
      have hw3 : (j : Int) + 1 < n := by omega
      have hw5 : ((j : Int) + 1).toNat = j + 1 := by omega
      go_region_law (rw [← HW4.out]; refine step_append_slice rfl (.tmp 12) (.tmp 23) 22 rfl 47 (.agg #[.int .i64 0, .int .i64 0]) 2 16 Try.underlying22 (by kernel_rfl) rfl v k cs (by simp [Act.eval]) HOW.out ⟨wr.heap.size, 0, none⟩ 1 1 [.int .i64 a, .int .i64 b] (by simp [Act.eval]) rfl HNW.out (one2 _ _) (by omega) (by omega) (by omega) ?_; intro g8 cap8 w8 hs8 hu8 hh8)
      all_goals
        go_wp2_with fail
        go_roundw
        case rel =>
          have h1 := OwnRuns.more (r := (a, b)) (l := ps.take k) (n := k) (by simp; omega) HCS.out hs8.out
          refine ⟨k + 1, j + 2, _, by omega, by have := HJ.out; omega, by first | rfl | go_num, rfl, by rw [HST.out]; exact h1, fun c hc => (hh8.out c hc).elim (HF.out c) (fun h => by have := HSZ.out; omega), HB4.out.trans (hu8.out.below HSZ.out (fun c hc => HF.out c hc))⟩
        case measure => simp [intOf]; omega
    · have hj2 : j ≤ 2000 := by omega
      obtain rfl : k = ps.length := by omega
      have hjn : ¬ ((j : Int) + 1 < n) := by have := HN.out; omega
      have hall : ps.take ps.length = ps := List.take_length
      rw [hall] at hcs hlen
      have HCS2 := hid hcs
      clear hj hb hf ho hcs hlen hall
      go_wp2_with fail
      go_ret
      refine ⟨_, rfl, ?_, HF.out, HB.out⟩
      unfold OwnRuns
      rw [← HCS2.out]
      exact HO.out
end Go.Proofs.Ytpcigmjbjcgdbaa
