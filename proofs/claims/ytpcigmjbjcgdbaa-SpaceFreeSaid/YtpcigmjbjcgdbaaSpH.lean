import Derived.Test.YtpcigmjbjcgdbaaSpG
/-! The specification: Free; Fragments, and the specification's. -/
namespace Go.Proofs.Ytpcigmjbjcgdbaa
open Go.Lib Go.ChangeShapes Go.WideShapes Go.ChangeAt Go.RowKit

def singles (first last : Int) (k : Nat) : List (Int × Int) := ((List.range k).filter fun t : Nat => decide (first ≤ (t : Int) ∧ (t : Int) < last)).map fun t : Nat => ((t : Int), (1 : Int))
theorem singles_yes (first last : Int) (k : Nat) (h : first ≤ (k : Int) ∧ (k : Int) < last) : singles first last (k + 1) = singles first last k ++ [((k : Int), 1)] := by
  unfold singles
  rw [List.range_succ, List.filter_append, List.map_append]
  simp [h.1, h.2]
theorem singles_no (first last : Int) (k : Nat) (h : ¬ (first ≤ (k : Int) ∧ (k : Int) < last)) : singles first last (k + 1) = singles first last k := by
  unfold singles
  rw [List.range_succ, List.filter_append, List.map_append]
  have : ([k].filter fun t : Nat => decide (first ≤ (t : Int) ∧ (t : Int) < last)) = [] := by rw [List.filter_cons]; simp [h]
  rw [this]; simp
theorem singles_len (first last : Int) (k : Nat) : (singles first last k).length ≤ k := by
  unfold singles
  rw [List.length_map]
  exact Nat.le_trans (List.length_filter_le _ _) (by simp)
theorem singles_bd (first last : Int) (k : Nat) (hk : k ≤ 128) : Bd (singles first last k) := by
  intro r hr
  unfold singles at hr
  rw [List.mem_map] at hr
  obtain ⟨t, ht, rfl⟩ := hr
  rw [List.mem_filter, List.mem_range] at ht
  simp only
  omega
theorem singles_in (first last : Int) (t : Nat) (ht : t < 128) : inB (singles first last 128) t = decide (first ≤ (t : Int) ∧ (t : Int) < last) := by
  unfold inB
  rw [Bool.eq_iff_iff, List.contains_iff_mem, decide_eq_true_iff]
  unfold seqI seqOf singles
  rw [List.mem_flatMap]
  constructor
  · rintro ⟨x, hx, htx⟩
    rw [List.mem_map] at hx
    obtain ⟨r, hr, rfl⟩ := hx
    rw [List.mem_map] at hr
    obtain ⟨q, hq, rfl⟩ := hr
    rw [List.mem_filter, List.mem_range, decide_eq_true_iff] at hq
    rw [ex_good _ _ (by omega) (by omega) (by omega)] at htx
    unfold tracks at htx
    rw [List.mem_range'_1] at htx
    simp only at htx
    have : t = q := by omega
    subst this
    exact hq.2
  · intro h
    refine ⟨(t, 1), ?_, by unfold tracks; rw [List.mem_range'_1]; simp⟩
    rw [List.mem_map]
    refine ⟨((t : Int), 1), ?_, by rw [ex_good _ _ (by omega) (by omega) (by omega)]; simp⟩
    rw [List.mem_map]
    exact ⟨t, by rw [List.mem_filter, List.mem_range, decide_eq_true_iff]; exact ⟨ht, h⟩, rfl⟩
theorem free_singles (first last : Int) (used : List (Int × Int)) : minusI (singles first last 128) used = FreeAns first last used := by
  unfold FreeAns minusI
  rw [norm_eq]
  intro t ht
  rw [singles_in first last t ht, interval_in first last t ht]
set_option maxRecDepth 100000 in
set_option maxHeartbeats 1000000 in
theorem refFree_any (v : Value) (l : List (Int × Int)) (hl : l.length ≤ 4000) (first last : Int) (hf : -9223372036854775808 ≤ first ∧ first ≤ 9223372036854775807) (hla : -9223372036854775808 ≤ last ∧ last ≤ 9223372036854775807) (w : World) (hs : RunsAt w v l) :
    Calls Try.prog 45 #[.int .i64 first, .int .i64 last, v] w (Made w (FreeAns first last l)) := by
  have HS := hid hs
  obtain ⟨hf1, hf2⟩ := hf
  obtain ⟨hl1, hl2⟩ := hla
  have HFS := hid (free_singles first last l)
  clear hs
  go_enter Try.func45, Try.ntmps45
  go_wp2_with fail
  go_loopw [7, 8] (fun s i wr => ∃ (k : Nat) (u : Value), k ≤ 128 ∧ i = .int .i64 k ∧ u = s ∧ OwnRuns wr u (singles first last k) ∧ Fresh w u ∧ Below w.heap.size w wr) (fun _ i _ => (128 - intOf i).toNat)
  case atStart =>
    exact ⟨0, _, Nat.zero_le _, rfl, rfl, .inl ⟨_, rfl, rfl, rfl⟩, (fun k hk => by obtain ⟨_, _, _, e, h0, _⟩ := hk; simp only [Value.slice.injEq] at e; omega), (Below.refl _ _).alloc (Nat.le_refl _) _⟩
  case round =>
    obtain ⟨k, u, hk, rfl, rfl, ho, hf, hb⟩ := hrel
    have HO := hid ho
    have HF := hid hf
    have HB := hid hb
    by_cases hlt : k < 128
    · have hsl := singles_len first last k
      by_cases hin : first ≤ (k : Int) ∧ (k : Int) < last
      · have HY := hid (singles_yes first last k hin)
        obtain ⟨h1, h2⟩ := hin
        obtain ⟨L, hL⟩ : ∃ L, L = singles first last k := ⟨_, rfl⟩
        rw [← hL] at ho hsl HY
        have hd1 : decide (first ≤ (k : Int)) = true := by simpa using h1
        have hd2 : decide ((k : Int) < last) = true := by simpa using h2
        obtain ⟨q, hq⟩ : ∃ q, q = L.length := ⟨_, rfl⟩
        have hq2 : q ≤ 128 := by omega
        have HQ := hid hq
        unfold OwnRuns at ho
        rw [← hq] at ho
        have HO2 := hid ho
        clear ho hf hb hL hsl hq HO
        go_upto_region 6 with fail
        go_wp2_with (at_builtin; refine wpList_append_slice rfl (.tmp 22) (.tmp 25) 22 rfl 47 (.agg #[.int .i64 0, .int .i64 0]) 2 16 Try.underlying22 (by kernel_rfl) (by kernel_rfl) u q (runCells L) rfl (SliceIs.alloc HO2.out _) ⟨wr.heap.size, 0, none⟩ 1 1 [.int .i64 k, .int .i64 1] rfl rfl (news2 _ _ _ _ _ rfl) (one2 _ _) (by omega) (by omega) (by omega) ?_; intro g8 cap8 w8 hs8 hu8 hh8)
        have hg : w.heap.size ≤ wr.heap.size := HB.out.size
        go_roundw
        case rel =>
          have K := OwnRuns.more HQ.out.symm rfl hs8.out (r := ((k : Int), 1))
          rw [← HY.out] at K
          exact ⟨k + 1, _, by omega, by go_num, rfl, K, fun b hb => (hh8.out b hb).elim (fun h => HF.out b h) (fun h => by simp only [World.size_alloc] at h; omega), (HB.out.alloc HB.out.size _).trans (hu8.out.below (by simp only [World.size_alloc]; omega) (fun b hb => HF.out b hb))⟩
        case measure => simp [intOf]; omega
      · have HY := hid (singles_no first last k hin)
        have hx : ¬ first ≤ (k : Int) ∨ ¬ (k : Int) < last := by omega
        clear ho hf hb hin hsl
        rcases hx with hx | hx
        · go_wp2_with fail
          go_roundw
          case rel => exact ⟨k + 1, u, by omega, by go_num, rfl, by rw [HY.out]; exact HO.out, HF.out, HB.out⟩
          case measure => simp [intOf]; omega
        · by_cases hx2 : first ≤ (k : Int)
          all_goals
            go_wp2_with fail
            go_roundw
            case rel => exact ⟨k + 1, u, by omega, by go_num, rfl, by rw [HY.out]; exact HO.out, HF.out, HB.out⟩
            case measure => simp [intOf]; omega
    · obtain rfl : k = 128 := by omega
      have HR := hid (OwnRuns.at ho (singles_bd first last 128 (Nat.le_refl _)))
      have hsl := singles_len first last 128
      have HSL : Hid ((singles first last 128).length ≤ 4000) := by show _ ≤ _; omega
      clear ho hf hb hsl
      go_wp2_with fail
      refine (refMinus_any u v (singles first last 128) l HSL.out hl _ HR.out (HS.out.below HB.out (Nat.le_refl _))).mono ?_
      rintro e w2 ⟨v2, rfl, a1, a2, hb⟩
      rw [HFS.out] at a1
      have A1 := hid a1
      have A2 : Hid (Fresh w v2) := fun k hk => Nat.le_trans HB.out.size (a2 k hk)
      have A3 := hid (HB.out.trans (hb.mono HB.out.size))
      clear a1 a2 hb
      go_wp2_with fail
      go_ret
      exact ⟨_, rfl, A1.out, A2.out, A3.out⟩
end Go.Proofs.Ytpcigmjbjcgdbaa
