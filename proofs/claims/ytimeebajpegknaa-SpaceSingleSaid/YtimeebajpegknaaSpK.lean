import Derived.Test.YtimeebajpegknaaSpP
/-! The specification: Allocate. -/
namespace Go.Proofs.Ytimeebajpegknaa
open Go.Lib Go.ChangeShapes Go.WideShapes Go.ChangeAt Go.RowKit

theorem snoc_len (L : List (Int × Int)) (f K : Int) (h1 : 0 ≤ f) (h2 : 0 < K) (h3 : f + K ≤ 128) : ((seqI (L ++ [(f, K)])).length : Int) = (seqI L).length + K := by
  rw [seqI_append, seqI_one, ex_good f K h1 h2 h3, List.length_append]
  simp [tracks]
  omega
theorem cutR_more {S L : List (Int × Int)} {k : Nat} {q n : Int} (hk : k < S.length) (hq : 0 < q) (h : L ++ cutR (S.drop k) q = cutR S n) : (L ++ [(S[k].1, min S[k].2 q)]) ++ cutR (S.drop (k + 1)) (q - min S[k].2 q) = cutR S n := by
  rw [List.drop_eq_getElem_cons hk, cutR, if_pos hq] at h
  rw [List.append_assoc]
  exact h
theorem cutR_end {S L : List (Int × Int)} {k : Nat} {q n : Int} (hx : ¬ (k < S.length ∧ 0 < q)) (h : L ++ cutR (S.drop k) q = cutR S n) : L = cutR S n := by
  by_cases hk : k < S.length
  · rw [cutR_zero _ q (by omega), List.append_nil] at h
    exact h
  · rw [List.drop_of_length_le (by omega), cutR, List.append_nil] at h
    exact h
set_option maxRecDepth 100000 in
set_option maxHeartbeats 1000000 in
theorem refAllocate_any (v : Value) (l : List (Int × Int)) (hl : l.length ≤ 4000) (n most : Int) (hn : -9223372036854775808 ≤ n ∧ n ≤ 9223372036854775807) (hm : -9223372036854775808 ≤ most ∧ most ≤ 9223372036854775807) (w : World) (hs : RunsAt w v l) :
    Calls Try.prog 51 #[v, .int .i64 n, .int .i64 most] w (AllocMade w (AllocAns l n most)) := by
  obtain ⟨hn1, hn2⟩ := hn
  obtain ⟨hm1, hm2⟩ := hm
  obtain ⟨R, hR⟩ : ∃ R, R = AllocAns l n most := ⟨_, rfl⟩
  rw [← hR]
  by_cases h1 : n < 1
  · unfold AllocAns at hR
    rw [if_pos (.inl h1)] at hR
    have HR := hid hR
    clear hs hR
    go_enter Try.func51, Try.ntmps51
    go_wp2_with fail
    go_ret2
    rw [HR.out]
    exact ⟨_, rfl, OwnRuns.nil _, Fresh.nil _, Below.refl _ _⟩
  by_cases h2 : most < 1
  · unfold AllocAns at hR
    rw [if_pos (.inr h2)] at hR
    have HR := hid hR
    clear hs hR
    go_enter Try.func51, Try.ntmps51
    go_wp2_with fail
    go_ret2
    rw [HR.out]
    exact ⟨_, rfl, OwnRuns.nil _, Fresh.nil _, Below.refl _ _⟩
  have HS := hid hs
  obtain ⟨bb, hbb⟩ : ∃ bb, bb = BestAns l n := ⟨_, rfl⟩
  have HBB := hid hbb
  obtain ⟨⟨bf, bc⟩, ok⟩ := bb
  cases ok with
  | true =>
    have hR2 : R = ([(bf, bc)], 0) := by
      rw [hR]
      unfold AllocAns
      rw [if_neg (by omega), ← hbb, if_pos rfl]
    have HR := hid hR2
    clear hs hR hbb hR2
    go_enter Try.func51, Try.ntmps51
    go_wp2_with fail
    refine (refBest_any v l hl n ⟨hn1, hn2⟩ w HS.out).mono ?_
    rintro e w1 ⟨rfl, hb⟩
    rw [← HBB.out]
    have HB1 := hid hb
    clear hb
    go_wp2_with fail
    go_ret2
    rw [HR.out]
    have ho := one_own (w1.alloc (.cells #[.int .i64 bf, .int .i64 bc] 47)) bf bc
    have hf := fresh_new w (w1.alloc (.cells #[.int .i64 bf, .int .i64 bc] 47)) (by have := HB1.out.size; simp only [World.size_alloc]; omega) 1 1
    rw [World.size_alloc] at ho hf
    exact ⟨_, rfl, ho, hf, (HB1.out.alloc HB1.out.size _).alloc (by have := HB1.out.size; simp only [World.size_alloc]; omega) _⟩
  | false =>
    have hAC := alloc_cut l n most (by omega) (by omega) (by rw [← hbb])
    obtain ⟨S, hS⟩ : ∃ S, S = srtDown (norm (inB l)) := ⟨_, rfl⟩
    have hg : Good S := by rw [hS]; exact srt_good _
    have hperm : (srtDown (norm (inB l))).Perm (norm (inB l)) := List.mergeSort_perm _ _
    have hSl : S.length ≤ 128 := by rw [hS, hperm.length_eq]; exact norm_small _
    have hSb : Bd S := fun r hr => by have := hg r hr; omega
    rw [← hS, ← hR] at hAC
    have HR := hid hAC
    have HSS := hid hS
    have HG := hid hg
    have HSB := hid hSb
    clear hs hR hbb hS hperm hAC hg hSb
    go_enter Try.func51, Try.ntmps51
    go_wp2_with fail
    refine (refBest_any v l hl n ⟨hn1, hn2⟩ w HS.out).mono ?_
    rintro e w1 ⟨rfl, hb⟩
    rw [← HBB.out]
    have HB1 := hid hb
    clear hb
    go_wp2_with fail
    obtain ⟨w2, hw2⟩ : ∃ w2, w2 = w1.alloc (.cells #[.int .i64 bf, .int .i64 bc] 47) := ⟨_, rfl⟩
    have hb2 : Below w.heap.size w w2 := by rw [hw2]; exact HB1.out.alloc HB1.out.size _
    rw [← hw2]
    have HB2 := hid hb2
    clear hb2 hw2
    refine (refSorted_any v l hl w2 (HS.out.below HB2.out (Nat.le_refl _))).mono ?_
    rintro e w3 ⟨v3, rfl, a1, a2, hb⟩
    rw [← HSS.out] at a1
    have HS3 := a1.at HSB.out
    obtain ⟨A, cap, rfl, hcap, hcap2⟩ := HS3.shape
    obtain ⟨m, hm⟩ : ∃ m, m = S.length := ⟨_, rfl⟩
    rw [← hm] at HS3 hcap hSl ⊢
    have HM := hid hm
    have HA := hid HS3
    have HB3 := hid (HB2.out.trans (hb.mono HB2.out.size))
    clear a1 a2 hb hm HS3
    go_wp2_with fail
    go_loopw [1, 11, 12] (fun z s i wr => ∃ (k : Nat) (q : Int) (u : Value) (L : List (Int × Int)), k ≤ m ∧ i = .int .i64 k ∧ z = .int .i64 q ∧ (0 ≤ q ∧ q ≤ n) ∧ q = n - ((seqI L).length : Int) ∧ L.length ≤ k ∧ L ++ cutR (S.drop k) q = cutR S n ∧ u = s ∧ OwnRuns wr u L ∧ Fresh w3 u ∧ Below w3.heap.size w3 wr) (fun _ _ i _ => m - (intOf i).toNat)
    case atStart =>
      exact ⟨0, n, _, [], Nat.zero_le _, rfl, rfl, by omega, by simp [seqI_nil], Nat.le_refl _, rfl, rfl, .inl ⟨_, rfl, rfl, rfl⟩, (fun k hk => by obtain ⟨_, _, _, e, h0, _⟩ := hk; simp only [Value.slice.injEq] at e; omega), (Below.refl _ _).alloc (Nat.le_refl _) _⟩
    case round =>
      obtain ⟨k, q, u, L, hk, rfl, rfl, ⟨hq0, hqn⟩, hqe, hLk, hcut, rfl, ho, hf, hb⟩ := hrel
      have HO := hid ho
      have HF := hid hf
      have HB := hid hb
      by_cases hlt : k < m ∧ 0 < q
      · obtain ⟨hlt, hq3⟩ := hlt
        have hk2 : k < S.length := by rw [← HM.out]; exact hlt
        obtain ⟨g, og, rfl, hlg, c1, c2, hbd⟩ := (HA.out.below hb (Nat.le_refl _)).round hk2
        have hcm := cutR_more hk2 hq3 hcut
        have hgk := HG.out _ (List.getElem_mem hk2)
        obtain ⟨r, hrr⟩ : ∃ r, r = S[k] := ⟨_, rfl⟩
        rw [← hrr] at c1 c2 hcm hgk
        obtain ⟨f, c⟩ := r
        simp only at c1 c2 hcm hgk
        obtain ⟨hg1, hg2, hg3⟩ := hgk
        have HCM := hid hcm
        have HQE := hid hqe
        obtain ⟨z, hz⟩ : ∃ z, z = L.length := ⟨_, rfl⟩
        have hz2 : z ≤ 128 := by omega
        have HZ := hid hz
        have hlt1 : ∀ b, Value.home u b → b < wr.heap.size := SliceIs.lt ho
        unfold OwnRuns at ho
        rw [← hz] at ho
        have HO2 := hid ho
        have HLT := hid hlt1
        have r13 := Row.new wr [.int .i64 f, .int .i64 c] 47
        obtain ⟨w4, hw4⟩ : ∃ w4, w4 = wr.alloc (.cells #[.int .i64 f, .int .i64 c] 47) := ⟨_, rfl⟩
        obtain ⟨bv, hbv⟩ : ∃ bv, bv = wr.heap.size := ⟨_, rfl⟩
        have hb4 : Below wr.heap.size wr w4 := by rw [hw4]; exact (Below.refl _ _).alloc (Nat.le_refl _) _
        have hv : Row w4 bv 47 [.int .i64 f, .int .i64 c] := by rw [hw4, hbv]; exact r13
        have HV := hid hv
        have HB4 := hid hb4
        have HW4 := hid hw4
        have HBV := hid hbv
        clear ho hlt1 hf hb hcut hrr hbd hz hcm hqe r13 hv hb4 hw4 hbv
        go_upto_region 11 with fail
        rw [← HBV.out, ← HW4.out]
        have q1 := HV.out.cell (i := 0) rfl
        have q2 := HV.out.cell (i := 1) rfl
        have q3 := HV.out.frozen 0
        have q4 := HV.out.frozen 1
        clear c1 c2 hlg
        by_cases hqc : q ≤ c
        · skip
          have hK : min c q = q := by omega
          have h6 := HCM.out
          rw [hK] at h6
          have H6 := hid h6
          have HK := hid hK
          clear h6 hK
          go_upto_region 13 with fail
          rw [HK.out]
          have hv5 := HV.out.set 1 (.int .i64 q)
          obtain ⟨w5, hw5⟩ : ∃ w5, w5 = w4.setCell ⟨bv, 1, none⟩ (.int .i64 q) := ⟨_, rfl⟩
          have hb5 : Below wr.heap.size wr w5 := by rw [hw5]; exact HB4.out.setCell (by have := HBV.out; show wr.heap.size ≤ bv; omega) _
          rw [← hw5] at hv5 ⊢
          have p1 := hv5.cell (i := 0) rfl
          have p2 := hv5.cell (i := 1) rfl
          have p3 := hv5.frozen 0
          have p4 := hv5.frozen 1
          have O5 := hid (SliceIs.upd HO2.out (Upds.of_below hb5 (Nat.le_refl _)) (F := fun _ => False) (fun _ _ h => h))
          have B5 := hid (HB.out.trans (hb5.mono HB.out.size))
          clear q1 q2 q3 q4 hv5 hb5 hw5
          go_wp2_with (at_builtin; refine wpList_append_slice rfl (.tmp 55) (.tmp 57) 22 rfl 47 (.agg #[.int .i64 0, .int .i64 0]) 2 16 Try.underlying22 (by kernel_rfl) (by kernel_rfl) u z (runCells L) rfl (SliceIs.alloc O5.out _) ⟨w5.heap.size, 0, none⟩ 1 1 [.int .i64 f, .int .i64 q] rfl rfl (news2 _ _ _ _ _ rfl) (one2 _ _) (by omega) (by omega) (by omega) ?_; intro g8 cap8 w8 hs8 hu8 hh8)
          have hg : w3.heap.size ≤ w5.heap.size := B5.out.size
          go_roundw
          case rel =>
            have X := OwnRuns.more HZ.out.symm rfl hs8.out (r := (f, q))
            have hsl := snoc_len L f q hg1 (by omega) (by omega)
            have hq9 := HQE.out
            exact ⟨k + 1, q - q, _, _, by omega, by go_num, by first | rfl | (congr 1; omega), by omega, by omega, by have := HZ.out; simp; omega, H6.out, rfl, X, fun b hb => (hh8.out b hb).elim (fun h => HF.out b h) (fun h => by simp only [World.size_alloc] at h; omega), (B5.out.alloc B5.out.size _).trans (hu8.out.below (by simp only [World.size_alloc]; omega) (fun b hb => HF.out b hb))⟩
          case measure => simp [intOf]; omega
        · skip
          have hK : min c q = c := by omega
          have h6 := HCM.out
          rw [hK] at h6
          have H6 := hid h6
          have HK := hid hK
          clear h6 hK
          go_upto_region 13 with fail
          rw [HK.out]
          have hv5 := HV.out.set 1 (.int .i64 c)
          obtain ⟨w5, hw5⟩ : ∃ w5, w5 = w4.setCell ⟨bv, 1, none⟩ (.int .i64 c) := ⟨_, rfl⟩
          have hb5 : Below wr.heap.size wr w5 := by rw [hw5]; exact HB4.out.setCell (by have := HBV.out; show wr.heap.size ≤ bv; omega) _
          rw [← hw5] at hv5 ⊢
          have p1 := hv5.cell (i := 0) rfl
          have p2 := hv5.cell (i := 1) rfl
          have p3 := hv5.frozen 0
          have p4 := hv5.frozen 1
          have O5 := hid (SliceIs.upd HO2.out (Upds.of_below hb5 (Nat.le_refl _)) (F := fun _ => False) (fun _ _ h => h))
          have B5 := hid (HB.out.trans (hb5.mono HB.out.size))
          clear q1 q2 q3 q4 hv5 hb5 hw5
          go_wp2_with (at_builtin; refine wpList_append_slice rfl (.tmp 55) (.tmp 57) 22 rfl 47 (.agg #[.int .i64 0, .int .i64 0]) 2 16 Try.underlying22 (by kernel_rfl) (by kernel_rfl) u z (runCells L) rfl (SliceIs.alloc O5.out _) ⟨w5.heap.size, 0, none⟩ 1 1 [.int .i64 f, .int .i64 c] rfl rfl (news2 _ _ _ _ _ rfl) (one2 _ _) (by omega) (by omega) (by omega) ?_; intro g8 cap8 w8 hs8 hu8 hh8)
          have hg : w3.heap.size ≤ w5.heap.size := B5.out.size
          go_roundw
          case rel =>
            have X := OwnRuns.more HZ.out.symm rfl hs8.out (r := (f, c))
            have hsl := snoc_len L f c hg1 (by omega) (by omega)
            have hq9 := HQE.out
            exact ⟨k + 1, q - c, _, _, by omega, by go_num, by first | rfl | (congr 1; omega), by omega, by omega, by have := HZ.out; simp; omega, H6.out, rfl, X, fun b hb => (hh8.out b hb).elim (fun h => HF.out b h) (fun h => by simp only [World.size_alloc] at h; omega), (B5.out.alloc B5.out.size _).trans (hu8.out.below (by simp only [World.size_alloc]; omega) (fun b hb => HF.out b hb))⟩
          case measure => simp [intOf]; omega
      · have hL := cutR_end (by rw [← HM.out]; exact hlt) hcut
        have h5 := HR.out
        rw [← hL, ← hqe] at h5
        obtain ⟨z, hz⟩ : ∃ z, z = L.length := ⟨_, rfl⟩
        rw [← hz] at h5
        have hz2 : z ≤ 128 := by omega
        have HR5 := hid h5
        obtain ⟨A2, cap2, rfl⟩ := ho.shape
        rw [← hz]
        have HZ := hid hz
        have O5 : Hid (OwnRuns wr (.slice A2 z cap2) L) := by rw [HZ.out]; exact HO.out
        have F5 : Hid (Fresh w3 (.slice A2 z cap2)) := by rw [HZ.out]; exact HF.out
        have hx : ¬ k < m ∨ ¬ 0 < q := by omega
        clear ho hf hb hcut hqe hL h5 hz HO HF hlt
        rcases hx with hx | hq5
        · skip
          by_cases hq5 : 0 < q
          · have h9 := HR5.out
            rw [if_pos (.inl hq5)] at h9
            have H9 := hid h9
            clear h9
            go_wp2_with fail
            go_ret2
            rw [H9.out]
            exact ⟨_, rfl, OwnRuns.nil _, Fresh.nil _, HB3.out.trans (HB.out.mono HB3.out.size)⟩
          · skip
            by_cases hm5 : most < (z : Int)
            · have h9 := HR5.out
              rw [if_pos (.inr hm5)] at h9
              have H9 := hid h9
              clear h9
              go_wp2_with fail
              go_ret2
              rw [H9.out]
              exact ⟨_, rfl, OwnRuns.nil _, Fresh.nil _, HB3.out.trans (HB.out.mono HB3.out.size)⟩
            · have h9 := HR5.out
              rw [if_neg (by omega)] at h9
              have H9 := hid h9
              clear h9
              go_wp2_with fail
              go_ret2
              rw [H9.out]
              exact ⟨_, rfl, O5.out, fun b hb => Nat.le_trans HB3.out.size (F5.out b hb), HB3.out.trans (HB.out.mono HB3.out.size)⟩
        · by_cases hx2 : k < m
          all_goals
            by_cases hm5 : most < (z : Int)
            · have h9 := HR5.out
              rw [if_pos (.inr hm5)] at h9
              have H9 := hid h9
              clear h9
              go_wp2_with fail
              go_ret2
              rw [H9.out]
              exact ⟨_, rfl, OwnRuns.nil _, Fresh.nil _, HB3.out.trans (HB.out.mono HB3.out.size)⟩
            · have h9 := HR5.out
              rw [if_neg (by omega)] at h9
              have H9 := hid h9
              clear h9
              go_wp2_with fail
              go_ret2
              rw [H9.out]
              exact ⟨_, rfl, O5.out, fun b hb => Nat.le_trans HB3.out.size (F5.out b hb), HB3.out.trans (HB.out.mono HB3.out.size)⟩
end Go.Proofs.Ytimeebajpegknaa
