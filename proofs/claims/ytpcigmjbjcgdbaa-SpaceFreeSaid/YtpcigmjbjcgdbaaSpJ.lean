import Derived.Test.YtpcigmjbjcgdbaaSpI
/-! The specification: Fragments. -/
namespace Go.Proofs.Ytpcigmjbjcgdbaa
open Go.Lib Go.ChangeShapes Go.WideShapes Go.ChangeAt Go.RowKit

set_option maxRecDepth 100000 in
set_option maxHeartbeats 1000000 in
theorem refFragments_any (v : Value) (l : List (Int × Int)) (hl : l.length ≤ 4000) (w : World) (hs : RunsAt w v l) :
    Calls Try.prog 43 #[v] w fun e w' => e = .returned (.tuple #[.int .i64 (FragAns l).1, .int .i64 (FragAns l).2]) ∧ Below w.heap.size w w' := by
  have HS := hid hs
  have hlr := largest_range l
  obtain ⟨R, hR⟩ : ∃ R, R = FragAns l := ⟨_, rfl⟩
  rw [← hR]
  unfold FragAns at hR
  obtain ⟨S, hS⟩ : ∃ S, S = srtDown (norm (inB l)) := ⟨_, rfl⟩
  have hgS : Good S := by rw [hS]; exact srt_good _
  have hperm : (srtDown (norm (inB l))).Perm (norm (inB l)) := List.mergeSort_perm _ _
  have hSl : S.length ≤ 128 := by rw [hS, hperm.length_eq]; exact norm_small _
  have hSb : Bd S := fun r hr => by have := hgS r hr; omega
  have hhead : ∀ r T, S = r :: T → r.2 = LargestAns l := by
    intro r T e
    unfold LargestAns
    rw [← hS, e]
  rw [← (seqI_perm hperm).length_eq, ← hperm.length_eq, ← hS] at hR
  rw [← (seqI_perm hperm).length_eq, ← hS] at hlr
  obtain ⟨g, hg⟩ : ∃ g, g = LargestAns l := ⟨_, rfl⟩
  obtain ⟨n, hn⟩ : ∃ n, n = (seqI S).length := ⟨_, rfl⟩
  obtain ⟨m, hm⟩ : ∃ m, m = S.length := ⟨_, rfl⟩
  rw [← hg] at hR hlr hhead
  rw [← hn] at hR hlr
  rw [← hm] at hR hSl
  have hn5 : n ≤ 16384 := by have := seqI_len_le S; omega
  obtain ⟨hg1, hg2, hg3⟩ := hlr
  have HR := hid hR
  have HM := hid hm
  have HNN := hid hn
  have HSS := hid hS
  have HG := hid hgS
  have HSB := hid hSb
  have HH := hid hhead
  clear hs hR hg hn hm hS hgS hSb hhead hperm
  go_enter Try.func43, Try.ntmps43
  go_wp2_with fail
  refine (refSorted_any v l hl w HS.out).mono ?_
  rintro e w3 ⟨v3, rfl, a1, a2, hb⟩
  rw [← HSS.out] at a1
  have HS3 := a1.at HSB.out
  obtain ⟨A, cap, rfl, hcap, hcap2⟩ := HS3.shape
  rw [← HM.out] at HS3 hcap ⊢
  have HA := hid HS3
  have HB3 := hid hb
  clear a1 a2 hb HS3
  go_wp2_with fail
  go_loopw [5, 6] (fun s i wr => ∃ (k p : Nat), k ≤ m ∧ i = .int .i64 k ∧ s = .int .i64 p ∧ p = (seqI (S.take k)).length ∧ p ≤ k * 128 ∧ Below w3.heap.size w3 wr) (fun _ i _ => m - (intOf i).toNat)
  case atStart => exact ⟨0, 0, Nat.zero_le _, rfl, rfl, rfl, Nat.zero_le _, Below.refl _ _⟩
  case round =>
    obtain ⟨k, p, hk, rfl, rfl, hp, hp2, hb⟩ := hrel
    have HB := hid hb
    by_cases hlt : k < m
    · have hk2 : k < S.length := by rw [← HM.out]; exact hlt
      obtain ⟨gg, og, rfl, hlg, c1, c2, hbd⟩ := (HA.out.below hb (Nat.le_refl _)).round hk2
      have hgk := HG.out _ (List.getElem_mem hk2)
      have hst := seqI_len_take S k hk2
      rw [show S[k] = (S[k].1, S[k].2) from rfl, ex_good _ _ hgk.1 hgk.2.1 hgk.2.2] at hst
      obtain ⟨r, hrr⟩ : ∃ r, r = S[k] := ⟨_, rfl⟩
      rw [← hrr] at c1 c2 hgk hst
      obtain ⟨f, c⟩ := r
      simp only at c1 c2 hgk hst
      obtain ⟨hg4, hg5, hg6⟩ := hgk
      have HST := hid hst
      have HP := hid hp
      clear hb hrr hbd hst hp
      go_wp2_with fail
      go_roundw
      case rel =>
        have h1 := HST.out
        have h2 := HP.out
        exact ⟨k + 1, p + c.toNat, by omega, by go_num, by first | go_num | (congr 1; omega), by omega, by omega, HB.out⟩
      case measure => simp [intOf]; omega
    · obtain rfl : k = m := by omega
      have ht : S.take k = S := by rw [HM.out]; exact List.take_length
      rw [ht, ← HNN.out] at hp
      subst hp
      have B4 := hid (HB3.out.trans (hb.mono HB3.out.size))
      by_cases h0 : p = 0
      · have h9 := HR.out
        rw [if_pos h0] at h9
        have H9 := hid h9
        have hd : ((p : Int) == 0) = true := by simp; omega
        clear h9 h0 hb ht
        go_wp2_with fail
        go_ret2
        rw [H9.out]
        exact ⟨rfl, B4.out⟩
      · have h9 := HR.out
        rw [if_neg h0] at h9
        have hd : ((p : Int) == 0) = false := by simp; omega
        have hp0 : 0 < (p : Int) := by omega
        obtain ⟨D, hD⟩ : ∃ D, D = Int.tdiv (100 * ((p : Int) - g)) p := ⟨_, rfl⟩
        rw [← hD] at h9
        have hD1 : 0 ≤ D := by rw [hD]; exact Int.tdiv_nonneg (by omega) (by omega)
        have hD2 : D ≤ 100 := by
          rw [hD, Int.tdiv_eq_ediv_of_nonneg (by omega)]
          exact Int.ediv_le_of_le_mul hp0 (by omega)
        have H9 := hid h9
        have hw1 : IntKind.i64.wrap ((p : Int) - g) = (p : Int) - g := IntWalk.i64_in _ (by omega)
        have hw2 : IntKind.i64.wrap (100 * ((p : Int) - g)) = 100 * ((p : Int) - g) := IntWalk.i64_in _ (by omega)
        have hw3 : IntKind.i64.wrap (Int.tdiv (100 * ((p : Int) - g)) p) = D := by rw [← hD]; exact IntWalk.i64_in _ (by omega)
        have hSne : 0 < S.length := by
          rcases Nat.eq_zero_or_pos S.length with h | h
          · have := List.length_eq_zero_iff.1 h
            have h2 := HNN.out
            rw [this, seqI_nil] at h2
            exact absurd h2 h0
          · exact h
        have hk0 : 0 < k := by rw [HM.out]; exact hSne
        obtain ⟨gg, og, rfl, hlg, c1, c2, hbd⟩ := (HA.out.below hb (Nat.le_refl _)).round hSne
        have hgk : S[0].2 = g := by
          match S, hSne, HH with
          | r :: T, _, HH => exact HH.out r T rfl
        rw [hgk] at c2
        clear h9 hD hb ht hgk hbd
        go_upto_region 8 with fail
        go_region_law (fail)
        all_goals
          go_wp2_with fail
          go_ret2
          rw [H9.out]
          exact ⟨rfl, B4.out.trans ((Upds.drew (F := fun _ => False) _).below B4.out.size (fun _ h => h.elim))⟩
end Go.Proofs.Ytpcigmjbjcgdbaa
