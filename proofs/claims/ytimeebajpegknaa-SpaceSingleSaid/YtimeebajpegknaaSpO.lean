import Derived.Test.YtimeebajpegknaaSpQ
import Derived.Test.YtimeebajpegknaaSpM
/-! The specification: sorted. -/
namespace Go.Proofs.Ytimeebajpegknaa
open Go.Lib Go.ChangeShapes Go.WideShapes Go.ChangeAt Go.RowKit
open Go.Shelf Go.Sort

/-- the runs of 128 tracks, of 127, and so on: the first d sizes -/
def hi (N : List (Int × Int)) : Nat → List (Int × Int)
  | 0 => []
  | d + 1 => hi N d ++ N.filter (fun r => r.2 == ((128 - d : Nat) : Int))
theorem hi_mem (N : List (Int × Int)) (d : Nat) (hd : d ≤ 128) : ∀ r ∈ hi N d, r ∈ N ∧ ((128 - d : Nat) : Int) < r.2 := by
  induction d with
  | zero => intro r h; cases h
  | succ d ih =>
    intro r h
    rw [hi, List.mem_append] at h
    rcases h with h | h
    · have := ih (by omega) r h
      exact ⟨this.1, by omega⟩
    · rw [List.mem_filter, beq_iff_eq] at h
      exact ⟨h.1, by omega⟩
theorem hi_count (N : List (Int × Int)) (r : Int × Int) (d : Nat) (hd : d ≤ 128) (hr : r.2 ≤ 128) : (hi N d).count r = if ((128 - d : Nat) : Int) < r.2 then N.count r else 0 := by
  induction d with
  | zero => rw [if_neg (by omega)]; rfl
  | succ d ih =>
    rw [hi, List.count_append, ih (by omega)]
    by_cases h : r.2 = ((128 - d : Nat) : Int)
    · rw [List.count_filter (by simpa using h), if_neg (by omega), if_pos (by omega), Nat.zero_add]
    · have h0 : (N.filter (fun r => r.2 == ((128 - d : Nat) : Int))).count r = 0 := by
        rw [List.count_eq_zero]
        intro hm
        rw [List.mem_filter, beq_iff_eq] at hm
        exact h hm.2
      rw [h0, Nat.add_zero]
      by_cases h2 : ((128 - d : Nat) : Int) < r.2
      · rw [if_pos h2, if_pos (by omega)]
      · rw [if_neg h2, if_neg (by omega)]
theorem hi_sorted (N : List (Int × Int)) (hN : N.Pairwise (fun p q => p.1 < q.1)) (d : Nat) (hd : d ≤ 128) : (hi N d).Pairwise (fun x y => ltOf cfDown y x = false) := by
  induction d with
  | zero => exact List.Pairwise.nil
  | succ d ih =>
    rw [hi, List.pairwise_append]
    refine ⟨ih (by omega), ?_, ?_⟩
    · refine List.Pairwise.imp_of_mem ?_ (hN.filter _)
      intro a b ha hb h
      rw [List.mem_filter, beq_iff_eq] at ha hb
      rw [ltDown, decide_eq_false_iff_not]
      omega
    · intro a ha b hb
      have := (hi_mem N d (by omega) a ha).2
      rw [List.mem_filter, beq_iff_eq] at hb
      rw [ltDown, decide_eq_false_iff_not]
      omega
theorem hi_all (B : Nat → Bool) : hi (norm B) 128 = srtDown (norm B) := by
  refine (srtDown_eq _ _ ?_ (hi_sorted _ (norm_froms B) 128 (Nat.le_refl _))).symm
  rw [List.perm_iff_count]
  intro r
  by_cases h : r ∈ norm B
  · have := norm_counts B r h
    rw [hi_count _ _ _ (Nat.le_refl _) (by omega), if_pos (by omega)]
  · rw [List.count_eq_zero.2 h, List.count_eq_zero]
    exact fun hm => h (hi_mem _ _ (Nat.le_refl _) r hm).1
theorem hi_bd {N : List (Int × Int)} (hN : Bd N) (d : Nat) (hd : d ≤ 128) : Bd (hi N d) := fun r hr => hN r (hi_mem N d hd r hr).1
theorem hi_len (N : List (Int × Int)) : ∀ d, (hi N d).length ≤ d * N.length := by
  intro d
  induction d with
  | zero => simp [hi]
  | succ d ih =>
    rw [hi, List.length_append]
    have := List.length_filter_le (fun r : Int × Int => r.2 == ((128 - d : Nat) : Int)) N
    rw [Nat.succ_mul]
    omega
theorem take_filter_yes {N : List (Int × Int)} {p : Int × Int → Bool} {k : Nat} (h : k < N.length) (hp : p N[k] = true) : (N.take (k + 1)).filter p = (N.take k).filter p ++ [N[k]] := by
  rw [List.take_succ_eq_append_getElem h, List.filter_append]
  simp [hp]
theorem take_filter_no {N : List (Int × Int)} {p : Int × Int → Bool} {k : Nat} (h : k < N.length) (hp : p N[k] = false) : (N.take (k + 1)).filter p = (N.take k).filter p := by
  rw [List.take_succ_eq_append_getElem h, List.filter_append]
  simp [hp]
set_option maxRecDepth 100000 in
set_option maxHeartbeats 400000 in
theorem refSorted_any (v : Value) (l : List (Int × Int)) (hl : l.length ≤ 4000) (w : World) (hs : RunsAt w v l) :
    Calls Try.prog 72 #[v] w (Made w (srtDown (norm (inB l)))) := by
  have HS := hid hs
  clear hs
  go_enter Try.func72, Try.ntmps72
  go_wp2_with fail
  refine (refNormal_any v l hl w HS.out).mono ?_
  rintro e w1 ⟨v1, rfl, a1, a2, hb⟩
  have HALL := hid (hi_all (inB l))
  obtain ⟨N, hN⟩ : ∃ N, N = norm (inB l) := ⟨_, rfl⟩
  rw [← hN] at a1 HALL ⊢
  have hNl : N.length ≤ 128 := by rw [hN]; exact norm_small _
  have hNb : Bd N := by rw [hN]; exact norm_bd _
  have HN2 := a1.at hNb
  obtain ⟨A, cap, rfl, hcap, hcap2⟩ := HN2.shape
  obtain ⟨m, hm⟩ : ∃ m, m = N.length := ⟨_, rfl⟩
  rw [← hm] at HN2 hcap hNl ⊢
  have HM := hid hm
  have HA := hid HN2
  have B1 := hid hb
  have HNN := hid hN
  clear a1 a2 hb hm hN hNb HN2
  go_wp2_with fail
  go_loopw [4, 5] (fun s i wr => ∃ (n : Nat) (u : Value), n ≤ 128 ∧ i = .int .i64 n ∧ u = s ∧ OwnRuns wr u (hi N (128 - n)) ∧ Fresh w1 u ∧ Below w1.heap.size w1 wr) (fun _ i _ => (intOf i).toNat)
  case atStart =>
    exact ⟨128, _, Nat.le_refl _, rfl, rfl, .inl ⟨_, rfl, rfl, rfl⟩, (fun k hk => by obtain ⟨_, _, _, e, h0, _⟩ := hk; simp only [Value.slice.injEq] at e; omega), (Below.refl _ _).alloc (Nat.le_refl _) _⟩
  case round =>
    obtain ⟨n, u, hn, rfl, rfl, ho, hf, hb⟩ := hrel
    have HO := hid ho
    have HF := hid hf
    have HB := hid hb
    by_cases hlt : 1 ≤ n
    · have hd1 : 128 - (n - 1) = (128 - n) + 1 := by omega
      have hd2 : 128 - (128 - n) = n := by omega
      have HSTEP : Hid (hi N (128 - (n - 1)) = hi N (128 - n) ++ N.filter (fun r => r.2 == (n : Int))) := by
        show _ = _
        rw [hd1, hi, hd2]
      have HLEN : Hid ((hi N (128 - n)).length ≤ 16384) := by
        have := hi_len N (128 - n)
        have h2 : (128 - n) * N.length ≤ 128 * 128 := Nat.mul_le_mul (by omega) (by have := HM.out; omega)
        show _ ≤ _
        omega
      have hlt3 : (1 : Int) ≤ (n : Int) := by omega
      have hdl : decide ((1 : Int) ≤ (n : Int)) = true := by simpa using hlt3
      clear ho hf hb hd1 hd2 hlt
      go_upto_region 7 with fail
      go_loopw [4, 6] (fun s j wq => ∃ (k : Nat) (u : Value), k ≤ m ∧ j = .int .i64 k ∧ u = s ∧ OwnRuns wq u (hi N (128 - n) ++ (N.take k).filter (fun r => r.2 == (n : Int))) ∧ Fresh w1 u ∧ Below w1.heap.size w1 wq) (fun _ j _ => m - (intOf j).toNat)
      case atStart => exact ⟨0, _, Nat.zero_le _, rfl, rfl, by simpa using HO.out, HF.out, HB.out⟩
      case round =>
        clear HO HF HB
        obtain ⟨k, u, hk, rfl, rfl, ho, hf, hb⟩ := hrel
        obtain ⟨L, hL⟩ : ∃ L, L = hi N (128 - n) ++ (N.take k).filter (fun r => r.2 == (n : Int)) := ⟨_, rfl⟩
        rw [← hL] at ho
        have HO := hid ho
        have HF := hid hf
        have HB := hid hb
        by_cases hlt2 : k < m
        · have hk2 : k < N.length := by rw [← HM.out]; exact hlt2
          obtain ⟨g, og, rfl, hlg, c1, c2, hbd⟩ := (HA.out.below hb (Nat.le_refl _)).round hk2
          have hyes := take_filter_yes (p := fun r => r.2 == (n : Int)) hk2
          have hno := take_filter_no (p := fun r => r.2 == (n : Int)) hk2
          have hLl : L.length ≤ 20000 := by
            have := HLEN.out
            have h3 := List.length_filter_le (fun r : Int × Int => r.2 == (n : Int)) (N.take k)
            rw [List.length_take] at h3
            rw [hL, List.length_append]
            omega
          obtain ⟨r, hrr⟩ : ∃ r, r = N[k] := ⟨_, rfl⟩
          rw [← hrr] at c1 c2 hbd hyes hno
          obtain ⟨f, c⟩ := r
          simp only at c1 c2 hbd hyes hno
          have HL := hid hL
          have HBD := hid hbd
          clear ho hf hb hrr hL hbd
          by_cases hC : c = n
          · have hd : (c == (n : Int)) = true := by simpa using hC
            have HY := hid (hyes hd)
            obtain ⟨q, hq⟩ : ∃ q, q = L.length := ⟨_, rfl⟩
            have HQ := hid hq
            have hq2 : q ≤ 20000 := by omega
            have ho := HO.out
            unfold OwnRuns at ho
            rw [← hq] at ho
            have HO2 := hid ho
            clear hyes hno hq ho hLl hC
            go_upto_region 10 with fail
            go_wp2_with (at_builtin; refine wpList_append_slice rfl (.tmp 27) (.tmp 32) 22 rfl 47 (.agg #[.int .i64 0, .int .i64 0]) 2 16 Try.underlying22 (by kernel_rfl) (by kernel_rfl) u q (runCells L) rfl (SliceIs.alloc HO2.out _) ⟨wr.heap.size, 0, none⟩ 1 1 [.int .i64 f, .int .i64 c] rfl rfl (news2 _ _ _ _ _ rfl) (one2 _ _) (by omega) (by omega) (by omega) ?_; intro g8 cap8 w8 hs8 hu8 hh8)
            have hg : w1.heap.size ≤ wr.heap.size := HB.out.size
            go_roundw
            case rel =>
              have K := OwnRuns.more HQ.out.symm rfl hs8.out (r := (f, c))
              rw [HL.out, List.append_assoc, ← HY.out] at K
              exact ⟨k + 1, _, by omega, by go_num, rfl, K, fun b hb => (hh8.out b hb).elim (fun h => HF.out b h) (fun h => by simp only [World.size_alloc] at h; omega), (HB.out.alloc HB.out.size _).trans (hu8.out.below (by simp only [World.size_alloc]; omega) (fun b hb => HF.out b hb))⟩
            case measure => simp [intOf]; omega
          · have hd : (c == (n : Int)) = false := by simpa using hC
            have HY := hid (hno hd)
            clear hyes hno hLl hC
            go_wp2_with fail
            go_roundw
            case rel => exact ⟨k + 1, u, by omega, by go_num, rfl, by rw [HY.out, ← HL.out]; exact HO.out, HF.out, HB.out⟩
            case measure => simp [intOf]; omega
        · obtain rfl : k = m := by omega
          have ht : N.take k = N := by rw [HM.out]; exact List.take_length
          rw [ht, ← HSTEP.out] at hL
          have HL := hid hL
          clear ho hf hb hL ht
          go_wp2_with fail
          go_roundw
          case rel => exact ⟨n - 1, u, by omega, by first | go_num | (congr 1; omega), rfl, by rw [← HL.out]; exact HO.out, HF.out, HB.out⟩
          case measure => simp [intOf]; omega
    · obtain rfl : n = 0 := by omega
      clear ho hf hb
      go_wp2_with fail
      go_ret
      exact ⟨u, rfl, by rw [← HNN.out, ← HALL.out]; exact HO.out, fun k hk => Nat.le_trans B1.out.size (HF.out k hk), B1.out.trans (HB.out.mono B1.out.size)⟩
end Go.Proofs.Ytimeebajpegknaa
