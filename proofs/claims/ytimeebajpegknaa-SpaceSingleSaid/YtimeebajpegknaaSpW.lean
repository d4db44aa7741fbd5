import Derived.Test.YtimeebajpegknaaSpK
/-! The specification: Room; and what Allocate answers keeps. -/
namespace Go.Proofs.Ytimeebajpegknaa
open Go.Lib Go.ChangeShapes Go.WideShapes Go.ChangeAt Go.RowKit

def RoomAns (l : List (Int × Int)) (most : Int) : Int := ((seqI ((srtDown (norm (inB l))).take most.toNat)).length : Int)
def Inside (P free : List (Int × Int)) : Prop := (seqI P).Nodup ∧ ∀ t ∈ seqI P, t ∈ seqI free
theorem inside_disjoint {P free : List (Int × Int)} (h : Inside P free) : decide ((seqI P).length = (ofB (inB P)).length) = true := decide_eq_true ((disjoint_iff P).2 h.1)
theorem norm_false : norm (fun _ => false) = [] := by
  have : ofB (fun _ => false) = [] := by unfold ofB; simp
  unfold norm; rw [this]; rfl
theorem inside_minus {P free : List (Int × Int)} (h : Inside P free) : minusI P free = [] := by
  unfold minusI
  rw [← norm_false, norm_eq]
  intro t _
  cases hp : inB P t with
  | false => simp
  | true =>
    have hm : t ∈ seqI P := by unfold inB at hp; exact List.contains_iff_mem.1 hp
    have : inB free t = true := by unfold inB; exact List.contains_iff_mem.2 (h.2 t hm)
    rw [this]; rfl
theorem seqI_perm {a b : List (Int × Int)} (h : a.Perm b) : (seqI a).Perm (seqI b) := by unfold seqI seqOf; exact (h.map ex).flatMap_right _
theorem mem_norm_seq (free : List (Int × Int)) (t : Nat) (h : t ∈ seqI (norm (inB free))) : t ∈ seqI free := by
  rw [norm_seq, mem_ofB] at h
  have := h.2
  unfold inB at this
  exact List.contains_iff_mem.1 this
theorem tracks_in {l : List (Int × Int)} {r : Int × Int} (h : r ∈ l) (t : Nat) (ht : t ∈ tracks (ex r)) : t ∈ seqI l := by
  unfold seqI seqOf
  rw [List.mem_flatMap]
  exact ⟨ex r, List.mem_map.2 ⟨r, h, rfl⟩, ht⟩
theorem inside_best (free : List (Int × Int)) (r : Int × Int) (hr : r ∈ norm (inB free)) (n : Int) (h1 : 1 ≤ n) (h2 : n ≤ r.2) : Inside [(r.1, n)] free ∧ ((seqI [(r.1, n)]).length : Int) = n := by
  have hg := norm_counts (inB free) r hr
  have e : seqI [(r.1, n)] = tracks (r.1.toNat, n.toNat) := by rw [seqI_one, ex_good r.1 n hg.1 (by omega) (by omega)]
  rw [Inside, e]
  refine ⟨⟨by unfold tracks; exact List.nodup_range', fun t ht => mem_norm_seq free t (tracks_in hr t ?_)⟩, by simp [tracks]; omega⟩
  rw [show r = (r.1, r.2) from rfl, ex_good r.1 r.2 hg.1 hg.2.1 hg.2.2]
  unfold tracks at ht ⊢
  rw [List.mem_range'_1] at ht ⊢
  simp only at ht ⊢
  omega
theorem inside_cut (free : List (Int × Int)) (M N : Nat) : Inside (up (canon ((seqI ((srtDown (norm (inB free))).take M)).take N))) free := by
  have hp : (seqI (srtDown (norm (inB free)))).Perm (seqI (norm (inB free))) := seqI_perm (List.mergeSort_perm _ _)
  have hs : ((seqI ((srtDown (norm (inB free))).take M)).take N).Sublist (seqI (srtDown (norm (inB free)))) := by
    refine (List.take_sublist _ _).trans ?_
    conv => rhs; rw [← List.take_append_drop M (srtDown (norm (inB free))), seqI_append]
    exact List.sublist_append_left _ _
  have hn : (seqI (srtDown (norm (inB free)))).Nodup := by rw [hp.nodup_iff, norm_seq]; exact ofB_nodup _
  rw [Inside, seqI_canon _ (take_lt _ _)]
  exact ⟨List.Pairwise.sublist hs hn, fun t ht => mem_norm_seq free t (hp.mem_iff.1 (hs.subset ht))⟩
theorem alloc_within (free : List (Int × Int)) (n most : Int) (h1 : 1 ≤ n) (h2 : 1 ≤ most) :
    ((AllocAns free n most) = ([], 14) ∧ RoomAns free most < n) ∨ ((AllocAns free n most).2 = 0 ∧ ((AllocAns free n most).1.length : Int) ≤ most ∧ ((seqI (AllocAns free n most).1).length : Int) = n ∧ Inside (AllocAns free n most).1 free) := by
  by_cases hb : (BestAns free n).2 = true
  · right
    obtain ⟨r, hr, he, _, hn⟩ := best_some free n hb
    have e : AllocAns free n most = ([(r.1, n)], 0) := by
      unfold AllocAns
      rw [if_neg (by omega), if_pos hb, he]
    rw [e]
    have := inside_best free r hr n h1 hn
    exact ⟨rfl, by simp; omega, this.2, this.1⟩
  · have hin := inside_cut free most.toNat n.toNat
    have hlen := (cut_len ((srtDown (norm (inB free))).take most.toNat) n.toNat).1
    unfold AllocAns RoomAns
    rw [if_neg (by omega), if_neg hb]
    split
    · left
      rename_i h
      rw [List.length_take] at h
      exact ⟨rfl, by omega⟩
    · right
      rename_i h
      rw [List.length_take] at hlen
      refine ⟨rfl, by simp only; omega, ?_, hin⟩
      simp only
      rw [seqI_canon _ (take_lt _ _)]
      rw [List.length_take] at h ⊢
      omega
set_option maxRecDepth 100000 in
set_option maxHeartbeats 1000000 in
theorem refRoom_any (v : Value) (l : List (Int × Int)) (hl : l.length ≤ 4000) (most : Int) (hm : -9223372036854775808 ≤ most ∧ most ≤ 9223372036854775807) (w : World) (hs : RunsAt w v l) :
    Calls Try.prog 58 #[v, .int .i64 most] w fun e w' => e = .returned (.int .i64 (RoomAns l most)) ∧ Below w.heap.size w w' := by
  obtain ⟨hm1, hm2⟩ := hm
  have HS := hid hs
  obtain ⟨R, hR⟩ : ∃ R, R = RoomAns l most := ⟨_, rfl⟩
  rw [← hR]
  unfold RoomAns at hR
  obtain ⟨S, hS⟩ : ∃ S, S = srtDown (norm (inB l)) := ⟨_, rfl⟩
  have hg : Good S := by rw [hS]; exact srt_good _
  have hperm : (srtDown (norm (inB l))).Perm (norm (inB l)) := List.mergeSort_perm _ _
  have hSl : S.length ≤ 128 := by rw [hS, hperm.length_eq]; exact norm_small _
  have hSb : Bd S := fun r hr => by have := hg r hr; omega
  rw [← hS] at hR
  have HR := hid hR
  have HSS := hid hS
  have HG := hid hg
  have HSB := hid hSb
  clear hs hR hS hperm hg hSb
  go_enter Try.func58, Try.ntmps58
  go_wp2_with fail
  refine (refSorted_any v l hl w HS.out).mono ?_
  rintro e w3 ⟨v3, rfl, a1, a2, hb⟩
  rw [← HSS.out] at a1
  have HS3 := a1.at HSB.out
  obtain ⟨A, cap, rfl, hcap, hcap2⟩ := HS3.shape
  obtain ⟨m, hm⟩ : ∃ m, m = S.length := ⟨_, rfl⟩
  rw [← hm] at HS3 hcap hSl ⊢
  have HM := hid hm
  have HA := hid HS3
  have HB3 := hid hb
  clear a1 a2 hb hm HS3
  go_wp2_with fail
  go_loopw [6, 7] (fun s i wr => ∃ (k p : Nat), k ≤ m ∧ i = .int .i64 k ∧ s = .int .i64 p ∧ p = (seqI (S.take k)).length ∧ p ≤ k * 128 ∧ (k = 0 ∨ (k : Int) ≤ most) ∧ Below w3.heap.size w3 wr) (fun _ i _ => m - (intOf i).toNat)
  case atStart => exact ⟨0, 0, Nat.zero_le _, rfl, rfl, rfl, Nat.zero_le _, .inl rfl, Below.refl _ _⟩
  case round =>
    obtain ⟨k, p, hk, rfl, rfl, hp, hp2, hkm, hb⟩ := hrel
    have HB := hid hb
    by_cases hlt : k < m ∧ (k : Int) < most
    · obtain ⟨hlt, hq3⟩ := hlt
      have hk2 : k < S.length := by rw [← HM.out]; exact hlt
      obtain ⟨g, og, rfl, hlg, c1, c2, hbd⟩ := (HA.out.below hb (Nat.le_refl _)).round hk2
      have hgk := HG.out _ (List.getElem_mem hk2)
      have hst := seqI_len_take S k hk2
      rw [show S[k] = (S[k].1, S[k].2) from rfl, ex_good _ _ hgk.1 hgk.2.1 hgk.2.2] at hst
      obtain ⟨r, hrr⟩ : ∃ r, r = S[k] := ⟨_, rfl⟩
      rw [← hrr] at c1 c2 hgk hst
      obtain ⟨f, c⟩ := r
      simp only at c1 c2 hgk hst
      obtain ⟨hg1, hg2, hg3⟩ := hgk
      have HST := hid hst
      have HP := hid hp
      clear hb hrr hbd hst hp
      go_wp2_with fail
      go_roundw
      case rel =>
        have h1 := HST.out
        have h2 := HP.out
        exact ⟨k + 1, p + c.toNat, by omega, by go_num, by first | go_num | (congr 1; omega), by omega, by omega, .inr (by omega), HB.out⟩
      case measure => simp [intOf]; omega
    · have hml := HM.out
      have he : R = (p : Int) := by
        rw [HR.out, hp]
        by_cases h : k < m
        · rw [show most.toNat = k from by omega]
        · rw [List.take_of_length_le (show S.length ≤ k by omega)]
          rcases hkm with h3 | h3
          · rw [List.take_of_length_le (show S.length ≤ most.toNat by omega)]
          · rw [List.take_of_length_le (show S.length ≤ most.toNat by omega)]
      have HE := hid he
      have hx : ¬ k < m ∨ ¬ (k : Int) < most := by omega
      clear hb hp he hlt hml
      rcases hx with hx | hx
      · go_wp2_with fail
        go_ret
        rw [HE.out]
        exact ⟨rfl, HB3.out.trans (HB.out.mono HB3.out.size)⟩
      · by_cases hx2 : k < m
        all_goals
          go_wp2_with fail
          go_ret
          rw [HE.out]
          exact ⟨rfl, HB3.out.trans (HB.out.mono HB3.out.size)⟩
end Go.Proofs.Ytimeebajpegknaa
