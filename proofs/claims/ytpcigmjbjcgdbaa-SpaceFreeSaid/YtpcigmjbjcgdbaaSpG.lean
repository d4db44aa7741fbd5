import Derived.Test.YtpcigmjbjcgdbaaSpW
import Derived.Test.YtpcigmjbjcgdbaaSpF
/-! Largest, and the specification's. -/
namespace Go.Proofs.Ytpcigmjbjcgdbaa
open Go.Lib Go.ChangeShapes Go.WideShapes Go.ChangeAt Go.RowKit
open Go.Shelf Go.Sort

def LargestAns (l : List (Int × Int)) : Int := match srtDown (norm (inB l)) with | [] => 0 | r :: _ => r.2
def Mx (L : List (Int × Int)) (x : Int) : Prop := (∀ r ∈ L, r.2 ≤ x) ∧ (x = 0 ∨ ∃ r ∈ L, r.2 = x) ∧ 0 ≤ x ∧ x ≤ 128
theorem mx_nil : Mx [] 0 := by refine ⟨?_, Or.inl rfl, by omega, by omega⟩; intro r h; cases h
theorem mx_more {N : List (Int × Int)} {k : Nat} {x : Int} (hk : k < N.length) (hb : N[k].2 ≤ 128) (h : Mx (N.take k) x) : Mx (N.take (k + 1)) (max x N[k].2) := by
  obtain ⟨h1, h2, h3, h4⟩ := h
  rw [List.take_succ_eq_append_getElem hk]
  refine ⟨fun r hr => ?_, ?_, by omega, by omega⟩
  · rcases List.mem_append.1 hr with hr | hr
    · have := h1 r hr; omega
    · rw [List.mem_singleton] at hr; subst hr; omega
  · by_cases hx : x ≤ N[k].2
    · right
      exact ⟨N[k], List.mem_append_right _ (by simp), by omega⟩
    · rcases h2 with h2 | ⟨r, hr, h2⟩
      · left; omega
      · right
        exact ⟨r, List.mem_append_left _ hr, by omega⟩
theorem mx_largest {l : List (Int × Int)} {x : Int} (h : Mx (norm (inB l)) x) : LargestAns l = x := by
  obtain ⟨h1, h2, h3, h4⟩ := h
  have hs := srtDown_pairwise (norm (inB l))
  have hm := srtDown_mem (norm (inB l))
  unfold LargestAns
  cases hS : srtDown (norm (inB l)) with
  | nil =>
    rw [hS] at hm
    rcases h2 with h2 | ⟨r, hr, _⟩
    · exact h2.symm
    · have := (hm r).2 hr; cases this
  | cons r T =>
    rw [hS] at hm hs
    have hr := (hm r).1 (by simp)
    have := h1 r hr
    have := norm_counts (inB l) r hr
    rcases h2 with h2 | ⟨q, hq, h2⟩
    · simp only; omega
    · have hq2 := (hm q).2 hq
      rcases List.mem_cons.1 hq2 with rfl | hq3
      · exact h2
      · have h5 := (List.pairwise_cons.1 hs).1 q hq3
        rw [ltDown, decide_eq_false_iff_not] at h5
        simp only
        omega
set_option maxRecDepth 100000 in
set_option maxHeartbeats 1000000 in
theorem refLargest_any (v : Value) (l : List (Int × Int)) (hl : l.length ≤ 4000) (w : World) (hs : RunsAt w v l) :
    Calls Try.prog 47 #[v] w fun e w' => e = .returned (.int .i64 (LargestAns l)) ∧ Below w.heap.size w w' := by
  have HS := hid hs
  obtain ⟨R, hR⟩ : ∃ R, R = LargestAns l := ⟨_, rfl⟩
  rw [← hR]
  unfold LargestAns at hR
  obtain ⟨S, hS⟩ : ∃ S, S = srtDown (norm (inB l)) := ⟨_, rfl⟩
  have hg : Good S := by rw [hS]; exact srt_good _
  have hSb : Bd S := fun r hr => by have := hg r hr; omega
  rw [← hS] at hR
  have HSS := hid hS
  have HSB := hid hSb
  clear hs hS hg hSb
  cases S with
  | nil =>
    have HR := hid hR
    clear hR
    go_enter Try.func47, Try.ntmps47
    go_wp2_with fail
    refine (refSorted_any v l hl w HS.out).mono ?_
    rintro e w3 ⟨v3, rfl, a1, a2, hb⟩
    rw [← HSS.out] at a1
    obtain ⟨A2, cap2, e0⟩ := OwnRuns.shape a1
    simp only [List.length_nil] at e0
    subst e0
    have HB3 := hid hb
    clear a1 a2 hb
    go_wp2_with fail
    go_ret
    rw [HR.out]
    exact ⟨rfl, HB3.out⟩
  | cons r T =>
    have HR := hid hR
    clear hR
    go_enter Try.func47, Try.ntmps47
    go_wp2_with fail
    refine (refSorted_any v l hl w HS.out).mono ?_
    rintro e w3 ⟨v3, rfl, a1, a2, hb⟩
    rw [← HSS.out] at a1
    have HS3 := a1.at HSB.out
    obtain ⟨A, cap, rfl, hcap, hcap2⟩ := HS3.shape
    obtain ⟨m, hm⟩ : ∃ m, m = (r :: T).length := ⟨_, rfl⟩
    have hm0 : 0 < m := by rw [hm]; simp
    rw [← hm] at HS3 hcap ⊢
    obtain ⟨g, og, rfl, hlg, c1, c2, hbd⟩ := HS3.round (k := 0) (by simp)
    simp only [List.getElem_cons_zero] at c1 c2
    have HB3 := hid hb
    have hd : ((m : Int) == 0) = false := by simp; omega
    clear a1 a2 hb hm hbd HS3
    go_wp2_with fail
    go_ret
    rw [HR.out]
    exact ⟨rfl, HB3.out⟩
set_option maxRecDepth 100000 in
set_option maxHeartbeats 1000000 in
theorem largest_any (v : Value) (l : List (Int × Int)) (hl : l.length ≤ 4000) (w : World) (hs : RunsAt w v l) :
    Calls Try.prog 46 #[v] w fun e w' => e = .returned (.int .i64 (LargestAns l)) ∧ Below w.heap.size w w' := by
  have HS := hid hs
  have hfin : ∀ x, Mx (norm (inB l)) x → LargestAns l = x := fun x h => mx_largest h
  obtain ⟨R, hR⟩ : ∃ R, R = LargestAns l := ⟨_, rfl⟩
  rw [← hR] at hfin ⊢
  have HFIN := hid hfin
  clear hs hfin hR
  go_enter Try.func46, Try.ntmps46
  go_wp2_with fail
  refine (normal_any v l hl w HS.out).mono ?_
  rintro e w1 ⟨v1, rfl, a1, a2, hb⟩
  have hcs := norm_counts (inB l)
  obtain ⟨N, hN⟩ : ∃ N, N = norm (inB l) := ⟨_, rfl⟩
  have hNl : N.length ≤ 128 := by rw [hN]; exact norm_small _
  have hNb : Bd N := by rw [hN]; exact norm_bd _
  rw [← hN] at a1 hcs HFIN
  have HN2 := a1.at hNb
  obtain ⟨A, cap, rfl, hcap, hcap2⟩ := HN2.shape
  obtain ⟨m, hm⟩ : ∃ m, m = N.length := ⟨_, rfl⟩
  rw [← hm] at HN2 hcap hNl ⊢
  have HM := hid hm
  have HA := hid HN2
  have HCS := hid hcs
  have B1 := hid hb
  clear a1 a2 hb hm hN hNb HN2 hcs
  go_wp2_with fail
  go_loopw [3, 9] (fun s i wr => ∃ (k : Nat) (x : Int), k ≤ m ∧ i = .int .i64 k ∧ s = .int .i64 x ∧ (0 ≤ x ∧ x ≤ 128) ∧ Mx (N.take k) x ∧ Below w1.heap.size w1 wr) (fun _ i _ => m - (intOf i).toNat)
  case atStart => exact ⟨0, 0, Nat.zero_le _, rfl, rfl, by omega, mx_nil, Below.refl _ _⟩
  case round =>
    obtain ⟨k, x, hk, rfl, rfl, ⟨hx1, hx2⟩, hmx, hb⟩ := hrel
    have HB := hid hb
    by_cases hlt : k < m
    · have hk2 : k < N.length := by rw [← HM.out]; exact hlt
      obtain ⟨g, og, rfl, hlg, c1, c2, hbd⟩ := (HA.out.below hb (Nat.le_refl _)).round hk2
      have hgk := HCS.out _ (List.getElem_mem hk2)
      have hst := mx_more hk2 (by omega) hmx
      obtain ⟨r, hrr⟩ : ∃ r, r = N[k] := ⟨_, rfl⟩
      rw [← hrr] at c1 c2 hgk hst
      obtain ⟨f, c⟩ := r
      simp only at c1 c2 hgk hst
      obtain ⟨hg1, hg2, hg3⟩ := hgk
      have HST := hid hst
      obtain ⟨y, hy⟩ : ∃ y, y = max x c := ⟨_, rfl⟩
      have HY := hid hy
      have hy1 : 0 ≤ y ∧ y ≤ 128 := by omega
      obtain ⟨hy2, hy3⟩ := hy1
      clear hb hrr hbd hst hmx hy
      by_cases hxc : x ≤ c
      · have HX : Hid (max x c = c) := by show _ = _; omega
        go_wp2_with fail
        go_roundw
        case rel =>
          have h9 := HST.out
          rw [HX.out] at h9
          exact ⟨k + 1, c, by omega, by go_num, by first | rfl | (congr 1 <;> omega), by omega, h9, HB.out.alloc HB.out.size _⟩
        case measure => simp [intOf]; omega
      · have HX : Hid (max x c = x) := by show _ = _; omega
        go_wp2_with fail
        go_roundw
        case rel =>
          have h9 := HST.out
          rw [HX.out] at h9
          exact ⟨k + 1, x, by omega, by go_num, by first | rfl | (congr 1 <;> omega), by omega, h9, HB.out.alloc HB.out.size _⟩
        case measure => simp [intOf]; omega
    · obtain rfl : k = m := by omega
      have ht : N.take k = N := by rw [HM.out]; exact List.take_length
      rw [ht] at hmx
      have HE := hid (HFIN.out x hmx)
      clear hb hmx ht
      go_wp2_with fail
      go_ret
      rw [HE.out]
      exact ⟨rfl, B1.out.trans (HB.out.mono B1.out.size)⟩
end Go.Proofs.Ytpcigmjbjcgdbaa
