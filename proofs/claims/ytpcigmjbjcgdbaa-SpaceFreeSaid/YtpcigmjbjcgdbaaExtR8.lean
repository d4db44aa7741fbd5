import Derived.Test.YtpcigmjbjcgdbaaExtR3
/-! The specification: At, Index, Disjoint. -/
namespace Go.Proofs.Ytpcigmjbjcgdbaa
open Go.Lib Go.ChangeShapes Go.WideShapes Go.ChangeAt Go.RowKit

theorem OwnInts.get {w : World} {u : Value} {s : List Nat} (h : OwnInts w u s) : ∃ A cap, u = .slice A s.length cap ∧ ∀ i (hi : i < s.length), ∃ g, A = some ⟨g, 0, none⟩ ∧ g < w.heap.size ∧ w.cell? ⟨g, i, none⟩ = some (.int .i64 s[i]) := by
  rcases h with ⟨a, e, h0, _⟩ | ⟨g, cap, cur, e, hr, ht, hl, h1, h2, _⟩
  · exact ⟨a, 0, by rw [h0]; exact e, fun i hi => by omega⟩
  · refine ⟨_, cap, e, fun i hi => ⟨g, rfl, hr.lt, hr.cell ?_⟩⟩
    have h3 : (nums s)[i]? = some (.int .i64 s[i]) := by unfold nums; simp [hi]
    rw [← ht, List.getElem?_take, if_pos (by omega)] at h3
    exact h3
set_option maxRecDepth 100000 in
theorem refAt_any (v : Value) (l : List (Int × Int)) (hl : l.length ≤ 4000) (t : Int) (ht : -9223372036854775808 ≤ t ∧ t ≤ 9223372036854775807) (w : World) (hs : RunsAt w v l) :
    Calls Try.prog 30 #[v, .int .i64 t] w fun e w' => e = .returned (.tuple #[.int .i64 (AtSeq (seqI l) t).1, .bool (AtSeq (seqI l) t).2]) ∧ Below w.heap.size w w' := by
  have HS := hid hs
  obtain ⟨ht1, ht2⟩ := ht
  have hle := seqI_len_le l
  clear hs
  obtain ⟨R1, R2, hR⟩ : ∃ R1 R2, (R1, R2) = AtSeq (seqI l) t := ⟨_, _, rfl⟩
  rw [← hR]
  go_enter Try.func30, Try.ntmps30
  go_wp2_with fail
  refine (sequence_any v l hl _ HS.out).mono ?_
  rintro e w2 ⟨u, rfl, h1, h2⟩
  obtain ⟨A, cap, rfl, hc⟩ := h1.get
  have HB := hid h2
  obtain ⟨m, hm⟩ : ∃ m, m = (seqI l).length := ⟨_, rfl⟩
  have hm5 : m ≤ 512000 := by omega
  rw [← hm]
  by_cases hin : 0 ≤ t ∧ t < m
  · obtain ⟨k, rfl⟩ : ∃ k : Nat, t = k := ⟨t.toNat, by omega⟩
    obtain ⟨g, rfl, hg, hcell⟩ := hc k (by omega)
    have hans : R1 = ((seqI l)[k]'(by omega) : Nat) ∧ R2 = true := by
      unfold AtSeq at hR
      rw [if_neg (by omega), show ((k : Int)).toNat = k from by omega, List.getElem?_eq_getElem (by omega)] at hR
      simpa using hR
    obtain ⟨z, hz⟩ : ∃ z, z = (seqI l)[k]'(by omega) := ⟨_, rfl⟩
    rw [← hz] at hans hcell
    have HANS := hid hans
    obtain ⟨hin1, hin2⟩ := hin
    clear hans hR hz h1 h2 hc hm hle
    go_wp2_with fail
    go_ret2
    rw [HANS.out.1, HANS.out.2]
    exact ⟨rfl, HB.out⟩
  · have hans : R1 = 0 ∧ R2 = false := by
      by_cases h0 : t < 0
      · rw [atSeq_neg _ _ h0] at hR; simpa using hR
      · rw [atSeq_no _ _ (by omega)] at hR; simpa using hR
    have HANS := hid hans
    clear hans hR h1 h2 hc hm hle
    by_cases h0 : t < 0
    · go_wp2_with fail
      go_ret2
      rw [HANS.out.1, HANS.out.2]
      exact ⟨rfl, HB.out⟩
    · have h3 : (m : Int) ≤ t := by omega
      go_wp2_with fail
      go_ret2
      rw [HANS.out.1, HANS.out.2]
      exact ⟨rfl, HB.out⟩
set_option maxRecDepth 100000 in
theorem refIndex_any (v : Value) (l : List (Int × Int)) (hl : l.length ≤ 4000) (t : Int) (ht : -9223372036854775808 ≤ t ∧ t ≤ 9223372036854775807) (w : World) (hs : RunsAt w v l) :
    Calls Try.prog 32 #[v, .int .i64 t] w fun e w' => e = .returned (.tuple #[.int .i64 (FirstAt (seqI l) t).1, .bool (FirstAt (seqI l) t).2]) ∧ Below w.heap.size w w' := by
  have HS := hid hs
  obtain ⟨ht1, ht2⟩ := ht
  have hle := seqI_len_le l
  clear hs
  obtain ⟨R1, R2, hR⟩ : ∃ R1 R2, (R1, R2) = FirstAt (seqI l) t := ⟨_, _, rfl⟩
  rw [← hR]
  have HR := hid hR
  go_enter Try.func32, Try.ntmps32
  go_wp2_with fail
  refine (sequence_any v l hl _ HS.out).mono ?_
  rintro e w2 ⟨u, rfl, h1, h2⟩
  obtain ⟨A, cap, rfl, hc⟩ := h1.get
  have HB := hid h2
  have HC := hid hc
  obtain ⟨m, hm⟩ : ∃ m, m = (seqI l).length := ⟨_, rfl⟩
  have hm5 : m ≤ 512000 := by omega
  rw [← hm]
  have HM := hid hm
  clear hR h1 h2 hc hm hle
  go_wp2_with fail
  go_loop [7] (fun i => ∃ k : Nat, k ≤ m ∧ i = .int .i64 k ∧ ∀ x ∈ (seqI l).take k, (x : Int) ≠ t) (fun i => m - (intOf i).toNat)
  case atStart => exact ⟨0, by omega, rfl, by simp⟩
  case round =>
    obtain ⟨k, hk, rfl, hno⟩ := hrel
    have HNO := hid hno
    clear hno
    by_cases hlt : k < m
    · have hk2 : k < (seqI l).length := by rw [← HM.out]; exact hlt
      obtain ⟨g, rfl, hg, hcell⟩ := HC.out k hk2
      obtain ⟨z, hz⟩ : ∃ z, z = (seqI l)[k] := ⟨_, rfl⟩
      rw [← hz] at hcell
      have hstep : (seqI l).take (k + 1) = (seqI l).take k ++ [z] := by rw [List.take_succ_eq_append_getElem hk2, hz]
      have hsplit : seqI l = (seqI l).take k ++ (tracks (z, 1) ++ (seqI l).drop (k + 1)) := by
        have e : tracks (z, 1) = [z] := rfl
        rw [e, ← List.append_assoc, ← hstep, List.take_append_drop]
      have HST := hid hstep
      have HSP := hid hsplit
      clear hz hstep hsplit
      by_cases he : (z : Int) = t
      · have hans : R1 = (k : Int) ∧ R2 = true := by
          have := HR.out
          rw [HSP.out, firstAt_yes _ _ z 1 t HNO.out (by omega) (by omega)] at this
          simp only [Prod.mk.injEq] at this
          refine ⟨?_, this.2⟩
          rw [this.1, List.length_take, Nat.min_eq_left (by omega)]; omega
        have HANS := hid hans
        clear hans
        have hd : ((z : Int) == t) = true := by simpa using he
        clear he
        go_wp2_with fail
        go_ret2
        rw [HANS.out.1, HANS.out.2]
        exact ⟨rfl, HB.out⟩
      · have hd : ((z : Int) == t) = false := by simpa using he
        have hnew : ∀ x ∈ (seqI l).take (k + 1), (x : Int) ≠ t := by
          rw [HST.out]
          intro x hx
          rw [List.mem_append, List.mem_singleton] at hx
          rcases hx with hx | rfl
          · exact HNO.out x hx
          · exact he
        have HNEW := hid hnew
        clear hnew he
        go_wp2_with fail
        go_round
        case rel => exact ⟨k + 1, by omega, by go_num, HNEW.out⟩
        case measure => simp [intOf]; omega
    · obtain rfl : k = m := by omega
      have hans : R1 = 0 ∧ R2 = false := by
        have := HR.out
        rw [firstAt_no _ _ (by have := HNO.out; rw [HM.out, List.take_length] at this; exact this)] at this
        simpa using this
      have HANS := hid hans
      clear hans
      go_wp2_with fail
      go_ret2
      rw [HANS.out.1, HANS.out.2]
      exact ⟨rfl, HB.out⟩
end Go.Proofs.Ytpcigmjbjcgdbaa
