import Derived.Test.YtimeebajpegknaaSpB
/-! Allocate. -/
namespace Go.Proofs.Ytimeebajpegknaa
open Go.Lib Go.ChangeShapes Go.WideShapes Go.ChangeAt Go.RowKit

/-- what Allocate answers -/
def AllocAns (l : List (Int × Int)) (n most : Int) : List (Int × Int) × Int :=
  if n < 1 ∨ most < 1 then ([], 1) else
  if (BestAns l n).2 = true then ([(BestAns l n).1], 0) else
  if (((seqI ((srtDown (norm (inB l))).take most.toNat)).take n.toNat).length : Int) < n then ([], 14) else (up (canon ((seqI ((srtDown (norm (inB l))).take most.toNat)).take n.toNat)), 0)
/-- a list of runs that was made, and an error -/
def AllocMade (w : World) (r : List (Int × Int) × Int) (e : Ending) (w' : World) : Prop := ∃ v, e = .returned (.tuple #[v, .int .i64 r.2]) ∧ OwnRuns w' v r.1 ∧ Fresh w v ∧ Below w.heap.size w w'
theorem RunsAt.take {w : World} {A : Option Addr} {n cap : Nat} {S : List (Int × Int)} (h : RunsAt w (.slice A n cap) S) (k : Nat) (hk : k ≤ S.length) : RunsAt w (.slice A k cap) (S.take k) := by
  obtain ⟨A', cap', e, h1, h2, h3, h4⟩ := h
  simp only [Value.slice.injEq] at e
  obtain ⟨rfl, rfl, rfl⟩ := e
  have hl : (S.take k).length = k := by simp; omega
  refine ⟨A, cap, by rw [hl], by rw [hl]; omega, h2, fun r hr => h3 r (List.mem_of_mem_take hr), fun h0 => ?_⟩
  rw [hl] at h0
  obtain ⟨b, off, e, hlt, hc⟩ := h4 (by omega)
  refine ⟨b, off, e, hlt, fun i hi => ?_⟩
  rw [hl] at hi
  have := hc i (by omega)
  simpa using this
theorem one_own (w : World) (a b : Int) : OwnRuns (w.alloc (.cells #[.int .i64 a, .int .i64 b] 47)) (.slice (some ⟨w.heap.size, 0, none⟩) 1 1) [(a, b)] :=
  .inr ⟨w.heap.size, 1, [.int .i64 a, .int .i64 b], rfl, Row.new w _ _, rfl, rfl, by simp, by omega, by omega⟩
theorem fresh_new (w w1 : World) (h : w.heap.size ≤ w1.heap.size) (n c : Nat) : Fresh w (.slice (some ⟨w1.heap.size, 0, none⟩) n c) := by
  rintro k ⟨_, _, _, e, _, rfl⟩
  simp only [Value.slice.injEq, Option.some.injEq] at e
  obtain ⟨rfl, _⟩ := e
  exact h
theorem reversed_any (w : World) : Calls Try.prog 78 #[.func (.func 76) #[] #[]] w fun e w' => e = .returned (.func (.func 84) #[] #[.pointer (some ⟨w.heap.size, 0, none⟩)]) ∧ w' = w.alloc (.cells #[.func (.func 76) #[] #[]] 72) := by
  have hmf : ∀ (fn : Fn) (first cap : Array Value) (w : World), (Instr.makeFunc fn first cap).run Try.prog w = .ok (.func fn first cap) w := fun _ _ _ _ => rfl
  go_enter Try.func78, Try.ntmps78
  go_wp2_with fail
  go_ret
  exact ⟨rfl, rfl⟩
set_option maxRecDepth 100000 in
set_option maxHeartbeats 2000000 in
theorem allocate_any (v : Value) (l : List (Int × Int)) (hl : l.length ≤ 4000) (n most : Int) (hn : -9223372036854775808 ≤ n ∧ n ≤ 9223372036854775807) (hm : -9223372036854775808 ≤ most ∧ most ≤ 9223372036854775807) (w : World) (hs : RunsAt w v l) :
    Calls Try.prog 50 #[v, .int .i64 n, .int .i64 most] w (AllocMade w (AllocAns l n most)) := by
  obtain ⟨hn1, hn2⟩ := hn
  obtain ⟨hm1, hm2⟩ := hm
  obtain ⟨R, hR⟩ : ∃ R, R = AllocAns l n most := ⟨_, rfl⟩
  rw [← hR]
  unfold AllocAns at hR
  by_cases h1 : n < 1
  · rw [if_pos (.inl h1)] at hR
    have HR := hid hR
    clear hs hR
    go_enter Try.func50, Try.ntmps50
    go_wp2_with fail
    go_ret2
    rw [HR.out]
    exact ⟨_, rfl, OwnRuns.nil _, Fresh.nil _, Below.refl _ _⟩
  by_cases h2 : most < 1
  · rw [if_pos (.inr h2)] at hR
    have HR := hid hR
    clear hs hR
    go_enter Try.func50, Try.ntmps50
    go_wp2_with fail
    go_ret2
    rw [HR.out]
    exact ⟨_, rfl, OwnRuns.nil _, Fresh.nil _, Below.refl _ _⟩
  rw [if_neg (by omega)] at hR
  have HS := hid hs
  obtain ⟨bb, hbb⟩ : ∃ bb, bb = BestAns l n := ⟨_, rfl⟩
  rw [← hbb] at hR
  have HBB := hid hbb
  obtain ⟨⟨bf, bc⟩, ok⟩ := bb
  simp only at hR
  cases ok with
  | true =>
    rw [if_pos rfl] at hR
    have HR := hid hR
    clear hs hR hbb
    go_enter Try.func50, Try.ntmps50
    go_wp2_with fail
    refine (best_any v l hl n ⟨hn1, hn2⟩ w HS.out).mono ?_
    rintro e w1 ⟨rfl, hb⟩
    rw [← HBB.out]
    have HB1 := hid hb
    clear hb
    go_wp2_with fail
    go_ret2
    rw [HR.out]
    have ho := one_own (w1.alloc (.cells #[.int .i64 bf, .int .i64 bc] 47)) bf bc
    have hf := fresh_new w (w1.alloc (.cells #[.int .i64 bf, .int .i64 bc] 47)) (by have := HB1.out.size; simp only [World.size_alloc]; omega) 1 1
    rw [World.size_alloc] at ho hf
    exact ⟨_, rfl, ho, hf, (HB1.out.alloc HB1.out.size _).alloc (by have := HB1.out.size; simp only [World.size_alloc]; omega) _⟩
  | false =>
    rw [if_neg (by simp)] at hR
    obtain ⟨S, hS⟩ : ∃ S, S = srtDown (norm (inB l)) := ⟨_, rfl⟩
    rw [← hS] at hR
    have hperm : (srtDown (norm (inB l))).Perm (norm (inB l)) := List.mergeSort_perm _ _
    have hSl : S.length ≤ 4000 := by rw [hS, hperm.length_eq]; exact norm_len _
    obtain ⟨q, hq⟩ : ∃ q, q = ((seqI (S.take most.toNat)).take n.toNat).length := ⟨_, rfl⟩
    rw [← hq] at hR
    have hqn : (q : Int) ≤ n := by rw [hq, List.length_take]; omega
    have HR := hid hR
    have HSS := hid hS
    have HQ := hid hq
    clear hs hR hbb hS hperm hq
    go_enter Try.func50, Try.ntmps50
    go_wp2_with fail
    refine (best_any v l hl n ⟨hn1, hn2⟩ w HS.out).mono ?_
    rintro e w1 ⟨rfl, hb⟩
    rw [← HBB.out]
    have HB1 := hid hb
    clear hb
    go_wp2_with fail
    refine (reversed_any _).mono ?_
    rintro e w2 ⟨rfl, hw2⟩
    obtain ⟨wA, hwA⟩ : ∃ wA, wA = w1.alloc (.cells #[.int .i64 bf, .int .i64 bc] 47) := ⟨_, rfl⟩
    have hbA : Below w.heap.size w wA := by rw [hwA]; exact HB1.out.alloc HB1.out.size _
    rw [← hwA] at hw2 ⊢
    have r2 : Row w2 wA.heap.size 72 [.func (.func 76) #[] #[]] := by rw [hw2]; exact Row.new wA _ _
    have hb2 : Below w.heap.size w w2 := by rw [hw2]; exact hbA.alloc hbA.size _
    obtain ⟨rb, hrb⟩ : ∃ rb, rb = wA.heap.size := ⟨_, rfl⟩
    rw [← hrb] at r2 ⊢
    have R2 := hid r2
    have HB2 := hid hb2
    clear r2 hb2 hbA hwA hw2 hrb
    go_wp2_with fail
    obtain ⟨w3, hw3⟩ : ∃ w3, w3 = w2.alloc (.cells #[.func (.func 84) #[] #[.pointer (some ⟨rb, 0, none⟩)], .func (.func 77) #[] #[]] 72) := ⟨_, rfl⟩
    have r3 : Row w3 w2.heap.size 72 [.func (.func 84) #[] #[.pointer (some ⟨rb, 0, none⟩)], .func (.func 77) #[] #[]] := by rw [hw3]; exact Row.new w2 _ _
    have r2 : Row w3 rb 72 [.func (.func 76) #[] #[]] := by rw [hw3]; exact R2.out.alloc _
    have hb3 : Below w.heap.size w w3 := by rw [hw3]; exact HB2.out.alloc HB2.out.size _
    rw [← hw3]
    have HB3 := hid hb3
    clear hb3 hw3
    refine (sortedDown_any v l hl w2.heap.size rb w3 (HS.out.below HB3.out (Nat.le_refl _)) r3.lt r2.lt (r2.cell (i := 0) rfl) (r3.cell (i := 0) rfl) (r3.cell (i := 1) rfl)).mono ?_
    rintro e w4 ⟨v4, rfl, a1, a2⟩
    rw [← HSS.out] at a1
    obtain ⟨A, cap, rfl, hcap, hcap2⟩ := a1.shape
    obtain ⟨m, hm⟩ : ∃ m, m = S.length := ⟨_, rfl⟩
    rw [← hm] at a1 hcap hSl ⊢
    have HA := hid a1
    have HM := hid hm
    have HB4 := hid (HB3.out.trans (a2.mono HB3.out.size))
    clear a1 a2 r2 r3 hm
    have finish : ∀ (k : Nat), k ≤ m → S.take most.toNat = S.take k → ∀ (W : World), Below w.heap.size w W → RunsAt W (.slice A k cap) (S.take k) →
        Calls Try.prog 37 #[.slice A k cap, .int .i64 n] W (CutMade W (up (canon ((seqI (S.take most.toNat)).take n.toNat))) (up (canon ((seqI (S.take most.toNat)).drop n.toNat)))) := by
      intro k hk he W _ hr
      rw [he]
      exact cut_any _ (S.take k) (by simp; omega) n ⟨hn1, hn2⟩ W hr
    have HFIN := hid finish
    have hcl : (up (canon ((seqI (S.take most.toNat)).take n.toNat))).length ≤ 4000 := by
      have h1 := (cut_len (S.take most.toNat) n.toNat).1
      have h2 : (S.take most.toNat).length ≤ S.length := by simp; omega
      have := HM.out; omega
    have HCL := hid hcl
    clear finish hcl
    obtain ⟨k, hk⟩ : ∃ k, k = (min most (m : Int)).toNat := ⟨_, rfl⟩
    have hkm : k ≤ m := by omega
    have ht : S.take most.toNat = S.take k := by
      have hml := HM.out
      rcases Int.le_total most m with h | h
      · rw [hk, show (min most (m : Int)).toNat = most.toNat from by omega]
      · rw [List.take_of_length_le (show S.length ≤ most.toNat by omega), List.take_of_length_le (show S.length ≤ k by omega)]
    have HT := hid ht
    have HK := hid hk
    clear ht hk
    go_wp2_with fail
    rw [← HK.out]
    refine (HFIN.out k hkm HT.out w4 HB4.out (HA.out.take k (by rw [← HM.out]; exact hkm))).mono ?_
    rintro e w5 ⟨va, vb, rfl, a1, a2, a3, a4, a5, hb⟩
    have HA5 := hid a1
    have HF5 : Hid (Fresh w va) := fun b hb2 => Nat.le_trans HB4.out.size (a3 b hb2)
    have HB5 := hid (HB4.out.trans (hb.mono HB4.out.size))
    clear a1 a2 a3 a4 a5 hb
    go_wp2_with fail
    refine (size_any va _ HCL.out w5 (HA5.out.at (seq_bd _ (take_lt _ _)))).mono ?_
    rintro e w6 ⟨rfl, hb⟩
    rw [seqI_canon _ (take_lt _ _), ← HQ.out]
    have HA6 := hid (HA5.out.below hb (Nat.le_refl _))
    have HB6 := hid (HB5.out.trans (hb.mono HB5.out.size))
    clear hb
    by_cases hqq : (q : Int) < n
    · have hR2 : R = ([], 14) := by rw [HR.out, if_pos hqq]
      have HR2 := hid hR2
      clear hR2
      go_wp2_with fail
      go_ret2
      rw [HR2.out]
      exact ⟨_, rfl, OwnRuns.nil _, Fresh.nil _, HB6.out⟩
    · have hR2 : R = (up (canon ((seqI (S.take most.toNat)).take n.toNat)), 0) := by rw [HR.out, if_neg hqq]
      have HR2 := hid hR2
      clear hR2
      go_wp2_with fail
      go_ret2
      rw [HR2.out]
      exact ⟨_, rfl, HA6.out, HF5.out, HB6.out⟩
end Go.Proofs.Ytimeebajpegknaa
