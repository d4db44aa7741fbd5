import Derived.Test.YtfdmieeldiljlaaSpY2
import Derived.Test.YtfdmieeldiljlaaSpX
/-! Extend of the reference. -/
namespace Go.Proofs.Ytfdmieeldiljlaa
open Go.Lib Go.ChangeShapes Go.WideShapes Go.ChangeAt Go.RowKit

theorem seqI_empty (E : List (Int × Int)) : (seqI E).length = 0 ↔ (joinI E).length = 0 := by
  unfold joinI
  rw [up_len]
  constructor
  · intro h
    rw [List.length_eq_zero_iff.1 h]; rfl
  · intro h
    rw [← seqOf_canon (seqI E), List.length_eq_zero_iff.1 h]; rfl
/-- what stands in memory in the loop -/
def Loop (w : World) (g N cap p1 c : Nat) (l : List (Int × Int)) (vl : Value) (s : List (Int × Int)) (W : World) : Prop :=
  OwnRuns W (.slice (some ⟨g, 0, none⟩) N cap) (l ++ [((p1 : Int), (c : Int))]) ∧ OwnRuns W vl s ∧ Below w.heap.size w W
namespace Loop
variable {w W W' : World} {g q N cap p1 c : Nat} {l s : List (Int × Int)} {vl : Value}
theorem below (h : Loop w g N cap p1 c l vl s W) (hb : Below W.heap.size W W') : Loop w g N cap p1 c l vl s W' :=
  ⟨OwnRuns.below h.1 hb (Nat.le_refl _), OwnRuns.below h.2.1 hb (Nat.le_refl _), h.2.2.trans (hb.mono h.2.2.size)⟩
theorem drew (h : Loop w g N cap p1 c l vl s W) : Loop w g N cap p1 c l vl s W.drew := h.below ((Upds.drew (F := fun _ => False) W).below (Nat.le_refl _) (fun _ h => h.elim))
theorem cells (hq : q = l.length) (h : Loop w g N cap p1 c l vl s W) : W.cell? ⟨g, q * 2, none⟩ = some (.int .i64 (p1 : Int)) ∧ W.cell? ⟨g, q * 2 + 1, none⟩ = some (.int .i64 (c : Int)) ∧ Loop w g N cap p1 c l vl s W := by
  obtain ⟨g', cap', hv', g1, g2', g3', g4, g5, g6, g7, g8⟩ := h.1.last
  rw [← hq] at g4 g5
  simp only [Value.slice.injEq, Option.some.injEq, Addr.mk.injEq] at hv'
  obtain ⟨⟨rfl, _⟩, _, rfl⟩ := hv'
  exact ⟨g4, g5, h⟩
theorem of (h : W.cell? ⟨g, q * 2, none⟩ = some (.int .i64 (p1 : Int)) ∧ W.cell? ⟨g, q * 2 + 1, none⟩ = some (.int .i64 (c : Int)) ∧ Loop w g N cap p1 c l vl s W) : Loop w g N cap p1 c l vl s W := h.2.2
theorem step (hq : q = l.length) (h : W.cell? ⟨g, q * 2, none⟩ = some (.int .i64 (p1 : Int)) ∧ W.cell? ⟨g, q * 2 + 1, none⟩ = some (.int .i64 (c : Int)) ∧ Loop w g N cap p1 c l vl s W) (hb : Below W.heap.size W W') :
    W'.cell? ⟨g, q * 2, none⟩ = some (.int .i64 (p1 : Int)) ∧ W'.cell? ⟨g, q * 2 + 1, none⟩ = some (.int .i64 (c : Int)) ∧ Loop w g N cap p1 c l vl s W' := cells hq (h.2.2.below hb)
end Loop
set_option maxRecDepth 100000 in
set_option maxHeartbeats 4000000 in
theorem refExtend_any (v v2 : Value) (E F : List (Int × Int)) (hE : E.length ≤ 3000) (hF : F.length ≤ 4000) (n : Int) (hn : -9223372036854775808 ≤ n ∧ n ≤ 9223372036854775807) (w : World) (hs : RunsAt w v E) (hs2 : RunsAt w v2 F) :
    Calls Try.prog 53 #[v, v2, .int .i64 n] w (AllocMade w (ExtAns E F n)) := by
  obtain ⟨hn1, hn2⟩ := hn
  have HE := hid hs
  have HF := hid hs2
  clear hs hs2
  obtain ⟨R, hR⟩ : ∃ R, R = ExtAns E F n := ⟨_, rfl⟩
  rw [← hR]
  unfold ExtAns at hR
  have hE4 : E.length ≤ 4000 := by omega
  have hJl := joinI_len E
  by_cases h1 : n < 1
  · rw [if_pos (.inl h1)] at hR
    have HR := hid hR
    clear hR
    go_enter Try.func53, Try.ntmps53
    go_wp2_with fail
    refine (refJoin_any v E hE4 w HE.out).mono ?_
    rintro e w1 ⟨vj, rfl, a1, a2, hb⟩
    have B1 := hid hb
    clear a1 a2 hb
    go_wp2_with fail
    go_ret2
    rw [HR.out]
    exact ⟨_, rfl, OwnRuns.nil _, Fresh.nil _, B1.out⟩
  by_cases h2 : (seqI E).length = 0
  · rw [if_pos (.inr h2)] at hR
    have HR := hid hR
    have hj0 := (seqI_empty E).1 h2
    have HJ0 := hid hj0
    clear hR h2 hj0 hJl
    go_enter Try.func53, Try.ntmps53
    go_wp2_with fail
    refine (refJoin_any v E hE4 w HE.out).mono ?_
    rintro e w1 ⟨vj, rfl, a1, a2, hb⟩
    have a3 : OwnRuns w1 vj (joinI E) := a1
    obtain ⟨A, cap, rfl⟩ := a3.shape
    have B1 := hid hb
    clear a1 a2 hb a3
    rw [HJ0.out]
    go_wp2_with fail
    go_ret2
    rw [HR.out]
    exact ⟨_, rfl, OwnRuns.nil _, Fresh.nil _, B1.out⟩
  rw [if_neg (fun h => h.elim h1 h2)] at hR
  have hne : seqI E ≠ [] := fun e => h2 (by rw [e]; rfl)
  obtain ⟨l, p1, p2, hc, hJ, hp2, hp, hend, hlast⟩ := joinI_snoc E hne
  obtain ⟨m, m1, m2, m3, m4, m5, m6, m7⟩ := next_run E F n (by omega) p1 p2 hend hlast
  have m8 : 0 < m → p1 + p2 + m ≤ 128 := by
    intro h0
    have h3 := (m6 (m - 1) (by omega)).1
    omega
  have hnj := next_join E F n l p1 p2 m hc m3 m4 m8
  have hla := left_all E F n p1 p2 m m3 m4 m8
  have hm128 : m ≤ 128 := by rcases Nat.eq_zero_or_pos m with h0 | h0 <;> omega
  obtain ⟨J2, hJ2⟩ : ∃ J2, J2 = joinI (joinI E ++ [nextOf E F n]) := ⟨_, rfl⟩
  have hj2b : Bd J2 := by rw [hJ2]; exact joinI_bd _
  have HJ2B := hid hj2b
  rw [← hJ2] at hR hnj hla
  rw [m1] at hR
  obtain ⟨q, hq⟩ : ∃ q, q = (up l).length := ⟨_, rfl⟩
  have hq2 : q ≤ 3000 := by rw [hJ] at hJl; simp at hJl; omega
  obtain ⟨e0, he0⟩ : ∃ e0, e0 = p1 + p2 := ⟨_, rfl⟩
  rw [← he0] at hla m6 m7 m8
  have HR := hid hR
  have HJ := hid hJ
  have HNJ := hid hnj
  have HLA := hid hla
  have HQ := hid hq
  have M6 := hid m6
  have M7 := hid m7
  have HE0 := hid he0
  clear hj2b hR hne hc hJ hend hlast m1 m3 m4 m5 hnj hla hJ2 hq m6 m7 h2 hJl he0
  go_enter Try.func53, Try.ntmps53
  go_wp2_with fail
  refine (refJoin_any v E hE4 w HE.out).mono ?_
  rintro e w1 ⟨vj, rfl, a1, a2, hb⟩
  have o1 : OwnRuns w1 vj (joinI E) := a1
  rw [HJ.out] at o1
  obtain ⟨g, cap, hvj, g1, g2, g3, g4, g5, g6, g7, g8⟩ := o1.last
  subst hvj
  rw [← HQ.out] at o1 g2 g4 g5 g6 a2 g8 ⊢
  obtain ⟨N, hN⟩ : ∃ N, N = q + 1 := ⟨_, rfl⟩
  rw [← hN] at o1 g2 a2 g8 ⊢
  have hqN : q < N := by omega
  have hN4 : N ≤ 3001 := by omega
  have hNq : (N : Int) - 1 = (q : Int) := by omega
  have HN := hid hN
  clear hN
  have O1 := hid o1
  have F1 : Hid (w.heap.size ≤ g) := a2 g g8
  have F1g : Hid (Fresh w (.slice (some ⟨g, 0, none⟩) N cap)) := a2
  have B1 := hid hb
  have HG1 := hid g1
  clear a1 a2 hb o1 g4 g5 g6 g7 g8
  have hsz : w.heap.size ≤ w1.heap.size := B1.out.size
  have hd0 : ((N : Int) == 0) = false := by simp; omega
  go_wp2_with fail
  refine (refMinus_any v2 _ F (joinI E) hF (by rw [HJ.out, List.length_append, ← HQ.out]; simp; omega) w1 (HF.out.below B1.out (Nat.le_refl _)) (by rw [HJ.out]; exact OwnRuns.at O1.out (by rw [← HJ.out]; exact joinI_bd E))).mono ?_
  rintro e w2 ⟨vl, rfl, a1, a2, hb⟩
  have hz := left_zero E F e0
  have l2 : OwnRuns w2 vl (norm (leftB E F e0 0)) := by rw [hz]; exact a1
  have A2 : Hid (∀ b, Value.home vl b → b ≠ g) := fun b hb2 => by have := a2 b hb2; have := HG1.out; omega
  have L2 := hid l2
  have O2 := hid (OwnRuns.below O1.out hb (Nat.le_refl _))
  have B2 := hid (B1.out.trans (hb.mono B1.out.size))
  clear a1 a2 hb hz l2 O1
  go_upto_region 6 with fail
  clear hNq hd0
  go_loopw [2, 9] (fun s2 s9 wr => ∃ (j : Nat) (k : Int) (vl : Value), j ≤ m ∧ k = n - j ∧ s2 = .int .i64 k ∧ vl = s9 ∧ OwnRuns wr (.slice (some ⟨g, 0, none⟩) N cap) (up l ++ [((p1 : Int), ((p2 + j : Nat) : Int))]) ∧ OwnRuns wr vl (norm (leftB E F e0 j)) ∧ (∀ b, Value.home vl b → b ≠ g) ∧ Below w.heap.size w wr) (fun s2 _ _ => (intOf s2).toNat)
  case atStart => exact ⟨0, n, vl, Nat.zero_le _, by simp, rfl, rfl, O2.out, L2.out, A2.out, B2.out⟩
  case round =>
    clear O2 L2 A2 B2
    obtain ⟨j, k, vl, hj, hkn, rfl, rfl, ho, hl, hap, hb⟩ := hrel
    have HKN := hid hkn
    have hk1 : -9223372036854775808 ≤ k ∧ k ≤ 9223372036854775807 := by omega
    have HK1 := hid hk1
    clear hk1
    obtain ⟨c, hc⟩ : ∃ c, c = p2 + j := ⟨_, rfl⟩
    rw [← hc] at ho
    have hlast := ho.last
    rw [← HQ.out] at hlast
    obtain ⟨g', cap', hv', g1, g2', g3', g4, g5, g6, g7, g8⟩ := hlast
    simp only [Value.slice.injEq, Option.some.injEq, Addr.mk.injEq] at hv'
    obtain ⟨⟨rfl, hx1⟩, hx2, rfl⟩ := hv'
    clear hx1 hx2 g2'
    have hcc : c ≤ 300 := by omega
    have hpp : p1 ≤ 128 := by omega
    have hej : ((e0 + j : Nat) : Int) = (p1 : Int) + c := by have := HE0.out; omega
    have hin := left_in E F e0 j
    rw [hej] at hin
    have hnl := norm_len (leftB E F e0 j)
    have hnb := norm_bd (leftB E F e0 j)
    have hbd : Below wr.heap.size wr wr.drew := (Upds.drew (F := fun _ => False) wr).below (Nat.le_refl _) (fun _ h => h.elim)
    have HLA2 := hid (OwnRuns.at hl hnb)
    have HIN2 : ∀ W, Loop w g N cap p1 c (up l) vl (norm (leftB E F e0 j)) W → Hid (Calls Try.prog 28 #[vl, .int .i64 ((p1 : Int) + c)] W (Answers (FirstAt (seqI (norm (leftB E F e0 j))) ((p1 : Int) + c)).2 W)) := fun W hW => in_any vl _ hnl ((p1 : Int) + c) (by omega) W (OwnRuns.at hW.2.1 hnb)
    rw [hin] at HIN2
    have HO := hid ho
    have HL := hid hl
    have HAP := hid hap
    have HB := hid hb
    have HBD := hid hbd
    have HC := hid hc
    have HNL := hid hnl
    have HEJ := hid hej
    clear ho hl hap hb hc hin hnl hnb hbd g7 g8 hej
    by_cases hjm : j < m
    · have hm6 := M6.out j hjm
      rw [decide_eq_true hm6.1, hm6.2] at HIN2
      have HM6 := hid hm6.1
      have d1 : decide (0 < k) = true := by simp; omega
      clear hkn
      clear hm6
      have HS0 : Hid (Loop w g N cap p1 c (up l) vl (norm (leftB E F e0 j)) wr) := ⟨HO.out, HL.out, HB.out⟩
      have x1 : (0 : Int) ≤ (q : Int) := by omega
      have x2 : (q : Int) < (N : Int) := by omega
      have HI3 : Hid (∀ W, Loop w g N cap p1 c (up l) vl (norm (leftB E F e0 j)) W → Calls Try.prog 28 #[vl, .int .i64 ((p1 : Int) + c)] W (Answers (true && true) W)) := fun W hW => (HIN2 W hW).out
      have hw9 : IntKind.i64.wrap ((p1 : Int) + (c : Int)) = (p1 : Int) + c := IntWalk.i64_in _ (by omega)
      have HH := hid (And.intro hn1 (And.intro hn2 (And.intro m2 (And.intro m8 (And.intro hp (And.intro hp2 (And.intro hm128 (And.intro hj (And.intro hsz (And.intro hE (And.intro hF (And.intro hE4 (And.intro hjm (And.intro hcc hpp))))))))))))))
      have HG3 := hid g3'
      clear HIN2 hn1 hn2 g3' m2 m8 hp hp2 hm128 hj hsz hE hF hE4 hjm g2 hcc hpp
      go_upto_region 6 with fail
      go_region_held3 (fun W => W.cell? ⟨g, q * 2, none⟩ = some (.int .i64 (p1 : Int)) ∧ W.cell? ⟨g, q * 2 + 1, none⟩ = some (.int .i64 (c : Int)) ∧ Loop w g N cap p1 c (up l) vl (norm (leftB E F e0 j)) W)
        (first | assumption | exact Loop.cells HQ.out (Loop.drew HS0.out) | exact Loop.step (w := w) HQ.out (by assumption) hb6)
        (first
        | (go_at_call 28; refine (HI3.out _ ?_).mono ?_; exact Loop.of (q := q) (by assumption); rintro x w6 ⟨rfl, hb6⟩))
      rename_i hh
      obtain ⟨y0, y1, hh⟩ := hh
      have H6 := hid hh
      have hlt6 := World.block_lt_of_cell? w6 ⟨g, q * 2, none⟩ y0
      clear hh HS0 HI3 HO HL HB HBD HLA2 g1 g4 g5 g6
      obtain ⟨e7, he7⟩ : ∃ e, e = w6.heap.size := ⟨_, rfl⟩
      obtain ⟨w7, hw7⟩ : ∃ w7, w7 = (w6.alloc (.cells #[.int .i64 ((p1 : Int) + c), .int .i64 1] 47)).drew := ⟨_, rfl⟩
      have hb7 : Below w6.heap.size w6 w7 := by rw [hw7]; exact ((Below.refl _ _).alloc (Nat.le_refl _) _).drew
      have H7 := hid (H6.out.below hb7)
      have hnew : RunsAt w7 (.slice (some ⟨e7, 0, none⟩) 1 1) [((p1 : Int) + c, 1)] := by
        rw [hw7, he7]
        refine RunsAt.below (nx_at w6 ((p1 : Int) + c) 1 (by have := HH.out; omega) (by omega)) ((Upds.drew (F := fun _ => False) (w6.alloc (.cells #[.int .i64 ((p1 : Int) + c), .int .i64 1] 47))).below (Nat.le_refl _) (fun _ h => h.elim)) (Nat.le_refl _)
      have HMI := hid (refMinus_any vl (.slice (some ⟨e7, 0, none⟩) 1 1) (norm (leftB E F e0 j)) [((p1 : Int) + c, 1)] HNL.out (by simp) w7 (OwnRuns.at H7.out.2.1 (norm_bd _)) hnew)
      have hln := left_next E F e0 j HM6.out
      rw [HEJ.out] at hln
      rw [hln] at HMI
      have HW7 := hid hw7
      have HE7 := hid he7
      clear hw7 he7 hb7 hnew hln
      go_upto_region 7 with fail
      first
      | go_region_law (rw [← HW7.out, ← HE7.out]; go_simp; go_at_call 74; refine HMI.out.mono ?_; rintro e w8 ⟨v8, rfl, a1, a2, hb8⟩; have L8 := hid a1; have A8 := hid a2; have HB8 := hid hb8; clear a1 a2 hb8; dsimp only)
      | fail
      all_goals
        have H8 := hid (H7.out.below HB8.out)
        obtain ⟨g', cap', hv', q1, q2, q3, q4, q5, q6, q7, q8⟩ := H8.out.1.last
        rw [← HQ.out] at q4 q5 q6 q7
        simp only [Value.slice.injEq, Option.some.injEq, Addr.mk.injEq] at hv'
        obtain ⟨⟨rfl, hx1⟩, hx2, rfl⟩ := hv'
        clear hx1 hx2 q2 q8
        have Q7 := hid (q7 ((c : Int) + 1))
        have Q3 := hid q3
        have hcb : c ≤ 300 := by have := HH.out; omega
        have hgn : w.heap.size ≤ g := F1.out
        clear q7 q3 q4
        go_upto_region 9 with fail
        have hO9 := Q7.out
        have hap9 : ∀ b, Value.home v8 b → b ≠ g := fun b hb => by have h1 := A8.out b hb; have h2 := World.block_lt_of_cell? w6 ⟨g, q * 2, none⟩ y0; have h3 := H7.out.2.2.size; have h4 : w6.heap.size ≤ w7.heap.size := (by rw [HW7.out]; first | (simp; done) | (simp; omega)); have h5 : g < w6.heap.size := h2; omega
        have hL9 := OwnRuns.upd L8.out (Upds.set1 w8 g (q * 2 + 1) (.int .i64 ((c : Int) + 1))) hap9
        have hB9 : Below w.heap.size w (w8.setCell ⟨g, q * 2 + 1, none⟩ (.int .i64 ((c : Int) + 1))) := H8.out.2.2.setCell (by show _ ≤ g; exact hgn) _
        have HO9 := hid hO9
        have HAP9 := hid hap9
        have HL9 := hid hL9
        have HB9 := hid hB9
        have hkk : -9223372036854775808 ≤ k - 1 ∧ k - 1 ≤ 9223372036854775807 := by have h1 := HH.out; have h2 := HKN.out; omega
        clear hO9 hap9 hL9 hB9
        go_wp2_with fail
        go_roundw
        case rel =>
          have hh := HH.out
          have hkn := HKN.out
          have hc1 : ((p2 + (j + 1) : Nat) : Int) = (c : Int) + 1 := by have := HC.out; omega
          exact ⟨j + 1, k - 1, v8, by omega, by omega, rfl, rfl, by rw [hc1]; exact HO9.out, HL9.out, HAP9.out, HB9.out⟩
        case measure =>
          have hh := HH.out
          have hkn := HKN.out
          simp [intOf]
          omega
    · obtain rfl : j = m := by omega
      have hcm : (((p2 + j : Nat) : Int)) = (c : Int) := by have := HC.out; omega
      have hR0 := HR.out
      have hJ2 := HNJ.out
      rw [hcm] at hJ2
      have hlJ : J2.length = N := by rw [hJ2, List.length_append, ← HQ.out]; have := HN.out; simp; omega
      rw [hlJ] at hR0
      have HR0 := hid hR0
      have HJ2 := hid hJ2
      have HLJ := hid hlJ
      clear hcm hR0 hJ2 hlJ
      by_cases hk0 : k = 0
      · have d1 : decide (0 < k) = false := by simp; omega
        have d2 : (k == 0) = true := by simpa using hk0
        have hR2 : R = (J2, 0) := by rw [HR0.out, if_pos (by omega)]
        have HR2 := hid hR2
        clear hR2 hkn HIN2
        have HH := hid (And.intro hn1 (And.intro hn2 (And.intro m2 (And.intro m8 (And.intro hp (And.intro hp2 (And.intro hm128 (And.intro hj (And.intro hsz (And.intro hE (And.intro hF (And.intro hE4 (And.intro hcc hpp)))))))))))))
        clear hn1 hn2 g3' m2 m8 hp hp2 hm128 hj hsz hE hF hE4 hjm g2 hcc hpp hk0
        go_wp2_with fail
        go_quiet (fail)
        go_wp2_with fail
        go_ret2
        rw [HR2.out]
        refine ⟨_, rfl, ?_, ?_, below_drewN HB.out _⟩
        · rw [show (J2, (0 : Int)).1 = J2 from rfl, HJ2.out]
          exact OwnRuns.upd (F := fun _ => False) HO.out (Upds.drewN _ _) (fun _ _ h => h)
        · exact F1g.out
      · have d1 : decide (0 < k) = true := by simp; omega
        have d2 : (k == 0) = false := by simpa using hk0
        have hR2 : R = if (AllocAns (minusI F J2) k (16 - (N : Int))).2 = 0 then (joinI (J2 ++ (AllocAns (minusI F J2) k (16 - (N : Int))).1), 0) else ([], 14) := by
          rw [HR0.out, if_neg (by omega), hkn]
        have hfalse : (decide (e0 + j < 128) && (inB F (e0 + j) && !inB E (e0 + j))) = false := by
          by_cases h128 : e0 + j < 128
          · rw [M7.out (by omega) h128]; simp
          · rw [decide_eq_false h128]; rfl
        rw [hfalse] at HIN2
        have hAf := alloc_fine (minusI F J2) k (16 - (N : Int))
        obtain ⟨Z, hZ⟩ : ∃ Z, Z = AllocAns (minusI F J2) k (16 - (N : Int)) := ⟨_, rfl⟩
        rw [← hZ] at hAf hR2
        have HZ := hid hZ
        obtain ⟨zl, ze⟩ := Z
        simp only at hAf hR2
        have HAF := hid hAf
        have HR2 := hid hR2
        have HS0 : Hid (Loop w g N cap p1 c (up l) vl (norm (leftB E F e0 j)) wr) := ⟨HO.out, HL.out, HB.out⟩
        have x1 : (0 : Int) ≤ (q : Int) := by omega
        have x2 : (q : Int) < (N : Int) := by omega
        have HI3 : Hid (∀ W, Loop w g N cap p1 c (up l) vl (norm (leftB E F e0 j)) W → Calls Try.prog 28 #[vl, .int .i64 ((p1 : Int) + c)] W (Answers false W)) := fun W hW => (HIN2 W hW).out
        have hw9 : IntKind.i64.wrap ((p1 : Int) + (c : Int)) = (p1 : Int) + c := IntWalk.i64_in _ (by omega)
        have HH := hid (And.intro hn1 (And.intro hn2 (And.intro m2 (And.intro m8 (And.intro hp (And.intro hp2 (And.intro hm128 (And.intro hj (And.intro hsz (And.intro hE (And.intro hF (And.intro hE4 (And.intro hcc hpp)))))))))))))
        clear HIN2 hn1 hn2 g3' m2 m8 hp hp2 hm128 hj hsz hE hF hE4 hjm g2 hcc hpp hk0 hkn hZ hR2 hAf hfalse HR0
        go_upto_region 6 with fail
        go_region_held3 (fun W => W.cell? ⟨g, q * 2, none⟩ = some (.int .i64 (p1 : Int)) ∧ W.cell? ⟨g, q * 2 + 1, none⟩ = some (.int .i64 (c : Int)) ∧ Loop w g N cap p1 c (up l) vl (norm (leftB E F e0 j)) W)
          (first | assumption | exact Loop.cells HQ.out (Loop.drew HS0.out) | exact Loop.step (w := w) HQ.out (by assumption) hb6)
          (first
          | (go_at_call 28; refine (HI3.out _ ?_).mono ?_; exact Loop.of (q := q) (by assumption); rintro x w6 ⟨rfl, hb6⟩))
        rename_i hh
        obtain ⟨y0, y1, hh⟩ := hh
        have H6 := hid hh
        clear hh HS0 HI3 HO HL HB HBD HLA2 g1 g4 g5 g6 y0 y1
        have hkk : -9223372036854775808 ≤ k ∧ k ≤ 9223372036854775807 := by have h1 := HH.out; have h2 := HKN.out; omega
        have HKK := hid hkk
        clear hkk
        go_wp2_with fail
        have HAL := hid (refAllocate_any vl (norm (leftB E F e0 j)) HNL.out k (16 - (N : Int)) HKK.out (by omega) w6 (OwnRuns.at H6.out.2.1 (norm_bd _)))
        rw [HLA.out, ← HZ.out] at HAL
        refine HAL.out.mono ?_
        clear HAL
        rintro e w9 ⟨va, rfl, a1, a2, hb⟩
        have Z9 := hid (OwnRuns.at a1 HAF.out.2)
        have H9 := hid (H6.out.below hb)
        clear a1 a2 hb
        simp only []
        by_cases hze : ze = 0
        · have hR3 : R = (joinI (J2 ++ zl), 0) := by rw [HR2.out, if_pos hze]
          have HR3 := hid hR3
          have hd4 : (ze != 0) = false := by simpa using hze
          clear hR3 HR2 hze
          have O9 : Hid (OwnRuns w9 (.slice (some ⟨g, 0, none⟩) N cap) J2) := by show OwnRuns _ _ _; rw [HJ2.out]; exact H9.out.1
          go_upto_region 15 with fail
          go_wp2_with (at_builtin; refine wpList_append_runs (by rfl) (.tmp 84) (.tmp 85) rfl (.slice (some ⟨g, 0, none⟩) N cap) J2 rfl O9.out va zl rfl Z9.out (by rw [HLJ.out]; omega) (by have := HAF.out.1; omega) ?_; intro v10 w10 h1 h2 h3)
          have F10 : Hid (Fresh w v10) := fun k hk => (h3.out k hk).elim (F1g.out k) (fun h => Nat.le_trans H9.out.2.2.size h)
          have B10 := hid (H9.out.2.2.trans (h2.out.below H9.out.2.2.size (fun k hk => F1g.out k hk)))
          have A10 := hid (OwnRuns.at h1.out (Bd.append HJ2B.out HAF.out.2))
          clear h1 h2 h3
          refine (refJoin_any v10 (J2 ++ zl) (by rw [List.length_append, HLJ.out]; have := HAF.out.1; omega) w10 A10.out).mono ?_
          rintro e w11 ⟨vr, rfl, a1, a2, hb⟩
          have O11 : Hid (OwnRuns w11 vr (joinI (J2 ++ zl))) := a1
          have F11 : Hid (Fresh w vr) := fun k hk => Nat.le_trans B10.out.size (a2 k hk)
          have B11 := hid (B10.out.trans (hb.mono B10.out.size))
          clear a1 a2 hb
          go_wp2_with fail
          go_ret2
          rw [HR3.out]
          exact ⟨_, rfl, O11.out, F11.out, B11.out⟩
        · have hR3 : R = ([], 14) := by rw [HR2.out, if_neg hze]
          have HR3 := hid hR3
          have hd4 : (ze != 0) = true := by simpa using hze
          clear hR3 HR2 hze
          go_wp2_with fail
          go_ret2
          rw [HR3.out]
          exact ⟨_, rfl, OwnRuns.nil _, Fresh.nil _, H9.out.2.2⟩
end Go.Proofs.Ytfdmieeldiljlaa
