import Derived.Test.YtpcigmjbjcgdbaaExtR6
import Derived.Test.YtpcigmjbjcgdbaaExtT6
/-! The specification: Cut. -/
namespace Go.Proofs.Ytpcigmjbjcgdbaa
open Go.Lib Go.ChangeShapes Go.WideShapes Go.ChangeAt Go.RowKit

theorem Bd.snoc {l : List (Int × Int)} (h : Bd l) (a b : Int) (ha : 0 ≤ a ∧ a ≤ 1000) (hb : 0 ≤ b ∧ b ≤ 1000) : Bd (l ++ [(a, b)]) := by
  intro r hr
  rw [List.mem_append, List.mem_singleton] at hr
  rcases hr with hr | rfl
  · exact h r hr
  · simp only; omega
theorem seqI_snoc (l : List (Int × Int)) (a b : Int) (f c : Nat) (ha : a = f) (hb : b = c) (h : f + c ≤ 128) : seqI (l ++ [(a, b)]) = seqI l ++ tracks (f, c) := by
  rw [seqI_append, seqI_one, ha, hb, ex_nat f c h]
/-- one of the two lists that Cut collects -/
def Half (w wr : World) (u : Value) (la : List (Int × Int)) (s : List Nat) (k : Nat) : Prop := OwnRuns wr u la ∧ Bd la ∧ seqI la = s ∧ la.length = k ∧ Fresh w u
theorem Half.own {w wr : World} {u : Value} {la : List (Int × Int)} {s : List Nat} {k : Nat} (h : Half w wr u la s k) : SliceIs wr 47 2 u k (runCells la) := by
  have := h.1
  unfold OwnRuns at this
  rw [h.2.2.2.1] at this
  exact this
theorem Half.upd {w wr w' : World} {u : Value} {la : List (Int × Int)} {s : List Nat} {k : Nat} (h : Half w wr u la s k) {F : Nat → Prop} (hu : Upds F wr w') (hF : ∀ b, Value.home u b → ¬ F b) : Half w w' u la s k :=
  ⟨h.1.upd hu hF, h.2⟩
theorem Half.next {w wr w8 : World} {u v : Value} {la : List (Int × Int)} {s : List Nat} {k : Nat} (h : Half w wr u la s k) {a b : Int} (h2 : SliceIs w8 47 2 v (k + 1) (runCells la ++ [.int .i64 a, .int .i64 b])) (f c : Nat) (ha : a = f) (hb : b = c) (hfc : f + c ≤ 128) {g : Nat} (hg : w.heap.size ≤ g) (hh : ∀ k, Value.home v k → Value.home u k ∨ g ≤ k) :
    Half w w8 v (la ++ [(a, b)]) (s ++ tracks (f, c)) (k + 1) :=
  ⟨OwnRuns.more (r := (a, b)) h.2.2.2.1 rfl h2, Bd.snoc h.2.1 a b (by omega) (by omega), by rw [seqI_snoc la a b f c ha hb hfc, h.2.2.1], by simp [h.2.2.2.1], fun k hk => (hh k hk).elim (h.2.2.2.2 k) (Nat.le_trans hg)⟩
set_option maxRecDepth 100000 in
set_option maxHeartbeats 2000000 in
theorem refCut_any (v : Value) (l : List (Int × Int)) (hl : l.length ≤ 4000) (t : Int) (ht : -9223372036854775808 ≤ t ∧ t ≤ 9223372036854775807) (w : World) (hs : RunsAt w v l) :
    Calls Try.prog 38 #[v, .int .i64 t] w (CutMade w (up (canon ((seqI l).take t.toNat))) (up (canon ((seqI l).drop t.toNat)))) := by
  obtain ⟨A, cap, rfl, hcap, hcap2⟩ := hs.shape
  obtain ⟨n, hn⟩ : ∃ n, n = l.length := ⟨_, rfl⟩
  rw [← hn] at hs hcap hl ⊢
  have HS := hid hs
  have HN := hid hn
  obtain ⟨ht1, ht2⟩ := ht
  clear hs hn
  obtain ⟨N, hN⟩ : ∃ N, N = t.toNat := ⟨_, rfl⟩
  rw [← hN]
  have HNN := hid hN
  clear hN
  go_enter Try.func38, Try.ntmps38
  go_wp2_with fail
  go_loopw [1, 6, 7, 8] (fun z s1 s2 i wr => ∃ (k : Nat) (q : Int) (u1 u2 : Value) (la lb : List (Int × Int)), k ≤ n ∧ i = .int .i64 k ∧ z = .int .i64 q ∧ (q.toNat = N - (seqI (l.take k)).length ∧ -9223372036854775808 ≤ q ∧ q ≤ 9223372036854775807) ∧ u1 = s1 ∧ u2 = s2 ∧ Half w wr u1 la ((seqI (l.take k)).take N) k ∧ Half w wr u2 lb ((seqI (l.take k)).drop N) k ∧ Apart u1 u2 ∧ Below w.heap.size w wr) (fun _ _ _ i _ => n - (intOf i).toNat)
  case atStart =>
    have hN := HNN.out
    have h0 : ∀ b, ∀ B, Value.home (.slice (some b) 0 0) B → False := fun b B hb => by
      obtain ⟨_, _, _, e, h0, _⟩ := hb; simp only [Value.slice.injEq] at e; omega
    exact ⟨0, t, _, _, [], [], by omega, rfl, rfl, ⟨by simp [seqI_nil]; omega, ht1, ht2⟩, rfl, rfl, ⟨.inl ⟨_, rfl, rfl, rfl⟩, (fun r h => by cases h), by simp [seqI_nil], rfl, fun k hk => (h0 _ _ hk).elim⟩, ⟨.inl ⟨_, rfl, rfl, rfl⟩, (fun r h => by cases h), by simp [seqI_nil], rfl, fun k hk => (h0 _ _ hk).elim⟩, (fun b hb => (h0 _ _ hb).elim), ((Below.refl _ _).alloc (Nat.le_refl _) _).alloc (by simp) _⟩
  case round =>
    obtain ⟨k, q, u1, u2, la, lb, hk, rfl, rfl, hq, rfl, rfl, ho1, ho2, hap, hb⟩ := hrel
    have HB := hid hb
    have HO1 := hid ho1
    have HO2 := hid ho2
    have HAP := hid hap
    by_cases hlt : k < n
    · have hk2 : k < l.length := by rw [← HN.out]; exact hlt
      obtain ⟨b, off, rfl, hlb, c1, c2, hbd⟩ := (HS.out.below hb (Nat.le_refl _)).round hk2
      obtain ⟨r, hr⟩ : ∃ r, r = l[k] := ⟨_, rfl⟩
      rw [← hr] at c1 c2 hbd
      obtain ⟨f, c⟩ := r
      simp only at c1 c2 hbd
      have hx := ex_le (f, c)
      have hstep := seqI_take_succ l k hk2
      have hstepn := seqI_len_take l k hk2
      rw [← hr] at hstep hstepn
      obtain ⟨x, hxx⟩ : ∃ x, x = ex (f, c) := ⟨_, rfl⟩
      rw [← hxx] at hstep hx hstepn
      obtain ⟨F, C⟩ := x
      obtain ⟨K, hK⟩ : ∃ K, K = min C q.toNat := ⟨_, rfl⟩
      have hcs := cut_step (seqI (l.take k)) F C N K (by omega)
      rw [← hstep] at hcs
      have HCS := hid hcs
      have HXX := hid hxx
      have HBD := hid hbd
      have hqs : q.toNat - K = N - (seqI (l.take (k + 1))).length := by simp only at hstepn; omega
      have HQS := hid hqs
      obtain ⟨_, hq1, hq2⟩ := hq
      simp only at hx
      have HLT1 : Hid (∀ b, Value.home u1 b → b < wr.heap.size) := SliceIs.lt ho1.1
      have HLT2 : Hid (∀ b, Value.home u2 b → b < wr.heap.size) := SliceIs.lt ho2.1
      clear hstep hxx hr hbd hb ho1 ho2 hap hcs hqs hstepn
      go_wp2_with fail
      refine (clip_any f c _ HBD.out).mono ?_
      rintro e w2 ⟨rfl, hb2⟩
      rw [← HXX.out]
      have QB := hid ((HB.out.trans (hb2.mono HB.out.size)).alloc (Nat.le_trans HB.out.size hb2.size) (.cells #[.int .i64 F, .int .i64 C] 47))
      have QR := hid (Row.new w2 [.int .i64 F, .int .i64 C] 47)
      have hnx : Upds (fun _ => False) wr (w2.alloc (.cells #[.int .i64 F, .int .i64 C] 47)) := (Upds.of_below hb2 (Nat.le_refl _)).trans (Upds.alloc _ _)
      have QO1 := hid (HO1.out.upd hnx (fun _ _ h => h))
      have QO2 := hid (HO2.out.upd hnx (fun _ _ h => h))
      have HLV : Hid (wr.heap.size ≤ w2.heap.size) := hb2.size
      clear hb2 HB HO1 HO2 c1 c2 hlb hnx
      go_upto_region 6 with fail
      obtain ⟨bv, hbv⟩ : ∃ bv, bv = w2.heap.size := ⟨_, rfl⟩
      obtain ⟨w3, hw3⟩ : ∃ w3, w3 = w2.alloc (.cells #[.int .i64 F, .int .i64 C] 47) := ⟨_, rfl⟩
      rw [← hbv, ← hw3] at QR
      rw [← hw3] at QB QO1 QO2
      rw [← hbv] at HLV
      rw [← hbv, ← hw3]
      clear hbv hw3
      have q1 := QR.out.cell (i := 0) rfl
      have q2 := QR.out.cell (i := 1) rfl
      have HK := hid hK
      clear hK
      by_cases hqz : q ≤ 0
      · have hK0 : K = 0 := by have := HK.out; omega
        subst hK0
        go_upto_region 8 with (at_builtin; refine wpList_append_slice rfl (.tmp 29) (.tmp 34) 22 rfl 47 (.agg #[.int .i64 0, .int .i64 0]) 2 16 Try.underlying22 (by kernel_rfl) (by kernel_rfl) u1 k (runCells la) rfl (SliceIs.alloc QO1.out.own _) ⟨w3.heap.size, 0, none⟩ 1 1 [.int .i64 _, .int .i64 _] rfl rfl (news2 _ _ _ _ _ rfl) (one2 _ _) (by omega) (by omega) (by omega) ?_; intro g8 cap8 w8 hs8 hu8 hh8)
        have hg3 : w.heap.size ≤ w3.heap.size := QB.out.size
        have H1 := hid (QO1.out.next hs8.out F 0 (by omega) (by omega) (by omega) (by simp only [World.size_alloc]; omega) hh8.out)
        have H2 := hid ((QO2.out.upd (F := fun _ => False) (Upds.alloc _ _) (fun _ _ h => h)).upd hu8.out (fun b hb hb1 => HAP.out b hb1 hb))
        have RV := hid ((QR.out.alloc _).upd hu8.out (fun h => by have := HLT1.out _ h; have := HLV.out; omega))
        have RB := hid ((QB.out.alloc QB.out.size _).trans (hu8.out.below (by simp only [World.size_alloc]; omega) (fun b hb => QO1.out.2.2.2.2 b hb)))
        have RA : Hid (∀ b, Value.home (.slice (some ⟨g8, 0, none⟩) (k + 1) cap8) b → ¬ Value.home u2 b) := fun b hb hb2 => (hh8.out b hb).elim (fun h => HAP.out b h hb2) (fun h => by have := HLT2.out b hb2; have := HLV.out; have := QR.out.lt; simp only [World.size_alloc] at h; omega)
        have RM : Hid (∀ b, Value.home (.slice (some ⟨g8, 0, none⟩) (k + 1) cap8) b → b < w8.heap.size) := fun b hb => SliceIs.lt hs8.out b hb
        clear q1 q2 hs8 hu8 hh8 QO1 QO2 QR QB HAP HLT1
        have q1 := RV.out.cell (i := 0) rfl
        have q2 := RV.out.cell (i := 1) rfl
        go_wp2_with (at_builtin; refine wpList_append_slice rfl (.tmp 36) (.tmp 46) 22 rfl 47 (.agg #[.int .i64 0, .int .i64 0]) 2 16 Try.underlying22 (by kernel_rfl) (by kernel_rfl) u2 k (runCells lb) rfl (SliceIs.alloc H2.out.own _) ⟨w8.heap.size, 0, none⟩ 1 1 [.int .i64 _, .int .i64 _] rfl rfl (news2 _ _ _ _ _ rfl) (one2 _ _) (by omega) (by omega) (by omega) ?_; intro g9 cap9 w9 hs9 hu9 hh9)
        have hg8 : w.heap.size ≤ w8.heap.size := RB.out.size
        go_roundw
        case rel =>
          have K2 := H2.out.next hs9.out (F + 0) (C - 0) (by omega) (by omega) (by omega) (by simp only [World.size_alloc]; omega) hh9.out
          have K1 := (H1.out.upd (F := fun _ => False) (Upds.alloc w8 _) (fun _ _ h => h)).upd hu9.out (fun b hb hb2 => RA.out b hb hb2)
          rw [← HCS.out.2] at K2
          rw [← HCS.out.1] at K1
          refine ⟨k + 1, q, _, _, _, _, by omega, by go_num, by first | rfl | (congr 1; omega), ⟨by have := HQS.out; omega, by omega, by omega⟩, rfl, rfl, K1, K2, fun b hb hb2 => (hh9.out b hb2).elim (fun h => RA.out b hb h) (fun h => by have := RM.out b hb; simp only [World.size_alloc] at h; omega), (RB.out.alloc RB.out.size _).trans (hu9.out.below (by simp only [World.size_alloc]; omega) (fun b hb => H2.out.2.2.2.2 b hb))⟩
        case measure => simp [intOf]; omega
      · by_cases hqc : q ≤ C
        · obtain ⟨K2, rfl⟩ : ∃ K2 : Nat, q = K2 := ⟨q.toNat, by omega⟩
          have hK0 : K = K2 := by have := HK.out; omega
          subst hK0
          go_upto_region 8 with (at_builtin; refine wpList_append_slice rfl (.tmp 29) (.tmp 34) 22 rfl 47 (.agg #[.int .i64 0, .int .i64 0]) 2 16 Try.underlying22 (by kernel_rfl) (by kernel_rfl) u1 k (runCells la) rfl (SliceIs.alloc QO1.out.own _) ⟨w3.heap.size, 0, none⟩ 1 1 [.int .i64 _, .int .i64 _] rfl rfl (news2 _ _ _ _ _ rfl) (one2 _ _) (by omega) (by omega) (by omega) ?_; intro g8 cap8 w8 hs8 hu8 hh8)
          have hg3 : w.heap.size ≤ w3.heap.size := QB.out.size
          have H1 := hid (QO1.out.next hs8.out F K (by omega) (by omega) (by omega) (by simp only [World.size_alloc]; omega) hh8.out)
          have H2 := hid ((QO2.out.upd (F := fun _ => False) (Upds.alloc _ _) (fun _ _ h => h)).upd hu8.out (fun b hb hb1 => HAP.out b hb1 hb))
          have RV := hid ((QR.out.alloc _).upd hu8.out (fun h => by have := HLT1.out _ h; have := HLV.out; omega))
          have RB := hid ((QB.out.alloc QB.out.size _).trans (hu8.out.below (by simp only [World.size_alloc]; omega) (fun b hb => QO1.out.2.2.2.2 b hb)))
          have RA : Hid (∀ b, Value.home (.slice (some ⟨g8, 0, none⟩) (k + 1) cap8) b → ¬ Value.home u2 b) := fun b hb hb2 => (hh8.out b hb).elim (fun h => HAP.out b h hb2) (fun h => by have := HLT2.out b hb2; have := HLV.out; have := QR.out.lt; simp only [World.size_alloc] at h; omega)
          have RM : Hid (∀ b, Value.home (.slice (some ⟨g8, 0, none⟩) (k + 1) cap8) b → b < w8.heap.size) := fun b hb => SliceIs.lt hs8.out b hb
          clear q1 q2 hs8 hu8 hh8 QO1 QO2 QR QB HAP HLT1
          have q1 := RV.out.cell (i := 0) rfl
          have q2 := RV.out.cell (i := 1) rfl
          go_wp2_with (at_builtin; refine wpList_append_slice rfl (.tmp 36) (.tmp 46) 22 rfl 47 (.agg #[.int .i64 0, .int .i64 0]) 2 16 Try.underlying22 (by kernel_rfl) (by kernel_rfl) u2 k (runCells lb) rfl (SliceIs.alloc H2.out.own _) ⟨w8.heap.size, 0, none⟩ 1 1 [.int .i64 _, .int .i64 _] rfl rfl (news2 _ _ _ _ _ rfl) (one2 _ _) (by omega) (by omega) (by omega) ?_; intro g9 cap9 w9 hs9 hu9 hh9)
          have hg8 : w.heap.size ≤ w8.heap.size := RB.out.size
          go_roundw
          case rel =>
            have K2 := H2.out.next hs9.out (F + K) (C - K) (by omega) (by omega) (by omega) (by simp only [World.size_alloc]; omega) hh9.out
            have K1 := (H1.out.upd (F := fun _ => False) (Upds.alloc w8 _) (fun _ _ h => h)).upd hu9.out (fun b hb hb2 => RA.out b hb hb2)
            rw [← HCS.out.2] at K2
            rw [← HCS.out.1] at K1
            refine ⟨k + 1, 0, _, _, _, _, by omega, by go_num, by first | rfl | (congr 1; omega), ⟨by have := HQS.out; omega, by omega, by omega⟩, rfl, rfl, K1, K2, fun b hb hb2 => (hh9.out b hb2).elim (fun h => RA.out b hb h) (fun h => by have := RM.out b hb; simp only [World.size_alloc] at h; omega), (RB.out.alloc RB.out.size _).trans (hu9.out.below (by simp only [World.size_alloc]; omega) (fun b hb => H2.out.2.2.2.2 b hb))⟩
          case measure => simp [intOf]; omega
        · have hK0 : K = C := by have := HK.out; omega
          subst hK0
          go_upto_region 8 with (at_builtin; refine wpList_append_slice rfl (.tmp 29) (.tmp 34) 22 rfl 47 (.agg #[.int .i64 0, .int .i64 0]) 2 16 Try.underlying22 (by kernel_rfl) (by kernel_rfl) u1 k (runCells la) rfl (SliceIs.alloc QO1.out.own _) ⟨w3.heap.size, 0, none⟩ 1 1 [.int .i64 _, .int .i64 _] rfl rfl (news2 _ _ _ _ _ rfl) (one2 _ _) (by omega) (by omega) (by omega) ?_; intro g8 cap8 w8 hs8 hu8 hh8)
          have hg3 : w.heap.size ≤ w3.heap.size := QB.out.size
          have H1 := hid (QO1.out.next hs8.out F K (by omega) (by omega) (by omega) (by simp only [World.size_alloc]; omega) hh8.out)
          have H2 := hid ((QO2.out.upd (F := fun _ => False) (Upds.alloc _ _) (fun _ _ h => h)).upd hu8.out (fun b hb hb1 => HAP.out b hb1 hb))
          have RV := hid ((QR.out.alloc _).upd hu8.out (fun h => by have := HLT1.out _ h; have := HLV.out; omega))
          have RB := hid ((QB.out.alloc QB.out.size _).trans (hu8.out.below (by simp only [World.size_alloc]; omega) (fun b hb => QO1.out.2.2.2.2 b hb)))
          have RA : Hid (∀ b, Value.home (.slice (some ⟨g8, 0, none⟩) (k + 1) cap8) b → ¬ Value.home u2 b) := fun b hb hb2 => (hh8.out b hb).elim (fun h => HAP.out b h hb2) (fun h => by have := HLT2.out b hb2; have := HLV.out; have := QR.out.lt; simp only [World.size_alloc] at h; omega)
          have RM : Hid (∀ b, Value.home (.slice (some ⟨g8, 0, none⟩) (k + 1) cap8) b → b < w8.heap.size) := fun b hb => SliceIs.lt hs8.out b hb
          clear q1 q2 hs8 hu8 hh8 QO1 QO2 QR QB HAP HLT1
          have q1 := RV.out.cell (i := 0) rfl
          have q2 := RV.out.cell (i := 1) rfl
          go_wp2_with (at_builtin; refine wpList_append_slice rfl (.tmp 36) (.tmp 46) 22 rfl 47 (.agg #[.int .i64 0, .int .i64 0]) 2 16 Try.underlying22 (by kernel_rfl) (by kernel_rfl) u2 k (runCells lb) rfl (SliceIs.alloc H2.out.own _) ⟨w8.heap.size, 0, none⟩ 1 1 [.int .i64 _, .int .i64 _] rfl rfl (news2 _ _ _ _ _ rfl) (one2 _ _) (by omega) (by omega) (by omega) ?_; intro g9 cap9 w9 hs9 hu9 hh9)
          have hg8 : w.heap.size ≤ w8.heap.size := RB.out.size
          go_roundw
          case rel =>
            have K2 := H2.out.next hs9.out (F + K) (K - K) (by omega) (by omega) (by omega) (by simp only [World.size_alloc]; omega) hh9.out
            have K1 := (H1.out.upd (F := fun _ => False) (Upds.alloc w8 _) (fun _ _ h => h)).upd hu9.out (fun b hb hb2 => RA.out b hb hb2)
            rw [← HCS.out.2] at K2
            rw [← HCS.out.1] at K1
            refine ⟨k + 1, q - K, _, _, _, _, by omega, by go_num, by first | rfl | (congr 1; omega), ⟨by have := HQS.out; omega, by omega, by omega⟩, rfl, rfl, K1, K2, fun b hb hb2 => (hh9.out b hb2).elim (fun h => RA.out b hb h) (fun h => by have := RM.out b hb; simp only [World.size_alloc] at h; omega), (RB.out.alloc RB.out.size _).trans (hu9.out.below (by simp only [World.size_alloc]; omega) (fun b hb => H2.out.2.2.2.2 b hb))⟩
          case measure => simp [intOf]; omega
    · obtain rfl : k = n := by omega
      have hlen : seqI (l.take k) = seqI l := by rw [HN.out, List.take_length]
      rw [hlen] at ho1 ho2
      have O1 := hid ho1
      have O2 := hid ho2
      have hlb : lb.length = k := ho2.2.2.2.1
      have hla : la.length = k := ho1.2.2.2.1
      have HLA : Hid (la.length ≤ 4000) := by show _ ≤ _; omega
      have HLB : Hid (lb.length ≤ 4000) := by show _ ≤ _; omega
      clear hlen hb ho1 ho2 hap HO1 HO2 hlb hla
      go_wp2_with fail
      refine (refJoin_any u1 la HLA.out wr (O1.out.1.at O1.out.2.1)).mono ?_
      rintro e w2 ⟨v2, rfl, h1, h2, h3⟩
      rw [O1.out.2.2.1] at h1
      have P1 := hid h1
      have PF := hid h2
      have PB := hid h3
      clear h1 h2 h3
      go_wp2_with fail
      refine (refJoin_any u2 lb HLB.out w2 ((O2.out.1.at O2.out.2.1).below PB.out (Nat.le_refl _))).mono ?_
      rintro e w3 ⟨v3, rfl, h1, h2, h3⟩
      rw [O2.out.2.2.1] at h1
      have R1 := hid h1
      have RF := hid h2
      have RB := hid h3
      clear h1 h2 h3
      go_wp2_with fail
      go_ret2
      exact ⟨_, _, rfl, P1.out.below RB.out (Nat.le_refl _), R1.out, fun b hb => Nat.le_trans HB.out.size (PF.out b hb), fun b hb => Nat.le_trans HB.out.size (Nat.le_trans PB.out.size (RF.out b hb)), fun b hb hb2 => by have := SliceIs.lt P1.out b hb; have := RF.out b hb2; omega, (HB.out.trans (PB.out.mono HB.out.size)).trans (RB.out.mono (Nat.le_trans HB.out.size PB.out.size))⟩
end Go.Proofs.Ytpcigmjbjcgdbaa
