import Derived.Test.YtpcigmjbjcgdbaaExtT5
/-! Join, Cut. -/
namespace Go.Proofs.Ytpcigmjbjcgdbaa
open Go.Lib Go.ChangeShapes Go.WideShapes Go.ChangeAt Go.RowKit

set_option maxRecDepth 100000 in
theorem join_any (v : Value) (l : List (Int × Int)) (hl : l.length ≤ 4000) (w : World) (hs : RunsAt w v l) :
    Calls Try.prog 39 #[v] w (Made w (up (canon (seqI l)))) := by
  obtain ⟨A, cap, rfl, hcap, hcap2⟩ := hs.shape
  obtain ⟨n, hn⟩ : ∃ n, n = l.length := ⟨_, rfl⟩
  rw [← hn] at hs hcap hl ⊢
  have HS := hid hs
  have HN := hid hn
  clear hs hn
  go_enter Try.func39, Try.ntmps39
  go_wp2_with fail
  go_loopw [3, 8] (fun s i wr => ∃ (k : Nat) (u : Value), k ≤ n ∧ i = .int .i64 k ∧ s = u ∧ OwnRuns wr u (up (canon (seqI (l.take k)))) ∧ Fresh w u ∧ Below w.heap.size w wr) (fun _ i _ => n - (intOf i).toNat)
  case atStart => exact ⟨0, _, by omega, rfl, rfl, OwnRuns.nil w, Fresh.nil w, Below.refl _ _⟩
  case round =>
    obtain ⟨k, u, hk, rfl, rfl, ho, hf, hb⟩ := hrel
    have HB := hid hb
    have HO := hid ho
    have HF := hid hf
    by_cases hlt : k < n
    · have hk2 : k < l.length := by rw [← HN.out]; exact hlt
      obtain ⟨b, off, rfl, hlb, c1, c2, hbd⟩ := (HS.out.below hb (Nat.le_refl _)).round hk2
      obtain ⟨r, hr⟩ : ∃ r, r = l[k] := ⟨_, rfl⟩
      rw [← hr] at c1 c2 hbd
      obtain ⟨f, c⟩ := r
      simp only at c1 c2 hbd
      have hx := ex_le (f, c)
      have hstep := seqI_take_succ l k hk2
      rw [← hr] at hstep
      have hle := canon_seqI_len l k (by omega)
      obtain ⟨x, hxx⟩ : ∃ x, x = ex (f, c) := ⟨_, rfl⟩
      rw [← hxx] at hstep hx
      obtain ⟨F, C⟩ := x
      have HST := hid hstep
      have HXX := hid hxx
      have HBD := hid hbd
      have HLE : Hid ((canon (seqI (l.take k))).length ≤ 4000) := by show _ ≤ _; omega
      simp only at hx
      clear hstep hxx hr hbd hle hb ho hf
      go_wp2_with (go_at_call 69; refine (existing_any f c _ HBD.out).mono ?_; rintro e w2 ⟨rfl, hb2⟩; rw [← HXX.out])
      have HB2 := hid (HB.out.trans ((((Below.refl _ wr).alloc (Nat.le_refl _) (.cells #[.int .i64 f, .int .i64 c] 47)).trans (hb2.mono (by simp))).mono HB.out.size))
      have HO2 := hid (HO.out.below (((Below.refl _ wr).alloc (Nat.le_refl _) (.cells #[.int .i64 f, .int .i64 c] 47)).trans (hb2.mono (by simp))) (Nat.le_refl _))
      clear hb2
      go_wp2_with (go_at_call 70; refine (add_made w _ (seqI (l.take k)) F C w2 HO2.out HF.out (seqI_lt _) hx.1 HLE.out HB2.out.size).mono ?_; rintro e w3 ⟨v3, rfl, h1, h2, h3⟩; rw [← HST.out] at h1)
      go_roundw
      case rel => exact ⟨k + 1, v3, by omega, by go_num, rfl, h1, h2, HB2.out.trans h3⟩
      case measure => simp [intOf]; omega
    · obtain rfl : k = n := by omega
      have hlen : seqI (l.take k) = seqI l := by rw [HN.out, List.take_length]
      have HL := hid hlen
      clear hlen hb ho hf
      go_wp2_with fail
      go_ret
      exact ⟨_, rfl, by rw [← HL.out]; exact HO.out, HF.out, HB.out⟩
theorem add_seqI (v : Value) (s : List Nat) (a b : Int) (f c : Nat) (ha : a = f) (hb : b = c) (w : World) (hs : OwnRuns w v (up (canon s))) (h : ∀ t ∈ s, t < 128) (hr : f + c ≤ 128) (hl : (canon s).length ≤ 4000) :
    Calls Try.prog 70 #[v, .agg #[.int .i64 a, .int .i64 b]] w (AddPost v (up (canon (s ++ tracks (f, c)))) w) := by
  subst ha hb
  exact add_seq v s f c w hs h hr hl
/-- two slices that have no block in common -/
def Apart (v1 v2 : Value) : Prop := ∀ b, Value.home v1 b → ¬ Value.home v2 b
/-- what Cut leaves -/
def CutMade (w : World) (l l2 : List (Int × Int)) (e : Ending) (w' : World) : Prop :=
  ∃ v1 v2, e = .returned (.tuple #[v1, v2]) ∧ OwnRuns w' v1 l ∧ OwnRuns w' v2 l2 ∧ Fresh w v1 ∧ Fresh w v2 ∧ Apart v1 v2 ∧ Below w.heap.size w w'
theorem take_canon_len (l : List (Int × Int)) (N : Nat) : ∀ k, k ≤ l.length → (canon ((seqI (l.take k)).take N)).length ≤ k ∧ (canon ((seqI (l.take k)).drop N)).length ≤ k := by
  intro k
  induction k with
  | zero => intro _; simp [seqI_nil, canon_nil]
  | succ k ih =>
    intro h
    rw [seqI_take_succ l k (by omega)]
    obtain ⟨h1, h2⟩ := cut_step (seqI (l.take k)) (ex l[k]).1 (ex l[k]).2 N _ rfl
    have e : tracks (ex l[k]) = tracks ((ex l[k]).1, (ex l[k]).2) := rfl
    rw [e, h1, h2, ← canon_add, ← canon_add]
    have h3 := addR_len (canon ((seqI (l.take k)).take N)) ((ex l[k]).1, min (ex l[k]).2 (N - (seqI (l.take k)).length))
    have h4 := addR_len (canon ((seqI (l.take k)).drop N)) ((ex l[k]).1 + min (ex l[k]).2 (N - (seqI (l.take k)).length), (ex l[k]).2 - min (ex l[k]).2 (N - (seqI (l.take k)).length))
    have h5 := ih (by omega)
    omega
set_option maxRecDepth 100000 in
set_option maxHeartbeats 1000000 in
theorem cut_any (v : Value) (l : List (Int × Int)) (hl : l.length ≤ 4000) (t : Int) (ht : -9223372036854775808 ≤ t ∧ t ≤ 9223372036854775807) (w : World) (hs : RunsAt w v l) :
    Calls Try.prog 37 #[v, .int .i64 t] w (CutMade w (up (canon ((seqI l).take t.toNat))) (up (canon ((seqI l).drop t.toNat)))) := by
  obtain ⟨A, cap, rfl, hcap, hcap2⟩ := hs.shape
  obtain ⟨n, hn⟩ : ∃ n, n = l.length := ⟨_, rfl⟩
  rw [← hn] at hs hcap hl ⊢
  have HS := hid hs
  have HN := hid hn
  obtain ⟨ht1, ht2⟩ := ht
  clear hs hn
  obtain ⟨N, hN⟩ : ∃ N, N = t.toNat := ⟨_, rfl⟩
  rw [← hN]
  have HNN := hid hN
  by_cases h0 : t < 0
  all_goals
    clear hN
    go_enter Try.func37, Try.ntmps37
    go_wp2_with fail
    go_loopw [6, 7, 8, 16] (fun s1 s2 z i wr => ∃ (k L : Nat) (u1 u2 : Value), k ≤ n ∧ i = .int .i64 k ∧ z = .int .i64 L ∧ L = N - (seqI (l.take k)).length ∧ u1 = s1 ∧ u2 = s2 ∧ OwnRuns wr u1 (up (canon ((seqI (l.take k)).take N))) ∧ OwnRuns wr u2 (up (canon ((seqI (l.take k)).drop N))) ∧ Fresh w u1 ∧ Fresh w u2 ∧ Apart u1 u2 ∧ Below w.heap.size w wr) (fun _ _ _ i _ => n - (intOf i).toNat)
    case atStart =>
      have hN := HNN.out
      exact ⟨0, N, _, _, by omega, rfl, by first | (have e : (N : Int) = 0 := by omega); rw [e] | (have e : (N : Int) = t := by omega); rw [e], by simp [seqI_nil], rfl, rfl, by simp [seqI_nil, canon_nil]; exact OwnRuns.nil w, by simp [seqI_nil, canon_nil]; exact OwnRuns.nil w, Fresh.nil w, Fresh.nil w, (fun b hb => by obtain ⟨_, _, _, e, _⟩ := hb; cases e), Below.refl _ _⟩
    case round =>
      obtain ⟨k, L, u1, u2, hk, rfl, rfl, hL, rfl, rfl, ho1, ho2, hf1, hf2, hap, hb⟩ := hrel
      have HB := hid hb
      have HO1 := hid ho1
      have HO2 := hid ho2
      have HF1 := hid hf1
      have HF2 := hid hf2
      have HAP := hid hap
      have HL := hid hL
      have hLN : L ≤ N := by omega
      have hN2 : N ≤ 9223372036854775807 := by have := HNN.out; omega
      by_cases hlt : k < n
      · have hk2 : k < l.length := by rw [← HN.out]; exact hlt
        obtain ⟨b, off, rfl, hlb, c1, c2, hbd⟩ := (HS.out.below hb (Nat.le_refl _)).round hk2
        obtain ⟨r, hr⟩ : ∃ r, r = l[k] := ⟨_, rfl⟩
        rw [← hr] at c1 c2 hbd
        obtain ⟨f, c⟩ := r
        simp only at c1 c2 hbd
        have hx := ex_le (f, c)
        have hstep := seqI_take_succ l k hk2
        have hstepn := seqI_len_take l k hk2
        rw [← hr] at hstep hstepn
        have hle := take_canon_len l N k (by omega)
        obtain ⟨x, hxx⟩ : ∃ x, x = ex (f, c) := ⟨_, rfl⟩
        rw [← hxx] at hstep hx hstepn
        obtain ⟨F, C⟩ := x
        obtain ⟨K, hK⟩ : ∃ K, K = min C L := ⟨_, rfl⟩
        have hcs := cut_step (seqI (l.take k)) F C N K (by omega)
        rw [← hstep] at hcs
        have HCS := hid hcs
        have HXX := hid hxx
        have HBD := hid hbd
        have HLE1 : Hid ((canon ((seqI (l.take k)).take N)).length ≤ 4000) := by show _ ≤ _; omega
        have HLE2 : Hid ((canon ((seqI (l.take k)).drop N)).length ≤ 4000) := by show _ ≤ _; omega
        have HLS : Hid (L - K = N - (seqI (l.take (k + 1))).length) := by show _ = _; simp only at hstepn; omega
        simp only at hx
        have hlt1 : ∀ b, Value.home u1 b → b < wr.heap.size := SliceIs.lt ho1
        have hlt2 : ∀ b, Value.home u2 b → b < wr.heap.size := SliceIs.lt ho2
        have HLT1 := hid hlt1
        have HLT2 := hid hlt2
        have HK := hid hK
        have hKC : K ≤ C := by omega
        have hKL : K ≤ L := by omega
        clear hstep hxx hr hbd hle hb ho1 ho2 hf1 hf2 hap hL hcs hlt1 hlt2 hstepn
        by_cases hcz : C ≤ L
        · obtain rfl : K = C := by omega
          clear hK
          go_upto_region 9 with (go_at_call 69; refine (existing_any f c _ HBD.out).mono ?_; rintro e w2 ⟨rfl, hb2⟩; rw [← HXX.out]; obtain ⟨y0, y1, y2, y3, y4⟩ := box_keep hb2)
          have hbb : Below wr.heap.size wr w2 := ((Below.refl _ wr).alloc (Nat.le_refl _) (.cells #[.int .i64 f, .int .i64 c] 47)).trans (hb2.mono (by simp))
          have hbv := box_row hb2 (.int .i64 F) (.int .i64 K)
          have hb3 : Below wr.heap.size wr ((w2.setCell ⟨wr.heap.size, 0, none⟩ (.int .i64 F)).setCell ⟨wr.heap.size, 1, none⟩ (.int .i64 K)) := (hbb.setCell (by simp) _).setCell (by simp) _
          obtain ⟨bv, hbve⟩ : ∃ bv, bv = wr.heap.size := ⟨_, rfl⟩
          obtain ⟨w3, hw3⟩ : ∃ w3, w3 = (w2.setCell ⟨wr.heap.size, 0, none⟩ (.int .i64 F)).setCell ⟨wr.heap.size, 1, none⟩ (.int .i64 K) := ⟨_, rfl⟩
          rw [← hw3] at hbv hb3 ⊢
          rw [← hbve] at hbv ⊢
          have P1 := hid (HO1.out.below hb3 (Nat.le_refl _))
          have P2 := hid (HO2.out.below hb3 (Nat.le_refl _))
          have PB := hid (HB.out.trans (hb3.mono HB.out.size))
          have PV := hid hbv
          have q0 := hbv.cell (i := 0) rfl
          have q1 := hbv.cell (i := 1) rfl
          have HSZ : Hid (wr.heap.size ≤ w3.heap.size) := hb3.size
          have HVE := hid hbve
          clear hb2 hbb hbv hb3 hbve hw3 y0 y1 y2 y3 y4
          go_upto_region 10 with (go_at_call 70; refine (add_seqI u1 ((seqI (l.take k)).take N) _ _ F K rfl rfl _ P1.out (fun t ht => seqI_lt _ t (List.mem_of_mem_take ht)) (by omega) HLE1.out).mono ?_; rintro e w4 ⟨v4, rfl, h1, h2, h3⟩; rw [← HCS.out.1] at h1)
          have R2 := hid (P2.out.upd h2 (fun b hb hb1 => HAP.out b hb1 hb))
          have RV := hid (PV.out.upd h2 (fun h => by have := HLT1.out _ h; have := HVE.out; omega))
          have RB := hid (PB.out.trans (h2.below PB.out.size (fun k hk => HF1.out k hk)))
          have R1 := hid h1
          have RF : Hid (Fresh w v4) := fun k hk => (h3 k hk).elim (HF1.out k) (fun h => Nat.le_trans PB.out.size h)
          have RA : Hid (Apart v4 u2) := fun b hb hb2 => (h3 b hb).elim (fun h => HAP.out b h hb2) (fun h => by have := HLT2.out b hb2; have := HSZ.out; omega)
          have RL : Hid (∀ b, Value.home u2 b → b < w4.heap.size) := fun b hb => SliceIs.lt R2.out b hb
          have RM : Hid (∀ b, Value.home v4 b → b < w4.heap.size) := fun b hb => SliceIs.lt R1.out b hb
          have q2 := RV.out.cell (i := 0) rfl
          have q3 := RV.out.cell (i := 1) rfl
          clear h1 h2 h3 q0 q1
          go_wp2_with (go_at_call 70; refine (add_seqI u2 ((seqI (l.take k)).drop N) _ _ (F + K) (K - K) (by omega) (by omega) _ R2.out (fun t ht => seqI_lt _ t (List.mem_of_mem_drop ht)) (by omega) HLE2.out).mono ?_; rintro e w5 ⟨v5, rfl, h1, h2, h3⟩; rw [← HCS.out.2] at h1)
          go_roundw
          case rel => exact ⟨k + 1, L - K, v4, v5, by omega, by go_num, by rw [Int.natCast_sub hKL], HLS.out, rfl, rfl, R1.out.upd h2 (fun b hb hb2 => RA.out b hb hb2), h1, RF.out, (fun k hk => (h3 k hk).elim (HF2.out k) (fun h => Nat.le_trans RB.out.size h)), (fun b hb hb2 => (h3 b hb2).elim (fun h => RA.out b hb h) (fun h => by have := RM.out b hb; omega)), RB.out.trans (h2.below RB.out.size (fun k hk => HF2.out k hk))⟩
          case measure => simp [intOf]; omega
        · obtain rfl : K = L := by omega
          clear hK
          go_upto_region 9 with (go_at_call 69; refine (existing_any f c _ HBD.out).mono ?_; rintro e w2 ⟨rfl, hb2⟩; rw [← HXX.out]; obtain ⟨y0, y1, y2, y3, y4⟩ := box_keep hb2)
          have hbb : Below wr.heap.size wr w2 := ((Below.refl _ wr).alloc (Nat.le_refl _) (.cells #[.int .i64 f, .int .i64 c] 47)).trans (hb2.mono (by simp))
          have hbv := box_row hb2 (.int .i64 F) (.int .i64 C)
          have hb3 : Below wr.heap.size wr ((w2.setCell ⟨wr.heap.size, 0, none⟩ (.int .i64 F)).setCell ⟨wr.heap.size, 1, none⟩ (.int .i64 C)) := (hbb.setCell (by simp) _).setCell (by simp) _
          obtain ⟨bv, hbve⟩ : ∃ bv, bv = wr.heap.size := ⟨_, rfl⟩
          obtain ⟨w3, hw3⟩ : ∃ w3, w3 = (w2.setCell ⟨wr.heap.size, 0, none⟩ (.int .i64 F)).setCell ⟨wr.heap.size, 1, none⟩ (.int .i64 C) := ⟨_, rfl⟩
          rw [← hw3] at hbv hb3 ⊢
          rw [← hbve] at hbv ⊢
          have P1 := hid (HO1.out.below hb3 (Nat.le_refl _))
          have P2 := hid (HO2.out.below hb3 (Nat.le_refl _))
          have PB := hid (HB.out.trans (hb3.mono HB.out.size))
          have PV := hid hbv
          have q0 := hbv.cell (i := 0) rfl
          have q1 := hbv.cell (i := 1) rfl
          have HSZ : Hid (wr.heap.size ≤ w3.heap.size) := hb3.size
          have HVE := hid hbve
          clear hb2 hbb hbv hb3 hbve hw3 y0 y1 y2 y3 y4
          go_upto_region 10 with (go_at_call 70; refine (add_seqI u1 ((seqI (l.take k)).take N) _ _ F K rfl rfl _ P1.out (fun t ht => seqI_lt _ t (List.mem_of_mem_take ht)) (by omega) HLE1.out).mono ?_; rintro e w4 ⟨v4, rfl, h1, h2, h3⟩; rw [← HCS.out.1] at h1)
          have R2 := hid (P2.out.upd h2 (fun b hb hb1 => HAP.out b hb1 hb))
          have RV := hid (PV.out.upd h2 (fun h => by have := HLT1.out _ h; have := HVE.out; omega))
          have RB := hid (PB.out.trans (h2.below PB.out.size (fun k hk => HF1.out k hk)))
          have R1 := hid h1
          have RF : Hid (Fresh w v4) := fun k hk => (h3 k hk).elim (HF1.out k) (fun h => Nat.le_trans PB.out.size h)
          have RA : Hid (Apart v4 u2) := fun b hb hb2 => (h3 b hb).elim (fun h => HAP.out b h hb2) (fun h => by have := HLT2.out b hb2; have := HSZ.out; omega)
          have RL : Hid (∀ b, Value.home u2 b → b < w4.heap.size) := fun b hb => SliceIs.lt R2.out b hb
          have RM : Hid (∀ b, Value.home v4 b → b < w4.heap.size) := fun b hb => SliceIs.lt R1.out b hb
          have q2 := RV.out.cell (i := 0) rfl
          have q3 := RV.out.cell (i := 1) rfl
          clear h1 h2 h3 q0 q1
          go_wp2_with (go_at_call 70; refine (add_seqI u2 ((seqI (l.take k)).drop N) _ _ (F + K) (C - K) (by omega) (by omega) _ R2.out (fun t ht => seqI_lt _ t (List.mem_of_mem_drop ht)) (by omega) HLE2.out).mono ?_; rintro e w5 ⟨v5, rfl, h1, h2, h3⟩; rw [← HCS.out.2] at h1)
          go_roundw
          case rel => exact ⟨k + 1, K - K, v4, v5, by omega, by go_num, by first | rfl | (simp; done) | (rw [Int.natCast_sub hKL]), HLS.out, rfl, rfl, R1.out.upd h2 (fun b hb hb2 => RA.out b hb hb2), h1, RF.out, (fun k hk => (h3 k hk).elim (HF2.out k) (fun h => Nat.le_trans RB.out.size h)), (fun b hb hb2 => (h3 b hb2).elim (fun h => RA.out b hb h) (fun h => by have := RM.out b hb; omega)), RB.out.trans (h2.below RB.out.size (fun k hk => HF2.out k hk))⟩
          case measure => simp [intOf]; omega
      · obtain rfl : k = n := by omega
        have hlen : seqI (l.take k) = seqI l := by rw [HN.out, List.take_length]
        have HLL := hid hlen
        clear hlen hb ho1 ho2 hf1 hf2 hap hL
        go_wp2_with fail
        go_ret2
        exact ⟨_, _, rfl, by rw [← HLL.out]; exact HO1.out, by rw [← HLL.out]; exact HO2.out, HF1.out, HF2.out, HAP.out, HB.out⟩
end Go.Proofs.Ytpcigmjbjcgdbaa
