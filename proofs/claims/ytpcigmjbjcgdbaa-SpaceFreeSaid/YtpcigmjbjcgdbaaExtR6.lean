import Derived.Test.YtpcigmjbjcgdbaaExtR5
/-! The specification: Join. -/
namespace Go.Proofs.Ytpcigmjbjcgdbaa
open Go.Lib Go.ChangeShapes Go.WideShapes Go.ChangeAt Go.RowKit

set_option maxRecDepth 100000 in
set_option maxHeartbeats 1000000 in
theorem refJoin_any (v : Value) (l : List (Int × Int)) (hl : l.length ≤ 4000) (w : World) (hs : RunsAt w v l) :
    Calls Try.prog 40 #[v] w (Made w (up (canon (seqI l)))) := by
  obtain ⟨A, cap, rfl, hcap, hcap2⟩ := hs.shape
  obtain ⟨n, hn⟩ : ∃ n, n = l.length := ⟨_, rfl⟩
  rw [← hn] at hs hcap hl ⊢
  have HS := hid hs
  have HN := hid hn
  clear hs hn
  go_enter Try.func40, Try.ntmps40
  go_wp2_with fail
  go_loopw [3, 4] (fun s i wr => ∃ (k : Nat) (u : Value), k ≤ n ∧ i = .int .i64 k ∧ u = s ∧ OwnRuns wr u (up (canon (seqI (l.take k)))) ∧ Fresh w u ∧ Below w.heap.size w wr) (fun _ i _ => n - (intOf i).toNat)
  case atStart => exact ⟨0, _, by omega, rfl, rfl, .inl ⟨_, rfl, rfl, rfl⟩, (fun k hk => by obtain ⟨_, _, _, e, h0, _⟩ := hk; simp only [Value.slice.injEq] at e; omega), (Below.refl _ _).alloc (Nat.le_refl _) _⟩
  case round =>
    obtain ⟨k, u, hk, rfl, rfl, ho, hf, hb⟩ := hrel
    have HB := hid hb
    have HO := hid ho
    have HF := hid hf
    by_cases hlt : k < n
    · have hk2 : k < l.length := by rw [← HN.out]; exact hlt
      obtain ⟨b, off, rfl, hlb, c1, c2, hbd⟩ := (HS.out.below hb (Nat.le_refl _)).round hk2
      obtain ⟨r, hr⟩ : ∃ r, r = l[k] := ⟨_, rfl⟩
      rw [← hr] at c1 c2 hbd
      obtain ⟨f, c⟩ := r
      simp only at c1 c2 hbd
      have hx := ex_le (f, c)
      have hstep := canon_take_succ l k hk2
      rw [← hr] at hstep
      have hle := canon_seqI_len l k (by omega)
      have hfine := fine_canon (seqI (l.take k)) (seqI_lt _)
      obtain ⟨x, hxx⟩ : ∃ x, x = ex (f, c) := ⟨_, rfl⟩
      rw [← hxx] at hstep hx
      obtain ⟨F, C⟩ := x
      obtain ⟨K, hK⟩ : ∃ K, K = canon (seqI (l.take k)) := ⟨_, rfl⟩
      rw [← hK] at hstep hle hfine ho
      have HXX := hid hxx
      have HBD := hid hbd
      have HST := hid hstep
      simp only at hx
      have hle4 : K.length ≤ 4000 := by omega
      have HFI := hid hfine
      have HO1 := hid ho
      clear hstep hxx hr hbd hle hb ho hf hK HO hfine
      go_wp2_with fail
      refine (clip_any f c _ HBD.out).mono ?_
      rintro e w2 ⟨rfl, hb2⟩
      rw [← HXX.out]
      have QB := hid ((HB.out.trans (hb2.mono HB.out.size)).alloc (Nat.le_trans HB.out.size hb2.size) (.cells #[.int .i64 F, .int .i64 C] 47))
      have QR := hid (Row.new w2 [.int .i64 F, .int .i64 C] 47)
      have QO : Hid (OwnRuns (w2.alloc (.cells #[.int .i64 F, .int .i64 C] 47)) u (up K)) := SliceIs.alloc (SliceIs.upd HO1.out (Upds.of_below hb2 (Nat.le_refl _)) (F := fun _ => False) (fun _ _ h => h)) _
      clear hb2 HB HO1 c1 c2 hlb
      go_upto_region 6 with fail
      obtain ⟨bv, hbv⟩ : ∃ bv, bv = w2.heap.size := ⟨_, rfl⟩
      obtain ⟨w3, hw3⟩ : ∃ w3, w3 = w2.alloc (.cells #[.int .i64 F, .int .i64 C] 47) := ⟨_, rfl⟩
      rw [← hbv, ← hw3] at QR
      rw [← hw3] at QB QO
      rw [← hbv, ← hw3]
      clear hbv hw3
      have q1 := QR.out.cell (i := 0) rfl
      have q2 := QR.out.cell (i := 1) rfl
      rcases Nat.eq_zero_or_pos C with h0 | h0
      · subst h0
        go_wp2_with fail
        go_roundw
        case rel => exact ⟨k + 1, u, by omega, by go_num, rfl, by rw [HST.out, addR_zero _ _ rfl]; exact QO.out, HF.out, QB.out⟩
        case measure => simp [intOf]; omega
      · have hc0 : ((C : Int) == 0) = false := by simp; omega
        rcases snoc_or K with rfl | ⟨K', p, rfl⟩
        · obtain ⟨A, cp, rfl⟩ : ∃ A cp, u = .slice A 0 cp := QO.out.shape
          go_wp2_with fail
          go_quiet (fail)
          have RO := hid (SliceIs.upd (F := fun _ => False) QO.out (Upds.drewN w3 nq) (fun _ _ h => h))
          have RB := hid (below_drewN QB.out nq)
          have RR := hid (QR.out.upd (F := fun _ => False) (Upds.drewN w3 nq) (fun h => h))
          clear q1 q2
          have q1 := RR.out.cell (i := 0) rfl
          have q2 := RR.out.cell (i := 1) rfl
          go_wp2_with (at_builtin; refine wpList_append_slice rfl (.tmp 58) (.tmp 60) 22 rfl 47 (.agg #[.int .i64 0, .int .i64 0]) 2 16 Try.underlying22 (by kernel_rfl) (by kernel_rfl) (.slice A 0 cp) 0 [] rfl (SliceIs.alloc RO.out _) ⟨w3.heap.size, 0, none⟩ 1 1 [.int .i64 F, .int .i64 C] rfl rfl (news2 _ _ _ _ _ rfl) (one2 _ _) (by omega) (by omega) (by omega) ?_; intro g8 cap8 w8 hs8 hu8 hh8)
          go_roundw
          case rel =>
            refine ⟨k + 1, _, by omega, by go_num, rfl, ?_, fun b hb => ?_, (RB.out.alloc RB.out.size _).trans (hu8.out.below (by have := RB.out.size; simp only [World.size_alloc]; omega) (fun b hb => HF.out b hb))⟩
            · rw [HST.out, addR_nil _ (by simp; omega)]; exact hs8.out
            · exact (hh8.out b hb).elim (HF.out b) (fun h => by have := RB.out.size; simp only [World.size_alloc] at h; omega)
          case measure => simp [intOf]; omega
        · have ho := QO.out
          rw [up_append, show up [p] = [((p.1 : Int), (p.2 : Int))] from rfl] at ho
          obtain ⟨g, cp, rfl, hg, hn1, hn2, d1, d2, d3, d4, d5⟩ := OwnRuns.last (p1 := p.1) (p2 := p.2) ho
          have hfp := HFI.out p (by simp)
          have hlen : (up K').length ≤ 4000 := by rw [up_len]; simp at hle4; omega
          have HD5 := hid d5
          obtain ⟨q, hq⟩ : ∃ q, q = (up K').length := ⟨_, rfl⟩
          rw [← hq] at hn1 d1 d2 d3 hlen ⊢
          have HQ := hid hq
          obtain ⟨cs, hcs⟩ : ∃ cs, cs = runCells (up K' ++ [((p.1 : Int), (p.2 : Int))]) := ⟨_, rfl⟩
          have hsl : SliceIs w3 47 2 (.slice (some ⟨g, 0, none⟩) (q + 1) cp) (q + 1) cs := by
            have := ho
            unfold OwnRuns at this
            have e : (up K' ++ [((p.1 : Int), (p.2 : Int))]).length = q + 1 := by rw [hq]; simp
            rw [e, ← hcs, ← hq] at this
            exact this
          have HSL := hid hsl
          have HCS := hid hcs
          by_cases hp : p.1 + p.2 = F
          · have hpe : ((p.1 : Int) + p.2 == F) = true := by simp; omega
            have HP := hid hp
            clear ho d4 d5 hq hcs hsl hp
            go_wp2_with fail
            go_quiet (fail)
            go_wp2_with fail
            obtain ⟨w4, hw4⟩ : ∃ w4, w4 = w3.drewN nq := ⟨_, rfl⟩
            have hu4 : Upds (fun _ => False) w3 w4 := by rw [hw4]; exact Upds.drewN _ _
            have RB : Hid (Below w.heap.size w w4) := by rw [hw4]; exact below_drewN QB.out nq
            have RO := hid (QO.out.upd hu4 (fun _ _ h => h))
            have e1 := hu4.cell (fun h => h) d1
            have e2 := hu4.cell (fun h => h) d2
            have e3 := hu4.cell (fun h => h) q1
            have e4 := hu4.cell (fun h => h) q2
            have ho := RO.out
            rw [up_append, show up [p] = [((p.1 : Int), (p.2 : Int))] from rfl] at ho
            obtain ⟨g', cp', e, _, _, _, _, _, f3, f4, _⟩ := OwnRuns.last (p1 := p.1) (p2 := p.2) ho
            rw [← HQ.out] at f3 f4 e
            simp only [Value.slice.injEq, Option.some.injEq, Addr.mk.injEq, and_true] at e
            obtain ⟨rfl, _⟩ := e
            have F4 := hid f4
            rw [← hw4]
            clear hw4 hu4 d1 d2 d3 q1 q2 ho f4
            go_region
            go_wp2_with fail
            go_roundw
            case rel =>
              refine ⟨k + 1, _, by omega, by go_num, rfl, ?_, by rw [HQ.out]; exact HF.out, (RB.out.setCell (by have := HF.out _ HD5.out; simp; omega) _).drew⟩
              have e9 : up [(p.1, p.2 + C)] = [((p.1 : Int), (p.2 : Int) + C)] := by simp [up]
              rw [HST.out, addR_yes _ _ _ (by simp; omega) HP.out, up_append]
              show OwnRuns _ _ (up K' ++ up [(p.1, p.2 + C)])
              rw [e9]
              exact OwnRuns.upd (F4.out ((p.2 : Int) + C)) (F := fun _ => False) (Upds.drew _) (fun _ _ h => h)
            case measure => simp [intOf]; omega
          · have hpe : ((p.1 : Int) + p.2 == F) = false := by simp; omega
            have HP := hid hp
            clear ho d4 d5 hq hcs hsl hp
            go_wp2_with fail
            go_quiet (fail)
            have RO := hid (SliceIs.upd (F := fun _ => False) HSL.out (Upds.drewN w3 nq) (fun _ _ h => h))
            have RB := hid (below_drewN QB.out nq)
            have RR := hid (QR.out.upd (F := fun _ => False) (Upds.drewN w3 nq) (fun h => h))
            clear q1 q2
            have q1 := RR.out.cell (i := 0) rfl
            have q2 := RR.out.cell (i := 1) rfl
            go_wp2_with (at_builtin; refine wpList_append_slice rfl (.tmp 58) (.tmp 60) 22 rfl 47 (.agg #[.int .i64 0, .int .i64 0]) 2 16 Try.underlying22 (by kernel_rfl) (by kernel_rfl) (.slice (some ⟨g, 0, none⟩) (q + 1) cp) (q + 1) cs rfl (SliceIs.alloc RO.out _) ⟨w3.heap.size, 0, none⟩ 1 1 [.int .i64 F, .int .i64 C] rfl rfl (news2 _ _ _ _ _ rfl) (one2 _ _) (by omega) (by omega) (by omega) ?_; intro g8 cap8 w8 hs8 hu8 hh8)
            go_roundw
            case rel =>
              have h1 := OwnRuns.more (r := ((F : Int), (C : Int))) (l := up K' ++ [((p.1 : Int), (p.2 : Int))]) (n := q + 1) (by rw [HQ.out]; simp) HCS.out hs8.out
              refine ⟨k + 1, _, by omega, by go_num, rfl, ?_, fun b hb => ?_, (RB.out.alloc RB.out.size _).trans (hu8.out.below (by have := RB.out.size; simp only [World.size_alloc]; omega) (fun b hb => by have := HF.out b; rw [← HQ.out] at this; exact this hb))⟩
              · rw [HST.out, addR_no _ _ _ (by simp; omega) HP.out, up_append, up_append]; exact h1
              · exact (hh8.out b hb).elim (fun h => by have := HF.out b; rw [← HQ.out] at this; exact this h) (fun h => by have := RB.out.size; simp only [World.size_alloc] at h; omega)
            case measure => simp [intOf]; omega
    · obtain rfl : k = n := by omega
      have hlen : seqI (l.take k) = seqI l := by rw [HN.out, List.take_length]
      have HL := hid hlen
      clear hlen hb ho hf
      go_wp2_with fail
      go_ret
      exact ⟨_, rfl, by rw [← HL.out]; exact HO.out, HF.out, HB.out⟩
end Go.Proofs.Ytpcigmjbjcgdbaa
