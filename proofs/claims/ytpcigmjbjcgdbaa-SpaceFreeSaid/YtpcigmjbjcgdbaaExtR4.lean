import Derived.Test.YtpcigmjbjcgdbaaExtR3
/-! The specification: set, Set, Normal. -/
namespace Go.Proofs.Ytpcigmjbjcgdbaa
open Go.Lib Go.ChangeShapes Go.WideShapes Go.ChangeAt Go.RowKit

/-- the last run of a slice of runs in memory -/
theorem OwnRuns.last {w : World} {v : Value} {l : List (Int × Int)} {p1 p2 : Int} (h : OwnRuns w v (l ++ [(p1, p2)])) : ∃ g cap, v = .slice (some ⟨g, 0, none⟩) (l.length + 1) cap ∧ g < w.heap.size ∧ l.length + 1 ≤ cap ∧ cap ≤ 9223372036854775807 ∧
    w.cell? ⟨g, l.length * 2, none⟩ = some (.int .i64 p1) ∧ w.cell? ⟨g, l.length * 2 + 1, none⟩ = some (.int .i64 p2) ∧ w.frozen? ⟨g, l.length * 2 + 1, none⟩ = false ∧
    (∀ q, OwnRuns (w.setCell ⟨g, l.length * 2 + 1, none⟩ (.int .i64 q)) v (l ++ [(p1, q)])) ∧ Value.home v g := by
  obtain ⟨g, cap, cur, e, hrow, htk, hcl, hnc, hcm⟩ := h.row (by simp)
  have hn1 : (l ++ [(p1, p2)]).length = l.length + 1 := by simp
  have hg := runCells_get (l ++ [(p1, p2)]) l.length (by simp)
  rw [← htk, List.getElem?_take, List.getElem?_take, if_pos (by simp), if_pos (by simp; omega)] at hg
  have hx : (l ++ [(p1, p2)])[l.length]'(by simp) = (p1, p2) := by simp
  rw [hx] at hg
  rw [hn1] at e hnc htk
  subst e
  refine ⟨g, cap, rfl, hrow.lt, hnc, hcm, hrow.cell hg.1, hrow.cell hg.2, hrow.frozen _, fun q => ?_, ⟨_, _, _, rfl, by omega, rfl⟩⟩
  have hl2 : (l ++ [(p1, q)]).length = l.length + 1 := by simp
  unfold OwnRuns
  rw [hl2]
  refine .inr ⟨g, cap, _, rfl, hrow.set (l.length * 2 + 1) (.int .i64 q), ?_, by rw [List.length_set]; exact hcl, hnc, hcm, by omega⟩
  rw [List.take_set, htk, runCells_append, List.set_append_right _ _ (by rw [runCells_len]; omega), runCells_len, runCells_append]
  have e9 : l.length * 2 + 1 - l.length * 2 = 1 := by omega
  rw [e9]
  simp [runCells]
theorem OwnRuns.more {w : World} {v : Value} {l : List (Int × Int)} {n : Nat} {cs : List Value} {r : Int × Int} (hn : l.length = n) (hcs : cs = runCells l) (h : SliceIs w 47 2 v (n + 1) (cs ++ [.int .i64 r.1, .int .i64 r.2])) : OwnRuns w v (l ++ [r]) := by
  have e : (l ++ [r]).length = n + 1 := by simp [hn]
  unfold OwnRuns
  rw [e, runCells_append, ← hcs]
  exact h
theorem canon_new_addR (s : List Nat) (k : Nat) (h : ∀ l' p, canon s = l' ++ [p] → p.1 + p.2 ≠ k) : addR (canon s) (k, 1) = canon s ++ [(k, 1)] := by
  rcases snoc_or (canon s) with e | ⟨l', p, e⟩
  · rw [e, addR_nil _ (by simp)]; rfl
  · rw [e, addR_no _ _ _ (by simp) (h l' p e)]
set_option maxRecDepth 100000 in
theorem set_any (gb cap : Nat) (B : Nat → Bool) (w : World) (hgb : gb < w.heap.size) (_hcap : 128 ≤ cap) (_hcap2 : cap ≤ 9223372036854775807) (hc : ∀ i, i < 128 → w.cell? ⟨gb, i, none⟩ = some (.bool (B i))) :
    Calls Try.prog 65 #[.slice (some ⟨gb, 0, none⟩) 128 cap] w (Made w (norm B)) := by
  have HC : Hid (∀ W, Below w.heap.size w W → ∀ i, i < 128 → W.cell? ⟨gb, i, none⟩ = some (.bool (B i))) := fun W hb i hi => (hb.cell (p := ⟨gb, i, none⟩) hgb).trans (hc i hi)
  clear hc
  go_enter Try.func65, Try.ntmps65
  go_wp2_with fail
  go_loopw [3, 4] (fun o i wr => ∃ (k : Nat) (v : Value), k ≤ 128 ∧ i = .int .i64 k ∧ v = o ∧ OwnRuns wr v (up (canon (upto B k))) ∧ Fresh w v ∧ Below w.heap.size w wr) (fun _ i _ => 128 - (intOf i).toNat)
  case atStart => exact ⟨0, _, by omega, rfl, rfl, .inl ⟨_, rfl, rfl, rfl⟩, (fun k hk => by obtain ⟨_, _, _, e, h0, _⟩ := hk; simp only [Value.slice.injEq] at e; omega), (Below.refl _ _).alloc (Nat.le_refl _) _⟩
  case round =>
    obtain ⟨k, v, hk, rfl, rfl, ho, hf, hb⟩ := hrel
    have HO := hid ho
    have HF := hid hf
    have HB := hid hb
    by_cases hlt : k < 128
    · have hc := HC.out wr hb k hlt
      have hus := upto_succ B k
      clear ho hf hb
      cases hB : B k with
      | true =>
        rw [hB] at hc hus
        rw [if_pos rfl] at hus
        have HU := hid hus
        have HBK := hid hB
        clear hus hB
        by_cases hprev : ∃ j, j + 1 = k ∧ B j = true
        · obtain ⟨j, rfl, hj⟩ := hprev
          have hc2 := HC.out wr HB.out j (by omega)
          rw [hj] at hc2
          obtain ⟨l', p, hl, hp⟩ := upto_prev B j hj
          have ho := HO.out
          rw [hl, up_append] at ho
          obtain ⟨g, cp, rfl, hg, hn1, hn2, d1, d2, d3, d4, d5⟩ := OwnRuns.last (p1 := p.1) (p2 := p.2) ho
          have hlen : (up l').length ≤ 4000 := by
            have h1 := canon_len (upto B (j + 1))
            have h2 : (upto B (j + 1)).length ≤ j + 1 := upto_len B (j + 1)
            rw [hl] at h1; rw [up_len]; simp at h1; omega
          have HD4 := hid d4
          have HD5 := hid d5
          have HL := hid hl
          have HP := hid hp
          have hp2 : p.2 ≤ 129 := by omega
          obtain ⟨q, hq⟩ : ∃ q, q = (up l').length := ⟨_, rfl⟩
          rw [← hq] at hn1 d1 d2 d3 hlen ⊢
          have HQ := hid hq
          clear ho d4 d5 hl hp hj hq
          have hcst : ((j + 1 : Nat) : Int) = (j : Int) + 1 := by omega
          rw [hcst]
          go_wp2_with fail
          go_roundw
          case rel =>
            have h1 := HD4.out ((p.2 : Int) + 1)
            refine ⟨j + 1 + 1, _, by omega, by go_num, rfl, ?_, by rw [HQ.out]; exact HF.out, HB.out.setCell (by have := HF.out _ HD5.out; simp; omega) _⟩
            rw [HU.out, canon_snoc, HL.out, addR_yes _ _ _ (by simp) (by have := HP.out; simp; omega), up_append, HQ.out]
            exact h1
          case measure => simp [intOf]; omega
        · have hnew : ∀ l' p, canon (upto B k) = l' ++ [p] → p.1 + p.2 ≠ k := upto_new B k hk (fun j hj => by
            cases hb : B j with
            | false => rfl
            | true => exact absurd ⟨j, hj, hb⟩ hprev)
          have HNW := hid hnew
          have hp2 : ∀ j, j + 1 = k → wr.cell? ⟨gb, j, none⟩ = some (.bool false) := fun j hj => by
            have h1 := HC.out wr HB.out j (by omega)
            cases hb : B j with
            | false => rw [hb] at h1; exact h1
            | true => exact absurd ⟨j, hj, hb⟩ hprev
          have HP2 := hid hp2
          clear hprev hnew hp2
          rcases Nat.eq_zero_or_pos k with h0 | h0
          · subst h0
            have hle : (up (canon (upto B 0))).length ≤ 128 := by
              have h1 := canon_len (upto B (0))
              have h2 : (upto B (0)).length ≤ 0 := upto_len B (0)
              rw [up_len]; omega
            have hu2 : up (canon (upto B (0 + 1))) = up (canon (upto B (0))) ++ [((0 : Int), (1 : Int))] := by
              rw [HU.out, canon_snoc]
              have hx := canon_new_addR (upto B (0)) (0) (HNW.out)
              rw [hx, up_append]; rfl
            obtain ⟨n, hn⟩ : ∃ n, n = (up (canon (upto B (0)))).length := ⟨_, rfl⟩
            obtain ⟨cs, hcs⟩ : ∃ cs, cs = runCells (up (canon (upto B (0)))) := ⟨_, rfl⟩
            have ho := HO.out
            unfold OwnRuns at ho
            rw [← hn, ← hcs] at ho
            rw [← hn] at hle
            have HO2 := hid ho
            have HN := hid hn
            have HCS := hid hcs
            have HU2 := hid hu2
            clear hn hcs hu2 ho
            go_wp2_with (at_builtin; refine wpList_append_slice rfl (.tmp 36) (.tmp 39) 22 rfl 47 (.agg #[.int .i64 0, .int .i64 0]) 2 16 Try.underlying22 (by kernel_rfl) (by kernel_rfl) v n cs rfl (SliceIs.alloc HO2.out _) ⟨wr.heap.size, 0, none⟩ 1 1 [.int .i64 0, .int .i64 1] rfl rfl (news2 _ _ _ _ _ rfl) (one2 _ _) (by omega) (by omega) (by omega) ?_; intro g8 cap8 w8 hs8 hu8 hh8)
            go_roundw
            case rel =>
              have h1 := OwnRuns.more (r := (0, 1)) HN.out.symm HCS.out hs8.out
              refine ⟨0 + 1, _, by omega, by first | rfl | (simp; done) | go_num, rfl, by rw [HU2.out]; exact h1, fun b hb => ?_, (HB.out.alloc HB.out.size _).trans (hu8.out.below (by have := HB.out.size; simp only [World.size_alloc]; omega) (fun b hb => HF.out b hb))⟩
              exact (hh8.out b hb).elim (HF.out b) (fun h => by have := HB.out.size; simp at h; omega)
            case measure => simp [intOf]
          · obtain ⟨j, rfl⟩ : ∃ j, k = j + 1 := ⟨k - 1, by omega⟩
            have hc2 := HP2.out j rfl
            have hcst : ((j + 1 : Nat) : Int) = (j : Int) + 1 := by omega
            rw [hcst]
            have hle : (up (canon (upto B (j + 1)))).length ≤ 128 := by
              have h1 := canon_len (upto B ((j + 1)))
              have h2 : (upto B ((j + 1))).length ≤ (j + 1) := upto_len B ((j + 1))
              rw [up_len]; omega
            have hu2 : up (canon (upto B ((j + 1) + 1))) = up (canon (upto B ((j + 1)))) ++ [(((j + 1 : Nat) : Int), (1 : Int))] := by
              rw [HU.out, canon_snoc]
              have hx := canon_new_addR (upto B ((j + 1))) ((j + 1)) (HNW.out)
              rw [hx, up_append]; rfl
            obtain ⟨n, hn⟩ : ∃ n, n = (up (canon (upto B ((j + 1))))).length := ⟨_, rfl⟩
            obtain ⟨cs, hcs⟩ : ∃ cs, cs = runCells (up (canon (upto B ((j + 1))))) := ⟨_, rfl⟩
            have ho := HO.out
            unfold OwnRuns at ho
            rw [← hn, ← hcs] at ho
            rw [← hn] at hle
            have HO2 := hid ho
            have HN := hid hn
            have HCS := hid hcs
            have HU2 := hid hu2
            clear hn hcs hu2 ho
            go_wp2_with (at_builtin; refine wpList_append_slice rfl (.tmp 36) (.tmp 39) 22 rfl 47 (.agg #[.int .i64 0, .int .i64 0]) 2 16 Try.underlying22 (by kernel_rfl) (by kernel_rfl) v n cs rfl (SliceIs.alloc HO2.out _) ⟨wr.heap.size, 0, none⟩ 1 1 [.int .i64 ((j : Int) + 1), .int .i64 1] rfl rfl (news2 _ _ _ _ _ rfl) (one2 _ _) (by omega) (by omega) (by omega) ?_; intro g8 cap8 w8 hs8 hu8 hh8)
            go_roundw
            case rel =>
              have h1 := OwnRuns.more (r := ((j : Int) + 1, 1)) HN.out.symm HCS.out hs8.out
              refine ⟨(j + 1) + 1, _, by omega, by first | rfl | (simp; done) | go_num, rfl, by rw [HU2.out]; exact h1, fun b hb => ?_, (HB.out.alloc HB.out.size _).trans (hu8.out.below (by have := HB.out.size; simp only [World.size_alloc]; omega) (fun b hb => HF.out b hb))⟩
              exact (hh8.out b hb).elim (HF.out b) (fun h => by have := HB.out.size; simp at h; omega)
            case measure => simp [intOf]; omega
      | false =>
        rw [hB] at hc hus
        rw [if_neg (by simp)] at hus
        have HU := hid hus
        clear hus hB
        go_wp2_with fail
        go_roundw
        case rel => exact ⟨k + 1, v, by omega, by go_num, rfl, by rw [HU.out]; exact HO.out, HF.out, HB.out⟩
        case measure => simp [intOf]; omega
    · obtain rfl : k = 128 := by omega
      clear ho hf hb
      go_wp2_with fail
      go_ret
      exact ⟨_, rfl, HO.out, HF.out, HB.out⟩
end Go.Proofs.Ytpcigmjbjcgdbaa
