import Derived.Test.YtpcigmjbjcgdbaaExtW
namespace Go.Proofs.Ytpcigmjbjcgdbaa
open Go.Lib Go.ChangeShapes Go.WideShapes Go.ChangeAt Go.RowKit

/-- what 'add' answers -/
def AddPost (v : Value) (l : List (Int × Int)) (w : World) (e : Ending) (w' : World) : Prop :=
  ∃ v', e = .returned v' ∧ OwnRuns w' v' l ∧ Upds (Value.home v) w w' ∧ (∀ k, Value.home v' k → Value.home v k ∨ w.heap.size ≤ k)
theorem up_append (a b : List (Nat × Nat)) : up (a ++ b) = up a ++ up b := by unfold up; simp
theorem news2 (w : World) (x y : Value) (t : TypeId) (g : Nat) (hg : g = w.heap.size) : ∀ j u, [x, y][j]? = some u → (w.alloc (.cells #[x, y] t)).cell? ((⟨g, 0, none⟩ : Addr).add j) = some u := by
  intro j u hj
  subst hg
  rw [Go.WideShapes.add_plain, Nat.zero_add]
  exact (Row.new w [x, y] t).cell hj
theorem one2 (a b : Int) : ∀ u ∈ [Value.int .i64 a, Value.int .i64 b], u.oneCell' = true := by simp [Value.oneCell']
set_option maxRecDepth 100000 in
theorem add_zero (v : Value) (l : List (Nat × Nat)) (f : Nat) (w : World) (hs : OwnRuns w v (up l)) :
    Calls Try.prog 70 #[v, .agg #[.int .i64 f, .int .i64 (0 : Nat)]] w (AddPost v (up l) w) := by
  have HS := hid hs
  clear hs
  go_enter Try.func70, Try.ntmps70
  go_wp2_with fail
  go_ret
  exact ⟨v, rfl, SliceIs.alloc HS.out _, Upds.alloc _ _, fun k hk => .inl hk⟩
set_option maxRecDepth 100000 in
theorem add_first (v : Value) (f c : Nat) (h0 : 0 < c) (w : World) (hs : OwnRuns w v []) (_hr : f + c ≤ 128) :
    Calls Try.prog 70 #[v, .agg #[.int .i64 f, .int .i64 c]] w (AddPost v [((f : Int), (c : Int))] w) := by
  obtain ⟨A, cap, rfl⟩ : ∃ A cap, v = .slice A 0 cap := hs.shape
  have HS := hid hs
  clear hs
  have hc : ((c : Int) == 0) = false := by simp; omega
  go_enter Try.func70, Try.ntmps70
  go_wp2_with fail
  go_quiet (fail)
  go_wp2_with (with_reducible refine wpList_append_slice rfl (.tmp 42) (.tmp 44) 22 rfl 47 (.agg #[.int .i64 0, .int .i64 0]) 2 16 Try.underlying22 (by kernel_rfl) (by kernel_rfl) (.slice A 0 cap) 0 [] rfl ?_ ⟨w.heap.size + 1, 0, none⟩ 1 1 [.int .i64 f, .int .i64 c] rfl rfl ?_ (one2 _ _) (by omega) (by omega) (by omega) ?_)
  case refine_1 => exact SliceIs.alloc (SliceIs.upd (F := fun _ => False) (SliceIs.alloc HS.out _) (Upds.drewN _ _) (fun _ _ h => h)) _
  case refine_2 => exact news2 _ _ _ _ _ (by simp)
  case refine_3 =>
    intro g cap2 w2 hs2 hu2 hh2
    go_wp2_with fail
    go_ret
    exact ⟨_, rfl, hs2.out, (((Upds.alloc _ _).trans (Upds.drewN _ _)).trans (Upds.alloc _ _)).trans hu2.out, fun k hk => (hh2.out k hk).imp id (by omega)⟩
set_option maxRecDepth 100000 in
theorem add_more (v : Value) (l : List (Int × Int)) (p1 p2 f c : Nat) (h0 : 0 < c) (w : World) (hs : OwnRuns w v (l ++ [((p1 : Int), (p2 : Int))])) (hp : p1 + p2 ≤ 128) (_hr : f + c ≤ 128) (hl : l.length ≤ 4000) (hne : p1 + p2 ≠ f) :
    Calls Try.prog 70 #[v, .agg #[.int .i64 f, .int .i64 c]] w (AddPost v (l ++ [((p1 : Int), (p2 : Int))] ++ [((f : Int), (c : Int))]) w) := by
  obtain ⟨g, cap, cur, e, hrow, htk, hcl, hnc, hcm⟩ := hs.row (by simp)
  obtain ⟨n, hn⟩ : ∃ n, n = l.length := ⟨_, rfl⟩
  have hn1 : (l ++ [((p1 : Int), (p2 : Int))]).length = n + 1 := by simp [hn]
  have hg := runCells_get (l ++ [((p1 : Int), (p2 : Int))]) n (by simp [hn])
  rw [← htk, List.getElem?_take, List.getElem?_take, if_pos (by simp; omega), if_pos (by simp; omega)] at hg
  have hx : (l ++ [((p1 : Int), (p2 : Int))])[n]'(by simp [hn]) = ((p1 : Int), (p2 : Int)) := by subst hn; simp
  rw [hx] at hg
  have c1 := hrow.cell hg.1
  have c2 := hrow.cell hg.2
  have HRow := hid hrow
  unfold OwnRuns at hs
  rw [hn1] at hs e
  have HS := hid hs
  have hlt := hrow.lt
  have hn4 : n ≤ 4000 := by omega
  have hnl : (l ++ [((p1 : Int), (p2 : Int))]).length = n + 1 := hn1
  clear hs htk hcl hg hx hn1 hrow hn
  subst e
  have hc : ((c : Int) == 0) = false := by simp; omega
  have hq : ((p1 : Int) + p2 == f) = false := by simp; omega
  obtain ⟨L2, hL2⟩ : ∃ L2, L2 = l ++ [((p1 : Int), (p2 : Int))] ++ [((f : Int), (c : Int))] := ⟨_, rfl⟩
  obtain ⟨cs, hcs⟩ : ∃ cs, cs = runCells (l ++ [((p1 : Int), (p2 : Int))]) := ⟨_, rfl⟩
  rw [← hL2]
  rw [← hcs] at HS
  have hL3 : runCells L2 = cs ++ [.int .i64 f, .int .i64 c] := by rw [hL2, runCells_append, ← hcs]; rfl
  have hL4 : L2.length = n + 1 + 1 := by rw [hL2, List.length_append, hnl]; rfl
  have HL3 := hid hL3
  have HL4 := hid hL4
  clear hL2 hcs hL3 hL4 hnl
  go_enter Try.func70, Try.ntmps70
  go_wp2_with fail
  go_quiet (fail)
  go_wp2_with (with_reducible refine wpList_append_slice rfl (.tmp 42) (.tmp 44) 22 rfl 47 (.agg #[.int .i64 0, .int .i64 0]) 2 16 Try.underlying22 (by kernel_rfl) (by kernel_rfl) (.slice (some ⟨g, 0, none⟩) (n + 1) cap) (n + 1) cs rfl ?_ ⟨w.heap.size + 1, 0, none⟩ 1 1 [.int .i64 f, .int .i64 c] rfl rfl ?_ (one2 _ _) (by omega) (by omega) (by omega) ?_)
  case refine_1 => exact SliceIs.alloc (SliceIs.upd (F := fun _ => False) (SliceIs.alloc HS.out _) (Upds.drewN _ _) (fun _ _ h => h)) _
  case refine_2 => exact news2 _ _ _ _ _ (by simp)
  case refine_3 =>
    intro g2 cap2 w2 hs2 hu2 hh2
    go_wp2_with fail
    go_ret
    refine ⟨_, rfl, ?_, (((Upds.alloc _ _).trans (Upds.drewN _ _)).trans (Upds.alloc _ _)).trans hu2.out, fun k hk => (hh2.out k hk).imp id (by omega)⟩
    unfold OwnRuns
    rw [HL3.out, HL4.out]
    exact hs2.out
set_option maxRecDepth 100000 in
theorem add_on (v : Value) (l : List (Int × Int)) (p1 p2 f c : Nat) (h0 : 0 < c) (w : World) (hs : OwnRuns w v (l ++ [((p1 : Int), (p2 : Int))])) (hp : p1 + p2 ≤ 128) (hr : f + c ≤ 128) (hl : l.length ≤ 4000) (hne : p1 + p2 = f) :
    Calls Try.prog 70 #[v, .agg #[.int .i64 f, .int .i64 c]] w (AddPost v (l ++ [((p1 : Int), ((p2 + c : Nat) : Int))]) w) := by
  obtain ⟨g, cap, cur, e, hrow, htk, hcl, hnc, hcm⟩ := hs.row (by simp)
  obtain ⟨n, hn⟩ : ∃ n, n = l.length := ⟨_, rfl⟩
  have hn1 : (l ++ [((p1 : Int), (p2 : Int))]).length = n + 1 := by simp [hn]
  have hg := runCells_get (l ++ [((p1 : Int), (p2 : Int))]) n (by simp [hn])
  rw [← htk, List.getElem?_take, List.getElem?_take, if_pos (by simp; omega), if_pos (by simp; omega)] at hg
  have hx : (l ++ [((p1 : Int), (p2 : Int))])[n]'(by simp [hn]) = ((p1 : Int), (p2 : Int)) := by subst hn; simp
  rw [hx] at hg
  have c1 := hrow.cell hg.1
  have c2 := hrow.cell hg.2
  have hfr := hrow.frozen (n * 2 + 1)
  have hlt := hrow.lt
  have hn4 : n ≤ 4000 := by omega
  have hown : ∀ w2, Row w2 g 47 (cur.set (n * 2 + 1) (.int .i64 ((p2 : Int) + c))) → SliceIs w2 47 2 (.slice (some ⟨g, 0, none⟩) (n + 1) cap) (n + 1) (runCells (l ++ [((p1 : Int), ((p2 + c : Nat) : Int))])) := by
    intro w2 hr2
    rw [hn1] at hnc htk
    refine .inr ⟨g, cap, _, rfl, hr2, ?_, by rw [List.length_set]; exact hcl, hnc, hcm, by omega⟩
    rw [List.take_set, htk, runCells_append, List.set_append_right _ _ (by rw [runCells_len]; omega), runCells_len, runCells_append]
    have e9 : n * 2 + 1 - l.length * 2 = 1 := by omega
    rw [e9]
    simp [runCells]
  have HO := hid hown
  have HRow := hid hrow
  have hpos : 0 < cap := by rw [hn1] at hnc; omega
  rw [hn1] at e
  clear hs htk hcl hg hx hn1 hrow hown
  subst e
  have hc : ((c : Int) == 0) = false := by simp; omega
  have hq : ((p1 : Int) + p2 == f) = true := by simp; omega
  obtain ⟨L2, hL2⟩ : ∃ L2, L2 = l ++ [((p1 : Int), ((p2 + c : Nat) : Int))] := ⟨_, rfl⟩
  rw [← hL2] at HO ⊢
  have hL4 : L2.length = n + 1 := by rw [hL2, List.length_append, hn]; rfl
  have HL4 := hid hL4
  clear hL2 hL4 hn
  go_enter Try.func70, Try.ntmps70
  go_wp2_with fail
  go_quiet (fail)
  go_wp2_with fail
  obtain ⟨w1, hw1⟩ : ∃ w1, w1 = (w.alloc (.cells #[.int .i64 f, .int .i64 c] 47)).drewN nq := ⟨_, rfl⟩
  have hu1 : Upds (fun _ => False) w w1 := by rw [hw1]; exact (Upds.alloc _ _).trans (Upds.drewN _ _)
  obtain ⟨bx, hbx⟩ : ∃ bx, bx = w.heap.size := ⟨_, rfl⟩
  have k1 : w1.cell? ⟨bx, 1, none⟩ = some (.int .i64 c) := by rw [hw1, hbx]; simp
  have d1 := hu1.cell (fun h => h) c1
  have d2 := hu1.cell (fun h => h) c2
  have hrow1 := HRow.out.upd hu1 (fun h => h)
  have hfr1 := hrow1.frozen (n * 2 + 1)
  have HU1 := hid hu1
  have HR1 := hid hrow1
  rw [← hw1, ← hbx]
  have HBX := hid hbx
  clear hw1 hu1 hrow1 c1 c2 hfr hbx HRow
  go_region
  go_wp2_with fail
  go_ret
  refine ⟨.slice (some ⟨g, 0, none⟩) (n + 1) cap, rfl, ?_, ((HU1.out.mono (fun _ h => h.elim)).trans (Upds.set w1 _ _ ⟨_, _, _, rfl, hpos, rfl⟩)).trans (Upds.drew _), fun k hk => .inl hk⟩
  unfold OwnRuns
  rw [HL4.out]
  exact HO.out _ (HR1.out.set (n * 2 + 1) (.int .i64 ((p2 : Int) + c)))
theorem add_any (v : Value) (l : List (Nat × Nat)) (f c : Nat) (w : World) (hs : OwnRuns w v (up l)) (hf : Fine l) (hr : f + c ≤ 128) (hl : l.length ≤ 4000) :
    Calls Try.prog 70 #[v, .agg #[.int .i64 f, .int .i64 c]] w (AddPost v (up (addR l (f, c))) w) := by
  rcases Nat.eq_zero_or_pos c with h0 | h0
  · subst h0
    rw [addR_zero _ _ rfl]
    exact add_zero v l f w hs
  · rcases snoc_or l with rfl | ⟨l', p, rfl⟩
    · rw [addR_nil _ (by simp; omega)]
      exact add_first v f c h0 w hs hr
    · have hp := hf p (by simp)
      rw [up_append] at hs
      have hl' : (up l').length ≤ 4000 := by rw [up_len]; simp at hl; omega
      by_cases e : p.1 + p.2 = f
      · rw [addR_yes _ _ _ (by simp; omega) e, up_append]
        exact add_on v (up l') p.1 p.2 f c h0 w hs hp.2 hr hl' e
      · rw [addR_no _ _ _ (by simp; omega) e, up_append, up_append]
        exact add_more v (up l') p.1 p.2 f c h0 w hs hp.2 hr hl' e
/-- the same for a list that is told by its sequence, of a slice that lies behind what there was -/
def AddMade (W : World) (s : List Nat) (w : World) (e : Ending) (w' : World) : Prop := ∃ v, e = .returned v ∧ OwnRuns w' v (up (canon s)) ∧ Fresh W v ∧ Below W.heap.size w w'
theorem add_made (W : World) (v : Value) (s : List Nat) (f c : Nat) (w : World) (hs : OwnRuns w v (up (canon s))) (hfr : Fresh W v) (h : ∀ t ∈ s, t < 128) (hr : f + c ≤ 128) (hl : (canon s).length ≤ 4000) (hW : W.heap.size ≤ w.heap.size) :
    Calls Try.prog 70 #[v, .agg #[.int .i64 f, .int .i64 c]] w (AddMade W (s ++ tracks (f, c)) w) := by
  refine (add_any v (canon s) f c w hs (fine_canon s h) hr hl).mono ?_
  rintro e w' ⟨v', rfl, h1, h2, h3⟩
  rw [canon_add] at h1
  exact ⟨v', rfl, h1, fun k hk => (h3 k hk).elim (hfr k) (by omega), h2.below hW hfr⟩
theorem add_seq (v : Value) (s : List Nat) (f c : Nat) (w : World) (hs : OwnRuns w v (up (canon s))) (h : ∀ t ∈ s, t < 128) (hr : f + c ≤ 128) (hl : (canon s).length ≤ 4000) :
    Calls Try.prog 70 #[v, .agg #[.int .i64 f, .int .i64 c]] w (AddPost v (up (canon (s ++ tracks (f, c)))) w) := by
  rw [← canon_add]
  exact add_any v (canon s) f c w hs (fine_canon s h) hr hl
end Go.Proofs.Ytpcigmjbjcgdbaa
