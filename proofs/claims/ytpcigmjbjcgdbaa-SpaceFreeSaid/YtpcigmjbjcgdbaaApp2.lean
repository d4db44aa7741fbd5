import Derived.Test.YtpcigmjbjcgdbaaExtW
/-! Appending a list of runs, also an empty one, also under a guard. -/
namespace Go.Proofs.Ytpcigmjbjcgdbaa
open Go.Lib Go.ChangeShapes Go.WideShapes Go.ChangeAt Go.RowKit

theorem run_append_zero {P : Program} {w : World} (t ty e : TypeId) (i : TypeInfo) (ht : P.underlying t = some (.slice e)) (hi : P.info? e = some i)
    (A : Option Addr) (n cap : Nat) (hn : n ≤ cap) (B : Option Addr) (c : Nat) : (Builtin.append_ #[t, t] ty #[.slice A n cap, .slice B 0 c]).run P w = .ok (.slice A n cap) w := by
  cases A <;> cases B <;> simp [Builtin.append_, run_underlying ht, sizeOf, typeInfo, hi, Builtin.lenOf, Builtin.firstCells, loadCells, loadCellsFrom, storeCells, hn]
theorem step_append_runs {ops : Array Oper} {o : Oper} {a : Act} {w : World} {K : Act → World → Prop} {Q : Exit → Act → World → Prop} {E : Prop} (hw : Region.wanted o (yielded ops a.tmps) = true) (s x : Operand)
    (ho : o.op = .call { callee := .builtin .append, args := #[s, x], argTypes := #[22, 22] })
    (v : Value) (l : List (Int × Int)) (hs : a.eval s = v) (hp : OwnRuns w v l) (u : Value) (l2 : List (Int × Int)) (hx : a.eval x = u) (hr : RunsAt w u l2) (hl : l.length ≤ 100000) (hl2 : l2.length ≤ 100000)
    (h : ∀ v' w', Hid (OwnRuns w' v' (l ++ l2)) → Hid (Upds (Value.home v) w w') → Hid (∀ k, Value.home v' k → Value.home v k ∨ w.heap.size ≤ k) → K (a.put o.dst v') w') :
    if Region.wanted o (yielded ops a.tmps) = true then Oper.wp Try.prog o a w K Q else E := by
  rw [if_pos hw]
  have hinfo : (Try.prog.info? 47).map (fun i => (i.zero, i.size, i.bytes)) = some (some (.agg #[.int .i64 0, .int .i64 0]), 2, 16) := by kernel_rfl
  obtain ⟨i, hi, hzz⟩ := Option.map_eq_some_iff.1 hinfo
  simp only [Prod.mk.injEq] at hzz
  obtain ⟨hz, hsz, hb⟩ := hzz
  obtain ⟨B, c, rfl, hc1, hc2, hbd, hcell⟩ := hr
  rcases Nat.eq_zero_or_pos l2.length with h0 | h0
  · have e0 : l2 = [] := List.eq_nil_of_length_eq_zero h0
    subst e0
    obtain ⟨A, cap, rfl⟩ := hp.shape
    have hcap : l.length ≤ cap := by
      rcases hp with ⟨a', e, h1, _⟩ | ⟨g, cap', cur, e, _, _, _, h4, _⟩
      · omega
      · simp only [Value.slice.injEq] at e; omega
    have hrun := run_append_zero (P := Try.prog) (w := w) 22 o.type 47 i Try.underlying22 hi A l.length cap hcap B c
    unfold Oper.wp execOp
    simp only [ho, resolve, invoke, builtin, Sem.run_bind, Sem.run_pure, Result.andThen_ok, List.map_toArray, List.map_cons, List.map_nil, hs, hx, List.length_nil, hrun]
    exact h _ _ (by rw [List.append_nil]; exact hp) (Upds.refl _ _) (fun k hk => .inl hk)
  · obtain ⟨b, off, rfl, hlt, hcells⟩ := hcell h0
    have hnews : ∀ j u, (runCells l2)[j]? = some u → w.cell? ((⟨b, off, none⟩ : Addr).add j) = some u := by
      intro j u hj
      rw [Go.WideShapes.add_plain]
      have hjl : j < l2.length * 2 := by
        rw [← runCells_len]
        rcases Nat.lt_or_ge j (runCells l2).length with h | h
        · exact h
        · rw [List.getElem?_eq_none h] at hj; cases hj
      have hk : j / 2 < l2.length := by omega
      have hg := runCells_get l2 (j / 2) hk
      have hcc := hcells (j / 2) hk
      rcases Nat.mod_two_eq_zero_or_one j with hm | hm
      · have e : j / 2 * 2 = j := by omega
        rw [e] at hg hcc
        rw [hg.1] at hj
        cases hj
        exact hcc.1
      · have e : j / 2 * 2 + 1 = j := by omega
        rw [Nat.add_assoc, e] at hcc
        rw [e] at hg
        rw [hg.2] at hj
        cases hj
        exact hcc.2
    have hone : ∀ u ∈ runCells l2, u.oneCell' = true := by
      intro u hu
      unfold runCells at hu
      rw [List.mem_flatMap] at hu
      obtain ⟨r, _, hu⟩ := hu
      simp only [List.mem_cons, List.not_mem_nil, or_false] at hu
      rcases hu with rfl | rfl <;> rfl
    obtain ⟨g, cap, w', hrun, h2, h3, h4⟩ := run_append_slice (P := Try.prog) 22 o.type 47 i _ 2 16 Try.underlying22 hi hz hsz hb (by rfl) v l.length (runCells l) hp ⟨b, off, none⟩ l2.length c (runCells l2) (runCells_len l2) hnews hone h0 (by omega) (by omega)
    unfold Oper.wp execOp
    simp only [ho, resolve, invoke, builtin, Sem.run_bind, Sem.run_pure, Result.andThen_ok, List.map_toArray, List.map_cons, List.map_nil, hs, hx, hrun]
    refine h _ _ ?_ h3 h4
    show SliceIs _ _ _ _ _ _
    rw [List.length_append, runCells_append]
    exact h2
set_option linter.unusedVariables false in
theorem wpList_append_runs {ops : Array Oper} {rest : List Oper} {o : Oper} {a : Act} {w : World} {Q : Exit → Act → World → Prop} (hw : Region.wanted o (yielded ops a.tmps) = true) (s x : Operand)
    (ho : o.op = .call { callee := .builtin .append, args := #[s, x], argTypes := #[22, 22] })
    (v : Value) (l : List (Int × Int)) (hs : a.eval s = v) (hp : OwnRuns w v l) (u : Value) (l2 : List (Int × Int)) (hx : a.eval x = u) (hr : RunsAt w u l2) (hl : l.length ≤ 100000) (hl2 : l2.length ≤ 100000)
    (h : ∀ v' w', Hid (OwnRuns w' v' (l ++ l2)) → Hid (Upds (Value.home v) w w') → Hid (∀ k, Value.home v' k → Value.home v k ∨ w.heap.size ≤ k) → wpList Try.prog ops Q rest (a.put o.dst v') w') :
    wpList Try.prog ops Q (o :: rest) a w :=
  wpList_step fun K hK => step_append_runs hw s x ho v l hs hp u l2 hx hr hl hl2 (fun v' w' h1 h2 h3 => hK _ _ (h v' w' h1 h2 h3))
end Go.Proofs.Ytpcigmjbjcgdbaa
