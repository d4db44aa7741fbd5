import Derived.Test.YtklbckonlbpbgabFixT7
/-! Appending a list of texts, also an empty one; lists of texts in new memory. -/
namespace Go.Proofs.Ytklbckonlbpbgab
open Go.Lib Go.ChangeShapes Go.WideShapes Go.ChangeAt Go.RowKit

theorem strs_new (w : World) (l : List ByteArray) (h : l.length ≤ 1000) : StrsAt (w.alloc (.cells (l.map Value.string).toArray 9)) (.slice (some ⟨w.heap.size, 0, none⟩) l.length l.length) l :=
  ⟨_, _, rfl, Nat.le_refl _, by omega, fun _ => ⟨_, _, rfl, by simp, fun i hi => by
    rw [Nat.zero_add]
    exact (Row.new w (l.map Value.string) 9).cell (by simp [hi])⟩⟩
theorem strs_new1 (w : World) (r : ByteArray) (g : Nat) (hg : g = w.heap.size) : StrsAt (w.alloc (.cells #[.string r] 9)) (.slice (some ⟨g, 0, none⟩) 1 1) [r] := by
  subst hg; exact strs_new w [r] (by simp)
theorem StrsAt.alloc {w : World} {v : Value} {l : List ByteArray} (h : StrsAt w v l) (o : Obj) : StrsAt (w.alloc o) v l := h.below ((Below.refl _ _).alloc (Nat.le_refl _) _) (Nat.le_refl _)
theorem OwnStrs.alloc {w : World} {v : Value} {l : List ByteArray} (h : OwnStrs w v l) (o : Obj) : OwnStrs (w.alloc o) v l := h.below ((Below.refl _ _).alloc (Nat.le_refl _) _) (Nat.le_refl _)
theorem run_append_zero {P : Program} {w : World} (t ty e : TypeId) (i : TypeInfo) (ht : P.underlying t = some (.slice e)) (hi : P.info? e = some i)
    (A : Option Addr) (n cap : Nat) (hn : n ≤ cap) (B : Option Addr) (c : Nat) : (Builtin.append_ #[t, t] ty #[.slice A n cap, .slice B 0 c]).run P w = .ok (.slice A n cap) w := by
  cases A <;> cases B <;> simp [Builtin.append_, run_underlying ht, sizeOf, typeInfo, hi, Builtin.lenOf, Builtin.firstCells, loadCells, loadCellsFrom, storeCells, hn]
theorem step_append_strs {ops : Array Oper} {o : Oper} {a : Act} {w : World} {K : Act → World → Prop} {Q : Exit → Act → World → Prop} {E : Prop} (hw : Region.wanted o (yielded ops a.tmps) = true) (s x : Operand)
    (ho : o.op = .call { callee := .builtin .append, args := #[s, x], argTypes := #[33, 33] })
    (v : Value) (l : List ByteArray) (hs : a.eval s = v) (hp : OwnStrs w v l) (u : Value) (l2 : List ByteArray) (hx : a.eval x = u) (hr : StrsAt w u l2) (hl : l.length ≤ 100000) (hl2 : l2.length ≤ 100000)
    (h : ∀ v' w', Hid (OwnStrs w' v' (l ++ l2)) → Hid (Upds (Value.home v) w w') → Hid (∀ k, Value.home v' k → Value.home v k ∨ w.heap.size ≤ k) → K (a.put o.dst v') w') :
    if Region.wanted o (yielded ops a.tmps) = true then Oper.wp Try.prog o a w K Q else E := by
  rw [if_pos hw]
  have hinfo : (Try.prog.info? 9).map (fun i => (i.zero, i.size, i.bytes)) = some (some (.string ⟨#[]⟩), 1, 16) := by kernel_rfl
  obtain ⟨i, hi, hzz⟩ := Option.map_eq_some_iff.1 hinfo
  simp only [Prod.mk.injEq] at hzz
  obtain ⟨hz, hsz, hb⟩ := hzz
  obtain ⟨B, c, rfl, hc1, hc2, hcell⟩ := hr
  rcases Nat.eq_zero_or_pos l2.length with h0 | h0
  · have e0 : l2 = [] := List.eq_nil_of_length_eq_zero h0
    subst e0
    obtain ⟨A, cap, rfl⟩ := hp.shape
    have hcap : l.length ≤ cap := by
      rcases hp with ⟨a', e, h1, _⟩ | ⟨g, cap', cur, e, _, _, _, h4, _⟩
      · omega
      · simp only [Value.slice.injEq] at e; omega
    have hrun := run_append_zero (P := Try.prog) (w := w) 33 o.type 9 i Try.underlying33 hi A l.length cap hcap B c
    unfold Oper.wp execOp
    simp only [ho, resolve, invoke, builtin, Sem.run_bind, Sem.run_pure, Result.andThen_ok, List.map_toArray, List.map_cons, List.map_nil, hs, hx, List.length_nil, hrun]
    exact h _ _ (by rw [List.append_nil]; exact hp) (Upds.refl _ _) (fun k hk => .inl hk)
  · obtain ⟨b, off, rfl, hlt, hcells⟩ := hcell h0
    have hnews : ∀ j u, (l2.map Value.string)[j]? = some u → w.cell? ((⟨b, off, none⟩ : Addr).add j) = some u := by
      intro j u hu
      rw [List.getElem?_map] at hu
      obtain ⟨y, hy, rfl⟩ := Option.map_eq_some_iff.1 hu
      obtain ⟨hj, rfl⟩ := List.getElem?_eq_some_iff.1 hy
      rw [Go.WideShapes.add_plain]
      exact hcells j hj
    obtain ⟨g, cap, w', hrun, h2, h3, h4⟩ := run_append_slice (P := Try.prog) 33 o.type 9 i _ 1 16 Try.underlying33 hi hz hsz hb (by rfl) v l.length (l.map Value.string) hp ⟨b, off, none⟩ l2.length c (l2.map Value.string) (by rw [List.length_map, Nat.mul_one]) hnews (fun u hu => by obtain ⟨y, _, rfl⟩ := List.mem_map.1 hu; rfl) h0 (by omega) (by omega)
    unfold Oper.wp execOp
    simp only [ho, resolve, invoke, builtin, Sem.run_bind, Sem.run_pure, Result.andThen_ok, List.map_toArray, List.map_cons, List.map_nil, hs, hx, hrun]
    refine h _ _ ?_ h3 h4
    show SliceIs _ _ _ _ _ _
    rw [List.length_append, List.map_append]
    exact h2
set_option linter.unusedVariables false in
theorem wpList_append_strs {ops : Array Oper} {rest : List Oper} {o : Oper} {a : Act} {w : World} {Q : Exit → Act → World → Prop} (hw : Region.wanted o (yielded ops a.tmps) = true) (s x : Operand)
    (ho : o.op = .call { callee := .builtin .append, args := #[s, x], argTypes := #[33, 33] })
    (v : Value) (l : List ByteArray) (hs : a.eval s = v) (hp : OwnStrs w v l) (u : Value) (l2 : List ByteArray) (hx : a.eval x = u) (hr : StrsAt w u l2) (hl : l.length ≤ 100000) (hl2 : l2.length ≤ 100000)
    (h : ∀ v' w', Hid (OwnStrs w' v' (l ++ l2)) → Hid (Upds (Value.home v) w w') → Hid (∀ k, Value.home v' k → Value.home v k ∨ w.heap.size ≤ k) → wpList Try.prog ops Q rest (a.put o.dst v') w') :
    wpList Try.prog ops Q (o :: rest) a w :=
  wpList_step fun K hK => step_append_strs hw s x ho v l hs hp u l2 hx hr hl hl2 (fun v' w' h1 h2 h3 => hK _ _ (h v' w' h1 h2 h3))
/-- what stays of a list and of a cell, whatever is made besides -/
def Keep2 (w : World) (v : Value) (t : List ByteArray) (p : Addr) (r : ByteArray) (W : World) : Prop := StrsAt W v t ∧ W.cell? p = some (.string r) ∧ p.block < w.heap.size ∧ Below w.heap.size w W
theorem Keep2.below {w W W' : World} {v : Value} {t : List ByteArray} {p : Addr} {r : ByteArray} (h : Keep2 w v t p r W) (hb : Below W.heap.size W W') : Keep2 w v t p r W' :=
  ⟨h.1.below hb (Nat.le_refl _), (hb.cell (Nat.lt_of_lt_of_le h.2.2.1 h.2.2.2.size)).trans h.2.1, h.2.2.1, h.2.2.2.trans (hb.mono h.2.2.2.size)⟩
theorem Keep2.alloc {w W : World} {v : Value} {t : List ByteArray} {p : Addr} {r : ByteArray} (h : Keep2 w v t p r W) (o : Obj) : Keep2 w v t p r (W.alloc o) := h.below ((Below.refl _ _).alloc (Nat.le_refl _) _)
theorem home_empty {a : Option Addr} {k : Nat} (h : Value.home (.slice a 0 0) k) : False := by
  obtain ⟨_, _, _, e, hc, _⟩ := h
  cases e
  exact absurd hc (Nat.lt_irrefl _)
theorem Upds.below_empty {a : Option Addr} {W W' : World} (h : Upds (Value.home (.slice a 0 0)) W W') : Below W.heap.size W W' := h.below (Nat.le_refl _) (fun _ hk => (home_empty hk).elim)
theorem StrsAt.drew {w : World} {v : Value} {l : List ByteArray} (h : StrsAt w v l) : StrsAt w.drew v l := h.below ((Upds.drew (F := fun _ => False) w).below (Nat.le_refl _) (fun _ h => h.elim)) (Nat.le_refl _)
theorem Keep2.drew {w W : World} {v : Value} {t : List ByteArray} {p : Addr} {r : ByteArray} (h : Keep2 w v t p r W) : Keep2 w v t p r W.drew := h.below ((Upds.drew (F := fun _ => False) W).below (Nat.le_refl _) (fun _ h => h.elim))
theorem Keep2.fin {w W w' : World} {v : Value} {t : List ByteArray} {p : Addr} {r : ByteArray} {F : Nat → Prop} (h : Keep2 w v t p r W) (hF : ∀ k, F k → w.heap.size ≤ k) (hu : Upds F W w') : Below w.heap.size w w' := h.2.2.2.trans (hu.below h.2.2.2.size hF)
theorem Keep2.home {w W : World} {v : Value} {t : List ByteArray} {p : Addr} {r : ByteArray} {v8 : Value} {a : Option Addr} (h : Keep2 w v t p r W) (hh : ∀ k, Value.home v8 k → Value.home (.slice a 0 0) k ∨ W.heap.size ≤ k) : ∀ k, Value.home v8 k → w.heap.size ≤ k :=
  fun k hk => (hh k hk).elim (fun h => (home_empty h).elim) (fun h' => Nat.le_trans h.2.2.2.size h')
end Go.Proofs.Ytklbckonlbpbgab
