import Derived.Test.YtklbckonlbpbgabDevH
import Derived.Laws.AppendOwn
import Derived.Deep.RegionLaw
import Derived.WideShapes
/-! Appending to a slice that lies at the head of a row of its own, or has no capacity. -/
namespace Go.Proofs.Ytklbckonlbpbgab
open Go.RowKit

/-- the block of a slice that can be written -/
def Value.home : Value → Nat → Prop := fun v k => ∃ a n c, v = .slice (some a) n c ∧ 0 < c ∧ k = a.block
/-- a slice of n elements, k cells each, at the head of a row that it has for itself; or without capacity -/
def SliceIs (w : World) (t : TypeId) (k : Nat) (v : Value) (n : Nat) (cs : List Value) : Prop :=
  (∃ a, v = .slice a 0 0 ∧ n = 0 ∧ cs = []) ∨ ∃ g cap cur, v = .slice (some ⟨g, 0, none⟩) n cap ∧ Row w g t cur ∧ cur.take (n * k) = cs ∧ cur.length = cap * k ∧ n ≤ cap ∧ cap ≤ 9223372036854775807 ∧ 0 < cap
theorem SliceIs.nil (w : World) (t : TypeId) (k : Nat) : SliceIs w t k (.slice none 0 0) 0 [] := .inl ⟨none, rfl, rfl, rfl⟩
theorem SliceIs.row {w : World} {t : TypeId} {k : Nat} {v : Value} {n : Nat} {cs : List Value} (h : SliceIs w t k v n cs) (b : Nat) (hb : Value.home v b) : ∃ cur, Row w b t cur := by
  obtain ⟨a, n', c, rfl, hc, rfl⟩ := hb
  rcases h with ⟨a', e, _⟩ | ⟨pb, cap, cur, e, hr, _⟩
  · simp only [Value.slice.injEq] at e; omega
  · simp only [Value.slice.injEq, Option.some.injEq] at e
    obtain ⟨rfl, _⟩ := e
    exact ⟨cur, hr⟩
theorem SliceIs.lt {w : World} {t : TypeId} {k : Nat} {v : Value} {n : Nat} {cs : List Value} (h : SliceIs w t k v n cs) (b : Nat) (hb : Value.home v b) : b < w.heap.size := by
  obtain ⟨cur, hr⟩ := h.row b hb; exact hr.lt
theorem SliceIs.upd {w w' : World} {t : TypeId} {k : Nat} {v : Value} {n : Nat} {cs : List Value} (h : SliceIs w t k v n cs) {F : Nat → Prop} (hu : Upds F w w') (hF : ∀ b, Value.home v b → ¬ F b) : SliceIs w' t k v n cs := by
  rcases h with h | ⟨g, cap, cur, rfl, hr, h1, h2, h3, h4, h5⟩
  · exact .inl h
  · exact .inr ⟨g, cap, cur, rfl, hr.upd hu (hF g ⟨_, _, _, rfl, h5, rfl⟩), h1, h2, h3, h4, h5⟩
theorem SliceIs.alloc {w : World} {t : TypeId} {k : Nat} {v : Value} {n : Nat} {cs : List Value} (h : SliceIs w t k v n cs) (o : Obj) : SliceIs (w.alloc o) t k v n cs := h.upd (F := fun _ => False) (Upds.alloc _ _) (fun _ _ h => h)
theorem SliceIs.cell {w : World} {t : TypeId} {k : Nat} {g n cap : Nat} {cs : List Value} (h : SliceIs w t k (.slice (some ⟨g, 0, none⟩) n cap) n cs) (j : Nat) (x : Value) (hx : cs[j]? = some x) (hj : j < n * k) : w.cell? ⟨g, j, none⟩ = some x := by
  rcases h with ⟨a, e, h0, h1⟩ | ⟨g', cap', cur, e, hr, ht, _⟩
  · subst h0; omega
  · simp only [Value.slice.injEq, Option.some.injEq, Addr.mk.injEq, and_true, true_and] at e
    obtain ⟨rfl, rfl⟩ := e
    refine hr.cell ?_
    rw [← hx, ← ht, List.getElem?_take, if_pos hj]
theorem SliceIs.len {w : World} {t : TypeId} {k : Nat} {v : Value} {n : Nat} {cs : List Value} (h : SliceIs w t k v n cs) : cs.length = n * k := by
  rcases h with ⟨a, _, rfl, rfl⟩ | ⟨g, cap, cur, _, _, rfl, h2, h3, _⟩
  · simp
  · rw [List.length_take, h2]; exact Nat.min_eq_left (Nat.mul_le_mul_right _ h3)

section
variable {P : Program}
theorem run_append_slice {w : World} (t ty e : TypeId) (i : TypeInfo) (z : Value) (size bytes : Nat) (ht : P.underlying t = some (.slice e)) (hi : P.info? e = some i) (hz : i.zero = some z) (hsize : i.size = size) (hby : i.bytes = bytes) (hzs : z.cells.size = size)
    (v : Value) (n : Nat) (cs : List Value) (h : SliceIs w e size v n cs) (ad : Addr) (m c : Nat) (news : List Value) (hl : news.length = m * size) (hnews : ∀ j u, news[j]? = some u → w.cell? (ad.add j) = some u) (h1 : ∀ u ∈ news, u.oneCell' = true)
    (hm : 0 < m) (h63 : n + m ≤ 9223372036854775807) (hbytes : (n + m) * bytes ≤ 140737488355328) :
    ∃ g cap w', (Builtin.append_ #[t, t] ty #[v, .slice (some ad) m c]).run P w = .ok (.slice (some ⟨g, 0, none⟩) (n + m) cap) w' ∧ SliceIs w' e size (.slice (some ⟨g, 0, none⟩) (n + m) cap) (n + m) (cs ++ news) ∧ Upds (Value.home v) w w' ∧
      (∀ k, Value.home (.slice (some ⟨g, 0, none⟩) (n + m) cap) k → Value.home v k ∨ w.heap.size ≤ k) := by
  subst hsize
  subst hby
  have hlen := h.len
  have grown : ∀ old, old < n + m → SliceIs (w.drew.alloc (.cells (cs.toArray ++ news.toArray ++ Builtin.zeroCells z.cells (grownCap w (n + m) old e - (n + m))) e)) e i.size (.slice (some ⟨w.heap.size, 0, none⟩) (n + m) (grownCap w (n + m) old e)) (n + m) (cs ++ news) ∧
      Upds (Value.home v) w (w.drew.alloc (.cells (cs.toArray ++ news.toArray ++ Builtin.zeroCells z.cells (grownCap w (n + m) old e - (n + m))) e)) ∧
      (∀ k, Value.home (.slice (some ⟨w.heap.size, 0, none⟩) (n + m) (grownCap w (n + m) old e)) k → Value.home v k ∨ w.heap.size ≤ k) := by
    intro old ho
    have hge := grownCap_ge w (n + m) old e
    have hcm : grownCap w (n + m) old e ≤ maxLen := grownCap_le_maxLen w (n + m) old e (by unfold maxLen; omega)
    unfold maxLen at hcm
    have hcl : (cs ++ news).length = (n + m) * i.size := by rw [List.length_append, hlen, hl, Nat.add_mul]
    refine ⟨.inr ⟨w.heap.size, _, (cs.toArray ++ news.toArray ++ Builtin.zeroCells z.cells (grownCap w (n + m) old e - (n + m))).toList, rfl, ?_, ?_, ?_, hge, by omega, by omega⟩, (Upds.drew _).trans (Upds.alloc _ _), fun k hk => ?_⟩
    · show (w.drew.alloc _).heap[w.heap.size]? = _
      rw [Array.toArray_toList]; exact heap_alloc_new w.drew _
    · simp only [Array.toList_append]
      rw [← hcl]
      exact List.take_left
    · rw [Array.length_toList, Array.size_append, Array.size_append, size_zeroCells, hzs, List.size_toArray, List.size_toArray, ← List.length_append, hcl, ← Nat.add_mul]
      congr 1; omega
    · obtain ⟨_, _, _, e1, _, rfl⟩ := hk
      simp only [Value.slice.injEq, Option.some.injEq] at e1
      obtain ⟨rfl, _⟩ := e1
      exact .inr (Nat.le_refl _)
  rcases h with ⟨a, rfl, rfl, rfl⟩ | ⟨g, cap, cur, rfl, hr, htk, hcl, hnc, hcm, hpos⟩
  · have hg := grown 0 (by omega)
    cases a with
    | none =>
      have hr := run_append_nil (P := P) w t ty e i z ht hi hz ad m c news hl hnews hm (by omega) (by simp only [Nat.zero_add] at hbytes; omega)
      simp only [Nat.zero_add, Array.empty_append, List.nil_append] at hg ⊢
      exact ⟨_, _, _, hr, hg.1, hg.2.1, hg.2.2⟩
    | some a =>
      have hr := run_append_grow (P := P) w t ty e i z ht hi hz a 0 0 [] (by simp) (by simp) ad m c news hl hnews (by omega) (by omega) (growslice_fits (by omega) hbytes)
      exact ⟨_, _, _, hr, hg.1, hg.2.1, hg.2.2⟩
  · by_cases hroom : n + m ≤ cap
    · have hfit : n * i.size + news.length ≤ cur.toArray.size := by rw [List.size_toArray, hl, hcl, ← Nat.add_mul]; exact Nat.mul_le_mul_right _ hroom
      have hrr := run_append_room (P := P) w t ty e i ht hi g n cap cur.toArray hr ad m c news hl hnews h1 hroom hfit
      have hnl : n * i.size ≤ cur.length := by rw [hcl]; exact Nat.mul_le_mul_right _ hnc
      refine ⟨_, _, _, hrr, .inr ⟨g, cap, _, rfl, Row.setRow hr _, ?_, ?_, hroom, hcm, hpos⟩, Upds.row _ _ _ ⟨_, _, _, rfl, hpos, rfl⟩, fun k hk => .inl ?_⟩
      · have e1 : (n + m) * i.size = (cs ++ news).length := by rw [List.length_append, hlen, hl, Nat.add_mul]
        rw [← htk] at e1 ⊢
        rw [e1]
        exact List.take_left
      · rw [List.length_append, List.length_append, List.length_take, List.length_drop]
        simp only [List.size_toArray] at hfit
        have e9 : cur.toArray.toList.length = cur.length := rfl
        rw [e9, ← hcl]; omega
      · obtain ⟨_, _, _, e1, _, rfl⟩ := hk
        simp only [Value.slice.injEq, Option.some.injEq] at e1
        obtain ⟨rfl, _⟩ := e1
        exact ⟨_, _, _, rfl, hpos, rfl⟩
    · have holds : ∀ j u, cs[j]? = some u → w.cell? ((⟨g, 0, none⟩ : Addr).add j) = some u := fun j u hu => by
        rw [Go.WideShapes.add_plain, Nat.zero_add]
        refine hr.cell ?_
        rw [← htk, List.getElem?_take] at hu
        split at hu
        · exact hu
        · cases hu
      have hrr := run_append_grow (P := P) w t ty e i z ht hi hz ⟨g, 0, none⟩ n cap cs hlen holds ad m c news hl hnews (by omega) (by omega) (growslice_fits (by omega) hbytes)
      have hg := grown cap (by omega)
      exact ⟨_, _, _, hrr, hg.1, hg.2.1, hg.2.2⟩

/-- an append as one step of a region that draws its order -/
theorem step_append_slice {ops : Array Oper} {o : Oper} {a : Act} {w : World} {K : Act → World → Prop} {Q : Exit → Act → World → Prop} {E : Prop} (hgd : o.guard = none) (s x : Operand) (t : TypeId)
    (ho : o.op = .call { callee := .builtin .append, args := #[s, x], argTypes := #[t, t] })
    (e : TypeId) (z : Value) (size bytes : Nat) (ht : P.underlying t = some (.slice e)) (hinfo : (P.info? e).map (fun i => (i.zero, i.size, i.bytes)) = some (some z, size, bytes)) (hzs : z.cells.size = size)
    (v : Value) (n : Nat) (cs : List Value) (hs : a.eval s = v) (hp : SliceIs w e size v n cs) (ad : Addr) (m c : Nat) (news : List Value) (hx : a.eval x = .slice (some ad) m c) (hl : news.length = m * size) (hnews : ∀ j u, news[j]? = some u → w.cell? (ad.add j) = some u) (h1 : ∀ u ∈ news, u.oneCell' = true)
    (hm : 0 < m) (h63 : n + m ≤ 9223372036854775807) (hbytes : (n + m) * bytes ≤ 140737488355328)
    (h : ∀ g cap w', Hid (SliceIs w' e size (.slice (some ⟨g, 0, none⟩) (n + m) cap) (n + m) (cs ++ news)) → Hid (Upds (Value.home v) w w') → Hid (∀ k, Value.home (.slice (some ⟨g, 0, none⟩) (n + m) cap) k → Value.home v k ∨ w.heap.size ≤ k) →
      K (a.put o.dst (.slice (some ⟨g, 0, none⟩) (n + m) cap)) w') :
    if Region.wanted o (yielded ops a.tmps) = true then Oper.wp P o a w K Q else E := by
  have hw : Region.wanted o (yielded ops a.tmps) = true := by simp [Region.wanted, hgd]
  rw [if_pos hw]
  obtain ⟨i, hi, hzz⟩ := Option.map_eq_some_iff.1 hinfo
  simp only [Prod.mk.injEq] at hzz
  obtain ⟨hz, hsz, hb⟩ := hzz
  obtain ⟨g, cap, w', hr, h2, h3, h4⟩ := run_append_slice (P := P) t o.type e i z size bytes ht hi hz hsz hb hzs v n cs hp ad m c news hl hnews h1 hm h63 hbytes
  unfold Oper.wp execOp
  simp only [ho, resolve, invoke, builtin, Sem.run_bind, Sem.run_pure, Result.andThen_ok, List.map_toArray, List.map_cons, List.map_nil, hs, hx, hr]
  exact h g cap w' h2 h3 h4
/-- an append in a plain walk -/
theorem wpList_append_slice {ops : Array Oper} {rest : List Oper} {o : Oper} {a : Act} {w : World} {Q : Exit → Act → World → Prop} (hgd : o.guard = none) (s x : Operand) (t : TypeId)
    (ho : o.op = .call { callee := .builtin .append, args := #[s, x], argTypes := #[t, t] })
    (e : TypeId) (z : Value) (size bytes : Nat) (ht : P.underlying t = some (.slice e)) (hinfo : (P.info? e).map (fun i => (i.zero, i.size, i.bytes)) = some (some z, size, bytes)) (hzs : z.cells.size = size)
    (v : Value) (n : Nat) (cs : List Value) (hs : a.eval s = v) (hp : SliceIs w e size v n cs) (ad : Addr) (m c : Nat) (news : List Value) (hx : a.eval x = .slice (some ad) m c) (hl : news.length = m * size) (hnews : ∀ j u, news[j]? = some u → w.cell? (ad.add j) = some u) (h1 : ∀ u ∈ news, u.oneCell' = true)
    (hm : 0 < m) (h63 : n + m ≤ 9223372036854775807) (hbytes : (n + m) * bytes ≤ 140737488355328)
    (h : ∀ g cap w', Hid (SliceIs w' e size (.slice (some ⟨g, 0, none⟩) (n + m) cap) (n + m) (cs ++ news)) → Hid (Upds (Value.home v) w w') → Hid (∀ k, Value.home (.slice (some ⟨g, 0, none⟩) (n + m) cap) k → Value.home v k ∨ w.heap.size ≤ k) →
      wpList P ops Q rest (a.put o.dst (.slice (some ⟨g, 0, none⟩) (n + m) cap)) w') :
    wpList P ops Q (o :: rest) a w :=
  wpList_plain hgd fun K hK => by
    obtain ⟨i, hi, hzz⟩ := Option.map_eq_some_iff.1 hinfo
    simp only [Prod.mk.injEq] at hzz
    obtain ⟨hz, hsz, hb⟩ := hzz
    obtain ⟨g, cap, w', hr, h2, h3, h4⟩ := run_append_slice (P := P) t o.type e i z size bytes ht hi hz hsz hb hzs v n cs hp ad m c news hl hnews h1 hm h63 hbytes
    unfold Oper.wp execOp
    simp only [ho, resolve, invoke, builtin, Sem.run_bind, Sem.run_pure, Result.andThen_ok, List.map_toArray, List.map_cons, List.map_nil, hs, hx, hr]
    exact hK _ _ (h g cap w' h2 h3 h4)
end
end Go.Proofs.Ytklbckonlbpbgab
