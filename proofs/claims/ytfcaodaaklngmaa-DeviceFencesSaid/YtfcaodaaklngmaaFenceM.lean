import Derived.Test.YtfcaodaaklngmaaDevV
import Derived.Test.YtfcaodaaklngmaaLastM
/-! A fenced device; two devices beside each other. -/
namespace Go.Proofs.Ytfcaodaaklngmaa
open Go.Lib Go.ChangeShapes Go.WideShapes Go.ChangeAt Go.RowKit
set_option linter.unusedVariables false
theorem Dev.own_lt {w : World} {base : Nat} {L : Lay} {D : DS} (h : Dev w base L D) (k : Nat) (hk : L.own k) : k < w.heap.size := by
  rcases hk with rfl | rfl | hk
  · exact h.blk.lt
  · exact h.secs.lt
  · obtain ⟨cur, hr⟩ := h.pend.lt k hk; exact hr.lt
/-- a device beside one that is turned -/
theorem Dev.beside {w w' : World} {b1 b2 : Nat} {L L2 : Lay} {D D2 : DS} (h : Dev w b1 L D) (h2 : Dev w b2 L2 D2) (hx : ∀ k, L.own k → ¬ L2.own k) (hu : Upds L.own w w') : Dev w' b2 L2 D2 :=
  h2.upd hu (fun k hk hF => hx k hF hk) (fun k cur hc _ hF => h.not_own (t := 3) (cur := cur.toList) (by unfold Row; rw [Array.toArray_toList]; exact hc) (by decide) (by decide) (by decide) hF)
theorem DevTo.next2 {w wi wj : World} {L L2 : Lay} {D D' D2 : DS} {b2 : Nat} (hu : Upds (fun _ => False) w wi) (hd : Dev wi w.heap.size L D) (ht : DevTo wi w.heap.size L D' wj) (h2 : Dev wi b2 L2 D2) (hx : ∀ k, L.own k → ¬ L2.own k) :
    ∃ L', Dev wj w.heap.size L' D' ∧ L'.b = L.b ∧ Upds (fun _ => False) w wj ∧ Upds L.own wi wj ∧ Dev wj b2 L2 D2 ∧ ∀ k, L'.own k → ¬ L2.own k := by
  obtain ⟨L', h1, hb, h3, h4⟩ := ht
  refine ⟨L', h1, hb, hu.trans' h3 (fun i hi h => by have := hd.below i h; omega), h3, hd.beside h2 hx h3, fun k hk h => ?_⟩
  rcases h4 k hk with h5 | h5
  · exact hx k h5 h
  · have := h2.own_lt k h; omega
theorem Dev.aside {w w' : World} {base b : Nat} {t : TypeId} {cur : List Value} {L : Lay} {D : DS} (h : Dev w base L D) (hr : Row w b t cur) (h1 : 70 ≠ t) (h2 : 74 ≠ t) (h3 : 90 ≠ t) (h4 : 3 ≠ t) (hu : Upds (fun k => k = b) w w') : Dev w' base L D :=
  h.upd hu (fun k hk e => h.not_own hr h1 h2 h3 (e ▸ hk)) (fun k cu hc _ e => Row.ne (w := w) (b := k) (t := 3) (cur := cu.toList) (by unfold Row; rw [Array.toArray_toList]; exact hc) hr h4 e)
def fenD (n : Nat) : DS := (DS.fresh 4).fence 3 n
theorem fenD_fen (n : Nat) : fenD n = { DS.fresh 4 with fen := fun j => if j = 2 then max (-1) (n : Int) else -1 } := by
  unfold fenD DS.fence
  rw [if_pos (by omega)]
  rfl
theorem fenD_has (n : Nat) : (fenD n).has 0 := by rw [fenD_fen]; exact ⟨by omega, by show (0 : Int) < ((4 : Nat) : Int); omega⟩
theorem fenD_admit (n : Nat) (e : Int) (he : e ≤ n) : (fenD n).admit 3 e = (13, fenD n) := by
  rw [fenD_fen]
  unfold DS.admit
  rw [if_neg (by simp [DS.fresh]), if_pos (by show e ≤ max (-1) (n : Int); omega)]
theorem fenD_write (n : Nat) (e : Int) (h0 : 0 ≤ e) (he : e ≤ n) (hn : n < 549755813888) (d : ByteArray) (hd : d.size = 140) : (fenD n).write 3 e 0 d = (13, fenD n) := by
  have ha := fenD_admit n e he
  rw [DS.write_no ⟨⟨by omega, by omega, h0, by omega⟩, hd⟩ (fenD_has n) (by rw [ha]; show (13 : Int) ≠ 0; omega), ha]
theorem fenD_sync (n : Nat) (e : Int) (h0 : 0 ≤ e) (he : e ≤ n) (hn : n < 549755813888) : (fenD n).sync 3 e = (13, fenD n) := by
  have ha := fenD_admit n e he
  rw [DS.sync_no ⟨by omega, by omega, h0, by omega⟩ (by rw [ha]; show (13 : Int) ≠ 0; omega), ha]
theorem fenD_count (n : Nat) (k : Int) : (fenD n).count k = 0 := by rw [fenD_fen]; rfl
theorem fenD_later (n : Nat) (hn : n < 549755813888) (d : ByteArray) (hd : d.size = 140) : (fenD n).write 3 ((n : Int) + 1) 0 d = (0, { fenD n with pend := [⟨3, 0, d⟩] }) := by
  have ha : (fenD n).admit 3 ((n : Int) + 1) = (0, fenD n) := by
    rw [fenD_fen]
    exact DS.admit_calm _ _ _ rfl rfl (by show max (-1) (n : Int) < _; omega)
  rw [DS.write_yes ⟨⟨by omega, by omega, by omega, by omega⟩, hd⟩ (fenD_has n) (by rw [ha]), ha, fenD_fen]
  rfl
theorem fenD_other (n : Nat) (d : ByteArray) (hd : d.size = 140) : ∃ D', ({ fenD n with pend := [⟨3, 0, d⟩] } : DS).write 4 0 0 d = (0, D') := by
  have ha : ({ fenD n with pend := [⟨3, 0, d⟩] } : DS).admit 4 0 = (0, { fenD n with pend := [⟨3, 0, d⟩] }) := by
    rw [fenD_fen]
    exact DS.admit_calm _ _ _ rfl rfl (by show (-1 : Int) < 0; omega)
  have hh : ({ fenD n with pend := [⟨3, 0, d⟩] } : DS).has 0 := fenD_has n
  rw [DS.write_yes ⟨⟨by omega, by omega, by omega, by omega⟩, hd⟩ hh (by rw [ha])]
  exact ⟨_, rfl⟩
/-- what holds while a fenced writer writes and syncs -/
def FG (w' : World) (L L2 : Lay) (n : Nat) (b1 : Nat) (o : OpD) (b2 : Nat) (e' : Int) (W : World) : Prop :=
  ∃ L9 : Lay, Dev W w'.heap.size L9 (fenD n) ∧ L9.b = L.b ∧ Dev W w'.heap.size L2 (fenD n) ∧ (∀ k, L9.own k → ¬ L2.own k) ∧ Row W b1 44 o.cells ∧ Row W b2 42 [.int .i64 3, .int .i64 e'] ∧ Upds (fun _ => False) w' W
theorem FG.next {w' : World} {L L2 : Lay} {n b1 : Nat} {o : OpD} {b2 : Nat} {e' : Int} {W W2 : World} {L9 : Lay} (hd : Dev W w'.heap.size L9 (fenD n)) (hb : L9.b = L.b) (h2 : Dev W w'.heap.size L2 (fenD n)) (hx : ∀ k, L9.own k → ¬ L2.own k) (h5 : Row W b1 44 o.cells) (h7 : Row W b2 42 [.int .i64 3, .int .i64 e'])
    (hu : Upds (fun _ => False) w' W) (ht : DevTo W w'.heap.size L9 (fenD n) W2) : FG w' L L2 n b1 o b2 e' W2 := by
  obtain ⟨L', h1, h2', h3, h4, h5', h6⟩ := DevTo.next2 hu hd ht h2 hx
  exact ⟨L', h1, h2'.trans hb, h5', h6, h5.upd h4 (hd.not_own h5 (by decide) (by decide) (by decide)), h7.upd h4 (hd.not_own h7 (by decide) (by decide) (by decide)), h3⟩
theorem FG.write {w' : World} {L L2 : Lay} {n b1 : Nat} {o : OpD} {b2 : Nat} {e' : Int} (h0 : 0 ≤ e') (he : e' ≤ n) (hn : n < 549755813888) (x : ByteArray) (hx : x.size = 140) (W : World) (h : FG w' L L2 n b1 o b2 e' W) :
    Calls Try.prog 21 #[.pointer (some ⟨L.b, 0, none⟩), .agg #[.int .i64 3, .int .i64 e'], .int .i64 0, .string x] W fun e W2 => e = .returned (.int .i64 13) ∧ FG w' L L2 n b1 o b2 e' W2 := by
  obtain ⟨L9, hd, hb, h2, hxx, h5, h7, hu⟩ := h
  have hc := write_any w'.heap.size L9 (fenD n) 3 e' 0 x W hd hu.size (by rw [fenD_fen]; show 0 + 1 ≤ 100000; omega)
  rw [hb, fenD_write n e' h0 he hn x hx] at hc
  refine hc.mono ?_
  rintro e W2 ⟨rfl, ht⟩
  exact ⟨rfl, FG.next hd hb h2 hxx h5 h7 hu ht⟩
theorem FG.sync {w' : World} {L L2 : Lay} {n b1 : Nat} {o : OpD} {b2 : Nat} {e' : Int} (h0 : 0 ≤ e') (he : e' ≤ n) (hn : n < 549755813888) (W : World) (h : FG w' L L2 n b1 o b2 e' W) :
    Calls Try.prog 22 #[.pointer (some ⟨L.b, 0, none⟩), .agg #[.int .i64 3, .int .i64 e']] W fun e W2 => e = .returned (.int .i64 13) ∧ FG w' L L2 n b1 o b2 e' W2 := by
  obtain ⟨L9, hd, hb, h2, hxx, h5, h7, hu⟩ := h
  have hc := sync_any w'.heap.size L9 (fenD n) 3 e' W hd hu.size
  rw [hb, fenD_sync n e' h0 he hn] at hc
  refine hc.mono ?_
  rintro e W2 ⟨rfl, ht⟩
  exact ⟨rfl, FG.next hd hb h2 hxx h5 h7 hu ht⟩
theorem FG.cells {w' : World} {L L2 : Lay} {n b1 : Nat} {o : OpD} {b2 : Nat} {e' : Int} {W : World} (h : FG w' L L2 n b1 o b2 e' W) :
    W.cell? ⟨b1, 0, none⟩ = some (.int .u8 o.kind) ∧ W.cell? ⟨b1, 4, none⟩ = some (.string o.dat) ∧ W.cell? ⟨b2, 0, none⟩ = some (.int .i64 3) ∧ W.cell? ⟨b2, 1, none⟩ = some (.int .i64 e') := by
  obtain ⟨L9, hd, hb, h2, hxx, h5, h7, hu⟩ := h
  exact ⟨h5.cell rfl, h5.cell rfl, h7.cell rfl, h7.cell rfl⟩
end Go.Proofs.Ytfcaodaaklngmaa
