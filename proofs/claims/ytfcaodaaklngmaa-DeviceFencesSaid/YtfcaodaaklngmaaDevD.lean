import Derived.Test.YtfcaodaaklngmaaDevT3
import Derived.Test.YtfcaodaaklngmaaApp
/-! A device in memory. -/
namespace Go.Proofs.Ytfcaodaaklngmaa
open Go.Lib Go.ChangeShapes Go.WideShapes Go.ChangeAt Go.RowKit

/-- where a device lies: its own block, that of its sectors with their capacity, the values of its lists of pending writes and of surviving numbers -/
structure Lay where
  b : Nat
  sb : Nat
  sc : Nat
  pv : Value
  va : Option Addr
  vc : Nat
/-- the blocks that a device's calls may turn -/
def Lay.own (L : Lay) (k : Nat) : Prop := k = L.b ∨ k = L.sb ∨ Value.home L.pv k
/-- a slice of pending writes of its own -/
def PendIs (w : World) (pv : Value) (l : List PW) : Prop :=
  (∃ a, pv = .slice a 0 0 ∧ l = []) ∨ ∃ pb cap cur, pv = .slice (some ⟨pb, 0, none⟩) l.length cap ∧ Row w pb 90 cur ∧ cur.take (l.length * 3) = pwCells l ∧ cur.length = cap * 3 ∧ l.length ≤ cap ∧ cap ≤ 9223372036854775807 ∧ 0 < cap
def Lay.cells (L : Lay) (D : DS) : List Value :=
  [.slice (some ⟨L.sb, 0, none⟩) D.n L.sc, L.pv, .int .i64 (D.fen 0), .int .i64 (D.fen 1), .int .i64 (D.fen 2), .int .i64 (D.fen 3), .bool D.failed, .bool D.waits, .int .i64 D.left, .slice L.va D.surv.length L.vc]
structure Dev (w : World) (base : Nat) (L : Lay) (D : DS) : Prop where
  blk : Row w L.b 70 (L.cells D)
  secs : Secs w L.sb D.n D.sec
  pend : PendIs w L.pv D.pend
  surv : IntsAt w L.va D.surv
  sva : ∀ x, 0 < D.surv.length → L.va = some x → base ≤ x.block ∧ ∃ cur, w.heap[x.block]? = some (.cells cur 3 (0, 0))
  hb : base ≤ L.b
  hsb : base ≤ L.sb
  hpb : ∀ k, Value.home L.pv k → base ≤ k
  ok : D.Ok
  cap : D.n ≤ L.sc ∧ L.sc ≤ 9223372036854775807
  few : D.pend.length ≤ 100000 ∧ D.surv.length ≤ 100000

theorem Dev.below {w : World} {base : Nat} {L : Lay} {D : DS} (h : Dev w base L D) (k : Nat) (hk : L.own k) : base ≤ k := by
  rcases hk with rfl | rfl | hk
  · exact h.hb
  · exact h.hsb
  · exact h.hpb k hk
theorem PendIs.lt {w : World} {pv : Value} {l : List PW} (h : PendIs w pv l) (k : Nat) (hk : Value.home pv k) : ∃ cur, Row w k 90 cur := by
  obtain ⟨a, n, c, rfl, hc, rfl⟩ := hk
  rcases h with ⟨a', e, _⟩ | ⟨pb, cap, cur, e, hr, _⟩
  · simp only [Value.slice.injEq] at e; omega
  · simp only [Value.slice.injEq, Option.some.injEq] at e
    obtain ⟨rfl, _⟩ := e
    exact ⟨cur, hr⟩
theorem Dev.lt {w : World} {base : Nat} {L : Lay} {D : DS} (h : Dev w base L D) (k : Nat) (hk : L.own k) : k < w.heap.size := by
  rcases hk with rfl | rfl | hk
  · exact h.blk.lt
  · exact h.secs.lt
  · obtain ⟨cur, hr⟩ := h.pend.lt k hk; exact hr.lt
theorem PendIs.toSlice {w : World} {pv : Value} {l : List PW} (h : PendIs w pv l) : SliceIs w 90 3 pv l.length (pwCells l) := by
  rcases h with ⟨a, rfl, rfl⟩ | ⟨pb, cap, cur, rfl, hr, h1, h2, h3, h4, h5⟩
  · exact .inl ⟨a, rfl, rfl, rfl⟩
  · exact .inr ⟨pb, cap, cur, rfl, hr, h1, h2, h3, h4, h5⟩
theorem PendIs.ofSlice {w : World} {pv : Value} {l : List PW} (h : SliceIs w 90 3 pv l.length (pwCells l)) : PendIs w pv l := by
  rcases h with ⟨a, rfl, h0, _⟩ | ⟨pb, cap, cur, rfl, hr, h1, h2, h3, h4, h5⟩
  · exact .inl ⟨a, rfl, List.eq_nil_of_length_eq_zero h0⟩
  · exact .inr ⟨pb, cap, cur, rfl, hr, h1, h2, h3, h4, h5⟩
theorem PendIs.upd {w w' : World} {pv : Value} {l : List PW} (h : PendIs w pv l) {F : Nat → Prop} (hu : Upds F w w') (hF : ∀ k, Value.home pv k → ¬ F k) : PendIs w' pv l := by
  rcases h with h | ⟨pb, cap, cur, rfl, hr, h1, h2, h3, h4, h5⟩
  · exact .inl h
  · exact .inr ⟨pb, cap, cur, rfl, hr.upd hu (hF pb ⟨_, _, _, rfl, h5, rfl⟩), h1, h2, h3, h4, h5⟩
theorem Dev.upd {w w' : World} {base : Nat} {L : Lay} {D : DS} (h : Dev w base L D) {F : Nat → Prop} (hu : Upds F w w') (hF : ∀ k, L.own k → ¬ F k) (hs : ∀ k cur, w.heap[k]? = some (.cells cur 3 (0, 0)) → base ≤ k → ¬ F k) : Dev w' base L D :=
  ⟨h.blk.upd hu (hF _ (.inl rfl)), h.secs.upd hu (hF _ (.inr (.inl rfl))), h.pend.upd hu (fun k hk => hF k (.inr (.inr hk))),
    fun h0 => by
      obtain ⟨b, off, e, hc⟩ := h.surv h0
      obtain ⟨h1, cur, h2⟩ := h.sva _ h0 e
      exact ⟨b, off, e, fun i hi => hu.cell (hs _ _ h2 h1) (hc i hi)⟩,
    fun x h0 hx => by
      obtain ⟨h1, cur, h2⟩ := h.sva x h0 hx
      exact ⟨h1, cur, hu.obj (hs _ _ h2 h1) h2⟩, h.hb, h.hsb, h.hpb, h.ok, h.cap, h.few⟩
theorem Dev.calm {w w' : World} {base : Nat} {L : Lay} {D : DS} (h : Dev w base L D) (hu : Upds (fun _ => False) w w') : Dev w' base L D := h.upd hu (fun _ _ h => h) (fun _ _ _ _ h => h)
/-- the blocks differ by what they hold -/
theorem Dev.b_ne_sb {w : World} {base : Nat} {L : Lay} {D : DS} (h : Dev w base L D) : L.b ≠ L.sb := by
  obtain ⟨cur, hr, _⟩ := h.secs
  exact h.blk.ne hr (by decide)
theorem Dev.b_ne_pb {w : World} {base : Nat} {L : Lay} {D : DS} (h : Dev w base L D) (k : Nat) (hk : Value.home L.pv k) : L.b ≠ k := by
  obtain ⟨cur, hr⟩ := h.pend.lt k hk
  exact h.blk.ne hr (by decide)
theorem Dev.sb_ne_pb {w : World} {base : Nat} {L : Lay} {D : DS} (h : Dev w base L D) (k : Nat) (hk : Value.home L.pv k) : L.sb ≠ k := by
  obtain ⟨cur, hr⟩ := h.pend.lt k hk
  obtain ⟨cur', hr', _⟩ := h.secs
  exact hr'.ne hr (by decide)
theorem Dev.va_ne {w : World} {base : Nat} {L : Lay} {D : DS} (h : Dev w base L D) (h0 : 0 < D.surv.length) (x : Addr) (hx : L.va = some x) : ¬ L.own x.block := by
  obtain ⟨_, cur, hc⟩ := h.sva x h0 hx
  have hr : Row w x.block 3 cur.toList := by unfold Row; rw [hc]
  rintro (e | e | e)
  · exact (e ▸ h.blk).ne hr (by decide) rfl
  · obtain ⟨cur', hr', _⟩ := h.secs; exact (e ▸ hr').ne hr (by decide) rfl
  · obtain ⟨cur', hr'⟩ := h.pend.lt _ e; exact hr'.ne hr (by decide) rfl
/-- no device owns a row of integers -/
theorem Dev.no_ints {w : World} {base : Nat} {L : Lay} {D : DS} (h : Dev w base L D) (k : Nat) (cur : Array Value) (hk : w.heap[k]? = some (.cells cur 3 (0, 0))) : ¬ L.own k := by
  have hr : Row w k 3 cur.toList := by unfold Row; rw [hk]
  rintro (e | e | e)
  · exact (e ▸ h.blk).ne hr (by decide) rfl
  · obtain ⟨cur', hr', _⟩ := h.secs; exact (e ▸ hr').ne hr (by decide) rfl
  · obtain ⟨cur', hr'⟩ := h.pend.lt _ e; exact hr'.ne hr (by decide) rfl
section
variable {w : World} {base : Nat} {L : Lay} {D : DS} (h : Dev w base L D)
include h
theorem Dev.c0 : w.cell? ⟨L.b, 0, none⟩ = some (.slice (some ⟨L.sb, 0, none⟩) D.n L.sc) := h.blk.cell rfl
theorem Dev.c1 : w.cell? ⟨L.b, 1, none⟩ = some L.pv := h.blk.cell rfl
theorem Dev.c2 : w.cell? ⟨L.b, 2, none⟩ = some (.int .i64 (D.fen 0)) := h.blk.cell rfl
theorem Dev.c3 : w.cell? ⟨L.b, 3, none⟩ = some (.int .i64 (D.fen 1)) := h.blk.cell rfl
theorem Dev.c4 : w.cell? ⟨L.b, 4, none⟩ = some (.int .i64 (D.fen 2)) := h.blk.cell rfl
theorem Dev.c5 : w.cell? ⟨L.b, 5, none⟩ = some (.int .i64 (D.fen 3)) := h.blk.cell rfl
theorem Dev.c6 : w.cell? ⟨L.b, 6, none⟩ = some (.bool D.failed) := h.blk.cell rfl
theorem Dev.c7 : w.cell? ⟨L.b, 7, none⟩ = some (.bool D.waits) := h.blk.cell rfl
theorem Dev.c8 : w.cell? ⟨L.b, 8, none⟩ = some (.int .i64 D.left) := h.blk.cell rfl
theorem Dev.c9 : w.cell? ⟨L.b, 9, none⟩ = some (.slice L.va D.surv.length L.vc) := h.blk.cell rfl
end
/-- what a call on a device leaves -/
def DevTo (w : World) (base : Nat) (L : Lay) (D' : DS) (w' : World) : Prop :=
  ∃ L', Dev w' base L' D' ∧ L'.b = L.b ∧ Upds L.own w w' ∧ (∀ k, L'.own k → L.own k ∨ w.heap.size ≤ k)
/-- the device behind a change of its sectors and of its list of pending writes -/
theorem Dev.relist {w w1 : World} {base : Nat} {L : Lay} {D : DS} (h : Dev w base L D) (hw : base ≤ w.heap.size) (sec' : Nat → Sec) (pend' : List PW) (pv' : Value) (hu : Upds (fun k => k = L.sb ∨ Value.home L.pv k) w w1) (hs : Secs w1 L.sb D.n sec') (hp : PendIs w1 pv' pend')
    (hh : ∀ k, Value.home pv' k → Value.home L.pv k ∨ w.heap.size ≤ k) (ok : DS.Ok { D with sec := sec', pend := pend' }) (few : pend'.length ≤ 100000) :
    DevTo w base L { D with sec := sec', pend := pend' } (w1.setCell ⟨L.b, 1, none⟩ pv') := by
  have hb : Row w1 L.b 70 (L.cells D) := h.blk.upd hu (fun e => e.elim (fun e => h.b_ne_sb e) (fun e => h.b_ne_pb _ e rfl))
  have hpb : ∀ k, Value.home pv' k → L.b ≠ k := fun k hk => by obtain ⟨cur, hr⟩ := hp.lt k hk; exact hb.ne hr (by decide)
  have hset : Upds (fun k => k = L.b) w1 (w1.setCell ⟨L.b, 1, none⟩ pv') := Upds.set _ _ _ rfl
  have hown : Upds L.own w (w1.setCell ⟨L.b, 1, none⟩ pv') := (hu.mono (fun k hk => Or.inr hk)).trans' hset (fun i _ hi => Or.inl hi)
  refine ⟨{ L with pv := pv' }, ⟨?_, hs.upd hset (fun e => h.b_ne_sb e.symm), hp.upd hset (fun k hk e => hpb k hk e.symm), ?_, ?_, h.hb, h.hsb, fun k hk => ?_, ok, h.cap, ⟨few, h.few.2⟩⟩, rfl, hown, fun k hk => ?_⟩
  · exact hb.set 1 pv'
  · intro h0
    obtain ⟨b, off, e, hc⟩ := h.surv h0
    obtain ⟨h1, cur, h2⟩ := h.sva _ h0 e
    exact ⟨b, off, e, fun i hi => hown.cell (h.no_ints _ _ h2) (hc i hi)⟩
  · intro x h0 hx
    obtain ⟨h1, cur, h2⟩ := h.sva x h0 hx
    exact ⟨h1, cur, hown.obj (h.no_ints _ _ h2) h2⟩
  · rcases hh k hk with hk | hk
    · exact h.hpb k hk
    · omega
  · rcases hk with rfl | rfl | hk
    · exact .inl (.inl rfl)
    · exact .inl (.inr (.inl rfl))
    · rcases hh k hk with hk | hk
      · exact .inl (.inr (.inr hk))
      · exact .inr hk
/-- a world that differs in draws alone -/
def Like (w W : World) : Prop := ∃ n, W = w.drewN n
theorem Like.refl (w : World) : Like w w := ⟨0, rfl⟩
theorem Like.drew {w W : World} (h : Like w W) : Like w W.drew := by obtain ⟨n, rfl⟩ := h; exact ⟨n + 1, rfl⟩
theorem Dev.not_own {w : World} {base : Nat} {L : Lay} {D : DS} (h : Dev w base L D) {k : Nat} {t : TypeId} {cur : List Value} (hr : Row w k t cur) (h1 : 70 ≠ t) (h2 : 74 ≠ t) (h3 : 90 ≠ t) : ¬ L.own k := by
  rintro (e | e | e)
  · exact (e ▸ h.blk).ne hr h1 rfl
  · obtain ⟨cur', hr', _⟩ := h.secs; exact (e ▸ hr').ne hr h2 rfl
  · obtain ⟨cur', hr'⟩ := h.pend.lt _ e; exact hr'.ne hr h3 rfl
theorem DevTo.next {w wi wj : World} {L : Lay} {D D' : DS} (hu : Upds (fun _ => False) w wi) (hd : Dev wi w.heap.size L D) (ht : DevTo wi w.heap.size L D' wj) : ∃ L', Dev wj w.heap.size L' D' ∧ L'.b = L.b ∧ Upds (fun _ => False) w wj ∧ Upds L.own wi wj := by
  obtain ⟨L', h1, h2, h3, _⟩ := ht
  exact ⟨L', h1, h2, hu.trans' h3 (fun i hi h => by have := hd.below i h; omega), h3⟩
end Go.Proofs.Ytfcaodaaklngmaa
