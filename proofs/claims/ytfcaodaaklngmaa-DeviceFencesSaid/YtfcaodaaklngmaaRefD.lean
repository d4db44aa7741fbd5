import Derived.Test.YtfcaodaaklngmaaDevC
/-! The reference device in memory. -/
namespace Go.Proofs.Ytfcaodaaklngmaa
open Go.Lib Go.ChangeShapes Go.WideShapes Go.ChangeAt Go.RowKit

/-- where the lists of a reference device lie -/
structure RV where
  sg : Nat
  scap : Nat
  og : Nat
  ocap : Nat
  pa : Option Addr
  pc : Nat
  fg : Nat
  fcap : Nat
  va : Option Addr
  vn : Nat
  vc : Nat
def refF (f : Int) : Int := if f < 0 then 0 else min f 1099511627776 + 1
def DS.fuse (D : DS) : Int := if D.waits then max D.left 0 else -1
def RV.cells (R : RV) (D : DS) : List Value :=
  [.slice (some ⟨R.sg, 0, none⟩) D.n R.scap, .slice (some ⟨R.og, 0, none⟩) D.n R.ocap, .slice R.pa D.pend.length R.pc, .slice (some ⟨R.fg, 0, none⟩) 5 R.fcap, .bool D.failed, .int .i64 D.fuse, .slice R.va R.vn R.vc]
def RV.agg (R : RV) (D : DS) : Value :=
  .agg #[.slice (some ⟨R.sg, 0, none⟩) D.n R.scap, .slice (some ⟨R.og, 0, none⟩) D.n R.ocap, .slice R.pa D.pend.length R.pc, .slice (some ⟨R.fg, 0, none⟩) 5 R.fcap, .bool D.failed, .int .i64 D.fuse, .slice R.va R.vn R.vc]
/-- an earlier content's list -/
def OldIs (w : World) (v : Value) (l : List ByteArray) : Prop := SliceIs w 9 1 v l.length (l.map Value.string) ∧ ∃ a c, v = .slice a l.length c
def stCells (D : DS) : List Value := (List.range D.n).map fun i => .string (D.sec i).st
structure RefIs (w : World) (R : RV) (D : DS) : Prop where
  st : SliceIs w 9 1 (.slice (some ⟨R.sg, 0, none⟩) D.n R.scap) D.n (stCells D)
  old : ∃ O : Nat → Value, SliceIs w 27 1 (.slice (some ⟨R.og, 0, none⟩) D.n R.ocap) D.n ((List.range D.n).map O) ∧ ∀ i, i < D.n → OldIs w (O i) (D.sec i).er
  pend : SliceIs w 117 3 (.slice R.pa D.pend.length R.pc) D.pend.length (pwCells D.pend)
  fen : SliceIs w 3 1 (.slice (some ⟨R.fg, 0, none⟩) 5 R.fcap) 5 [.int .i64 0, .int .i64 (refF (D.fen 0)), .int .i64 (refF (D.fen 1)), .int .i64 (refF (D.fen 2)), .int .i64 (refF (D.fen 3))]
  surv : D.waits = true → R.vn = D.surv.length ∧ IntsAt w R.va D.surv ∧ ∀ x, 0 < D.surv.length → R.va = some x → ∃ cur, w.heap[x.block]? = some (.cells cur 3 (0, 0))
  ok : D.Ok
/-- blocks that a reference device may use -/
def RefT (t : TypeId) : Prop := t = 9 ∨ t = 27 ∨ t = 117 ∨ t = 3
theorem SliceIs.updT {w w' : World} {t : TypeId} {k : Nat} {v : Value} {n : Nat} {cs : List Value} (h : SliceIs w t k v n cs) {F : Nat → Prop} (hu : Upds F w w') (hF : ∀ b cur, Row w b t cur → ¬ F b) : SliceIs w' t k v n cs :=
  h.upd hu (fun b hb => by obtain ⟨cur, hr⟩ := h.row b hb; exact hF b cur hr)
theorem RefIs.upd {w w' : World} {R : RV} {D : DS} (h : RefIs w R D) {F : Nat → Prop} (hu : Upds F w w') (hF : ∀ b t cur, RefT t → Row w b t cur → ¬ F b) : RefIs w' R D := by
  obtain ⟨O, h1, h2⟩ := h.old
  refine ⟨h.st.updT hu (fun b cur hr => hF b _ cur (.inl rfl) hr), ⟨O, h1.updT hu (fun b cur hr => hF b _ cur (.inr (.inl rfl)) hr), fun i hi => ⟨(h2 i hi).1.updT hu (fun b cur hr => hF b _ cur (.inl rfl) hr), (h2 i hi).2⟩⟩,
    h.pend.updT hu (fun b cur hr => hF b _ cur (.inr (.inr (.inl rfl))) hr), h.fen.updT hu (fun b cur hr => hF b _ cur (.inr (.inr (.inr rfl))) hr), fun hw => ?_, h.ok⟩
  obtain ⟨e, hi, hc⟩ := h.surv hw
  have hne : ∀ x, R.va = some x → 0 < D.surv.length → ¬ F x.block := fun x hx h0 => by
    obtain ⟨cur, hcu⟩ := hc x h0 hx
    exact hF x.block 3 cur.toList (.inr (.inr (.inr rfl))) (by unfold Row; rw [hcu])
  exact ⟨e, hi.upd hu hne, fun x h0 hx => by obtain ⟨cur, hcu⟩ := hc x h0 hx; exact ⟨cur, hu.obj (hne x hx h0) hcu⟩⟩
theorem RefIs.calm {w w' : World} {R : RV} {D : DS} (h : RefIs w R D) (hu : Upds (fun _ => False) w w') : RefIs w' R D := h.upd hu (fun _ _ _ _ _ h => h)
/-- a call on a device leaves a reference device alone -/
theorem RefIs.dev {w w' : World} {R : RV} {D D' : DS} {base : Nat} {L : Lay} (h : RefIs w R D) (hd : Dev w base L D') (hu : Upds L.own w w') : RefIs w' R D :=
  h.upd hu (fun b t cur ht hr => by
    rcases ht with rfl | rfl | rfl | rfl
    · exact hd.not_own hr (by decide) (by decide) (by decide)
    · exact hd.not_own hr (by decide) (by decide) (by decide)
    · exact hd.not_own hr (by decide) (by decide) (by decide)
    · exact hd.not_own hr (by decide) (by decide) (by decide))
theorem padS_empty : padS ⟨#[]⟩ 140 = Z140 := by kernel_rfl

/-- the reference device in the making: k stable contents, j lists of earlier ones -/
structure RMake (w : World) (k j : Nat) (a : Option Addr) (c : Nat) (a2 : Option Addr) (c2 : Nat) (wr : World) : Prop where
  row : Row wr (w.heap.size + 1 + 1) 32 [.slice a k c, .slice a2 j c2, .slice none 0 0, .slice (some ⟨w.heap.size + 1, 0, none⟩) 5 5, .bool false, .int .i64 (-1), .slice none 0 0]
  s1 : SliceIs wr 9 1 (.slice a k c) k (List.replicate k (.string Z140))
  s2 : SliceIs wr 27 1 (.slice a2 j c2) j (List.replicate j (.slice none 0 0))
  h1 : ∀ b, Value.home (.slice a k c) b → w.heap.size ≤ b
  h2 : ∀ b, Value.home (.slice a2 j c2) b → w.heap.size ≤ b
  fen : Row wr (w.heap.size + 1) 3 [.int .i64 0, .int .i64 0, .int .i64 0, .int .i64 0, .int .i64 0]
  res : Row wr w.heap.size 32 [.slice none 0 0, .slice none 0 0, .slice none 0 0, .slice none 0 0, .bool false, .int .i64 0, .slice none 0 0]
  upd : Upds (fun _ => False) w wr
theorem no_home0 {a : Option Addr} {b : Nat} (h : Value.home (.slice a 0 0) b) : False := by
  obtain ⟨_, _, _, e, hc, _⟩ := h; simp only [Value.slice.injEq] at e; omega
theorem RMake.calm {w wr w' : World} {k j : Nat} {a a2 : Option Addr} {c c2 : Nat} (h : RMake w k j a c a2 c2 wr) (hu : Upds (fun _ => False) wr w') : RMake w k j a c a2 c2 w' :=
  ⟨h.row.upd hu (fun h => h), h.s1.upd hu (fun _ _ h => h), h.s2.upd hu (fun _ _ h => h), h.h1, h.h2, h.fen.upd hu (fun h => h), h.res.upd hu (fun h => h), h.upd.trans hu⟩
theorem RMake.grow1 {w wr w' : World} {k j : Nat} {a a2 : Option Addr} {c c2 : Nat} (h : RMake w k j a c a2 c2 wr) {g cap : Nat} (hs : SliceIs w' 9 1 (.slice (some ⟨g, 0, none⟩) (k + 1) cap) (k + 1) (List.replicate k (.string Z140) ++ [.string Z140])) (hu : Upds (Value.home (.slice a k c)) wr w')
    (hh : ∀ b, Value.home (.slice (some ⟨g, 0, none⟩) (k + 1) cap) b → Value.home (.slice a k c) b ∨ wr.heap.size ≤ b) : RMake w (k + 1) j (some ⟨g, 0, none⟩) cap a2 c2 (w'.setCell ⟨w.heap.size + 1 + 1, 0, none⟩ (.slice (some ⟨g, 0, none⟩) (k + 1) cap)) := by
  have hne : ∀ {b t cur}, Row wr b t cur → 9 ≠ t → ¬ Value.home (.slice a k c) b := fun hr ht hb => by obtain ⟨cur, hrb⟩ := h.s1.row _ hb; exact hrb.ne hr ht rfl
  have hrow := h.row.upd hu (hne h.row (by decide))
  have hset := Upds.set1 w' (w.heap.size + 1 + 1) 0 (.slice (some ⟨g, 0, none⟩) (k + 1) cap)
  have hs' : SliceIs w' 9 1 (.slice (some ⟨g, 0, none⟩) (k + 1) cap) (k + 1) (List.replicate (k + 1) (.string Z140)) := by rw [List.replicate_succ']; exact hs
  refine ⟨hrow.set 0 _, hs'.upd hset (fun b hb e => ?_), (h.s2.upd hu (fun b hb => ?_)).upd hset (fun b hb e => ?_), fun b hb => ?_, h.h2, (h.fen.upd hu (hne h.fen (by decide))).setOther (by show w.heap.size + 1 ≠ _; simp) _, (h.res.upd hu (hne h.res (by decide))).setOther (by show w.heap.size ≠ w.heap.size + 1 + 1; omega) _, ?_⟩
  · obtain ⟨cur, hrb⟩ := hs.row b hb; exact hrb.ne hrow (by decide) e
  · obtain ⟨cur, hrb⟩ := h.s2.row b hb; exact hne hrb (by decide)
  · obtain ⟨cur, hrb⟩ := h.s2.row b hb; exact (hrb.upd hu (hne hrb (by decide))).ne hrow (by decide) e
  · rcases hh b hb with h' | h'
    · exact h.h1 b h'
    · have := h.upd.size; omega
  · exact ((h.upd.trans' hu (fun i hi hb => by have := h.h1 i hb; omega))).setNew _ _ (by show w.heap.size ≤ w.heap.size + 1 + 1; omega)
theorem RMake.grow2 {w wr w' : World} {k j : Nat} {a a2 : Option Addr} {c c2 : Nat} (h : RMake w k j a c a2 c2 wr) {g cap : Nat} (hs : SliceIs w' 27 1 (.slice (some ⟨g, 0, none⟩) (j + 1) cap) (j + 1) (List.replicate j (.slice none 0 0) ++ [.slice none 0 0])) (hu : Upds (Value.home (.slice a2 j c2)) wr w')
    (hh : ∀ b, Value.home (.slice (some ⟨g, 0, none⟩) (j + 1) cap) b → Value.home (.slice a2 j c2) b ∨ wr.heap.size ≤ b) : RMake w k (j + 1) a c (some ⟨g, 0, none⟩) cap (w'.setCell ⟨w.heap.size + 1 + 1, 1, none⟩ (.slice (some ⟨g, 0, none⟩) (j + 1) cap)) := by
  have hne : ∀ {b t cur}, Row wr b t cur → 27 ≠ t → ¬ Value.home (.slice a2 j c2) b := fun hr ht hb => by obtain ⟨cur, hrb⟩ := h.s2.row _ hb; exact hrb.ne hr ht rfl
  have hrow := h.row.upd hu (hne h.row (by decide))
  have hset := Upds.set1 w' (w.heap.size + 1 + 1) 1 (.slice (some ⟨g, 0, none⟩) (j + 1) cap)
  have hs' : SliceIs w' 27 1 (.slice (some ⟨g, 0, none⟩) (j + 1) cap) (j + 1) (List.replicate (j + 1) (.slice none 0 0)) := by rw [List.replicate_succ']; exact hs
  refine ⟨hrow.set 1 _, (h.s1.upd hu (fun b hb => ?_)).upd hset (fun b hb e => ?_), hs'.upd hset (fun b hb e => ?_), h.h1, fun b hb => ?_, (h.fen.upd hu (hne h.fen (by decide))).setOther (by show w.heap.size + 1 ≠ _; simp) _, (h.res.upd hu (hne h.res (by decide))).setOther (by show w.heap.size ≠ w.heap.size + 1 + 1; omega) _, ?_⟩
  · obtain ⟨cur, hrb⟩ := h.s1.row b hb; exact hne hrb (by decide)
  · obtain ⟨cur, hrb⟩ := h.s1.row b hb; exact (hrb.upd hu (hne hrb (by decide))).ne hrow (by decide) e
  · obtain ⟨cur, hrb⟩ := hs.row b hb; exact hrb.ne hrow (by decide) e
  · rcases hh b hb with h' | h'
    · exact h.h2 b h'
    · have := h.upd.size; omega
  · exact ((h.upd.trans' hu (fun i hi hb => by have := h.h2 i hb; omega))).setNew _ _ (by show w.heap.size ≤ w.heap.size + 1 + 1; omega)
def RNewPost (n : Nat) (w : World) (e : Ending) (w' : World) : Prop := ∃ R : RV, e = .returned (.tuple #[R.agg (DS.fresh n), .int .i64 0]) ∧ RefIs w' R (DS.fresh n) ∧ Upds (fun _ => False) w w'
set_option maxRecDepth 100000 in
theorem rnew_any (n : Nat) (h1 : 1 ≤ n) (h2 : n ≤ 1155) (w : World) : Calls Try.prog 12 #[.int .i64 n] w (RNewPost n w) := by
  go_enter Try.func12, Try.ntmps12
  go_wp2_with fail
  obtain ⟨w1, hw1⟩ : ∃ w1, w1 = ((w.alloc (.cells #[.slice none 0 0, .slice none 0 0, .slice none 0 0, .slice none 0 0, .bool false, .int .i64 0, .slice none 0 0] 32)).alloc (.cells #[.int .i64 0, .int .i64 0, .int .i64 0, .int .i64 0, .int .i64 0] 3)).alloc (.cells #[.slice none 0 0, .slice none 0 0, .slice none 0 0, .slice (some ⟨w.heap.size + 1, 0, none⟩) 5 5, .bool false, .int .i64 (-1), .slice none 0 0] 32) := ⟨_, rfl⟩
  have hu : Upds (fun _ => False) w w1 := by rw [hw1]; exact ((Upds.alloc _ _).trans (Upds.alloc _ _)).trans (Upds.alloc _ _)
  have hr1 : Row w1 w.heap.size 32 [.slice none 0 0, .slice none 0 0, .slice none 0 0, .slice none 0 0, .bool false, .int .i64 0, .slice none 0 0] := by
    rw [hw1]; exact Row.alloc (Row.alloc (Row.new w [.slice none 0 0, .slice none 0 0, .slice none 0 0, .slice none 0 0, .bool false, .int .i64 0, .slice none 0 0] _) _) _
  have hr2 : Row w1 (w.heap.size + 1) 3 [.int .i64 0, .int .i64 0, .int .i64 0, .int .i64 0, .int .i64 0] := by
    rw [hw1]; have := Row.new (w.alloc (.cells #[.slice none 0 0, .slice none 0 0, .slice none 0 0, .slice none 0 0, .bool false, .int .i64 0, .slice none 0 0] 32)) [.int .i64 0, .int .i64 0, .int .i64 0, .int .i64 0, .int .i64 0] 3
    rw [World.size_alloc] at this; exact this.alloc _
  have hr3 : Row w1 (w.heap.size + 1 + 1) 32 [.slice none 0 0, .slice none 0 0, .slice none 0 0, .slice (some ⟨w.heap.size + 1, 0, none⟩) 5 5, .bool false, .int .i64 (-1), .slice none 0 0] := by
    rw [hw1]; have := Row.new ((w.alloc (.cells #[.slice none 0 0, .slice none 0 0, .slice none 0 0, .slice none 0 0, .bool false, .int .i64 0, .slice none 0 0] 32)).alloc (.cells #[.int .i64 0, .int .i64 0, .int .i64 0, .int .i64 0, .int .i64 0] 3)) [.slice none 0 0, .slice none 0 0, .slice none 0 0, .slice (some ⟨w.heap.size + 1, 0, none⟩) 5 5, .bool false, .int .i64 (-1), .slice none 0 0] 32
    rwa [World.size_alloc, World.size_alloc] at this
  rw [← hw1]
  have HU1 := hid hu
  have HR1 := hid hr1
  have HR2 := hid hr2
  have HR3 := hid hr3
  clear hw1 hu hr1 hr2 hr3
  go_loopw [5] (fun s5 wr => ∃ (k : Nat) (a : Option Addr) (c : Nat) (a2 : Option Addr) (c2 : Nat), k ≤ n ∧ s5 = .int .i64 k ∧ RMake w k k a c a2 c2 wr) (fun s5 _ => n - (RowKit.intOf s5).toNat)
  case atStart => exact ⟨0, none, 0, none, 0, Nat.zero_le _, rfl, HR3.out, SliceIs.nil _ _ _, SliceIs.nil _ _ _, fun b hb => (no_home0 hb).elim, fun b hb => (no_home0 hb).elim, HR2.out, HR1.out, HU1.out⟩
  case round =>
    obtain ⟨k, a, c, a2, c2, hk, rfl, hm⟩ := hrel
    have g0 := hm.row.cell (i := 0) rfl
    have f0 := hm.row.frozen 0
    have hbd := hm.row.lt
    have HM := hid hm
    clear hm HR1 HR2 HR3 HU1
    by_cases hlt : k < n
    · obtain ⟨w6, hw6⟩ : ∃ w6, w6 = (wr.alloc (.cells #[.string Z140] 9)).drew := ⟨_, rfl⟩
      have hu6 : Upds (fun _ => False) wr w6 := by rw [hw6]; exact (Upds.alloc _ _).trans (Upds.drew _)
      have hr6 : Row w6 wr.heap.size 9 [.string Z140] := by rw [hw6]; exact Row.new wr [.string Z140] _
      have hnews : Hid (∀ j u, [Value.string Z140][j]? = some u → w6.cell? ((⟨wr.heap.size, 0, none⟩ : Addr).add j) = some u) := fun j u hu => by
        rw [Go.WideShapes.add_plain, Nat.zero_add]; exact hr6.cell hu
      have hone : Hid (∀ u ∈ [Value.string Z140], u.oneCell' = true) := fun u hu => by rw [List.mem_singleton.1 hu]; rfl
      have HM6 := hid (HM.out.calm hu6)
      have HST6 : Hid (∀ W, Upds (Value.home (.slice a k c)) w6 W → W.cell? ⟨w.heap.size + 1 + 1, 0, none⟩ = some (.slice a k c) ∧ W.frozen? ⟨w.heap.size + 1 + 1, 0, none⟩ = false) := fun W hW => by
        have hr := HM6.out.row.upd hW (fun h => by obtain ⟨cur, hrb⟩ := HM6.out.s1.row _ h; exact HM6.out.row.ne hrb (by decide) rfl)
        exact ⟨hr.cell rfl, hr.frozen 0⟩
      have HW6 := hid hw6
      clear hu6 hr6 hw6
      go_wp2_with fail
      go_upto_region 7 with fail
      go_cut [5] (fun s5 wx => ∃ (a' : Option Addr) (c' : Nat), s5 = .int .i64 k ∧ RMake w (k + 1) k a' c' a2 c2 wx)
      case first =>
        go_region_law (first
          | (rw [← HW6.out]; refine step_append_slice rfl (.tmp 21) (.tmp 23) 27 rfl 9 (.string ⟨#[]⟩) 1 16 Try.underlying27 (by kernel_rfl) rfl _ k (List.replicate k (.string Z140)) (by simp [Act.eval]) HM6.out.s1 ⟨wr.heap.size, 0, none⟩ 1 1 [.string Z140] (by simp [Act.eval]) rfl hnews.out hone.out (by omega) (by omega) (by omega) ?_; intro g5 cap5 w7 hs7 hu7 hh7; obtain ⟨x5, y5⟩ := HST6.out w7 hu7.out)
          | (go_simp; go_at_call 29; refine (padded_any ⟨#[]⟩ 140 (by decide) (by decide) _).mono ?_; rintro e w' ⟨rfl, rfl⟩; rw [padS_empty]; dsimp only))
        all_goals
          go_wp2_with fail
          go_meet
          exact ⟨_, _, rfl, HM6.out.grow1 hs7.out hu7.out hh7.out⟩
      case rest =>
        obtain ⟨a', c', rfl, hm⟩ := hcut
        clear HM HM6 HST6 HW6 hnews hone g0 f0 hbd
        obtain ⟨w8, hw8⟩ : ∃ w8, w8 = wc.alloc (.cells #[.slice none 0 0] 27) := ⟨_, rfl⟩
        have hu8 : Upds (fun _ => False) wc w8 := by rw [hw8]; exact Upds.alloc _ _
        have hr8 : Row w8 wc.heap.size 27 [.slice none 0 0] := by rw [hw8]; exact Row.new wc [.slice none 0 0] _
        have hnews : Hid (∀ j u, [Value.slice none 0 0][j]? = some u → w8.cell? ((⟨wc.heap.size, 0, none⟩ : Addr).add j) = some u) := fun j u hu => by
          rw [Go.WideShapes.add_plain, Nat.zero_add]; exact hr8.cell hu
        have hone : Hid (∀ u ∈ [Value.slice none 0 0], u.oneCell' = true) := fun u hu => by rw [List.mem_singleton.1 hu]; rfl
        have g1 := hm.row.cell (i := 1) rfl
        have f1 := hm.row.frozen 1
        have hbd := hm.row.lt
        have HM8 := hid (hm.calm hu8)
        have HST8 : Hid (∀ W, Upds (Value.home (.slice a2 k c2)) w8 W → W.cell? ⟨w.heap.size + 1 + 1, 1, none⟩ = some (.slice a2 k c2) ∧ W.frozen? ⟨w.heap.size + 1 + 1, 1, none⟩ = false) := fun W hW => by
          have hr := HM8.out.row.upd hW (fun h => by obtain ⟨cur, hrb⟩ := HM8.out.s2.row _ h; exact HM8.out.row.ne hrb (by decide) rfl)
          exact ⟨hr.cell rfl, hr.frozen 1⟩
        have HW8 := hid hw8
        clear hu8 hr8 hw8 hm
        go_wp2_with (at_builtin; rw [← HW8.out]; refine wpList_append_slice rfl (.tmp 27) (.tmp 28) 28 rfl 27 (.slice none 0 0) 1 24 Try.underlying28 (by kernel_rfl) rfl _ k (List.replicate k (.slice none 0 0)) rfl HM8.out.s2 ⟨wc.heap.size, 0, none⟩ 1 1 [.slice none 0 0] rfl rfl hnews.out hone.out (by omega) (by omega) (by omega) ?_; intro g9 cap9 w9 hs9 hu9 hh9; obtain ⟨x9, y9⟩ := HST8.out w9 hu9)
        go_roundw
        case rel => exact ⟨k + 1, _, _, _, _, by omega, by go_num, HM8.out.grow2 hs9.out hu9.out hh9.out⟩
        case measure => simp [RowKit.intOf]; omega
    · obtain rfl : k = n := by omega
      have hm := HM.out
      have c0 := hm.row.cell (i := 0) rfl
      have c1 := hm.row.cell (i := 1) rfl
      have c2' := hm.row.cell (i := 2) rfl
      have c3 := hm.row.cell (i := 3) rfl
      have c4 := hm.row.cell (i := 4) rfl
      have c5 := hm.row.cell (i := 5) rfl
      have c6 := hm.row.cell (i := 6) rfl
      have z0 := hm.res.cell (i := 0) rfl
      have z1 := hm.res.cell (i := 1) rfl
      have z2 := hm.res.cell (i := 2) rfl
      have z3 := hm.res.cell (i := 3) rfl
      have z4 := hm.res.cell (i := 4) rfl
      have z5 := hm.res.cell (i := 5) rfl
      have z6 := hm.res.cell (i := 6) rfl
      have e0 := hm.res.frozen 0
      have e1 := hm.res.frozen 1
      have e2 := hm.res.frozen 2
      have e3 := hm.res.frozen 3
      have e4 := hm.res.frozen 4
      have e5 := hm.res.frozen 5
      have e6 := hm.res.frozen 6
      have hrb := hm.res.lt
      clear hm
      go_wp2_with fail
      have hm := HM.out
      obtain ⟨g, rfl, hg⟩ : ∃ g, a = some ⟨g, 0, none⟩ ∧ True := by
        rcases hm.s1 with ⟨_, _, h0, _⟩ | ⟨g, cap, cur, e, _⟩
        · omega
        · simp only [Value.slice.injEq] at e; exact ⟨g, e.1, trivial⟩
      obtain ⟨g2, rfl, hg2⟩ : ∃ g, a2 = some ⟨g, 0, none⟩ ∧ True := by
        rcases hm.s2 with ⟨_, _, h0, _⟩ | ⟨g, cap, cur, e, _⟩
        · omega
        · simp only [Value.slice.injEq] at e; exact ⟨g, e.1, trivial⟩
      obtain ⟨W, hW⟩ : ∃ W, W = (((((((wr.setCell ⟨w.heap.size, 0, none⟩ (.slice (some ⟨g, 0, none⟩) k c)).setCell ⟨w.heap.size, 1, none⟩ (.slice (some ⟨g2, 0, none⟩) k c2)).setCell ⟨w.heap.size, 2, none⟩ (.slice none 0 0)).setCell ⟨w.heap.size, 3, none⟩ (.slice (some ⟨w.heap.size + 1, 0, none⟩) 5 5)).setCell ⟨w.heap.size, 4, none⟩ (.bool false)).setCell ⟨w.heap.size, 5, none⟩ (.int .i64 (-1))).setCell ⟨w.heap.size, 6, none⟩ (.slice none 0 0)) := ⟨_, rfl⟩
      have hres : Row W w.heap.size 32 [.slice (some ⟨g, 0, none⟩) k c, .slice (some ⟨g2, 0, none⟩) k c2, .slice none 0 0, .slice (some ⟨w.heap.size + 1, 0, none⟩) 5 5, .bool false, .int .i64 (-1), .slice none 0 0] := by
        rw [hW]; exact ((((((hm.res.set 0 _).set 1 _).set 2 _).set 3 _).set 4 _).set 5 _).set 6 _
      have hU : Upds (fun b => b = w.heap.size) wr W := by
        rw [hW]; exact (((((((Upds.set1 _ _ _ _).trans (Upds.set1 _ _ _ _)).trans (Upds.set1 _ _ _ _)).trans (Upds.set1 _ _ _ _)).trans (Upds.set1 _ _ _ _)).trans (Upds.set1 _ _ _ _)).trans (Upds.set1 _ _ _ _))
      have d0 := hres.cell (i := 0) rfl
      have d1 := hres.cell (i := 1) rfl
      have d2 := hres.cell (i := 2) rfl
      have d3 := hres.cell (i := 3) rfl
      have d4 := hres.cell (i := 4) rfl
      have d5 := hres.cell (i := 5) rfl
      have d6 := hres.cell (i := 6) rfl
      rw [← hW]
      refine bodyPost_ret (v := .tuple #[.agg #[.slice (some ⟨g, 0, none⟩) k c, .slice (some ⟨g2, 0, none⟩) k c2, .slice none 0 0, .slice (some ⟨w.heap.size + 1, 0, none⟩) 5 5, .bool false, .int .i64 (-1), .slice none 0 0], .int .i64 0]) (by simp [results, Try.f12, go_sem, d0, d1, d2, d3, d4, d5, d6]) rfl ?_
      have hs1 := hm.s1.updT hU (fun b cur hr e => by subst e; exact hr.ne hm.res (by decide) rfl)
      have hs2 := hm.s2.updT hU (fun b cur hr e => by subst e; exact hr.ne hm.res (by decide) rfl)
      have hfe := hm.fen.upd hU (fun e => by omega)
      refine ⟨⟨g, c, g2, c2, none, 0, w.heap.size + 1, 5, none, 0, 0⟩, rfl, ⟨?_, ⟨fun _ => .slice none 0 0, ?_, fun i _ => ⟨SliceIs.nil _ _ _, none, 0, rfl⟩⟩, SliceIs.nil _ _ _, .inr ⟨_, 5, _, rfl, hfe, rfl, rfl, by decide, by decide, by decide⟩, (fun h => by cases h), DS.fresh_ok k h1 h2⟩, hm.upd.trans' hU (fun b hb e => by omega)⟩
      · have : stCells (DS.fresh k) = List.replicate k (.string Z140) := by show (List.range k).map (fun _ => Value.string Z140) = _; rw [List.map_const', List.length_range]
        rw [this]; exact hs1
      · have : (List.range (DS.fresh k).n).map (fun _ => Value.slice none 0 0) = List.replicate k (.slice none 0 0) := by show (List.range k).map (fun _ => Value.slice none 0 0) = _; rw [List.map_const', List.length_range]
        rw [this]; exact hs2
end Go.Proofs.Ytfcaodaaklngmaa
