import Derived.Test.YtfcaodaaklngmaaDevT4
import Derived.Shelf.Abstract
/-! Failing, and admitting a write or a sync. -/
namespace Go.Proofs.Ytfcaodaaklngmaa
open Go.Lib Go.ChangeShapes Go.WideShapes Go.ChangeAt Go.RowKit

theorem DevTo.trans {w w1 w2 : World} {base : Nat} {L L1 : Lay} {D2 : DS} (hb : L1.b = L.b) (hu : Upds L.own w w1) (ho : ∀ k, L1.own k → L.own k ∨ w.heap.size ≤ k) (h2 : DevTo w1 base L1 D2 w2) : DevTo w base L D2 w2 := by
  obtain ⟨L2, hd, hb2, hu2, ho2⟩ := h2
  refine ⟨L2, hd, hb2.trans hb, hu.trans' hu2 (fun i hi h => ?_), fun k hk => ?_⟩
  · rcases ho i h with h | h
    · exact h
    · omega
  · rcases ho2 k hk with h | h
    · exact ho k h
    · have := hu.size; exact .inr (by omega)
theorem Dev.to {w w' : World} {base : Nat} {L : Lay} {D : DS} (h : Dev w base L D) (hu : Upds (fun _ => False) w w') : DevTo w base L D w' :=
  ⟨L, h.calm hu, rfl, hu.mono (fun _ h => h.elim), fun _ h => .inl h⟩
theorem DevTo.calm {w w1 w2 : World} {base : Nat} {L : Lay} {D : DS} (h : DevTo w base L D w1) (hu : Upds (fun _ => False) w1 w2) : DevTo w base L D w2 := by
  obtain ⟨L', hd, hb, hu1, ho⟩ := h
  exact DevTo.trans hb hu1 ho (hd.to hu)
theorem DevTo.later {w w1 w2 : World} {base : Nat} {L : Lay} {D : DS} (hu : Upds (fun _ => False) w w1) (h : DevTo w1 base L D w2) : DevTo w base L D w2 :=
  DevTo.trans rfl (hu.mono (fun _ h => h.elim)) (fun _ h => .inl h) h
/-- a store into the failure of a device -/
theorem Dev.refail {w w1 : World} {base : Nat} {L : Lay} {D D' : DS} (h : Dev w base L D) (va : Option Addr) (vc : Nat) (hc : Row w1 L.b 70 (({ L with va := va, vc := vc } : Lay).cells D')) (hu : Upds (fun k => k = L.b) w w1)
    (h1 : D'.n = D.n) (h2 : D'.sec = D.sec) (h3 : D'.pend = D.pend) (ok : D'.Ok) (hs : IntsAt w1 va D'.surv) (hv : ∀ x, 0 < D'.surv.length → va = some x → base ≤ x.block ∧ ∃ cur, w1.heap[x.block]? = some (.cells cur 3 (0, 0))) (few : D'.surv.length ≤ 100000) :
    DevTo w base L D' w1 := by
  refine ⟨{ L with va := va, vc := vc }, ⟨hc, ?_, ?_, hs, hv, h.hb, h.hsb, h.hpb, ok, by rw [h1]; exact h.cap, by rw [h3]; exact h.few.1, few⟩, rfl, hu.mono (fun k e => .inl e), fun k hk => .inl hk⟩
  · rw [h1, h2]; exact h.secs.upd hu (fun e => h.b_ne_sb e.symm)
  · rw [h3]; exact h.pend.upd hu (fun k hk e => h.b_ne_pb k hk e.symm)

set_option maxRecDepth 100000 in
theorem has_true (base : Nat) (L : Lay) (D : DS) (s : Int) (h : D.has s) (w : World) (hD : Dev w base L D) :
    Calls Try.prog 53 #[.pointer (some ⟨L.b, 0, none⟩), .int .i64 s] w fun e w' => e = .returned (.bool true) ∧ w = w' := by
  have hc0 := hD.c0
  obtain ⟨h1, h2⟩ := h
  clear hD
  go_enter Try.func53, Try.ntmps53
  go_wp2_with fail
  go_ret
  exact ⟨rfl, rfl⟩
set_option maxRecDepth 100000 in
theorem has_false (base : Nat) (L : Lay) (D : DS) (s : Int) (h : ¬ D.has s) (w : World) (hD : Dev w base L D) :
    Calls Try.prog 53 #[.pointer (some ⟨L.b, 0, none⟩), .int .i64 s] w fun e w' => e = .returned (.bool false) ∧ w = w' := by
  have hc0 := hD.c0
  have hv : s < 0 ∨ (0 ≤ s ∧ (D.n : Int) ≤ s) := by unfold DS.has at h; omega
  clear hD h
  rcases hv with h1 | ⟨h1, h2⟩
  · go_enter Try.func53, Try.ntmps53
    go_wp2_with fail
    go_ret
    exact ⟨rfl, rfl⟩
  · have h3 : decide (s < (D.n : Int)) = false := by simp; omega
    go_enter Try.func53, Try.ntmps53
    go_wp2_with fail
    go_ret
    exact ⟨by rw [← h3]; rfl, rfl⟩


theorem enters_of1 : ∀ args w, (callFunc 71 args).run Try.prog w = .ok (.enter 71 args) w := enters_of Try.func71 (by kernel_rfl) rfl
theorem enters_listed1 : ∀ args w, (callFunc 72 args).run Try.prog w = .ok (.enter 72 args) w := enters_of Try.func72 (by kernel_rfl) rfl
theorem enters_sync1 : ∀ args w, (callFunc 55 args).run Try.prog w = .ok (.enter 55 args) w := enters_of Try.func55 (by kernel_rfl) rfl
theorem enters_fail1 : ∀ args w, (callFunc 81 args).run Try.prog w = .ok (.enter 81 args) w := enters_of Try.func81 (by kernel_rfl) rfl
set_option maxRecDepth 100000 in
theorem crash_any (base : Nat) (L : Lay) (D : DS) (s : Int) (a : Option Addr) (c : Nat) (l : List Int) (hl : l.length ≤ 9223372036854775807) (w : World) (hD : Dev w base L D) (hw : base ≤ w.heap.size) (hi : IntsAt w a l) (ha : ∀ x, a = some x → 0 < l.length → ¬ L.own x.block) :
    Calls Try.prog 20 #[.pointer (some ⟨L.b, 0, none⟩), .int .i64 s, .slice a l.length c] w fun e w' => e = .returned (.tuple #[]) ∧ DevTo w base L (D.crash s l) w' := by
  have HD := hid hD
  have HI := hid hi
  have HA := hid ha
  clear hD hi ha
  go_enter Try.func20, Try.ntmps20
  go_wp2_with fail
  refine (of_any s w).mono ?_
  rintro e w1 ⟨rfl, rfl⟩
  go_wp2_with fail
  refine (listed_any a l.length c _).mono ?_
  rintro e w1 ⟨rfl, rfl⟩
  obtain ⟨w1, hw1⟩ : ∃ w1, w1 = w.alloc (.cells #[.int .i64 s] 3) := ⟨_, rfl⟩
  obtain ⟨w2, hw2⟩ : ∃ w2, w2 = w1.alloc (.cells #[.slice a l.length c] 30) := ⟨_, rfl⟩
  have hu : Upds (fun _ => False) w w2 := by rw [hw2, hw1]; exact (Upds.alloc _ _).trans (Upds.alloc _ _)
  have hz1 : w1.heap.size = w.heap.size + 1 := by rw [hw1]; simp
  have hr1 : Row w2 w.heap.size 3 [.int .i64 s] := by rw [hw2]; exact Row.alloc (by rw [hw1]; exact Row.new w [.int .i64 s] 3) _
  have hr2 : Row w2 w1.heap.size 30 [.slice a l.length c] := by rw [hw2]; exact Row.new w1 [.slice a l.length c] 30
  rw [← hw1, ← hw2]
  have HZ1 := hid hz1
  have HU := hid hu
  have HR1 := hid hr1
  have HR2 := hid hr2
  clear hw1 hw2 hu hz1 hr1 hr2
  have HDD := hid (HD.out.calm HU.out)
  have HOB : Hid (∀ k, L.own k → k < w.heap.size) := fun k hk => HD.out.lt k hk
  have HE := hid (end_any 71 #[.pointer (some ⟨w.heap.size, 0, none⟩)] enters_of1 (fun p => decide (p.sys = s)) 72 #[.pointer (some ⟨w1.heap.size, 0, none⟩)] enters_listed1 (svOf l) base L D w2 HDD.out (by have := HU.out.size; omega)
    (fun W hW p => of1_any s p w.heap.size W (hW.cell (fun h => by have := HOB.out _ h; omega) (HR1.out.cell rfl)))
    (fun W hW i hi => listed1_any l hl a c i w1.heap.size (by omega) W (hW.cell (fun h => by have := HOB.out _ h; have := HZ1.out; omega) (HR2.out.cell rfl)) ((HI.out.upd HU.out (fun _ _ _ h => h)).upd hW (fun x hx h0 => HA.out x hx h0))))
  go_wp2_with fail
  refine HE.out.mono ?_
  rintro e w3 ⟨rfl, h3⟩
  have H3 := hid (DevTo.later HU.out h3)
  clear h3
  go_wp2_with fail
  go_end0
  exact ⟨rfl, H3.out⟩

/-- the device that has failed -/
def DS.failing (D : DS) : DS := { (D.done (fun _ => true) (svOf D.surv)) with failed := true, waits := false, left := 0, surv := [] }
set_option maxRecDepth 100000 in
theorem fail_any (base : Nat) (L : Lay) (D : DS) (w : World) (hD : Dev w base L D) (hw : base ≤ w.heap.size) :
    Calls Try.prog 73 #[.pointer (some ⟨L.b, 0, none⟩)] w fun e w' => e = .returned (.tuple #[]) ∧ DevTo w base L D.failing w' := by
  have hc9 := hD.c9
  have HD := hid hD
  have hl := hD.few.2
  clear hD
  go_enter Try.func73, Try.ntmps73
  go_wp2_with fail
  refine (listed_any L.va D.surv.length L.vc _).mono ?_
  rintro e w1 ⟨rfl, rfl⟩
  obtain ⟨w1, hw1⟩ : ∃ w1, w1 = w.alloc (.cells #[.slice L.va D.surv.length L.vc] 30) := ⟨_, rfl⟩
  have hu : Upds (fun _ => False) w w1 := by rw [hw1]; exact Upds.alloc _ _
  have hr1 : Row w1 w.heap.size 30 [.slice L.va D.surv.length L.vc] := by rw [hw1]; exact Row.new w [.slice L.va D.surv.length L.vc] 30
  rw [← hw1]
  have HU := hid hu
  have HR1 := hid hr1
  clear hw1 hu hr1
  have HDD := hid (HD.out.calm HU.out)
  have HOB : Hid (∀ k, L.own k → k < w.heap.size) := fun k hk => HD.out.lt k hk
  have HE := hid (end_any 81 #[] enters_fail1 (fun _ => true) 72 #[.pointer (some ⟨w.heap.size, 0, none⟩)] enters_listed1 (svOf D.surv) base L D w1 HDD.out (by have := HU.out.size; omega)
    (fun W _ p => fail1_any p W)
    (fun W hW i hi => listed1_any D.surv (by omega) L.va L.vc i w.heap.size (by omega) W (hW.cell (fun h => by have := HOB.out _ h; omega) (HR1.out.cell rfl)) (HDD.out.surv.upd hW (fun x hx h0 => HDD.out.va_ne h0 x hx))))
  go_wp2_with fail
  refine HE.out.mono ?_
  rintro e w3 ⟨rfl, h3⟩
  obtain ⟨L3, hd3, hb3, hu3, ho3⟩ := h3
  have HD3 := hid hd3
  have HB3 := hid hb3
  have HU3 := hid hu3
  have HO3 := hid ho3
  have g6 := hd3.c6
  have g7 := hd3.c7
  have g8 := hd3.c8
  have g9 := hd3.c9
  rw [hb3] at g6 g7 g8 g9
  have f6 := hd3.blk.frozen 6
  have f7 := hd3.blk.frozen 7
  have f8 := hd3.blk.frozen 8
  have f9 := hd3.blk.frozen 9
  rw [hb3] at f6 f7 f8 f9
  clear hd3 hb3 hu3 ho3 hc9
  go_wp2_with fail
  go_end0
  refine ⟨rfl, DevTo.later HU.out (DevTo.trans HB3.out HU3.out HO3.out ?_)⟩
  rw [← HB3.out]
  have hok := HD3.out.ok
  exact HD3.out.refail (D' := D.failing) none 0 ((((HD3.out.blk.set 6 _).set 7 _).set 8 _).set 9 _) ((((Upds.set1 _ _ _ _).trans (Upds.set1 _ _ _ _)).trans (Upds.set1 _ _ _ _)).trans (Upds.set1 _ _ _ _)) rfl rfl rfl
    ⟨hok.pos, hok.most, hok.st, hok.er, hok.ers, hok.pend, hok.fen, by show -9223372036854775808 ≤ (0 : Int) ∧ (0 : Int) ≤ 9223372036854775807; omega, fun x hx => (by cases hx), fun _ => rfl⟩
    (fun h => absurd h (Nat.lt_irrefl 0)) (fun x h => absurd h (Nat.lt_irrefl 0)) (Nat.zero_le _)

/-- what admitting a writer answers and leaves -/
def AdmitPost (base : Nat) (L : Lay) (D : DS) (s e : Int) (w : World) (x : Ending) (w' : World) : Prop := x = .returned (.int .i64 (D.admit s e).1) ∧ DevTo w base L (D.admit s e).2 w'
set_option maxRecDepth 100000 in
theorem admit_any (base : Nat) (L : Lay) (D : DS) (j : Nat) (hj : j < 4) (e : Int) (w : World) (hD : Dev w base L D) (hw : base ≤ w.heap.size) :
    Calls Try.prog 54 #[.pointer (some ⟨L.b, 0, none⟩), .agg #[.int .i64 ((j : Int) + 1), .int .i64 e]] w (AdmitPost base L D ((j : Int) + 1) e w) := by
  have c6 := hD.c6
  have c7 := hD.c7
  have c8 := hD.c8
  have hfen : w.cell? ⟨L.b, 2 + j, none⟩ = some (.int .i64 (D.fen j)) := by
    rcases (show j = 0 ∨ j = 1 ∨ j = 2 ∨ j = 3 by omega) with rfl | rfl | rfl | rfl
    · exact hD.c2
    · exact hD.c3
    · exact hD.c4
    · exact hD.c5
  have hlt := hD.blk.lt
  have HD := hid hD
  have f8 := hD.blk.frozen 8
  have hz : ((j : Int) + 1 - 1).toNat = j := by omega
  have HZ := hid hz
  have hlo := hD.ok.left
  clear hD hz
  cases hf : D.failed
  · rw [hf] at c6
    have HF := hid hf
    clear hf
    by_cases h1 : e ≤ D.fen j
    · go_enter Try.func54, Try.ntmps54
      go_wp2_with fail
      go_quiet (fail)
      go_wp2_with fail
      go_ret
      unfold AdmitPost DS.admit
      rw [if_neg (by rw [HF.out]; decide), HZ.out, if_pos h1]
      exact ⟨rfl, HD.out.to ((Upds.alloc _ _).trans (Upds.drewN _ _))⟩
    · have h2 : decide (e ≤ D.fen j) = false := decide_eq_false h1
      cases hwt : D.waits
      · rw [hwt] at c7
        have HW := hid hwt
        clear hwt
        go_enter Try.func54, Try.ntmps54
        go_wp2_with fail
        go_quiet (fail)
        go_wp2_with fail
        go_ret
        unfold AdmitPost DS.admit
        rw [if_neg (by rw [HF.out]; decide), HZ.out, if_neg (by omega), HW.out]
        exact ⟨rfl, HD.out.to ((Upds.alloc _ _).trans (Upds.drewN _ _))⟩
      · rw [hwt] at c7
        have HW := hid hwt
        clear hwt
        by_cases h3 : D.left ≤ 0
        · go_enter Try.func54, Try.ntmps54
          go_wp2_with fail
          go_quiet (fail)
          go_wp2_with fail
          obtain ⟨w1, hw1⟩ : ∃ w1, w1 = (w.alloc (.cells #[.int .i64 ((j : Int) + 1), .int .i64 e] 42)).drewN nq := ⟨_, rfl⟩
          have hu : Upds (fun _ => False) w w1 := by rw [hw1]; exact (Upds.alloc _ _).trans (Upds.drewN _ _)
          rw [← hw1]
          have HU := hid hu
          have HF1 := hid (fail_any base L D w1 (HD.out.calm hu) (by have := hu.size; omega))
          clear hw1 hu
          refine HF1.out.mono ?_
          rintro x w2 ⟨rfl, h5⟩
          have H5 := hid (DevTo.later HU.out h5)
          clear h5
          go_wp2_with fail
          go_ret
          unfold AdmitPost DS.admit
          rw [if_neg (by rw [HF.out]; decide), HZ.out, if_neg (by omega), HW.out, if_pos (by simp; omega)]
          exact ⟨rfl, H5.out⟩
        · have h4 : decide (D.left ≤ 0) = false := decide_eq_false h3
          have HLW := hid (Dev.lt HD.out)
          go_enter Try.func54, Try.ntmps54
          go_wp2_with fail
          go_quiet (fail)
          go_wp2_with fail
          go_ret
          unfold AdmitPost DS.admit
          rw [if_neg (by rw [HF.out]; decide), HZ.out, if_neg (by omega), HW.out, if_neg (by simp; omega), if_pos rfl]
          refine ⟨rfl, ?_⟩
          have hu : Upds (fun _ => False) w ((w.alloc (.cells #[.int .i64 ((j : Int) + 1), .int .i64 e] 42)).drewN nq) := (Upds.alloc _ _).trans (Upds.drewN _ _)
          have hd := HD.out.calm hu
          refine DevTo.later hu (hd.refail (D' := { D with waits := true, left := D.left - 1 }) L.va L.vc ?_ (Upds.set1 _ _ _ _) rfl rfl rfl ?_ ?_ ?_ hd.few.2)
          · have hr := hd.blk.set 8 (.int .i64 (D.left - 1))
            rwa [show (L.cells D).set 8 (.int .i64 (D.left - 1)) = Lay.cells { L with va := L.va, vc := L.vc } { D with waits := true, left := D.left - 1 } by simp [Lay.cells, HW.out]] at hr
          · have ok := hd.ok
            exact ⟨ok.pos, ok.most, ok.st, ok.er, ok.ers, ok.pend, ok.fen, by show -9223372036854775808 ≤ D.left - 1 ∧ D.left - 1 ≤ 9223372036854775807; omega, ok.surv, fun h => absurd h (by show ¬ D.failed = true; rw [HF.out]; decide)⟩
          · exact hd.surv.upd (Upds.set1 _ _ _ _) (fun x hx h0 e => hd.va_ne h0 x hx (.inl e))
          · intro x h0 hx
            obtain ⟨g1, cur, g2⟩ := hd.sva x h0 hx
            exact ⟨g1, cur, (Upds.set1 _ _ _ _).obj (fun e => hd.no_ints _ _ g2 (.inl e)) g2⟩
  · rw [hf] at c6
    have HF := hid hf
    clear hf
    go_enter Try.func54, Try.ntmps54
    go_wp2_with fail
    go_ret
    unfold AdmitPost DS.admit
    rw [if_pos HF.out]
    exact ⟨rfl, HD.out.to (Upds.alloc _ _)⟩
end Go.Proofs.Ytfcaodaaklngmaa
