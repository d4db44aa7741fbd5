import Derived.Test.YtabbkgbgldgfeaaLabT6
/-! read. -/
namespace Go.Proofs.Ytabbkgbgldgfeaa
open Go.Lib Go.ChangeShapes Go.WideShapes Go.ChangeAt Go.RowKit

theorem cnt40 (b : Nat) (st : St) (hs : st.1.size ≤ 1000000) (w : World) (h : Rd w b st.1 st.2) :
    Calls Try.prog 63 #[.pointer (some ⟨b, 0, none⟩), .int .i64 1099511627776] w fun x w' => x = .returned (.int .i64 ((cntR big40 st).1 : Nat)) ∧ Rd w' b (cntR big40 st).2.1 (cntR big40 st).2.2 ∧ Upd b w w' := by
  have e : (1099511627776 : Int) = ((big40 : Nat) : Int) := rfl
  rw [e]
  exact cntC big40 (by decide) b st.1 st.2 hs w h
/-- what stands in memory while a slot is read -/
def RSt (w : World) (rb lb b : Nat) (cur : List Value) (st : St) (W : World) : Prop :=
  Row W rb 24 (labCells zeroL (.slice none 0 0)) ∧ Row W lb 24 cur ∧ Rd W b st.1 st.2 ∧ Below w.heap.size w W ∧ w.heap.size ≤ rb ∧ w.heap.size ≤ lb ∧ w.heap.size ≤ b ∧ rb ≠ lb
theorem Rd.row {w : World} {b : Nat} {s : ByteArray} {e : Nat} (h : Rd w b s e) : Row w b 83 [.string s, .int .i64 e] := h
namespace RSt
variable {w W W' : World} {rb lb b : Nat} {cur : List Value} {st : St}
theorem ne1 (h : RSt w rb lb b cur st W) : rb ≠ b := Row.ne h.1 h.2.2.1.row (by decide)
theorem ne2 (h : RSt w rb lb b cur st W) : lb ≠ b := Row.ne h.2.1 h.2.2.1.row (by decide)
theorem upd (h : RSt w rb lb b cur st W) (hu : Upd b W W') {s : ByteArray} {e : Nat} (hr : Rd W' b s e) : RSt w rb lb b cur (s, e) W' := by
  have hb : Below w.heap.size W W' := hu.below h.2.2.2.2.2.2.1 h.2.2.2.1.size
  have h1 := (hu.block rb h.1.lt h.ne1)
  have h2 := (hu.block lb h.2.1.lt h.ne2)
  exact ⟨h1.trans h.1, h2.trans h.2.1, hr, h.2.2.2.1.trans hb, h.2.2.2.2⟩
theorem set (h : RSt w rb lb b cur st W) (i : Nat) (x : Value) : RSt w rb lb b (cur.set i x) st (W.setCell ⟨lb, i, none⟩ x) :=
  ⟨h.1.setOther h.2.2.2.2.2.2.2 x, h.2.1.set i x, (Row.setOther h.2.2.1.row h.ne2.symm x), h.2.2.2.1.setCell h.2.2.2.2.2.1 x, h.2.2.2.2⟩
theorem alloc (h : RSt w rb lb b cur st W) (o : Obj) : RSt w rb lb b cur st (W.alloc o) :=
  ⟨h.1.alloc o, h.2.1.alloc o, h.2.2.1.alloc o, h.2.2.2.1.alloc h.2.2.2.1.size o, h.2.2.2.2⟩
theorem upds (h : RSt w rb lb b cur st W) {F : Nat → Prop} (hu : Upds F W W') (hF : ∀ k, F k → w.heap.size ≤ k) (h1 : ¬ F rb) (h2 : ¬ F lb) (h3 : ¬ F b) : RSt w rb lb b cur st W' :=
  ⟨h.1.upd hu h1, h.2.1.upd hu h2, Row.upd h.2.2.1.row hu h3, h.2.2.2.1.trans (hu.below h.2.2.2.1.size hF), h.2.2.2.2⟩
theorem setNew (h : RSt w rb lb b cur st W) (xb i : Nat) (x : Value) (hx : w.heap.size ≤ xb) (h1 : rb ≠ xb) (h2 : lb ≠ xb) (h3 : b ≠ xb) : RSt w rb lb b cur st (W.setCell ⟨xb, i, none⟩ x) :=
  h.upds (Upds.set1 W xb i x) (fun _ e => e ▸ hx) h1 h2 h3
end RSt
theorem Upd.upds {b : Nat} {w w' : World} (h : Upd b w w') : Upds (fun k => k = b) w w' := ⟨h.os, h.tape, h.output, h.size, fun k hk hb => h.block k hk hb⟩
/-- a list of runs of its own, as a slot is read -/
def OwnF (w W : World) (v : Value) (l : List (Int × Int)) : Prop := OwnRuns W v l ∧ Fresh w v
theorem OwnF.not {w W : World} {v : Value} {l : List (Int × Int)} (h : OwnF w W v l) {b : Nat} {t : TypeId} {cur : List Value} (hr : Row W b t cur) (ht : 43 ≠ t) : ∀ k, Value.home v k → k ≠ b := by
  intro k hk
  obtain ⟨c2, h2⟩ := SliceIs.row h.1 k hk
  exact Row.ne h2 hr ht
theorem OwnF.upd {w W W' : World} {v : Value} {l : List (Int × Int)} (h : OwnF w W v l) {F : Nat → Prop} (hu : Upds F W W') (hF : ∀ b, Value.home v b → ¬ F b) : OwnF w W' v l := ⟨OwnRuns.upd h.1 hu hF, h.2⟩
set_option maxRecDepth 100000 in
set_option maxHeartbeats 4000000 in
theorem read_lab (s : ByteArray) (hs : s.size ≤ 1000000) (w : World) :
    Calls Try.prog 57 #[.string s] w fun e w' => ∃ v, e = .returned (labV (readL 128 s).1 v) ∧ OwnRuns w' v (readL 128 s).1.ext ∧ Below w.heap.size w w' := by
  obtain ⟨w2, hw2⟩ : ∃ w2, w2 = (w.alloc (.cells #[.int .i64 0, .int .i64 0, .string ⟨#[]⟩, .string ⟨#[]⟩, .slice none 0 0] 24)).alloc (.cells #[.int .i64 0, .int .i64 0, .string ⟨#[]⟩, .string ⟨#[]⟩, .slice none 0 0] 24) := ⟨_, rfl⟩
  obtain ⟨rb, hrb⟩ : ∃ b, b = w.heap.size := ⟨_, rfl⟩
  have hR0 : RSt w rb (rb + 1) (rb + 2) (labCells zeroL (.slice none 0 0)) (s, 0) (w2.alloc (.cells #[.string s, .int .i64 0] 83)) := by
    have h1 := Row.new w (labCells zeroL (.slice none 0 0)) 24
    have h2 := Row.new (w.alloc (.cells (labCells zeroL (.slice none 0 0)).toArray 24)) (labCells zeroL (.slice none 0 0)) 24
    have h3 := Rd.made w2 s
    have hz : w2.heap.size = w.heap.size + 2 := by rw [hw2]; simp
    rw [World.size_alloc] at h2
    rw [hz] at h3
    refine ⟨?_, ?_, by rw [hrb]; exact h3, ?_, by omega, by omega, by omega, by omega⟩
    · rw [hw2, hrb]; exact (h1.alloc _).alloc _
    · rw [hw2, hrb]; exact h2.alloc _
    · rw [hw2]; exact (((Below.refl _ _).alloc (Nat.le_refl _) _).alloc (by simp) _).alloc (by simp; omega) _
  have HR0 := hid hR0
  have hz : w2.heap.size = rb + 2 := by rw [hw2, hrb]; simp
  have HZ := hid hz
  have HW2 := hid hw2
  have HRB := hid hrb
  clear hR0 hz hw2 hrb
  go_enter Try.func57, Try.ntmps57
  go_upto_region 2 with fail
  rw [← HRB.out]
  rw [show (w.alloc (.cells #[.int .i64 0, .int .i64 0, .string ⟨#[]⟩, .string ⟨#[]⟩, .slice none 0 0] 24)).alloc (.cells #[.int .i64 0, .int .i64 0, .string ⟨#[]⟩, .string ⟨#[]⟩, .slice none 0 0] 24) = w2 from HW2.out.symm]
  go_wp2_with fail
  refine (newReader_any s w2).mono ?_
  rintro e w3 ⟨rfl, rfl⟩
  rw [HZ.out]
  have HA0 := HR0
  obtain ⟨w3, hw3⟩ : ∃ w3, w3 = w2.alloc (.cells #[.string s, .int .i64 0] 83) := ⟨_, rfl⟩
  rw [← hw3] at HA0 ⊢
  clear hw3 HR0
  go_wp2_with fail
  obtain ⟨a, ha⟩ : ∃ t, t = cntR big40 ((s, 0) : St) := ⟨_, rfl⟩
  have za : Hid (a.2.1.size ≤ 1000000) := by show _ ≤ _; have h1 := (cntR_le big40 ((s, 0) : St)).2; rw [ha]; exact Nat.le_trans h1 hs
  have HC := hid (cnt40 (rb + 2) ((s, 0) : St) hs w3 HA0.out.2.2.1)
  rw [show ((cntR big40 ((s, 0) : St) : Nat × St)) = a from ha.symm] at HC
  have Qa := hid ha
  clear ha
  refine HC.out.mono ?_
  clear HC
  rintro e w4 ⟨rfl, hr, hu⟩
  have hq := HA0.out.upd hu hr
  clear hr hu HA0
  have hl := hq.2.1.lt
  have hf := hq.2.1.frozen 0
  have hc := hq.2.1.cell (i := 0) rfl
  have HA1 := hid (hq.set 0 (.int .i64 ((a.1 : Nat) : Int)))
  clear hq
  go_upto_region 4 with fail
  obtain ⟨w4q, hw4q⟩ : ∃ x, x = w4.setCell ⟨rb + 1, 0, none⟩ (.int .i64 ((a.1 : Nat) : Int)) := ⟨_, rfl⟩
  rw [← hw4q] at HA1 ⊢
  clear hw4q hl hf hc
  go_wp2_with fail
  obtain ⟨b, hb⟩ : ∃ t, t = cntR big40 a.2 := ⟨_, rfl⟩
  have zb : Hid (b.2.1.size ≤ 1000000) := by show _ ≤ _; have h1 := (cntR_le big40 a.2).2; rw [hb]; exact Nat.le_trans h1 za.out
  have HC := hid (cnt40 (rb + 2) a.2 za.out w4q HA1.out.2.2.1)
  rw [show ((cntR big40 a.2 : Nat × St)) = b from hb.symm] at HC
  have Qb := hid hb
  clear hb
  refine HC.out.mono ?_
  clear HC
  rintro e w5 ⟨rfl, hr, hu⟩
  have hq := HA1.out.upd hu hr
  clear hr hu HA1
  have hl := hq.2.1.lt
  have hf := hq.2.1.frozen 1
  have hc := hq.2.1.cell (i := 1) rfl
  have HA2 := hid (hq.set 1 (.int .i64 ((b.1 : Nat) : Int)))
  clear hq
  go_upto_region 5 with fail
  obtain ⟨w5q, hw5q⟩ : ∃ x, x = w5.setCell ⟨rb + 1, 1, none⟩ (.int .i64 ((b.1 : Nat) : Int)) := ⟨_, rfl⟩
  rw [← hw5q] at HA2 ⊢
  clear hw5q hl hf hc
  go_wp2_with fail
  obtain ⟨c, hc⟩ : ∃ t, t = txtR 31 b.2 := ⟨_, rfl⟩
  have zc : Hid (c.2.1.size ≤ 1000000) := by show _ ≤ _; have h1 := (txtR_le 31 b.2).2; rw [hc]; exact Nat.le_trans h1 zb.out
  have HC := hid (txtC 31 (by decide) (rb + 2) b.2.1 b.2.2 zb.out w5q HA2.out.2.2.1)
  rw [show ((txtR 31 b.2 : ByteArray × St)) = c from hc.symm] at HC
  have Qc := hid hc
  clear hc
  refine HC.out.mono ?_
  clear HC
  rintro e w6 ⟨rfl, hr, hu⟩
  have hq := HA2.out.upd hu hr
  clear hr hu HA2
  have hl := hq.2.1.lt
  have hf := hq.2.1.frozen 2
  have hc := hq.2.1.cell (i := 2) rfl
  have HA3 := hid (hq.set 2 (.string c.1))
  clear hq
  go_upto_region 6 with fail
  obtain ⟨w6q, hw6q⟩ : ∃ x, x = w6.setCell ⟨rb + 1, 2, none⟩ (.string c.1) := ⟨_, rfl⟩
  rw [← hw6q] at HA3 ⊢
  clear hw6q hl hf hc
  go_wp2_with fail
  obtain ⟨d, hd⟩ : ∃ t, t = txtR 400 c.2 := ⟨_, rfl⟩
  have zd : Hid (d.2.1.size ≤ 1000000) := by show _ ≤ _; have h1 := (txtR_le 400 c.2).2; rw [hd]; exact Nat.le_trans h1 zc.out
  have HC := hid (txtC 400 (by decide) (rb + 2) c.2.1 c.2.2 zc.out w6q HA3.out.2.2.1)
  rw [show ((txtR 400 c.2 : ByteArray × St)) = d from hd.symm] at HC
  have Qd := hid hd
  clear hd
  refine HC.out.mono ?_
  clear HC
  rintro e w7 ⟨rfl, hr, hu⟩
  have hq := HA3.out.upd hu hr
  clear hr hu HA3
  have hl := hq.2.1.lt
  have hf := hq.2.1.frozen 3
  have hc := hq.2.1.cell (i := 3) rfl
  have HA4 := hid (hq.set 3 (.string d.1))
  clear hq
  go_upto_region 7 with fail
  obtain ⟨w7q, hw7q⟩ : ∃ x, x = w7.setCell ⟨rb + 1, 3, none⟩ (.string d.1) := ⟨_, rfl⟩
  rw [← hw7q] at HA4 ⊢
  clear hw7q hl hf hc
  go_wp2_with fail
  obtain ⟨n, hn⟩ : ∃ t, t = cntR 16 d.2 := ⟨_, rfl⟩
  have zn : Hid (n.2.1.size ≤ 1000000) := by show _ ≤ _; have h1 := (cntR_le 16 d.2).2; rw [hn]; exact Nat.le_trans h1 zd.out
  have hn16 : n.1 ≤ 16 := by rw [hn]; exact (cntR_le 16 _).1
  have HC := hid (cntC 16 (by decide) (rb + 2) d.2.1 d.2.2 zd.out w7q HA4.out.2.2.1)
  rw [show ((cntR 16 d.2 : Nat × St)) = n from hn.symm] at HC
  have Qn := hid hn
  clear hn
  refine HC.out.mono ?_
  clear HC
  rintro e w8 ⟨rfl, hr, hu⟩
  have hq := HA4.out.upd hu hr
  clear hr hu HA4
  have HA5 := hid hq
  clear hq
  have HCUR : Hid (labCells ⟨(a.1 : Nat), (b.1 : Nat), c.1, d.1, []⟩ (.slice none 0 0) = [.int .i64 ((a.1 : Nat) : Int), .int .i64 ((b.1 : Nat) : Int), .string c.1, .string d.1, .slice none 0 0]) := rfl
  have hst0 : ((n.2.1, n.2.2) : St) = n.2 := rfl
  have HA : Hid (RSt w rb (rb + 1) (rb + 2) [.int .i64 ((a.1 : Nat) : Int), .int .i64 ((b.1 : Nat) : Int), .string c.1, .string d.1, .slice none 0 0] (runsR 128 0 n.2).2 w8) := HA5.out
  have HOF : Hid (OwnF w w8 (.slice none 0 0) (runsR 128 0 n.2).1) := ⟨OwnRuns.nil _, Fresh.nil _⟩
  clear HA5 hst0 HCUR
  go_wp2_with fail
  obtain ⟨N, hN⟩ : ∃ N, N = n.1 := ⟨_, rfl⟩
  rw [← hN] at hn16 ⊢
  have HN := hid hN
  clear hN
  have hsz : ∀ k, (runsR 128 k n.2).2.1.size ≤ 1000000 := fun k => Nat.le_trans (runsR_le 128 (by omega) n.2 k).2.1 zn.out
  have HSZ := hid hsz
  clear hsz
  go_loopw [22] (fun i wr => ∃ (k : Nat) (v : Value), k ≤ N ∧ i = .int .i64 k ∧ RSt w rb (rb + 1) (rb + 2) [.int .i64 ((a.1 : Nat) : Int), .int .i64 ((b.1 : Nat) : Int), .string c.1, .string d.1, v] (runsR 128 k n.2).2 wr ∧ OwnF w wr v (runsR 128 k n.2).1) (fun i _ => N - (RowKit.intOf i).toNat)
  case atStart => exact ⟨0, _, Nat.zero_le _, rfl, HA.out, HOF.out⟩
  case round =>
    clear HA HOF
    obtain ⟨k, v, hk, rfl, hA, hO⟩ := hrel
    by_cases hlt : k < N
    · obtain ⟨q, hq⟩ : ∃ q, q = runsR 128 k n.2 := ⟨_, rfl⟩
      have hlen : q.1.length = k := by rw [hq]; exact (runsR_le 128 (by omega) n.2 k).1
      have hqs : q.2.1.size ≤ 1000000 := by rw [hq]; exact HSZ.out k
      rw [← hq] at hA hO
      obtain ⟨x, hx⟩ : ∃ x, x = cntR 128 q.2 := ⟨_, rfl⟩
      obtain ⟨y, hy⟩ : ∃ y, y = cntR 128 x.2 := ⟨_, rfl⟩
      have hxs : x.2.1.size ≤ 1000000 := by rw [hx]; exact Nat.le_trans (cntR_le 128 q.2).2 hqs
      have hnext : runsR 128 (k + 1) n.2 = (q.1 ++ [((x.1 : Int), (y.1 : Int))], y.2) := by rw [hy, hx, hq]; rfl
      have HX := hid hx
      have HY := hid hy
      have HNX := hid hnext
      have HLEN := hid hlen
      obtain ⟨xb, hxb⟩ : ∃ b, b = wr.heap.size := ⟨_, rfl⟩
      obtain ⟨u0, hu0⟩ : ∃ u0, u0 = wr.alloc (.cells #[.int .i64 0, .int .i64 0] 43) := ⟨_, rfl⟩
      have hA0 : RSt w rb (rb + 1) (rb + 2) [.int .i64 ((a.1 : Nat) : Int), .int .i64 ((b.1 : Nat) : Int), .string c.1, .string d.1, v] q.2 u0 := by rw [hu0]; exact hA.alloc _
      have hx0 : Row u0 xb 43 [.int .i64 0, .int .i64 0] := by rw [hu0, hxb]; exact Row.new wr _ _
      have hO0 : OwnF w u0 v q.1 := by rw [hu0]; exact hO.upd (F := fun _ => False) (Upds.alloc _ _) (fun _ _ h => h)
      have hne : ∀ j, Value.home v j → j ≠ xb := fun j hj => by have := SliceIs.lt hO.1 j hj; omega
      have hnr : rb ≠ xb ∧ rb + 1 ≠ xb ∧ rb + 2 ≠ xb := by
        have h1 := hA.1.lt
        have h2 := hA.2.1.lt
        have h3 := hA.2.2.1.lt
        omega
      have hwx : w.heap.size ≤ xb := by rw [hxb]; exact hA.2.2.2.1.size
      have HNE := hid hne
      have HA0 := hid hA0
      have HX0 := hid hx0
      have HO0 := hid hO0
      have HU0 := hid hu0
      have HXB := hid hxb
      have hlr := hA0.2.1.lt
      clear hq hx hy hnext hlen hu0 hA0 hx0 hO0 hA hO hne hxb
      go_upto_region 10 with fail
      rw [← HXB.out, ← HU0.out]
      go_wp2_with fail
      have HC := hid (cntC 128 (by decide) (rb + 2) q.2.1 q.2.2 hqs u0 HA0.out.2.2.1)
      rw [show cntR 128 (q.2.1, q.2.2) = x from HX.out.symm] at HC
      refine HC.out.mono ?_
      clear HC
      rintro e u1 ⟨rfl, hr, hu⟩
      have hA1 := HA0.out.upd hu hr
      have hx1 := HX0.out.upd hu.upds hnr.2.2.symm
      have HO1 := hid (HO0.out.upd hu.upds (HO0.out.not HA0.out.2.2.1.row (by decide)))
      have hl := hx1.lt
      have hf := hx1.frozen 0
      have hc := hx1.cell (i := 0) rfl
      have HA1 := hid (hA1.setNew xb 0 (.int .i64 ((x.1 : Nat) : Int)) hwx hnr.1 hnr.2.1 hnr.2.2)
      have HX1 := hid (hx1.set 0 (.int .i64 ((x.1 : Nat) : Int)))
      have HO1 := hid (HO1.out.upd (Upds.set1 u1 xb 0 (.int .i64 ((x.1 : Nat) : Int))) HNE.out)
      clear hr hu hA1 hx1 HA0 HX0 HO0
      go_upto_region 11 with fail
      obtain ⟨u2, hu2⟩ : ∃ u, u = u1.setCell ⟨xb, 0, none⟩ (.int .i64 ((x.1 : Nat) : Int)) := ⟨_, rfl⟩
      rw [← hu2] at HA1 HX1 HO1 ⊢
      clear hu2 hl hf hc
      go_wp2_with fail
      have HC := hid (cntC 128 (by decide) (rb + 2) x.2.1 x.2.2 hxs u2 HA1.out.2.2.1)
      rw [show cntR 128 (x.2.1, x.2.2) = y from HY.out.symm] at HC
      refine HC.out.mono ?_
      clear HC
      rintro e u3 ⟨rfl, hr, hu⟩
      have hA1 := HA1.out.upd hu hr
      have hx1 := HX1.out.upd hu.upds hnr.2.2.symm
      have HO2 := hid (HO1.out.upd hu.upds (HO1.out.not HA1.out.2.2.1.row (by decide)))
      have hl := hx1.lt
      have hf := hx1.frozen 1
      have hc := hx1.cell (i := 1) rfl
      have HA2 := hid (hA1.setNew xb 1 (.int .i64 ((y.1 : Nat) : Int)) hwx hnr.1 hnr.2.1 hnr.2.2)
      have HX2 := hid (hx1.set 1 (.int .i64 ((y.1 : Nat) : Int)))
      have HO2 := hid (HO2.out.upd (Upds.set1 u3 xb 1 (.int .i64 ((y.1 : Nat) : Int))) HNE.out)
      clear hr hu hA1 hx1 HA1 HX1 HO1
      go_upto_region 12 with fail
      obtain ⟨u4, hu4⟩ : ∃ u, u = u3.setCell ⟨xb, 1, none⟩ (.int .i64 ((y.1 : Nat) : Int)) := ⟨_, rfl⟩
      rw [← hu4] at HA2 HX2 HO2 ⊢
      clear hu4 hl hf hc
      have l4 := HA2.out.2.1.cell (i := 4) rfl
      have l4f := HA2.out.2.1.frozen 4
      have llt := HA2.out.2.1.lt
      have x0 := HX2.out.cell (i := 0) rfl
      have x1 := HX2.out.cell (i := 1) rfl
      have xlt := HX2.out.lt
      obtain ⟨cs, hcs⟩ : ∃ cs, cs = runCells q.1 := ⟨_, rfl⟩
      have ho := HO2.out.1
      unfold OwnRuns at ho
      rw [HLEN.out, ← hcs] at ho
      have HS := hid ho
      have HCS := hid hcs
      clear ho hcs
      go_wp2_with (at_builtin; refine wpList_append_slice rfl (.tmp 31) (.tmp 33) 22 rfl 43 (.agg #[.int .i64 0, .int .i64 0]) 2 16 Try.underlying22 (by kernel_rfl) (by kernel_rfl) v k cs rfl (SliceIs.alloc HS.out _) ⟨u4.heap.size, 0, none⟩ 1 1 [.int .i64 ((x.1 : Nat) : Int), .int .i64 ((y.1 : Nat) : Int)] rfl rfl (news2 _ _ _ _ _ rfl) (one2 _ _) (by omega) (by omega) (by omega) ?_; intro g8 cap8 w8 hs8 hu8 hh8; have HA8 := hid ((HA2.out.alloc (.cells #[.int .i64 ((x.1 : Nat) : Int), .int .i64 ((y.1 : Nat) : Int)] 43)).upds hu8.out (fun j hj => HO2.out.2 j hj) (fun hj => HO2.out.not HA2.out.1 (by decide) _ hj rfl) (fun hj => HO2.out.not HA2.out.2.1 (by decide) _ hj rfl) (fun hj => HO2.out.not HA2.out.2.2.1.row (by decide) _ hj rfl)); have m4 := HA8.out.2.1.cell (i := 4) rfl; have m4f := HA8.out.2.1.frozen 4; have mlt := HA8.out.2.1.lt)
      go_roundw
      case rel =>
        have h1 : OwnRuns w8 (.slice (some ⟨g8, 0, none⟩) (k + 1) cap8) (q.1 ++ [((x.1 : Int), (y.1 : Int))]) := OwnRuns.more (r := ((x.1 : Int), (y.1 : Int))) HLEN.out HCS.out hs8.out
        have h2 : Fresh w (.slice (some ⟨g8, 0, none⟩) (k + 1) cap8) := fun b hb => (hh8.out b hb).elim (HO2.out.2 b) (fun h => by have := HA2.out.2.2.2.1.size; simp at h; omega)
        have hO8 : OwnF w w8 (.slice (some ⟨g8, 0, none⟩) (k + 1) cap8) (q.1 ++ [((x.1 : Int), (y.1 : Int))]) := ⟨h1, h2⟩
        refine ⟨k + 1, .slice (some ⟨g8, 0, none⟩) (k + 1) cap8, by omega, by go_num, ?_, ?_⟩
        · rw [HNX.out]; exact HA8.out.set 4 _
        · rw [HNX.out]; exact hO8.upd (Upds.set1 w8 (rb + 1) 4 _) (hO8.not HA8.out.2.1 (by decide))
      case measure => simp [RowKit.intOf]; omega
    · obtain rfl : k = N := by omega
      obtain ⟨A, cap, rfl⟩ := hO.1.shape
      rw [(runsR_le 128 (by omega) n.2 k).1] at hA hO
      have HA := hid hA
      have HO := hid hO
      have l0 := hA.2.1.cell (i := 0) rfl
      have l1 := hA.2.1.cell (i := 1) rfl
      have l2 := hA.2.1.cell (i := 2) rfl
      have l3 := hA.2.1.cell (i := 3) rfl
      have l4 := hA.2.1.cell (i := 4) rfl
      have llt := hA.2.1.lt
      have r0 := hA.1.cell (i := 0) rfl
      have r1 := hA.1.cell (i := 1) rfl
      have r2 := hA.1.cell (i := 2) rfl
      have r3 := hA.1.cell (i := 3) rfl
      have r4 := hA.1.cell (i := 4) rfl
      have f0 := hA.1.frozen 0
      have f1 := hA.1.frozen 1
      have f2 := hA.1.frozen 2
      have f3 := hA.1.frozen 3
      have f4 := hA.1.frozen 4
      have rlt := hA.1.lt
      clear hA hO
      have hL : labV (readL 128 s).1 (.slice A k cap) = .agg #[.int .i64 ((a.1 : Nat) : Int), .int .i64 ((b.1 : Nat) : Int), .string c.1, .string d.1, .slice A k cap] := by
        rw [Qd.out, Qc.out, Qb.out, Qa.out]; rfl
      have hE : (readL 128 s).1.ext = (runsR 128 k n.2).1 := by
        rw [HN.out, Qn.out, Qd.out, Qc.out, Qb.out, Qa.out]; rfl
      have HL := hid hL
      have HE := hid hE
      have hneq : rb ≠ rb + 1 := by omega
      clear hL hE
      go_wp2_with fail
      have hS : Upds (fun j => j = rb) wr (((((wr.setCell ⟨rb, 0, none⟩ (.int .i64 ((a.1 : Nat) : Int))).setCell ⟨rb, 1, none⟩ (.int .i64 ((b.1 : Nat) : Int))).setCell ⟨rb, 2, none⟩ (.string c.1)).setCell ⟨rb, 3, none⟩ (.string d.1)).setCell ⟨rb, 4, none⟩ (.slice A k cap)) :=
        ((((Upds.set1 wr rb 0 _).trans (Upds.set1 _ rb 1 _)).trans (Upds.set1 _ rb 2 _)).trans (Upds.set1 _ rb 3 _)).trans (Upds.set1 _ rb 4 _)
      have hrow := ((((HA.out.1.set 0 (.int .i64 ((a.1 : Nat) : Int))).set 1 (.int .i64 ((b.1 : Nat) : Int))).set 2 (.string c.1)).set 3 (.string d.1)).set 4 (.slice A k cap)
      have hown := HO.out.upd hS (HO.out.not HA.out.1 (by decide))
      have hbel := HA.out.2.2.2.1.trans (hS.below HA.out.2.2.2.1.size (fun j e => e ▸ HA.out.2.2.2.2.1))
      have s0 := hrow.cell (i := 0) rfl
      have s1 := hrow.cell (i := 1) rfl
      have s2 := hrow.cell (i := 2) rfl
      have s3 := hrow.cell (i := 3) rfl
      have s4 := hrow.cell (i := 4) rfl
      refine bodyPost_ret (v := labV (readL 128 s).1 (.slice A k cap)) ?_ rfl ⟨.slice A k cap, rfl, by rw [HE.out]; exact hown.1, hbel⟩
      rw [HL.out]
      simp [results, Try.results57, go_sem, s0, s1, s2, s3, s4]
end Go.Proofs.Ytabbkgbgldgfeaa
