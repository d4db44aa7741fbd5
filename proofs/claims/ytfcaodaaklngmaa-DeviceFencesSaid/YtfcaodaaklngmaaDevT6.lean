import Derived.Test.YtfcaodaaklngmaaDevT5
/-! Write and Sync. -/
namespace Go.Proofs.Ytfcaodaaklngmaa
open Go.Lib Go.ChangeShapes Go.WideShapes Go.ChangeAt Go.RowKit

theorem DS.admit_cases (D : DS) (s e : Int) : ((D.admit s e).1 = 0 ∧ (D.admit s e).2.pend = D.pend ∧ (D.admit s e).2.n = D.n) ∨ (D.admit s e).1 = 10 ∨ (D.admit s e).1 = 13 := by
  unfold DS.admit
  split
  · exact .inr (.inl rfl)
  split
  · exact .inr (.inr rfl)
  split
  · exact .inr (.inl rfl)
  split
  · exact .inl ⟨rfl, rfl, rfl⟩
  · exact .inl ⟨rfl, rfl, rfl⟩
theorem DS.Ok.push {D : DS} (h : D.Ok) (p : PW) (hp : 1 ≤ p.sys ∧ p.sys ≤ 4 ∧ p.sec < D.n ∧ p.dat.size = 140) : DS.Ok { D with pend := D.pend ++ [p] } :=
  ⟨h.pos, h.most, h.st, h.er, h.ers, fun q hq => by
    rcases List.mem_append.1 hq with hq | hq
    · exact h.pend q hq
    · rw [List.mem_singleton.1 hq]; exact hp, h.fen, h.left, h.surv, h.off⟩
def WritePost (base : Nat) (L : Lay) (w : World) (r : Int × DS) (x : Ending) (w' : World) : Prop := x = .returned (.int .i64 r.1) ∧ DevTo w base L r.2 w'
theorem DS.write_arg {D : DS} {s e i : Int} {d : ByteArray} (h : ¬ (validW s e ∧ d.size = 140)) : D.write s e i d = (1, D) := by unfold DS.write; rw [if_pos h]
theorem DS.write_range {D : DS} {s e i : Int} {d : ByteArray} (h : validW s e ∧ d.size = 140) (hi : ¬ D.has i) : D.write s e i d = (2, D) := by unfold DS.write; rw [if_neg (by simpa using h), if_pos hi]
theorem DS.write_no {D : DS} {s e i : Int} {d : ByteArray} (h : validW s e ∧ d.size = 140) (hi : D.has i) (ha : (D.admit s e).1 ≠ 0) : D.write s e i d = D.admit s e := by
  unfold DS.write; rw [if_neg (by simpa using h), if_neg (by simpa using hi)]
  generalize D.admit s e = r at ha ⊢
  obtain ⟨x, D'⟩ := r
  split
  · rename_i h1; simp only [Prod.mk.injEq] at h1; exact absurd h1.1 ha
  · rename_i h1; simp only [Prod.mk.injEq] at h1; rw [h1.1, h1.2]
theorem DS.write_yes {D : DS} {s e i : Int} {d : ByteArray} (h : validW s e ∧ d.size = 140) (hi : D.has i) (ha : (D.admit s e).1 = 0) : D.write s e i d = (0, { (D.admit s e).2 with pend := (D.admit s e).2.pend ++ [⟨s, i.toNat, d⟩] }) := by
  unfold DS.write; rw [if_neg (by simpa using h), if_neg (by simpa using hi)]
  generalize D.admit s e = r at ha ⊢
  obtain ⟨x, D'⟩ := r
  simp only at ha
  subst ha
  rfl

set_option maxRecDepth 100000 in
theorem write_any (base : Nat) (L : Lay) (D : DS) (s e i : Int) (d : ByteArray) (w : World) (hD : Dev w base L D) (hw : base ≤ w.heap.size) (few : D.pend.length + 1 ≤ 100000) :
    Calls Try.prog 21 #[.pointer (some ⟨L.b, 0, none⟩), .agg #[.int .i64 s, .int .i64 e], .int .i64 i, .string d] w (WritePost base L w (D.write s e i d)) := by
  have HD := hid hD
  clear hD
  obtain ⟨w1, hw1⟩ : ∃ w1, w1 = w.alloc (.cells #[.int .i64 s, .int .i64 e] 42) := ⟨_, rfl⟩
  obtain ⟨w2, hw2⟩ : ∃ w2, w2 = w1.alloc (.cells #[.int .i64 s, .int .i64 e] 42) := ⟨_, rfl⟩
  have hu : Upds (fun _ => False) w w2 := by rw [hw2, hw1]; exact (Upds.alloc _ _).trans (Upds.alloc _ _)
  have hr1 : Row w2 w.heap.size 42 [.int .i64 s, .int .i64 e] := by rw [hw2]; exact Row.alloc (by rw [hw1]; exact Row.new w [.int .i64 s, .int .i64 e] 42) _
  have HU := hid hu
  have HR := hid hr1
  have HW1 := hid hw1
  have HW2 := hid hw2
  clear hw1 hw2 hu hr1
  have b0 : w2.cell? ⟨w.heap.size, 0, none⟩ = some (.int .i64 s) := HR.out.cell rfl
  have b1 : w2.cell? ⟨w.heap.size, 1, none⟩ = some (.int .i64 e) := HR.out.cell rfl
  by_cases hv : validW s e
  · by_cases h140 : d.size = 140
    · by_cases hi : D.has i
      · obtain ⟨j, hj, rfl⟩ : ∃ j : Nat, j < 4 ∧ s = (j : Int) + 1 := ⟨(s - 1).toNat, by unfold validW at hv; omega, by unfold validW at hv; omega⟩
        have HV := hid hv
        have HI := hid hi
        have H140 := hid h140
        have hb140 : ((d.size : Int) != 140) = false := by rw [h140]; rfl
        clear hv hi h140
        have HA := hid (admit_any base L D j hj e w2 (HD.out.calm HU.out) (by have := HU.out.size; omega))
        go_enter Try.func21, Try.ntmps21
        go_wp2_with fail
        refine (valid_true _ e HV.out _).mono ?_
        rintro x w3 ⟨rfl, rfl⟩
        rw [← HW1.out, ← HW2.out]
        go_wp2_with fail
        refine (has_true base L D i HI.out w2 (HD.out.calm HU.out)).mono ?_
        rintro x w3 ⟨rfl, rfl⟩
        go_wp2_with fail
        refine HA.out.mono ?_
        intro x w3 hx
        obtain ⟨rfl, L3, hd3, hb3, hu3, ho3⟩ := hx
        rcases DS.admit_cases D ((j : Int) + 1) e with ⟨a0, a1, a2⟩ | a0 | a0
        · have HY := hid (DS.write_yes (d := d) ⟨HV.out, H140.out⟩ HI.out a0)
          have HA1 := hid a1
          have HA2 := hid a2
          obtain ⟨D3, hD3⟩ : ∃ D3, D3 = (D.admit ((j : Int) + 1) e).2 := ⟨_, rfl⟩
          rw [← hD3] at hd3 HY HA1 HA2
          rw [a0]
          clear a0 a1 a2 hD3 HA
          have HD3 := hid hd3
          have HB3 := hid hb3
          have HU3 := hid hu3
          have HO3 := hid ho3
          have hlt0 : ∀ k, L.own k → k < w.heap.size := fun k hk => HD.out.lt k hk
          have d0 : w3.cell? ⟨w.heap.size, 0, none⟩ = some (.int .i64 ((j : Int) + 1)) := hu3.cell (fun h => by have := hlt0 _ h; omega) b0
          have g1 := hd3.c1
          have f1 := hd3.blk.frozen 1
          rw [hb3] at g1 f1
          have hlt1 := hd3.blk.lt
          rw [hb3] at hlt1
          have HLT : Hid (∀ k, Value.home L3.pv k → k < w3.heap.size) := fun k hk => HD3.out.lt k (.inr (.inr hk))
          have hlen : D3.pend.length + 1 ≤ 100000 := by rw [HA1.out]; exact few
          obtain ⟨k, hk⟩ : ∃ k : Nat, i = k := ⟨i.toNat, by have := HI.out.1; omega⟩
          subst hk
          obtain ⟨p, hp⟩ : ∃ p : PW, p = ⟨(j : Int) + 1, k, d⟩ := ⟨_, rfl⟩
          have HP := hid hp
          clear hd3 hb3 hu3 ho3 hlt0 hp b0 b1
          obtain ⟨w4, hw4⟩ : ∃ w4, w4 = (w3.alloc (.cells #[.int .i64 ((j : Int) + 1), .int .i64 k, .string d] 90)).drew := ⟨_, rfl⟩
          have hu4 : Upds (fun _ => False) w3 w4 := by rw [hw4]; exact (Upds.alloc _ _).trans (Upds.drew _)
          have HSL := hid (HD3.out.calm hu4).pend.toSlice
          have hr4 : Row w4 w3.heap.size 90 p.cells := by rw [hw4, HP.out]; exact Row.new w3 [.int .i64 ((j : Int) + 1), .int .i64 k, .string d] _
          have hnews : Hid (∀ j u, p.cells[j]? = some u → w4.cell? ((⟨w3.heap.size, 0, none⟩ : Addr).add j) = some u) := fun j u hu => by
            rw [Go.WideShapes.add_plain, Nat.zero_add]; exact hr4.cell hu
          have hone : Hid (∀ u ∈ p.cells, u.oneCell' = true) := fun u hu => by
            simp only [PW.cells, List.mem_cons, List.not_mem_nil, or_false] at hu
            rcases hu with rfl | rfl | rfl <;> rfl
          have HU4 := hid hu4
          have HW4 := hid hw4
          have HST : Hid (∀ W, Upds (Value.home L3.pv) w4 W → W.cell? ⟨L.b, 1, none⟩ = some L3.pv ∧ W.frozen? ⟨L.b, 1, none⟩ = false) := fun W hW => by
            have hr := ((HD3.out.calm HU4.out).blk).upd hW (fun h => (HD3.out.calm HU4.out).b_ne_pb _ h rfl)
            rw [HB3.out] at hr
            exact ⟨hr.cell rfl, hr.frozen 1⟩
          clear hu4 hr4 hw4
          go_wp2_with fail
          go_region_law (rw [← HW4.out]; refine step_append_slice rfl (.tmp 32) (.tmp 38) 65 rfl 90 (.agg #[.int .i64 0, .int .i64 0, .string ⟨#[]⟩]) 3 32 Try.underlying65 (by kernel_rfl) rfl L3.pv D3.pend.length (pwCells D3.pend) (by simp [Act.eval]) HSL.out ⟨w3.heap.size, 0, none⟩ 1 1 p.cells (by simp [Act.eval]) rfl hnews.out hone.out (by omega) (by omega) (by omega) ?_; intro g cap w5 hs5 hu5 hh5; obtain ⟨g5, f5⟩ := HST.out w5 hu5.out)
          all_goals
            go_wp2_with fail
            go_ret
            rw [HY.out]
            refine ⟨rfl, DevTo.later HU.out (DevTo.trans HB3.out HU3.out HO3.out (DevTo.later HU4.out ?_))⟩
            have hd4 := HD3.out.calm HU4.out
            have hok : 1 ≤ p.sys ∧ p.sys ≤ 4 ∧ p.sec < D3.n ∧ p.dat.size = 140 := by
              rw [HP.out, HA2.out]
              have h1 := HI.out.2
              refine ⟨by show (1 : Int) ≤ (j : Int) + 1; omega, by show (j : Int) + 1 ≤ 4; omega, by show k < D.n; omega, H140.out⟩
            have hsl : PendIs w5 (.slice (some ⟨g, 0, none⟩) (D3.pend.length + 1) cap) (D3.pend ++ [p]) := PendIs.ofSlice (by
              have := hs5.out
              rw [List.length_append, pwCells_append]
              simpa [pwCells] using this)
            have hfin := hd4.relist (by have := HU.out.size; have := HU3.out.size; have := HU4.out.size; omega) D3.sec (D3.pend ++ [p]) _ (hu5.out.mono (fun k h => .inr h)) (hd4.secs.upd hu5.out (fun h => hd4.sb_ne_pb _ h rfl)) hsl hh5.out (hd4.ok.push p hok) (by rw [List.length_append]; exact hlen)
            rw [HB3.out, HP.out] at hfin
            exact hfin
        all_goals
          have HY := hid (DS.write_no (d := d) ⟨HV.out, H140.out⟩ HI.out (by rw [a0]; decide))
          have HA0 := hid a0
          have H3 : Hid (DevTo w base L (D.admit ((j : Int) + 1) e).2 w3) := DevTo.later HU.out ⟨L3, hd3, hb3, hu3, ho3⟩
          rw [a0]
          clear a0 hd3 hb3 hu3 ho3 HA
          go_wp2_with fail
          go_ret
          rw [HY.out]
          exact ⟨by rw [HA0.out]; rfl, H3.out⟩
      · have HY := hid (DS.write_range (D := D) ⟨hv, h140⟩ hi)
        have HV := hid hv
        have HI : Hid (¬ D.has i) := hi
        have hb140 : ((d.size : Int) != 140) = false := by rw [h140]; rfl
        clear hv hi h140
        go_enter Try.func21, Try.ntmps21
        go_wp2_with fail
        refine (valid_true _ e HV.out _).mono ?_
        rintro x w3 ⟨rfl, rfl⟩
        rw [← HW1.out, ← HW2.out]
        go_wp2_with fail
        refine (has_false base L D i HI.out w2 (HD.out.calm HU.out)).mono ?_
        rintro x w3 ⟨rfl, rfl⟩
        go_wp2_with fail
        go_ret
        rw [HY.out]
        exact ⟨rfl, HD.out.to HU.out⟩
    · have HY := hid (DS.write_arg (D := D) (i := i) (fun h => h140 h.2 : ¬ (validW s e ∧ d.size = 140)))
      have HV := hid hv
      have hb140 : ((d.size : Int) != 140) = true := by rw [bne_iff_ne]; omega
      clear hv h140
      go_enter Try.func21, Try.ntmps21
      go_wp2_with fail
      refine (valid_true _ e HV.out _).mono ?_
      rintro x w3 ⟨rfl, rfl⟩
      rw [← HW1.out, ← HW2.out]
      go_wp2_with fail
      go_ret
      rw [HY.out]
      exact ⟨rfl, HD.out.to HU.out⟩
  · have HY := hid (DS.write_arg (D := D) (i := i) (d := d) (fun h => hv h.1 : ¬ (validW s e ∧ d.size = 140)))
    have HV : Hid (¬ validW s e) := hv
    clear hv
    go_enter Try.func21, Try.ntmps21
    go_wp2_with fail
    refine (valid_false _ e HV.out _).mono ?_
    rintro x w3 ⟨rfl, rfl⟩
    rw [← HW1.out, ← HW2.out]
    go_wp2_with fail
    go_ret
    rw [HY.out]
    exact ⟨rfl, HD.out.to HU.out⟩

theorem DS.sync_arg {D : DS} {s e : Int} (h : ¬ validW s e) : D.sync s e = (1, D) := by unfold DS.sync; rw [if_pos h]
theorem DS.sync_no {D : DS} {s e : Int} (h : validW s e) (ha : (D.admit s e).1 ≠ 0) : D.sync s e = D.admit s e := by
  unfold DS.sync; rw [if_neg (by simpa using h)]
  generalize D.admit s e = r at ha ⊢
  obtain ⟨x, D'⟩ := r
  split
  · rename_i h1; simp only [Prod.mk.injEq] at h1; exact absurd h1.1 ha
  · rename_i h1; simp only [Prod.mk.injEq] at h1; rw [h1.1, h1.2]
theorem DS.sync_yes {D : DS} {s e : Int} (h : validW s e) (ha : (D.admit s e).1 = 0) : D.sync s e = (0, (D.admit s e).2.done (fun p => decide (p.sys = s)) (fun _ => 140)) := by
  unfold DS.sync; rw [if_neg (by simpa using h)]
  generalize D.admit s e = r at ha ⊢
  obtain ⟨x, D'⟩ := r
  simp only at ha
  subst ha
  rfl
set_option maxRecDepth 100000 in
theorem sync_any (base : Nat) (L : Lay) (D : DS) (s e : Int) (w : World) (hD : Dev w base L D) (hw : base ≤ w.heap.size) :
    Calls Try.prog 22 #[.pointer (some ⟨L.b, 0, none⟩), .agg #[.int .i64 s, .int .i64 e]] w (WritePost base L w (D.sync s e)) := by
  have HD := hid hD
  clear hD
  obtain ⟨w1, hw1⟩ : ∃ w1, w1 = w.alloc (.cells #[.int .i64 s, .int .i64 e] 42) := ⟨_, rfl⟩
  obtain ⟨w2, hw2⟩ : ∃ w2, w2 = w1.alloc (.cells #[.int .i64 s, .int .i64 e] 42) := ⟨_, rfl⟩
  have hu : Upds (fun _ => False) w w2 := by rw [hw2, hw1]; exact (Upds.alloc _ _).trans (Upds.alloc _ _)
  have hr1 : Row w2 w.heap.size 42 [.int .i64 s, .int .i64 e] := by rw [hw2]; exact Row.alloc (by rw [hw1]; exact Row.new w [.int .i64 s, .int .i64 e] 42) _
  have HU := hid hu
  have HR := hid hr1
  have HW1 := hid hw1
  have HW2 := hid hw2
  clear hw1 hw2 hu hr1
  have b0 : w2.cell? ⟨w.heap.size, 0, none⟩ = some (.int .i64 s) := HR.out.cell rfl
  have b1 : w2.cell? ⟨w.heap.size, 1, none⟩ = some (.int .i64 e) := HR.out.cell rfl
  by_cases hv : validW s e
  · obtain ⟨j, hj, rfl⟩ : ∃ j : Nat, j < 4 ∧ s = (j : Int) + 1 := ⟨(s - 1).toNat, by unfold validW at hv; omega, by unfold validW at hv; omega⟩
    have HV := hid hv
    clear hv
    have HA := hid (admit_any base L D j hj e w2 (HD.out.calm HU.out) (by have := HU.out.size; omega))
    go_enter Try.func22, Try.ntmps22
    go_wp2_with fail
    refine (valid_true _ e HV.out _).mono ?_
    rintro x w3 ⟨rfl, rfl⟩
    rw [← HW1.out, ← HW2.out]
    go_wp2_with fail
    refine HA.out.mono ?_
    intro x w3 hx
    obtain ⟨rfl, L3, hd3, hb3, hu3, ho3⟩ := hx
    rcases DS.admit_cases D ((j : Int) + 1) e with ⟨a0, _, _⟩ | a0 | a0
    · have HY := hid (DS.sync_yes HV.out a0)
      obtain ⟨D3, hD3⟩ : ∃ D3, D3 = (D.admit ((j : Int) + 1) e).2 := ⟨_, rfl⟩
      rw [← hD3] at hd3 HY
      rw [a0]
      clear a0 hD3 HA
      have HD3 := hid hd3
      have HB3 := hid hb3
      have HU3 := hid hu3
      have HO3 := hid ho3
      have hlt0 : ∀ k, L.own k → k < w.heap.size := fun k hk => HD.out.lt k hk
      have d0 : w3.cell? ⟨w.heap.size, 0, none⟩ = some (.int .i64 ((j : Int) + 1)) := hu3.cell (fun h => by have := hlt0 _ h; omega) b0
      clear hd3 hb3 hu3 ho3 hlt0 b0 b1
      go_wp2_with fail
      refine (of_any _ _).mono ?_
      rintro x w4 ⟨rfl, rfl⟩
      obtain ⟨w4, hw4⟩ : ∃ w4, w4 = w3.alloc (.cells #[.int .i64 ((j : Int) + 1)] 3) := ⟨_, rfl⟩
      have hu4 : Upds (fun _ => False) w3 w4 := by rw [hw4]; exact Upds.alloc _ _
      have hr4 : Row w4 w3.heap.size 3 [.int .i64 ((j : Int) + 1)] := by rw [hw4]; exact Row.new w3 [.int .i64 ((j : Int) + 1)] _
      rw [← hw4]
      have HU4 := hid hu4
      have HR4 := hid hr4
      clear hu4 hr4 hw4
      have HOB : Hid (∀ k, L3.own k → k < w3.heap.size) := fun k hk => HD3.out.lt k hk
      have HE := hid (end_any 71 #[.pointer (some ⟨w3.heap.size, 0, none⟩)] enters_of1 (fun p => decide (p.sys = (j : Int) + 1)) 55 #[] enters_sync1 (fun _ => 140) base L3 D3 w4 (HD3.out.calm HU4.out) (by have := HU.out.size; have := HU3.out.size; have := HU4.out.size; omega)
        (fun W hW p => of1_any _ p w3.heap.size W (hW.cell (fun h => by have := HOB.out _ h; omega) (HR4.out.cell rfl)))
        (fun W _ i _ => sync1_any i W))
      rw [HB3.out] at HE
      go_wp2_with fail
      refine HE.out.mono ?_
      rintro x w5 ⟨rfl, h5⟩
      have H5 := hid (DevTo.later HU.out (DevTo.trans HB3.out HU3.out HO3.out (DevTo.later HU4.out h5)))
      clear h5
      go_wp2_with fail
      go_ret
      rw [HY.out]
      exact ⟨rfl, H5.out⟩
    all_goals
      have HY := hid (DS.sync_no HV.out (by rw [a0]; decide))
      have HA0 := hid a0
      have H3 : Hid (DevTo w base L (D.admit ((j : Int) + 1) e).2 w3) := DevTo.later HU.out ⟨L3, hd3, hb3, hu3, ho3⟩
      rw [a0]
      clear a0 hd3 hb3 hu3 ho3 HA
      go_wp2_with fail
      go_ret
      rw [HY.out]
      exact ⟨by rw [HA0.out]; rfl, H3.out⟩
  · have HY := hid (DS.sync_arg (D := D) hv)
    have HV : Hid (¬ validW s e) := hv
    clear hv
    go_enter Try.func22, Try.ntmps22
    go_wp2_with fail
    refine (valid_false _ e HV.out _).mono ?_
    rintro x w3 ⟨rfl, rfl⟩
    rw [← HW1.out, ← HW2.out]
    go_wp2_with fail
    go_ret
    rw [HY.out]
    exact ⟨rfl, HD.out.to HU.out⟩
end Go.Proofs.Ytfcaodaaklngmaa
