import Derived.Test.YtklbckonlbpbgabSpnM4
/-! The segments of a block. -/
namespace Go.Proofs.Ytklbckonlbpbgab
open Go.Lib Go.ChangeShapes Go.WideShapes Go.ChangeAt Go.RowKit
set_option linter.unusedVariables false

/-- what Segments answers -/
def SSegs (t : TypeId) (r : Option (List Seg)) (w : World) (e : Ending) (w' : World) : Prop :=
  (match r with | none => e = .returned (.tuple #[.slice none 0 0, .int .i64 11]) | some l => ∃ v, e = .returned (.tuple #[v, .int .i64 0]) ∧ OwnSegs t w' v l ∧ Fresh w v) ∧ Below w.heap.size w w'
theorem SSegs.none {t : TypeId} {r : Option (List Seg)} (hr : r = none) {w w' : World} (hb : Below w.heap.size w w') : SSegs t r w (.returned (.tuple #[.slice none 0 0, .int .i64 11])) w' := by subst hr; exact ⟨rfl, hb⟩
theorem SSegs.some {t : TypeId} {r : Option (List Seg)} {l : List Seg} (hr : r = some l) {w w' : World} {v : Value} (ho : OwnSegs t w' v l) (hf : Fresh w v) (hb : Below w.heap.size w w') : SSegs t r w (.returned (.tuple #[v, .int .i64 0])) w' := by subst hr; exact ⟨⟨v, rfl, ho, hf⟩, hb⟩
set_option maxRecDepth 100000 in
set_option maxHeartbeats 4000000 in
theorem ssegs_ok (x b : Nat) (hf : sfits (x : Int) (b : Int)) (d : ByteArray) (hd : 4 < d.size) (hw : d.extract 0 4 = word d.size) (hdb : d.size ≤ b) (w : World) :
    Calls Try.prog 11 #[.int .i64 x, .int .i64 b, .string d] w (SSegs 36 (rd x (decide (d.size = b)) true (d.extract 4 d.size)) w) := by
  have HV := fun W => hid (svalid_any x b (by have := hf.2.2.2; omega) W)
  rw [decide_eq_true hf] at HV
  have hL2 : x ≤ 1000 := by have := hf.2.1; omega
  have hb1 : 9 ≤ b := by have := hf.2.2.1; omega
  have hb2 : b ≤ 1024 := by have := hf.2.2.2; omega
  have S1 := fun W => sl_to d 4 4 rfl (by omega) W
  have S2 := fun W => sl_from d 4 4 rfl (by omega) W
  have HR := fun W => hid (readWord_yes d.size (by omega) W)
  rw [hw] at S1
  obtain ⟨h, hh⟩ : ∃ h, h = word d.size := ⟨_, rfl⟩
  rw [← hh] at HR S1
  obtain ⟨y0, hy0⟩ : ∃ y, y = d.extract 4 d.size := ⟨_, rfl⟩
  have hys : y0.size + 4 = d.size := by rw [hy0, ByteArray.size_extract]; omega
  rw [← hy0] at S2 ⊢
  have hA : (4 : Int) < (d.size : Int) := by omega
  have hB : decide ((d.size : Int) ≤ 4) = false := by simp only [decide_eq_false_iff_not]; omega
  have hC : decide (b < d.size) = false := by simp only [decide_eq_false_iff_not]; omega
  obtain ⟨full, hfull⟩ : ∃ f, f = decide (d.size = b) := ⟨_, rfl⟩
  rw [← hfull]
  have hNb : ((d.size : Int) == (b : Int)) = full := by
    rw [hfull]
    by_cases h : d.size = b
    · rw [← h]; simp
    · rw [decide_eq_false h, beq_eq_false_iff_ne]; omega
  have HNB := hid hNb
  obtain ⟨res, hres⟩ : ∃ r, r = rd x full true y0 := ⟨_, rfl⟩
  rw [← hres]
  have HRES := hid hres
  have HYS : Hid (y0.size ≤ 1020) := hid (by omega)
  clear hf hd hw hh hy0 hfull hNb hres hys hdb
  go_enter Try.func11, Try.ntmps11
  go_wp2_with fail
  refine (HV _).out.mono ?_
  rintro e w1 ⟨rfl, rfl⟩
  go_wp2_with fail
  refine (HR _).out.mono ?_
  rintro e w2 ⟨rfl, hb⟩
  have HB2 := hid hb
  clear hb
  go_wp2_with fail
  go_loopw [10, 11] (fun s10 s11 wr => ∃ (l : List Seg) (u' : Value) (y : ByteArray), u' = s10 ∧ s11 = .string y ∧ y.size + l.length ≤ 1020 ∧ (rd x full l.isEmpty y).map (l ++ ·) = res ∧ OwnSegs 36 wr u' l ∧ Fresh w2 u' ∧ Below w2.heap.size w2 wr) (fun _ s11 _ => match s11 with | .string y => y.size | _ => 0)
  case atStart => exact ⟨[], _, y0, rfl, rfl, by have := HYS.out; simp; omega, by rw [HRES.out]; simp, OwnSegs.nil _ _, Fresh.nil _, Below.refl _ _⟩
  case round =>
    obtain ⟨l, u, y, rfl, rfl, hly, hrd, ho, hfr, hb⟩ := hrel
    have HB := hid hb
    have HO := hid ho
    have HF := hid hfr
    have HRD := hid hrd
    obtain ⟨A, cap, rfl⟩ := ho.shape
    by_cases hy : 0 < y.size
    · have hnl := nel hy
      have hie : y.toList.isEmpty = false := by simpa using hnl
      by_cases hk : segOk y
      · have hqlt := segRest_lt hk
        have hps := segOf_size hk.2.2.2.1
        have hpt := hk.2.2.2.1
        have CY := fun W => hid (scut_yes y (by omega) hk W)
        have YES : (segOf y).data.size ≤ x ∧ ((segOf y).before = true → l.isEmpty = true) ∧ ((segOf y).after = true → (segRest y).size = 0 ∧ full = true) → (rd x full (l ++ [segOf y]).isEmpty (segRest y)).map ((l ++ [segOf y]) ++ ·) = res := fun h => by
          rw [← hrd, rd_yes _ _ _ _ (by omega) ⟨hk, h⟩, Option.map_map]
          have e : (l ++ [segOf y]).isEmpty = false := by simp
          rw [e]
          congr 1
          funext z
          simp
        have NO : ¬ ((segOf y).data.size ≤ x ∧ ((segOf y).before = true → l.isEmpty = true) ∧ ((segOf y).after = true → (segRest y).size = 0 ∧ full = true)) → res = none := fun h => by
          rw [← hrd, rd_no _ _ _ _ (by omega) (fun h' => h h'.2)]; rfl
        obtain ⟨q, hq⟩ : ∃ q, q = segRest y := ⟨_, rfl⟩
        obtain ⟨sg, hsg⟩ : ∃ sg, sg = segOf y := ⟨_, rfl⟩
        rw [← hq] at hqlt CY YES NO
        rw [← hsg] at hps CY YES NO
        obtain ⟨bef, aft, p⟩ := sg
        have hpy : p.size ≤ y.size := by have : p.size = segNum y - 4 := hps; omega
        replace CY : ∀ W, Hid (Calls Try.prog 27 #[.string y] W (Gives (.tuple #[.agg #[.bool bef, .bool aft, .string p], .string q, .bool true]) W)) := CY
        have HQ : Hid (q.size + l.length + 1 ≤ 1020) := hid (by omega)
        have HQ2 : Hid (q.size < y.size) := hid hqlt
        clear hq hsg hps hpt
        simp only at YES NO
        by_cases hpx : x < p.size
        · have hlo : decide (x < p.size) = true := by simp only [decide_eq_true_eq]; omega
          cases bef
          · cases aft
            · by_cases hq0 : q.size = 0
              · have hqe : q = ⟨#[]⟩ := empty_of hq0
                have hqs := hq0
                have HNO := hid (NO (fun h => by have := h.1; omega))
                clear YES NO hk hrd ho hfr hb
                subst hqe
                go_wp2_with fail
                refine (CY _).out.mono ?_
                rintro e w3 ⟨rfl, hb⟩
                have HB3 := hid (HB.out.trans (hb.mono HB.out.size))
                clear hb
                have hr2 := Row.new w3 [.bool false, .bool false, .string ⟨#[]⟩] 36
                have s0 := hr2.cell (i := 0) rfl
                have t0 := hr2.frozen 0
                have s1 := hr2.cell (i := 1) rfl
                have t1 := hr2.frozen 1
                have s2 := hr2.cell (i := 2) rfl
                have t2 := hr2.frozen 2
                go_upto_region 10 with fail
                have hr4 : Row (w3.alloc (.cells #[.bool false, .bool false, .string p] 36)) w3.heap.size 36 [.bool false, .bool false, .string p] := Row.new w3 _ _
                have hb4 : Below w3.heap.size w3 (w3.alloc (.cells #[.bool false, .bool false, .string p] 36)) := (Below.refl _ _).alloc (Nat.le_refl _) _
                obtain ⟨w4, hw4⟩ : ∃ q, q = (w3.alloc (.cells #[.bool false, .bool false, .string p] 36)) := ⟨_, rfl⟩
                rw [← hw4] at hr4 hb4 ⊢
                have HB4 := hid (HB3.out.trans (hb4.mono HB3.out.size))
                have q0 := hr4.cell (i := 0) rfl
                have q1 := hr4.cell (i := 1) rfl
                have q2 := hr4.cell (i := 2) rfl
                clear hr2 s0 s1 s2 t0 t1 t2 hr4 hb4 hw4
                go_wp2_with fail
                go_ret2
                exact SSegs.none HNO.out (HB2.out.trans (HB4.out.mono HB2.out.size))
              · have hqn := nel (d := q) (by omega)
                have hqi : q.toList.isEmpty = false := by simpa using hqn
                have HNO := hid (NO (fun h => by have := h.1; omega))
                clear YES NO hk hrd ho hfr hb
                go_wp2_with fail
                refine (CY _).out.mono ?_
                rintro e w3 ⟨rfl, hb⟩
                have HB3 := hid (HB.out.trans (hb.mono HB.out.size))
                clear hb
                have hr2 := Row.new w3 [.bool false, .bool false, .string ⟨#[]⟩] 36
                have s0 := hr2.cell (i := 0) rfl
                have t0 := hr2.frozen 0
                have s1 := hr2.cell (i := 1) rfl
                have t1 := hr2.frozen 1
                have s2 := hr2.cell (i := 2) rfl
                have t2 := hr2.frozen 2
                go_upto_region 10 with fail
                have hr4 : Row (w3.alloc (.cells #[.bool false, .bool false, .string p] 36)) w3.heap.size 36 [.bool false, .bool false, .string p] := Row.new w3 _ _
                have hb4 : Below w3.heap.size w3 (w3.alloc (.cells #[.bool false, .bool false, .string p] 36)) := (Below.refl _ _).alloc (Nat.le_refl _) _
                obtain ⟨w4, hw4⟩ : ∃ q, q = (w3.alloc (.cells #[.bool false, .bool false, .string p] 36)) := ⟨_, rfl⟩
                rw [← hw4] at hr4 hb4 ⊢
                have HB4 := hid (HB3.out.trans (hb4.mono HB3.out.size))
                have q0 := hr4.cell (i := 0) rfl
                have q1 := hr4.cell (i := 1) rfl
                have q2 := hr4.cell (i := 2) rfl
                clear hr2 s0 s1 s2 t0 t1 t2 hr4 hb4 hw4
                go_wp2_with fail
                go_ret2
                exact SSegs.none HNO.out (HB2.out.trans (HB4.out.mono HB2.out.size))
            · by_cases hq0 : q.size = 0
              · have hqe : q = ⟨#[]⟩ := empty_of hq0
                have hqs := hq0
                have HNO := hid (NO (fun h => by have := h.1; omega))
                clear YES NO hk hrd ho hfr hb
                subst hqe
                go_wp2_with fail
                refine (CY _).out.mono ?_
                rintro e w3 ⟨rfl, hb⟩
                have HB3 := hid (HB.out.trans (hb.mono HB.out.size))
                clear hb
                have hr2 := Row.new w3 [.bool false, .bool false, .string ⟨#[]⟩] 36
                have s0 := hr2.cell (i := 0) rfl
                have t0 := hr2.frozen 0
                have s1 := hr2.cell (i := 1) rfl
                have t1 := hr2.frozen 1
                have s2 := hr2.cell (i := 2) rfl
                have t2 := hr2.frozen 2
                go_upto_region 10 with fail
                have hr4 : Row (w3.alloc (.cells #[.bool false, .bool true, .string p] 36)) w3.heap.size 36 [.bool false, .bool true, .string p] := Row.new w3 _ _
                have hb4 : Below w3.heap.size w3 (w3.alloc (.cells #[.bool false, .bool true, .string p] 36)) := (Below.refl _ _).alloc (Nat.le_refl _) _
                obtain ⟨w4, hw4⟩ : ∃ q, q = (w3.alloc (.cells #[.bool false, .bool true, .string p] 36)) := ⟨_, rfl⟩
                rw [← hw4] at hr4 hb4 ⊢
                have HB4 := hid (HB3.out.trans (hb4.mono HB3.out.size))
                have q0 := hr4.cell (i := 0) rfl
                have q1 := hr4.cell (i := 1) rfl
                have q2 := hr4.cell (i := 2) rfl
                clear hr2 s0 s1 s2 t0 t1 t2 hr4 hb4 hw4
                go_wp2_with fail
                go_ret2
                exact SSegs.none HNO.out (HB2.out.trans (HB4.out.mono HB2.out.size))
              · have hqn := nel (d := q) (by omega)
                have hqi : q.toList.isEmpty = false := by simpa using hqn
                have HNO := hid (NO (fun h => by have := h.1; omega))
                clear YES NO hk hrd ho hfr hb
                go_wp2_with fail
                refine (CY _).out.mono ?_
                rintro e w3 ⟨rfl, hb⟩
                have HB3 := hid (HB.out.trans (hb.mono HB.out.size))
                clear hb
                have hr2 := Row.new w3 [.bool false, .bool false, .string ⟨#[]⟩] 36
                have s0 := hr2.cell (i := 0) rfl
                have t0 := hr2.frozen 0
                have s1 := hr2.cell (i := 1) rfl
                have t1 := hr2.frozen 1
                have s2 := hr2.cell (i := 2) rfl
                have t2 := hr2.frozen 2
                go_upto_region 10 with fail
                have hr4 : Row (w3.alloc (.cells #[.bool false, .bool true, .string p] 36)) w3.heap.size 36 [.bool false, .bool true, .string p] := Row.new w3 _ _
                have hb4 : Below w3.heap.size w3 (w3.alloc (.cells #[.bool false, .bool true, .string p] 36)) := (Below.refl _ _).alloc (Nat.le_refl _) _
                obtain ⟨w4, hw4⟩ : ∃ q, q = (w3.alloc (.cells #[.bool false, .bool true, .string p] 36)) := ⟨_, rfl⟩
                rw [← hw4] at hr4 hb4 ⊢
                have HB4 := hid (HB3.out.trans (hb4.mono HB3.out.size))
                have q0 := hr4.cell (i := 0) rfl
                have q1 := hr4.cell (i := 1) rfl
                have q2 := hr4.cell (i := 2) rfl
                clear hr2 s0 s1 s2 t0 t1 t2 hr4 hb4 hw4
                go_wp2_with fail
                go_ret2
                exact SSegs.none HNO.out (HB2.out.trans (HB4.out.mono HB2.out.size))
          · cases aft
            · by_cases hq0 : q.size = 0
              · have hqe : q = ⟨#[]⟩ := empty_of hq0
                have hqs := hq0
                have HNO := hid (NO (fun h => by have := h.1; omega))
                clear YES NO hk hrd ho hfr hb
                subst hqe
                go_wp2_with fail
                refine (CY _).out.mono ?_
                rintro e w3 ⟨rfl, hb⟩
                have HB3 := hid (HB.out.trans (hb.mono HB.out.size))
                clear hb
                have hr2 := Row.new w3 [.bool false, .bool false, .string ⟨#[]⟩] 36
                have s0 := hr2.cell (i := 0) rfl
                have t0 := hr2.frozen 0
                have s1 := hr2.cell (i := 1) rfl
                have t1 := hr2.frozen 1
                have s2 := hr2.cell (i := 2) rfl
                have t2 := hr2.frozen 2
                go_upto_region 10 with fail
                have hr4 : Row (w3.alloc (.cells #[.bool true, .bool false, .string p] 36)) w3.heap.size 36 [.bool true, .bool false, .string p] := Row.new w3 _ _
                have hb4 : Below w3.heap.size w3 (w3.alloc (.cells #[.bool true, .bool false, .string p] 36)) := (Below.refl _ _).alloc (Nat.le_refl _) _
                obtain ⟨w4, hw4⟩ : ∃ q, q = (w3.alloc (.cells #[.bool true, .bool false, .string p] 36)) := ⟨_, rfl⟩
                rw [← hw4] at hr4 hb4 ⊢
                have HB4 := hid (HB3.out.trans (hb4.mono HB3.out.size))
                have q0 := hr4.cell (i := 0) rfl
                have q1 := hr4.cell (i := 1) rfl
                have q2 := hr4.cell (i := 2) rfl
                clear hr2 s0 s1 s2 t0 t1 t2 hr4 hb4 hw4
                go_wp2_with fail
                go_ret2
                exact SSegs.none HNO.out (HB2.out.trans (HB4.out.mono HB2.out.size))
              · have hqn := nel (d := q) (by omega)
                have hqi : q.toList.isEmpty = false := by simpa using hqn
                have HNO := hid (NO (fun h => by have := h.1; omega))
                clear YES NO hk hrd ho hfr hb
                go_wp2_with fail
                refine (CY _).out.mono ?_
                rintro e w3 ⟨rfl, hb⟩
                have HB3 := hid (HB.out.trans (hb.mono HB.out.size))
                clear hb
                have hr2 := Row.new w3 [.bool false, .bool false, .string ⟨#[]⟩] 36
                have s0 := hr2.cell (i := 0) rfl
                have t0 := hr2.frozen 0
                have s1 := hr2.cell (i := 1) rfl
                have t1 := hr2.frozen 1
                have s2 := hr2.cell (i := 2) rfl
                have t2 := hr2.frozen 2
                go_upto_region 10 with fail
                have hr4 : Row (w3.alloc (.cells #[.bool true, .bool false, .string p] 36)) w3.heap.size 36 [.bool true, .bool false, .string p] := Row.new w3 _ _
                have hb4 : Below w3.heap.size w3 (w3.alloc (.cells #[.bool true, .bool false, .string p] 36)) := (Below.refl _ _).alloc (Nat.le_refl _) _
                obtain ⟨w4, hw4⟩ : ∃ q, q = (w3.alloc (.cells #[.bool true, .bool false, .string p] 36)) := ⟨_, rfl⟩
                rw [← hw4] at hr4 hb4 ⊢
                have HB4 := hid (HB3.out.trans (hb4.mono HB3.out.size))
                have q0 := hr4.cell (i := 0) rfl
                have q1 := hr4.cell (i := 1) rfl
                have q2 := hr4.cell (i := 2) rfl
                clear hr2 s0 s1 s2 t0 t1 t2 hr4 hb4 hw4
                go_wp2_with fail
                go_ret2
                exact SSegs.none HNO.out (HB2.out.trans (HB4.out.mono HB2.out.size))
            · by_cases hq0 : q.size = 0
              · have hqe : q = ⟨#[]⟩ := empty_of hq0
                have hqs := hq0
                have HNO := hid (NO (fun h => by have := h.1; omega))
                clear YES NO hk hrd ho hfr hb
                subst hqe
                go_wp2_with fail
                refine (CY _).out.mono ?_
                rintro e w3 ⟨rfl, hb⟩
                have HB3 := hid (HB.out.trans (hb.mono HB.out.size))
                clear hb
                have hr2 := Row.new w3 [.bool false, .bool false, .string ⟨#[]⟩] 36
                have s0 := hr2.cell (i := 0) rfl
                have t0 := hr2.frozen 0
                have s1 := hr2.cell (i := 1) rfl
                have t1 := hr2.frozen 1
                have s2 := hr2.cell (i := 2) rfl
                have t2 := hr2.frozen 2
                go_upto_region 10 with fail
                have hr4 : Row (w3.alloc (.cells #[.bool true, .bool true, .string p] 36)) w3.heap.size 36 [.bool true, .bool true, .string p] := Row.new w3 _ _
                have hb4 : Below w3.heap.size w3 (w3.alloc (.cells #[.bool true, .bool true, .string p] 36)) := (Below.refl _ _).alloc (Nat.le_refl _) _
                obtain ⟨w4, hw4⟩ : ∃ q, q = (w3.alloc (.cells #[.bool true, .bool true, .string p] 36)) := ⟨_, rfl⟩
                rw [← hw4] at hr4 hb4 ⊢
                have HB4 := hid (HB3.out.trans (hb4.mono HB3.out.size))
                have q0 := hr4.cell (i := 0) rfl
                have q1 := hr4.cell (i := 1) rfl
                have q2 := hr4.cell (i := 2) rfl
                clear hr2 s0 s1 s2 t0 t1 t2 hr4 hb4 hw4
                go_wp2_with fail
                go_ret2
                exact SSegs.none HNO.out (HB2.out.trans (HB4.out.mono HB2.out.size))
              · have hqn := nel (d := q) (by omega)
                have hqi : q.toList.isEmpty = false := by simpa using hqn
                have HNO := hid (NO (fun h => by have := h.1; omega))
                clear YES NO hk hrd ho hfr hb
                go_wp2_with fail
                refine (CY _).out.mono ?_
                rintro e w3 ⟨rfl, hb⟩
                have HB3 := hid (HB.out.trans (hb.mono HB.out.size))
                clear hb
                have hr2 := Row.new w3 [.bool false, .bool false, .string ⟨#[]⟩] 36
                have s0 := hr2.cell (i := 0) rfl
                have t0 := hr2.frozen 0
                have s1 := hr2.cell (i := 1) rfl
                have t1 := hr2.frozen 1
                have s2 := hr2.cell (i := 2) rfl
                have t2 := hr2.frozen 2
                go_upto_region 10 with fail
                have hr4 : Row (w3.alloc (.cells #[.bool true, .bool true, .string p] 36)) w3.heap.size 36 [.bool true, .bool true, .string p] := Row.new w3 _ _
                have hb4 : Below w3.heap.size w3 (w3.alloc (.cells #[.bool true, .bool true, .string p] 36)) := (Below.refl _ _).alloc (Nat.le_refl _) _
                obtain ⟨w4, hw4⟩ : ∃ q, q = (w3.alloc (.cells #[.bool true, .bool true, .string p] 36)) := ⟨_, rfl⟩
                rw [← hw4] at hr4 hb4 ⊢
                have HB4 := hid (HB3.out.trans (hb4.mono HB3.out.size))
                have q0 := hr4.cell (i := 0) rfl
                have q1 := hr4.cell (i := 1) rfl
                have q2 := hr4.cell (i := 2) rfl
                clear hr2 s0 s1 s2 t0 t1 t2 hr4 hb4 hw4
                go_wp2_with fail
                go_ret2
                exact SSegs.none HNO.out (HB2.out.trans (HB4.out.mono HB2.out.size))
        · have hlo : decide (x < p.size) = false := by simp only [decide_eq_false_iff_not]; omega
          cases bef
          · cases aft
            · by_cases hq0 : q.size = 0
              · have hqe : q = ⟨#[]⟩ := empty_of hq0
                have hqs := hq0
                have HRS := hid (YES ⟨by omega, by simp, by simp⟩)
                clear YES NO hk hrd ho hfr hb
                subst hqe
                go_wp2_with fail
                refine (CY _).out.mono ?_
                rintro e w3 ⟨rfl, hb⟩
                have HB3 := hid (HB.out.trans (hb.mono HB.out.size))
                have HO3 := hid (HO.out.below hb (Nat.le_refl _))
                clear hb
                have hr2 := Row.new w3 [.bool false, .bool false, .string ⟨#[]⟩] 36
                have s0 := hr2.cell (i := 0) rfl
                have t0 := hr2.frozen 0
                have s1 := hr2.cell (i := 1) rfl
                have t1 := hr2.frozen 1
                have s2 := hr2.cell (i := 2) rfl
                have t2 := hr2.frozen 2
                go_upto_region 10 with fail
                have hr4 : Row (w3.alloc (.cells #[.bool false, .bool false, .string p] 36)) w3.heap.size 36 [.bool false, .bool false, .string p] := Row.new w3 _ _
                have hb4 : Below w3.heap.size w3 (w3.alloc (.cells #[.bool false, .bool false, .string p] 36)) := (Below.refl _ _).alloc (Nat.le_refl _) _
                obtain ⟨w4, hw4⟩ : ∃ q, q = (w3.alloc (.cells #[.bool false, .bool false, .string p] 36)) := ⟨_, rfl⟩
                rw [← hw4] at hr4 hb4 ⊢
                have HB4 := hid (HB3.out.trans (hb4.mono HB3.out.size))
                have HO4 := hid (HO3.out.below hb4 (Nat.le_refl _))
                have q0 := hr4.cell (i := 0) rfl
                have q1 := hr4.cell (i := 1) rfl
                have q2 := hr4.cell (i := 2) rfl
                clear hr2 s0 s1 s2 t0 t1 t2 hr4 hb4 hw4
                have HN : Hid (l.length = l.length) := hid rfl
                go_wp2_with (at_builtin; refine wpList_append_slice rfl (.tmp 92) (.tmp 94) 23 rfl 36 (.agg #[.bool false, .bool false, .string ⟨#[]⟩]) 3 24 Try.underlying23 (by kernel_rfl) (by kernel_rfl) _ l.length (segCells l) rfl (SliceIs.alloc HO4.out _) ⟨w4.heap.size, 0, none⟩ 1 1 [.bool false, .bool false, .string p] rfl rfl (news3 _ _ _ _ _ _ rfl) (by simp [Value.oneCell']) (by omega) (by omega) (by omega) ?_; intro g8 cap8 w8 hs8 hu8 hh8)
                go_roundw
                case rel => exact ⟨l ++ [⟨false, false, p⟩], _, ⟨#[]⟩, rfl, rfl, by have := HQ.out; simp; omega, HRS.out, OwnSegs.more rfl rfl hs8.out, fun k hk => (hh8.out k hk).elim (HF.out k) (fun h => by have := HB4.out.size; simp at h; omega), (HB4.out.alloc HB4.out.size _).trans (hu8.out.below (by have := HB4.out.size; simp; omega) (fun k hk => HF.out k hk))⟩
                case measure => exact HQ2.out
              · have hqn := nel (d := q) (by omega)
                have hqi : q.toList.isEmpty = false := by simpa using hqn
                have HRS := hid (YES ⟨by omega, by simp, by simp⟩)
                clear YES NO hk hrd ho hfr hb
                go_wp2_with fail
                refine (CY _).out.mono ?_
                rintro e w3 ⟨rfl, hb⟩
                have HB3 := hid (HB.out.trans (hb.mono HB.out.size))
                have HO3 := hid (HO.out.below hb (Nat.le_refl _))
                clear hb
                have hr2 := Row.new w3 [.bool false, .bool false, .string ⟨#[]⟩] 36
                have s0 := hr2.cell (i := 0) rfl
                have t0 := hr2.frozen 0
                have s1 := hr2.cell (i := 1) rfl
                have t1 := hr2.frozen 1
                have s2 := hr2.cell (i := 2) rfl
                have t2 := hr2.frozen 2
                go_upto_region 10 with fail
                have hr4 : Row (w3.alloc (.cells #[.bool false, .bool false, .string p] 36)) w3.heap.size 36 [.bool false, .bool false, .string p] := Row.new w3 _ _
                have hb4 : Below w3.heap.size w3 (w3.alloc (.cells #[.bool false, .bool false, .string p] 36)) := (Below.refl _ _).alloc (Nat.le_refl _) _
                obtain ⟨w4, hw4⟩ : ∃ q, q = (w3.alloc (.cells #[.bool false, .bool false, .string p] 36)) := ⟨_, rfl⟩
                rw [← hw4] at hr4 hb4 ⊢
                have HB4 := hid (HB3.out.trans (hb4.mono HB3.out.size))
                have HO4 := hid (HO3.out.below hb4 (Nat.le_refl _))
                have q0 := hr4.cell (i := 0) rfl
                have q1 := hr4.cell (i := 1) rfl
                have q2 := hr4.cell (i := 2) rfl
                clear hr2 s0 s1 s2 t0 t1 t2 hr4 hb4 hw4
                have HN : Hid (l.length = l.length) := hid rfl
                go_wp2_with (at_builtin; refine wpList_append_slice rfl (.tmp 92) (.tmp 94) 23 rfl 36 (.agg #[.bool false, .bool false, .string ⟨#[]⟩]) 3 24 Try.underlying23 (by kernel_rfl) (by kernel_rfl) _ l.length (segCells l) rfl (SliceIs.alloc HO4.out _) ⟨w4.heap.size, 0, none⟩ 1 1 [.bool false, .bool false, .string p] rfl rfl (news3 _ _ _ _ _ _ rfl) (by simp [Value.oneCell']) (by omega) (by omega) (by omega) ?_; intro g8 cap8 w8 hs8 hu8 hh8)
                go_roundw
                case rel => exact ⟨l ++ [⟨false, false, p⟩], _, q, rfl, rfl, by have := HQ.out; simp; omega, HRS.out, OwnSegs.more rfl rfl hs8.out, fun k hk => (hh8.out k hk).elim (HF.out k) (fun h => by have := HB4.out.size; simp at h; omega), (HB4.out.alloc HB4.out.size _).trans (hu8.out.below (by have := HB4.out.size; simp; omega) (fun k hk => HF.out k hk))⟩
                case measure => exact HQ2.out
            · by_cases hq0 : q.size = 0
              · by_cases hfull : full = true
                · have hqe : q = ⟨#[]⟩ := empty_of hq0
                  have hqs := hq0
                  have HRS := hid (YES ⟨by omega, by simp, by intro _; exact ⟨hq0, hfull⟩⟩)
                  clear YES NO hk hrd ho hfr hb
                  have hnb := HNB.out
                  rw [hfull] at hnb
                  subst hqe
                  go_wp2_with fail
                  refine (CY _).out.mono ?_
                  rintro e w3 ⟨rfl, hb⟩
                  have HB3 := hid (HB.out.trans (hb.mono HB.out.size))
                  have HO3 := hid (HO.out.below hb (Nat.le_refl _))
                  clear hb
                  have hr2 := Row.new w3 [.bool false, .bool false, .string ⟨#[]⟩] 36
                  have s0 := hr2.cell (i := 0) rfl
                  have t0 := hr2.frozen 0
                  have s1 := hr2.cell (i := 1) rfl
                  have t1 := hr2.frozen 1
                  have s2 := hr2.cell (i := 2) rfl
                  have t2 := hr2.frozen 2
                  go_upto_region 10 with fail
                  have hr4 : Row (w3.alloc (.cells #[.bool false, .bool true, .string p] 36)) w3.heap.size 36 [.bool false, .bool true, .string p] := Row.new w3 _ _
                  have hb4 : Below w3.heap.size w3 (w3.alloc (.cells #[.bool false, .bool true, .string p] 36)) := (Below.refl _ _).alloc (Nat.le_refl _) _
                  obtain ⟨w4, hw4⟩ : ∃ q, q = (w3.alloc (.cells #[.bool false, .bool true, .string p] 36)) := ⟨_, rfl⟩
                  rw [← hw4] at hr4 hb4 ⊢
                  have HB4 := hid (HB3.out.trans (hb4.mono HB3.out.size))
                  have HO4 := hid (HO3.out.below hb4 (Nat.le_refl _))
                  have q0 := hr4.cell (i := 0) rfl
                  have q1 := hr4.cell (i := 1) rfl
                  have q2 := hr4.cell (i := 2) rfl
                  clear hr2 s0 s1 s2 t0 t1 t2 hr4 hb4 hw4
                  have HN : Hid (l.length = l.length) := hid rfl
                  go_wp2_with (at_builtin; refine wpList_append_slice rfl (.tmp 92) (.tmp 94) 23 rfl 36 (.agg #[.bool false, .bool false, .string ⟨#[]⟩]) 3 24 Try.underlying23 (by kernel_rfl) (by kernel_rfl) _ l.length (segCells l) rfl (SliceIs.alloc HO4.out _) ⟨w4.heap.size, 0, none⟩ 1 1 [.bool false, .bool true, .string p] rfl rfl (news3 _ _ _ _ _ _ rfl) (by simp [Value.oneCell']) (by omega) (by omega) (by omega) ?_; intro g8 cap8 w8 hs8 hu8 hh8)
                  go_roundw
                  case rel => exact ⟨l ++ [⟨false, true, p⟩], _, ⟨#[]⟩, rfl, rfl, by have := HQ.out; simp; omega, HRS.out, OwnSegs.more rfl rfl hs8.out, fun k hk => (hh8.out k hk).elim (HF.out k) (fun h => by have := HB4.out.size; simp at h; omega), (HB4.out.alloc HB4.out.size _).trans (hu8.out.below (by have := HB4.out.size; simp; omega) (fun k hk => HF.out k hk))⟩
                  case measure => exact HQ2.out
                · have hqe : q = ⟨#[]⟩ := empty_of hq0
                  have hqs := hq0
                  have HNO := hid (NO (fun h => by exact hfull (h.2.2 rfl).2))
                  clear YES NO hk hrd ho hfr hb
                  have hnb := HNB.out
                  rw [(by simpa using hfull : full = false)] at hnb
                  subst hqe
                  go_wp2_with fail
                  refine (CY _).out.mono ?_
                  rintro e w3 ⟨rfl, hb⟩
                  have HB3 := hid (HB.out.trans (hb.mono HB.out.size))
                  clear hb
                  have hr2 := Row.new w3 [.bool false, .bool false, .string ⟨#[]⟩] 36
                  have s0 := hr2.cell (i := 0) rfl
                  have t0 := hr2.frozen 0
                  have s1 := hr2.cell (i := 1) rfl
                  have t1 := hr2.frozen 1
                  have s2 := hr2.cell (i := 2) rfl
                  have t2 := hr2.frozen 2
                  go_upto_region 10 with fail
                  have hr4 : Row (w3.alloc (.cells #[.bool false, .bool true, .string p] 36)) w3.heap.size 36 [.bool false, .bool true, .string p] := Row.new w3 _ _
                  have hb4 : Below w3.heap.size w3 (w3.alloc (.cells #[.bool false, .bool true, .string p] 36)) := (Below.refl _ _).alloc (Nat.le_refl _) _
                  obtain ⟨w4, hw4⟩ : ∃ q, q = (w3.alloc (.cells #[.bool false, .bool true, .string p] 36)) := ⟨_, rfl⟩
                  rw [← hw4] at hr4 hb4 ⊢
                  have HB4 := hid (HB3.out.trans (hb4.mono HB3.out.size))
                  have q0 := hr4.cell (i := 0) rfl
                  have q1 := hr4.cell (i := 1) rfl
                  have q2 := hr4.cell (i := 2) rfl
                  clear hr2 s0 s1 s2 t0 t1 t2 hr4 hb4 hw4
                  go_wp2_with fail
                  go_ret2
                  exact SSegs.none HNO.out (HB2.out.trans (HB4.out.mono HB2.out.size))
              · have hqn := nel (d := q) (by omega)
                have hqi : q.toList.isEmpty = false := by simpa using hqn
                have HNO := hid (NO (fun h => by exact hq0 (h.2.2 rfl).1))
                clear YES NO hk hrd ho hfr hb
                go_wp2_with fail
                refine (CY _).out.mono ?_
                rintro e w3 ⟨rfl, hb⟩
                have HB3 := hid (HB.out.trans (hb.mono HB.out.size))
                clear hb
                have hr2 := Row.new w3 [.bool false, .bool false, .string ⟨#[]⟩] 36
                have s0 := hr2.cell (i := 0) rfl
                have t0 := hr2.frozen 0
                have s1 := hr2.cell (i := 1) rfl
                have t1 := hr2.frozen 1
                have s2 := hr2.cell (i := 2) rfl
                have t2 := hr2.frozen 2
                go_upto_region 10 with fail
                have hr4 : Row (w3.alloc (.cells #[.bool false, .bool true, .string p] 36)) w3.heap.size 36 [.bool false, .bool true, .string p] := Row.new w3 _ _
                have hb4 : Below w3.heap.size w3 (w3.alloc (.cells #[.bool false, .bool true, .string p] 36)) := (Below.refl _ _).alloc (Nat.le_refl _) _
                obtain ⟨w4, hw4⟩ : ∃ q, q = (w3.alloc (.cells #[.bool false, .bool true, .string p] 36)) := ⟨_, rfl⟩
                rw [← hw4] at hr4 hb4 ⊢
                have HB4 := hid (HB3.out.trans (hb4.mono HB3.out.size))
                have q0 := hr4.cell (i := 0) rfl
                have q1 := hr4.cell (i := 1) rfl
                have q2 := hr4.cell (i := 2) rfl
                clear hr2 s0 s1 s2 t0 t1 t2 hr4 hb4 hw4
                go_wp2_with fail
                go_ret2
                exact SSegs.none HNO.out (HB2.out.trans (HB4.out.mono HB2.out.size))
          · by_cases hl0 : l.isEmpty = true
            · cases aft
              · by_cases hq0 : q.size = 0
                · have hqe : q = ⟨#[]⟩ := empty_of hq0
                  have hqs := hq0
                  have HRS := hid (YES ⟨by omega, by intro _; exact hl0, by simp⟩)
                  clear YES NO hk hrd ho hfr hb
                  have hlz : ((l.length : Int) == 0) = true := by simp [List.isEmpty_iff.1 hl0]
                  subst hqe
                  go_wp2_with fail
                  refine (CY _).out.mono ?_
                  rintro e w3 ⟨rfl, hb⟩
                  have HB3 := hid (HB.out.trans (hb.mono HB.out.size))
                  have HO3 := hid (HO.out.below hb (Nat.le_refl _))
                  clear hb
                  have hr2 := Row.new w3 [.bool false, .bool false, .string ⟨#[]⟩] 36
                  have s0 := hr2.cell (i := 0) rfl
                  have t0 := hr2.frozen 0
                  have s1 := hr2.cell (i := 1) rfl
                  have t1 := hr2.frozen 1
                  have s2 := hr2.cell (i := 2) rfl
                  have t2 := hr2.frozen 2
                  go_upto_region 10 with fail
                  have hr4 : Row (w3.alloc (.cells #[.bool true, .bool false, .string p] 36)) w3.heap.size 36 [.bool true, .bool false, .string p] := Row.new w3 _ _
                  have hb4 : Below w3.heap.size w3 (w3.alloc (.cells #[.bool true, .bool false, .string p] 36)) := (Below.refl _ _).alloc (Nat.le_refl _) _
                  obtain ⟨w4, hw4⟩ : ∃ q, q = (w3.alloc (.cells #[.bool true, .bool false, .string p] 36)) := ⟨_, rfl⟩
                  rw [← hw4] at hr4 hb4 ⊢
                  have HB4 := hid (HB3.out.trans (hb4.mono HB3.out.size))
                  have HO4 := hid (HO3.out.below hb4 (Nat.le_refl _))
                  have q0 := hr4.cell (i := 0) rfl
                  have q1 := hr4.cell (i := 1) rfl
                  have q2 := hr4.cell (i := 2) rfl
                  clear hr2 s0 s1 s2 t0 t1 t2 hr4 hb4 hw4
                  have HN : Hid (l.length = l.length) := hid rfl
                  go_wp2_with (at_builtin; refine wpList_append_slice rfl (.tmp 92) (.tmp 94) 23 rfl 36 (.agg #[.bool false, .bool false, .string ⟨#[]⟩]) 3 24 Try.underlying23 (by kernel_rfl) (by kernel_rfl) _ l.length (segCells l) rfl (SliceIs.alloc HO4.out _) ⟨w4.heap.size, 0, none⟩ 1 1 [.bool true, .bool false, .string p] rfl rfl (news3 _ _ _ _ _ _ rfl) (by simp [Value.oneCell']) (by omega) (by omega) (by omega) ?_; intro g8 cap8 w8 hs8 hu8 hh8)
                  go_roundw
                  case rel => exact ⟨l ++ [⟨true, false, p⟩], _, ⟨#[]⟩, rfl, rfl, by have := HQ.out; simp; omega, HRS.out, OwnSegs.more rfl rfl hs8.out, fun k hk => (hh8.out k hk).elim (HF.out k) (fun h => by have := HB4.out.size; simp at h; omega), (HB4.out.alloc HB4.out.size _).trans (hu8.out.below (by have := HB4.out.size; simp; omega) (fun k hk => HF.out k hk))⟩
                  case measure => exact HQ2.out
                · have hqn := nel (d := q) (by omega)
                  have hqi : q.toList.isEmpty = false := by simpa using hqn
                  have HRS := hid (YES ⟨by omega, by intro _; exact hl0, by simp⟩)
                  clear YES NO hk hrd ho hfr hb
                  have hlz : ((l.length : Int) == 0) = true := by simp [List.isEmpty_iff.1 hl0]
                  go_wp2_with fail
                  refine (CY _).out.mono ?_
                  rintro e w3 ⟨rfl, hb⟩
                  have HB3 := hid (HB.out.trans (hb.mono HB.out.size))
                  have HO3 := hid (HO.out.below hb (Nat.le_refl _))
                  clear hb
                  have hr2 := Row.new w3 [.bool false, .bool false, .string ⟨#[]⟩] 36
                  have s0 := hr2.cell (i := 0) rfl
                  have t0 := hr2.frozen 0
                  have s1 := hr2.cell (i := 1) rfl
                  have t1 := hr2.frozen 1
                  have s2 := hr2.cell (i := 2) rfl
                  have t2 := hr2.frozen 2
                  go_upto_region 10 with fail
                  have hr4 : Row (w3.alloc (.cells #[.bool true, .bool false, .string p] 36)) w3.heap.size 36 [.bool true, .bool false, .string p] := Row.new w3 _ _
                  have hb4 : Below w3.heap.size w3 (w3.alloc (.cells #[.bool true, .bool false, .string p] 36)) := (Below.refl _ _).alloc (Nat.le_refl _) _
                  obtain ⟨w4, hw4⟩ : ∃ q, q = (w3.alloc (.cells #[.bool true, .bool false, .string p] 36)) := ⟨_, rfl⟩
                  rw [← hw4] at hr4 hb4 ⊢
                  have HB4 := hid (HB3.out.trans (hb4.mono HB3.out.size))
                  have HO4 := hid (HO3.out.below hb4 (Nat.le_refl _))
                  have q0 := hr4.cell (i := 0) rfl
                  have q1 := hr4.cell (i := 1) rfl
                  have q2 := hr4.cell (i := 2) rfl
                  clear hr2 s0 s1 s2 t0 t1 t2 hr4 hb4 hw4
                  have HN : Hid (l.length = l.length) := hid rfl
                  go_wp2_with (at_builtin; refine wpList_append_slice rfl (.tmp 92) (.tmp 94) 23 rfl 36 (.agg #[.bool false, .bool false, .string ⟨#[]⟩]) 3 24 Try.underlying23 (by kernel_rfl) (by kernel_rfl) _ l.length (segCells l) rfl (SliceIs.alloc HO4.out _) ⟨w4.heap.size, 0, none⟩ 1 1 [.bool true, .bool false, .string p] rfl rfl (news3 _ _ _ _ _ _ rfl) (by simp [Value.oneCell']) (by omega) (by omega) (by omega) ?_; intro g8 cap8 w8 hs8 hu8 hh8)
                  go_roundw
                  case rel => exact ⟨l ++ [⟨true, false, p⟩], _, q, rfl, rfl, by have := HQ.out; simp; omega, HRS.out, OwnSegs.more rfl rfl hs8.out, fun k hk => (hh8.out k hk).elim (HF.out k) (fun h => by have := HB4.out.size; simp at h; omega), (HB4.out.alloc HB4.out.size _).trans (hu8.out.below (by have := HB4.out.size; simp; omega) (fun k hk => HF.out k hk))⟩
                  case measure => exact HQ2.out
              · by_cases hq0 : q.size = 0
                · by_cases hfull : full = true
                  · have hqe : q = ⟨#[]⟩ := empty_of hq0
                    have hqs := hq0
                    have HRS := hid (YES ⟨by omega, by intro _; exact hl0, by intro _; exact ⟨hq0, hfull⟩⟩)
                    clear YES NO hk hrd ho hfr hb
                    have hlz : ((l.length : Int) == 0) = true := by simp [List.isEmpty_iff.1 hl0]
                    have hnb := HNB.out
                    rw [hfull] at hnb
                    subst hqe
                    go_wp2_with fail
                    refine (CY _).out.mono ?_
                    rintro e w3 ⟨rfl, hb⟩
                    have HB3 := hid (HB.out.trans (hb.mono HB.out.size))
                    have HO3 := hid (HO.out.below hb (Nat.le_refl _))
                    clear hb
                    have hr2 := Row.new w3 [.bool false, .bool false, .string ⟨#[]⟩] 36
                    have s0 := hr2.cell (i := 0) rfl
                    have t0 := hr2.frozen 0
                    have s1 := hr2.cell (i := 1) rfl
                    have t1 := hr2.frozen 1
                    have s2 := hr2.cell (i := 2) rfl
                    have t2 := hr2.frozen 2
                    go_upto_region 10 with fail
                    have hr4 : Row (w3.alloc (.cells #[.bool true, .bool true, .string p] 36)) w3.heap.size 36 [.bool true, .bool true, .string p] := Row.new w3 _ _
                    have hb4 : Below w3.heap.size w3 (w3.alloc (.cells #[.bool true, .bool true, .string p] 36)) := (Below.refl _ _).alloc (Nat.le_refl _) _
                    obtain ⟨w4, hw4⟩ : ∃ q, q = (w3.alloc (.cells #[.bool true, .bool true, .string p] 36)) := ⟨_, rfl⟩
                    rw [← hw4] at hr4 hb4 ⊢
                    have HB4 := hid (HB3.out.trans (hb4.mono HB3.out.size))
                    have HO4 := hid (HO3.out.below hb4 (Nat.le_refl _))
                    have q0 := hr4.cell (i := 0) rfl
                    have q1 := hr4.cell (i := 1) rfl
                    have q2 := hr4.cell (i := 2) rfl
                    clear hr2 s0 s1 s2 t0 t1 t2 hr4 hb4 hw4
                    have HN : Hid (l.length = l.length) := hid rfl
                    go_wp2_with (at_builtin; refine wpList_append_slice rfl (.tmp 92) (.tmp 94) 23 rfl 36 (.agg #[.bool false, .bool false, .string ⟨#[]⟩]) 3 24 Try.underlying23 (by kernel_rfl) (by kernel_rfl) _ l.length (segCells l) rfl (SliceIs.alloc HO4.out _) ⟨w4.heap.size, 0, none⟩ 1 1 [.bool true, .bool true, .string p] rfl rfl (news3 _ _ _ _ _ _ rfl) (by simp [Value.oneCell']) (by omega) (by omega) (by omega) ?_; intro g8 cap8 w8 hs8 hu8 hh8)
                    go_roundw
                    case rel => exact ⟨l ++ [⟨true, true, p⟩], _, ⟨#[]⟩, rfl, rfl, by have := HQ.out; simp; omega, HRS.out, OwnSegs.more rfl rfl hs8.out, fun k hk => (hh8.out k hk).elim (HF.out k) (fun h => by have := HB4.out.size; simp at h; omega), (HB4.out.alloc HB4.out.size _).trans (hu8.out.below (by have := HB4.out.size; simp; omega) (fun k hk => HF.out k hk))⟩
                    case measure => exact HQ2.out
                  · have hqe : q = ⟨#[]⟩ := empty_of hq0
                    have hqs := hq0
                    have HNO := hid (NO (fun h => by exact hfull (h.2.2 rfl).2))
                    clear YES NO hk hrd ho hfr hb
                    have hlz : ((l.length : Int) == 0) = true := by simp [List.isEmpty_iff.1 hl0]
                    have hnb := HNB.out
                    rw [(by simpa using hfull : full = false)] at hnb
                    subst hqe
                    go_wp2_with fail
                    refine (CY _).out.mono ?_
                    rintro e w3 ⟨rfl, hb⟩
                    have HB3 := hid (HB.out.trans (hb.mono HB.out.size))
                    clear hb
                    have hr2 := Row.new w3 [.bool false, .bool false, .string ⟨#[]⟩] 36
                    have s0 := hr2.cell (i := 0) rfl
                    have t0 := hr2.frozen 0
                    have s1 := hr2.cell (i := 1) rfl
                    have t1 := hr2.frozen 1
                    have s2 := hr2.cell (i := 2) rfl
                    have t2 := hr2.frozen 2
                    go_upto_region 10 with fail
                    have hr4 : Row (w3.alloc (.cells #[.bool true, .bool true, .string p] 36)) w3.heap.size 36 [.bool true, .bool true, .string p] := Row.new w3 _ _
                    have hb4 : Below w3.heap.size w3 (w3.alloc (.cells #[.bool true, .bool true, .string p] 36)) := (Below.refl _ _).alloc (Nat.le_refl _) _
                    obtain ⟨w4, hw4⟩ : ∃ q, q = (w3.alloc (.cells #[.bool true, .bool true, .string p] 36)) := ⟨_, rfl⟩
                    rw [← hw4] at hr4 hb4 ⊢
                    have HB4 := hid (HB3.out.trans (hb4.mono HB3.out.size))
                    have q0 := hr4.cell (i := 0) rfl
                    have q1 := hr4.cell (i := 1) rfl
                    have q2 := hr4.cell (i := 2) rfl
                    clear hr2 s0 s1 s2 t0 t1 t2 hr4 hb4 hw4
                    go_wp2_with fail
                    go_ret2
                    exact SSegs.none HNO.out (HB2.out.trans (HB4.out.mono HB2.out.size))
                · have hqn := nel (d := q) (by omega)
                  have hqi : q.toList.isEmpty = false := by simpa using hqn
                  have HNO := hid (NO (fun h => by exact hq0 (h.2.2 rfl).1))
                  clear YES NO hk hrd ho hfr hb
                  have hlz : ((l.length : Int) == 0) = true := by simp [List.isEmpty_iff.1 hl0]
                  go_wp2_with fail
                  refine (CY _).out.mono ?_
                  rintro e w3 ⟨rfl, hb⟩
                  have HB3 := hid (HB.out.trans (hb.mono HB.out.size))
                  clear hb
                  have hr2 := Row.new w3 [.bool false, .bool false, .string ⟨#[]⟩] 36
                  have s0 := hr2.cell (i := 0) rfl
                  have t0 := hr2.frozen 0
                  have s1 := hr2.cell (i := 1) rfl
                  have t1 := hr2.frozen 1
                  have s2 := hr2.cell (i := 2) rfl
                  have t2 := hr2.frozen 2
                  go_upto_region 10 with fail
                  have hr4 : Row (w3.alloc (.cells #[.bool true, .bool true, .string p] 36)) w3.heap.size 36 [.bool true, .bool true, .string p] := Row.new w3 _ _
                  have hb4 : Below w3.heap.size w3 (w3.alloc (.cells #[.bool true, .bool true, .string p] 36)) := (Below.refl _ _).alloc (Nat.le_refl _) _
                  obtain ⟨w4, hw4⟩ : ∃ q, q = (w3.alloc (.cells #[.bool true, .bool true, .string p] 36)) := ⟨_, rfl⟩
                  rw [← hw4] at hr4 hb4 ⊢
                  have HB4 := hid (HB3.out.trans (hb4.mono HB3.out.size))
                  have q0 := hr4.cell (i := 0) rfl
                  have q1 := hr4.cell (i := 1) rfl
                  have q2 := hr4.cell (i := 2) rfl
                  clear hr2 s0 s1 s2 t0 t1 t2 hr4 hb4 hw4
                  go_wp2_with fail
                  go_ret2
                  exact SSegs.none HNO.out (HB2.out.trans (HB4.out.mono HB2.out.size))
            · cases aft
              · by_cases hq0 : q.size = 0
                · have hqe : q = ⟨#[]⟩ := empty_of hq0
                  have hqs := hq0
                  have HNO := hid (NO (fun h => by exact hl0 (h.2.1 rfl)))
                  clear YES NO hk hrd ho hfr hb
                  have hlz : ((l.length : Int) == 0) = false := by rw [beq_eq_false_iff_ne]; intro e; exact hl0 (List.isEmpty_iff.2 (List.eq_nil_of_length_eq_zero (by omega)))
                  subst hqe
                  go_wp2_with fail
                  refine (CY _).out.mono ?_
                  rintro e w3 ⟨rfl, hb⟩
                  have HB3 := hid (HB.out.trans (hb.mono HB.out.size))
                  clear hb
                  have hr2 := Row.new w3 [.bool false, .bool false, .string ⟨#[]⟩] 36
                  have s0 := hr2.cell (i := 0) rfl
                  have t0 := hr2.frozen 0
                  have s1 := hr2.cell (i := 1) rfl
                  have t1 := hr2.frozen 1
                  have s2 := hr2.cell (i := 2) rfl
                  have t2 := hr2.frozen 2
                  go_upto_region 10 with fail
                  have hr4 : Row (w3.alloc (.cells #[.bool true, .bool false, .string p] 36)) w3.heap.size 36 [.bool true, .bool false, .string p] := Row.new w3 _ _
                  have hb4 : Below w3.heap.size w3 (w3.alloc (.cells #[.bool true, .bool false, .string p] 36)) := (Below.refl _ _).alloc (Nat.le_refl _) _
                  obtain ⟨w4, hw4⟩ : ∃ q, q = (w3.alloc (.cells #[.bool true, .bool false, .string p] 36)) := ⟨_, rfl⟩
                  rw [← hw4] at hr4 hb4 ⊢
                  have HB4 := hid (HB3.out.trans (hb4.mono HB3.out.size))
                  have q0 := hr4.cell (i := 0) rfl
                  have q1 := hr4.cell (i := 1) rfl
                  have q2 := hr4.cell (i := 2) rfl
                  clear hr2 s0 s1 s2 t0 t1 t2 hr4 hb4 hw4
                  go_wp2_with fail
                  go_ret2
                  exact SSegs.none HNO.out (HB2.out.trans (HB4.out.mono HB2.out.size))
                · have hqn := nel (d := q) (by omega)
                  have hqi : q.toList.isEmpty = false := by simpa using hqn
                  have HNO := hid (NO (fun h => by exact hl0 (h.2.1 rfl)))
                  clear YES NO hk hrd ho hfr hb
                  have hlz : ((l.length : Int) == 0) = false := by rw [beq_eq_false_iff_ne]; intro e; exact hl0 (List.isEmpty_iff.2 (List.eq_nil_of_length_eq_zero (by omega)))
                  go_wp2_with fail
                  refine (CY _).out.mono ?_
                  rintro e w3 ⟨rfl, hb⟩
                  have HB3 := hid (HB.out.trans (hb.mono HB.out.size))
                  clear hb
                  have hr2 := Row.new w3 [.bool false, .bool false, .string ⟨#[]⟩] 36
                  have s0 := hr2.cell (i := 0) rfl
                  have t0 := hr2.frozen 0
                  have s1 := hr2.cell (i := 1) rfl
                  have t1 := hr2.frozen 1
                  have s2 := hr2.cell (i := 2) rfl
                  have t2 := hr2.frozen 2
                  go_upto_region 10 with fail
                  have hr4 : Row (w3.alloc (.cells #[.bool true, .bool false, .string p] 36)) w3.heap.size 36 [.bool true, .bool false, .string p] := Row.new w3 _ _
                  have hb4 : Below w3.heap.size w3 (w3.alloc (.cells #[.bool true, .bool false, .string p] 36)) := (Below.refl _ _).alloc (Nat.le_refl _) _
                  obtain ⟨w4, hw4⟩ : ∃ q, q = (w3.alloc (.cells #[.bool true, .bool false, .string p] 36)) := ⟨_, rfl⟩
                  rw [← hw4] at hr4 hb4 ⊢
                  have HB4 := hid (HB3.out.trans (hb4.mono HB3.out.size))
                  have q0 := hr4.cell (i := 0) rfl
                  have q1 := hr4.cell (i := 1) rfl
                  have q2 := hr4.cell (i := 2) rfl
                  clear hr2 s0 s1 s2 t0 t1 t2 hr4 hb4 hw4
                  go_wp2_with fail
                  go_ret2
                  exact SSegs.none HNO.out (HB2.out.trans (HB4.out.mono HB2.out.size))
              · by_cases hq0 : q.size = 0
                · have hqe : q = ⟨#[]⟩ := empty_of hq0
                  have hqs := hq0
                  have HNO := hid (NO (fun h => by exact hl0 (h.2.1 rfl)))
                  clear YES NO hk hrd ho hfr hb
                  have hlz : ((l.length : Int) == 0) = false := by rw [beq_eq_false_iff_ne]; intro e; exact hl0 (List.isEmpty_iff.2 (List.eq_nil_of_length_eq_zero (by omega)))
                  subst hqe
                  go_wp2_with fail
                  refine (CY _).out.mono ?_
                  rintro e w3 ⟨rfl, hb⟩
                  have HB3 := hid (HB.out.trans (hb.mono HB.out.size))
                  clear hb
                  have hr2 := Row.new w3 [.bool false, .bool false, .string ⟨#[]⟩] 36
                  have s0 := hr2.cell (i := 0) rfl
                  have t0 := hr2.frozen 0
                  have s1 := hr2.cell (i := 1) rfl
                  have t1 := hr2.frozen 1
                  have s2 := hr2.cell (i := 2) rfl
                  have t2 := hr2.frozen 2
                  go_upto_region 10 with fail
                  have hr4 : Row (w3.alloc (.cells #[.bool true, .bool true, .string p] 36)) w3.heap.size 36 [.bool true, .bool true, .string p] := Row.new w3 _ _
                  have hb4 : Below w3.heap.size w3 (w3.alloc (.cells #[.bool true, .bool true, .string p] 36)) := (Below.refl _ _).alloc (Nat.le_refl _) _
                  obtain ⟨w4, hw4⟩ : ∃ q, q = (w3.alloc (.cells #[.bool true, .bool true, .string p] 36)) := ⟨_, rfl⟩
                  rw [← hw4] at hr4 hb4 ⊢
                  have HB4 := hid (HB3.out.trans (hb4.mono HB3.out.size))
                  have q0 := hr4.cell (i := 0) rfl
                  have q1 := hr4.cell (i := 1) rfl
                  have q2 := hr4.cell (i := 2) rfl
                  clear hr2 s0 s1 s2 t0 t1 t2 hr4 hb4 hw4
                  go_wp2_with fail
                  go_ret2
                  exact SSegs.none HNO.out (HB2.out.trans (HB4.out.mono HB2.out.size))
                · have hqn := nel (d := q) (by omega)
                  have hqi : q.toList.isEmpty = false := by simpa using hqn
                  have HNO := hid (NO (fun h => by exact hl0 (h.2.1 rfl)))
                  clear YES NO hk hrd ho hfr hb
                  have hlz : ((l.length : Int) == 0) = false := by rw [beq_eq_false_iff_ne]; intro e; exact hl0 (List.isEmpty_iff.2 (List.eq_nil_of_length_eq_zero (by omega)))
                  go_wp2_with fail
                  refine (CY _).out.mono ?_
                  rintro e w3 ⟨rfl, hb⟩
                  have HB3 := hid (HB.out.trans (hb.mono HB.out.size))
                  clear hb
                  have hr2 := Row.new w3 [.bool false, .bool false, .string ⟨#[]⟩] 36
                  have s0 := hr2.cell (i := 0) rfl
                  have t0 := hr2.frozen 0
                  have s1 := hr2.cell (i := 1) rfl
                  have t1 := hr2.frozen 1
                  have s2 := hr2.cell (i := 2) rfl
                  have t2 := hr2.frozen 2
                  go_upto_region 10 with fail
                  have hr4 : Row (w3.alloc (.cells #[.bool true, .bool true, .string p] 36)) w3.heap.size 36 [.bool true, .bool true, .string p] := Row.new w3 _ _
                  have hb4 : Below w3.heap.size w3 (w3.alloc (.cells #[.bool true, .bool true, .string p] 36)) := (Below.refl _ _).alloc (Nat.le_refl _) _
                  obtain ⟨w4, hw4⟩ : ∃ q, q = (w3.alloc (.cells #[.bool true, .bool true, .string p] 36)) := ⟨_, rfl⟩
                  rw [← hw4] at hr4 hb4 ⊢
                  have HB4 := hid (HB3.out.trans (hb4.mono HB3.out.size))
                  have q0 := hr4.cell (i := 0) rfl
                  have q1 := hr4.cell (i := 1) rfl
                  have q2 := hr4.cell (i := 2) rfl
                  clear hr2 s0 s1 s2 t0 t1 t2 hr4 hb4 hw4
                  go_wp2_with fail
                  go_ret2
                  exact SSegs.none HNO.out (HB2.out.trans (HB4.out.mono HB2.out.size))
      · have hno : res = none := by
          rw [← hrd, rd_no _ _ _ _ (by omega) (fun h => hk h.1)]; rfl
        have HNO := hid hno
        have CN : ∀ W, Hid (Calls Try.prog 27 #[.string y] W (Gives (.tuple #[.agg #[.bool false, .bool false, .string ⟨#[]⟩], .string ⟨#[]⟩, .bool false]) W)) := fun W => hid (scut_no y (by omega) hk W)
        clear hrd ho hfr hb hno hk
        go_wp2_with fail
        refine (CN _).out.mono ?_
        rintro e w3 ⟨rfl, hb⟩
        have HB3 := hid (HB.out.trans (hb.mono HB.out.size))
        clear hb
        have hr2 := Row.new w3 [.bool false, .bool false, .string ⟨#[]⟩] 36
        have s0 := hr2.cell (i := 0) rfl
        have s1 := hr2.cell (i := 1) rfl
        have s2 := hr2.cell (i := 2) rfl
        have t0 := hr2.frozen 0
        have t1 := hr2.frozen 1
        have t2 := hr2.frozen 2
        clear hr2
        go_wp2_with fail
        go_ret2
        exact SSegs.none HNO.out ((HB2.out.trans (HB3.out.mono HB2.out.size)).alloc (HB2.out.trans (HB3.out.mono HB2.out.size)).size _)
    · obtain rfl := empty_of (d := y) (by omega)
      have hsm : res = some l := by rw [← hrd, rd_nil _ _ _ _ rfl]; simp
      have HSM := hid hsm
      clear hrd ho hfr hb hsm
      go_wp2_with fail
      go_ret2
      exact SSegs.some HSM.out HO.out (fun q hq => Nat.le_trans HB2.out.size (HF.out q hq)) (HB2.out.trans (HB.out.mono HB2.out.size))
end Go.Proofs.Ytklbckonlbpbgab
