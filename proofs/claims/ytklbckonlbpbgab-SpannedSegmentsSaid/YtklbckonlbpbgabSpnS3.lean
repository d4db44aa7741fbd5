import Derived.Test.YtklbckonlbpbgabSpnS2
import Derived.Test.YtklbckonlbpbgabVarR3
/-! The reference's Segments. -/
namespace Go.Proofs.Ytklbckonlbpbgab
open Go.Lib Go.ChangeShapes Go.WideShapes Go.ChangeAt Go.RowKit
set_option linter.unusedVariables false
theorem OwnSegs.nilA (t : TypeId) (w : World) (a : Option Addr) : OwnSegs t w (.slice a 0 0) [] := .inl ⟨a, rfl, rfl, rfl⟩
theorem byteAt_ext {d : ByteArray} {a i : Nat} (h : a + i < d.size) : byteAt (d.extract a d.size) i = byteAt d (a + i) := by
  have h1 : i < (d.extract a d.size).size := by rw [ByteArray.size_extract]; omega
  rw [← byteAt_eq h1, ← byteAt_eq h]
  congr 1
  exact ByteArray.getElem_extract ..
set_option maxRecDepth 100000 in
set_option maxHeartbeats 400000 in
theorem refSsegs_bad (L B : Int) (hB : B ≤ 9223372036854775807) (hf : ¬ sfits L B) (d : ByteArray) (w : World) :
    Calls Try.prog 12 #[.int .i64 L, .int .i64 B, .string d] w (Gives (.tuple #[.slice none 0 0, .int .i64 1]) w) := by
  have HV := fun W => hid (refSvalid_any L B hB W)
  rw [decide_eq_false hf] at HV
  clear hf
  go_enter Try.func12, Try.ntmps12
  go_wp2_with fail
  refine (HV _).out.mono ?_
  rintro e w1 ⟨rfl, rfl⟩
  go_wp2_with fail
  go_ret2
  exact ⟨rfl, Below.refl _ _⟩
set_option maxRecDepth 100000 in
set_option maxHeartbeats 4000000 in
theorem refSsegs_head (x b : Nat) (hf : sfits (x : Int) (b : Int)) (d : ByteArray) (hd : d.size ≤ 60000) (hn : ¬ (8 ≤ d.size ∧ d.extract 0 4 = word d.size ∧ d.size ≤ b)) (w : World) :
    Calls Try.prog 12 #[.int .i64 x, .int .i64 b, .string d] w (Gives (.tuple #[.slice none 0 0, .int .i64 11]) w) := by
  have HV := fun W => hid (refSvalid_any x b (by have := hf.2.2.2; omega) W)
  rw [decide_eq_true hf] at HV
  have hL2 : x ≤ 1000 := by have := hf.2.1; omega
  have hb2 : b ≤ 1024 := by have := hf.2.2.2; omega
  have W1 := fun W => hid (refWord_nat d.size (by omega) W)
  by_cases c1 : d.size < 8
  · have hd3 : decide ((d.size : Int) < 8) = true := decide_eq_true (by omega)
    clear hf hn
    go_enter Try.func12, Try.ntmps12
    go_wp2_with fail
    refine (HV _).out.mono ?_
    rintro e w1 ⟨rfl, rfl⟩
    go_upto_region 3 with fail
    go_quiet (fail)
    go_wp2_with fail
    go_ret2
    exact ⟨rfl, below_drewN (Below.refl _ _) _⟩
  · have hd3 : decide ((d.size : Int) < 8) = false := decide_eq_false (by omega)
    by_cases c2 : b < d.size
    · have hd4 : decide (b < d.size) = true := decide_eq_true c2
      clear hf hn c1
      go_enter Try.func12, Try.ntmps12
      go_wp2_with fail
      refine (HV _).out.mono ?_
      rintro e w1 ⟨rfl, rfl⟩
      go_upto_region 3 with fail
      go_quiet (fail)
      go_wp2_with fail
      go_ret2
      exact ⟨rfl, below_drewN (Below.refl _ _) _⟩
    · have hd4 : decide (b < d.size) = false := decide_eq_false c2
      have S1 := fun W => sl_to d 4 4 rfl (by omega) W
      have c3 : d.extract 0 4 ≠ word d.size := fun h => hn ⟨by omega, h, by omega⟩
      have hqq := seq_false c3
      obtain ⟨y, hy⟩ : ∃ y, y = d.extract 0 4 := ⟨_, rfl⟩
      rw [← hy] at S1 hqq
      obtain ⟨q, hq⟩ : ∃ q, q = word d.size := ⟨_, rfl⟩
      rw [← hq] at hqq W1
      clear hf hn c1 c3 hq hy
      go_enter Try.func12, Try.ntmps12
      go_wp2_with fail
      refine (HV _).out.mono ?_
      rintro e w1 ⟨rfl, rfl⟩
      have hstart : Below w1.heap.size w1 w1.drew := below_drew w1
      go_upto_region 3 with fail
      go_region_held3 (fun W => Below w1.heap.size w1 W) (first | assumption | exact KeepB.step (by assumption) hb6) (first | (go_at_call 29; (with_reducible refine (W1 _).out.mono ?_); rintro x w6 ⟨rfl, hb6⟩))
      rename_i hh
      have HB0 := hid hh
      clear hh hstart hb6
      go_wp2_with fail
      go_ret2
      exact ⟨rfl, HB0.out⟩
/-- when a segment may stand at a place, by its bytes -/
def mayAt (x : Nat) (full : Bool) (a sz n c D : Nat) : Prop := D = 0 ∧ 4 ≤ n ∧ a + n ≤ sz ∧ c ≤ 3 ∧ (c ≠ 0 → n ≠ 4) ∧ n ≤ 4 + x ∧ (2 ≤ c → a = 4) ∧ (c % 2 = 1 → a + n = sz ∧ full = true)
theorem may_at (x : Nat) (full fi : Bool) (d : ByteArray) (a : Nat) (ha : a + 4 ≤ d.size) (hfi : fi = true ↔ a = 4) : segMay x full fi (d.extract a d.size) ↔ mayAt x full a d.size (segNum (d.extract a d.size)) (byteAt d (a + 2)) (byteAt d (a + 3)) := by
  have hs : (d.extract a d.size).size = d.size - a := by rw [ByteArray.size_extract]; omega
  have e2 : byteAt (d.extract a d.size) 2 = byteAt d (a + 2) := byteAt_ext (by omega)
  have e3 : byteAt (d.extract a d.size) 3 = byteAt d (a + 3) := byteAt_ext (by omega)
  unfold segMay mayAt segOk
  rw [segRest_size]
  have hb : (segOf (d.extract a d.size)).before = decide (2 ≤ byteAt d (a + 2)) := by show decide _ = _; rw [e2]
  have haf : (segOf (d.extract a d.size)).after = decide (byteAt d (a + 2) % 2 = 1) := by show decide _ = _; rw [e2]
  rw [hb, haf, e2, e3, hs, hfi]
  simp only [decide_eq_true_eq]
  constructor
  · rintro ⟨⟨h1, h2, h3, h4, h5, h6⟩, h7, h8, h9⟩
    have hz := segOf_size (t := d.extract a d.size) (by omega)
    exact ⟨h2, h3, by omega, h5, h6, by omega, h8, fun h => ⟨by have := (h9 h).1; omega, (h9 h).2⟩⟩
  · rintro ⟨h1, h2, h3, h4, h5, h6, h7, h8⟩
    have hz := segOf_size (t := d.extract a d.size) (by omega)
    exact ⟨⟨by omega, h1, h2, by omega, h4, h5⟩, by omega, h7, fun h => ⟨by have := (h8 h).1; omega, (h8 h).2⟩⟩
set_option maxRecDepth 100000 in
set_option maxHeartbeats 8000000 in
theorem refSsegs_ok (x b : Nat) (hf : sfits (x : Int) (b : Int)) (d : ByteArray) (hd : 8 ≤ d.size) (hw : d.extract 0 4 = word d.size) (hdb : d.size ≤ b) (w : World) :
    Calls Try.prog 12 #[.int .i64 x, .int .i64 b, .string d] w (SSegs 55 (rd x (decide (d.size = b)) true (d.extract 4 d.size)) w) := by
  have HV := fun W => hid (refSvalid_any x b (by have := hf.2.2.2; omega) W)
  rw [decide_eq_true hf] at HV
  have hL1 : 1 ≤ x := by have := hf.1; omega
  have hL2 : x ≤ 1000 := by have := hf.2.1; omega
  have hb2 : b ≤ 1024 := by have := hf.2.2.2; omega
  have W1 := fun W => hid (refWord_nat d.size (by omega) W)
  have hd3 : decide ((d.size : Int) < 8) = false := decide_eq_false (by omega)
  have hd4 : decide (b < d.size) = false := decide_eq_false (by omega)
  have S1 := fun W => sl_to d 4 4 rfl (by omega) W
  rw [hw] at S1
  obtain ⟨h, hh⟩ : ∃ h, h = word d.size := ⟨_, rfl⟩
  rw [← hh] at W1 S1
  have hqq := sne_false h
  obtain ⟨full, hfull⟩ : ∃ f, f = decide (d.size = b) := ⟨_, rfl⟩
  rw [← hfull]
  have HFULL : Hid (full = true ↔ d.size = b) := hid (by rw [hfull]; simp)
  obtain ⟨res, hres⟩ : ∃ r, r = rd x full true (d.extract 4 d.size) := ⟨_, rfl⟩
  rw [← hres]
  have HRES := hid hres
  have hds : 4 < d.size := by omega
  clear hf hd hw hh hfull hres
  go_enter Try.func12, Try.ntmps12
  go_wp2_with fail
  refine (HV _).out.mono ?_
  rintro e w1 ⟨rfl, rfl⟩
  have hstart : Below w1.heap.size w1 w1.drew := below_drew w1
  go_upto_region 3 with fail
  go_region_held3 (fun W => Below w1.heap.size w1 W) (first | assumption | exact KeepB.step (by assumption) hb6) (first | (go_at_call 29; (with_reducible refine (W1 _).out.mono ?_); rintro x w6 ⟨rfl, hb6⟩))
  rename_i hh
  have HB0 := hid hh
  clear hh hstart hb6
  go_wp2_with fail
  go_loopw [8, 9] (fun s8 s9 wr => ∃ (a : Nat) (l : List Seg) (u' : Value), u' = s8 ∧ s9 = .int .i64 a ∧ 4 ≤ a ∧ a ≤ d.size ∧ 4 * l.length ≤ a ∧ (l.isEmpty = true ↔ a = 4) ∧ (rd x full l.isEmpty (d.extract a d.size)).map (l ++ ·) = res ∧ OwnSegs 55 wr u' l ∧ Fresh w1 u' ∧ Below w1.heap.size w1 wr) (fun _ i _ => d.size - (intOf i).toNat)
  case atStart => exact ⟨4, [], _, rfl, by go_num, by omega, by omega, by simp, by simp, by rw [HRES.out]; simp, OwnSegs.nilA _ _ _, (by rintro k ⟨a, n, c, e, hc, _⟩; cases e; omega), HB0.out.alloc HB0.out.size _⟩
  case round =>
    obtain ⟨a, l, u, rfl, rfl, ha4, hle, hcnt, hfi, hrd, ho, hfr, hb⟩ := hrel
    have HB := hid hb
    have HO := hid ho
    have HF := hid hfr
    obtain ⟨Au, capu, rfl⟩ := ho.shape
    have hys : (d.extract a d.size).size = d.size - a := by rw [ByteArray.size_extract]; omega
    by_cases hlt : a < d.size
    · by_cases h4 : d.size < a + 4
      · have HNO : Hid (res = none) := hid (by rw [← hrd, rd_no _ _ _ _ (by omega) (fun h => by have := h.1.1; omega)]; rfl)
        clear hrd ho hfr hb hfi hys
        go_wp2_with fail
        go_ret2
        exact SSegs.none HNO.out HB.out
      · have hmay := may_at x full l.isEmpty d a (by omega) hfi
        obtain ⟨n, hn⟩ : ∃ n, n = segNum (d.extract a d.size) := ⟨_, rfl⟩
        have hn2 : n = 256 * byteAt d a + byteAt d (a + 1) := by rw [hn]; unfold segNum; rw [byteAt_ext (by omega), byteAt_ext (by omega)]; rfl
        have I0 := fun W => ix_at d (a : Int) a _ rfl (by omega) (byteAt_eq (by omega)) W
        have I1 := fun W => ix_at d ((a : Int) + 1) (a + 1) _ (by omega) (by omega) (byteAt_eq (by omega)) W
        have I2 := fun W => ix_at d ((a : Int) + 2) (a + 2) _ (by omega) (by omega) (byteAt_eq (by omega)) W
        have I3 := fun W => ix_at d ((a : Int) + 3) (a + 3) _ (by omega) (by omega) (byteAt_eq (by omega)) W
        have hA9 := byteAt_le d a
        have hB9 := byteAt_le d (a + 1)
        have hC9 := byteAt_le d (a + 2)
        have YES : mayAt x full a d.size n (byteAt d (a + 2)) (byteAt d (a + 3)) → (rd x full (l ++ [(⟨decide (2 ≤ byteAt d (a + 2)), decide (byteAt d (a + 2) % 2 = 1), d.extract (a + 4) (a + n)⟩ : Seg)]).isEmpty (d.extract (a + n) d.size)).map ((l ++ [(⟨decide (2 ≤ byteAt d (a + 2)), decide (byteAt d (a + 2) % 2 = 1), d.extract (a + 4) (a + n)⟩ : Seg)]) ++ ·) = res := fun h => by
          have h' := h
          rw [hn, ← hmay] at h
          have hle2 : a + n ≤ d.size := h'.2.2.1
          have e1 : segRest (d.extract a d.size) = d.extract (a + n) d.size := by unfold segRest; rw [← hn, hys, ext_all]
          have e2 : segOf (d.extract a d.size) = ⟨decide (2 ≤ byteAt d (a + 2)), decide (byteAt d (a + 2) % 2 = 1), d.extract (a + 4) (a + n)⟩ := by unfold segOf; rw [← hn, byteAt_ext (by omega), ext_ext _ _ _ _ hle2]
          rw [← hrd, rd_yes _ _ _ _ (by omega) h, Option.map_map, e1, e2]
          have e : ∀ s, (l ++ [s]).isEmpty = false := by simp
          rw [e]
          congr 1
          funext z
          simp
        have NO : ¬ mayAt x full a d.size n (byteAt d (a + 2)) (byteAt d (a + 3)) → res = none := fun h => by
          rw [hn, ← hmay] at h
          rw [← hrd, rd_no _ _ _ _ (by omega) h]; rfl
        obtain ⟨A, hA⟩ : ∃ A, A = byteAt d a := ⟨_, rfl⟩
        obtain ⟨B, hB⟩ : ∃ B, B = byteAt d (a + 1) := ⟨_, rfl⟩
        obtain ⟨c, hc⟩ : ∃ c, c = byteAt d (a + 2) := ⟨_, rfl⟩
        obtain ⟨D, hD⟩ : ∃ D, D = byteAt d (a + 3) := ⟨_, rfl⟩
        rw [← hA] at I0 hA9 hn2
        rw [← hB] at I1 hB9 hn2
        rw [← hc] at I2 hC9 YES NO
        rw [← hD] at I3 YES NO
        have hn9 : n ≤ 65535 := by omega
        have HN2 := hid hn2
        have HFI := hid hfi
        have h4' : ¬ ((d.size : Int) < (a : Int) + 4) := by omega
        clear hrd ho hfr hb hfi hys hmay hn hn2 hA hB hc hD
        go_upto_region 10 with fail
        go_cut [10, 11] (fun s10 s11 wx => s10 = .int .i64 n ∧ s11 = .int .u8 c ∧ ∃ wq, wq = wx ∧ Below wr.heap.size wr wq)
        case first =>
          go_quiet (fail)
          go_wp2_with fail
          go_meet
          exact ⟨by rw [HN2.out]; exact congrArg _ (by omega), rfl, _, rfl, below_drewN (Below.refl _ _) _⟩
        case rest =>
          obtain ⟨rfl, rfl, wq, rfl, hbq⟩ := hcut
          have HBQ := hid (HB.out.trans (hbq.mono HB.out.size))
          have HOQ := hid (HO.out.below hbq (Nat.le_refl _))
          clear hbq I0 I1 I2
          have hr2 := Row.new wq [.bool false, .bool false, .string ⟨#[]⟩] 55
          have s0 := hr2.cell (i := 0) rfl
          have s1 := hr2.cell (i := 1) rfl
          have s2 := hr2.cell (i := 2) rfl
          have t0 := hr2.frozen 0
          have t1 := hr2.frozen 1
          have t2 := hr2.frozen 2
          clear hr2
          by_cases k0 : 3 < c
          · have k0b : ((3 : Int) < (c : Int)) := by omega
            have HNO := hid (NO (fun h => by obtain ⟨m1, m2, m3, m4, m5, m6, m7, m8⟩ := h; omega))
            clear YES NO
            go_wp2_with fail
            go_ret2
            exact SSegs.none HNO.out (HBQ.out.alloc HBQ.out.size _)
          · have k0b : ¬ ((3 : Int) < (c : Int)) := by omega
            by_cases k1 : D = 0
            · have k1b : ((D : Int) != 0) = false := by simp; omega
              by_cases k2 : n < 4
              · have k2b : ((n : Int) < 4) := by omega
                have HNO := hid (NO (fun h => by obtain ⟨m1, m2, m3, m4, m5, m6, m7, m8⟩ := h; omega))
                clear YES NO
                go_wp2_with fail
                go_ret2
                exact SSegs.none HNO.out (HBQ.out.alloc HBQ.out.size _)
              · have k2b : ¬ ((n : Int) < 4) := by omega
                by_cases z0 : c = 0
                · have c3 : c = 0 := by omega
                  subst c3
                  by_cases k3 : 4 + x < n
                  · have k3b : (4 + (x : Int) < (n : Int)) := by omega
                    have k4 : ((n : Int) == 4) = false := by simp; omega
                    have HNO := hid (NO (fun h => by obtain ⟨m1, m2, m3, m4, m5, m6, m7, m8⟩ := h; omega))
                    clear YES NO
                    go_upto_region 12 with fail
                    have hr4 : Row (wq.alloc (.cells #[.bool false, .bool false, .string ⟨#[]⟩] 55)) wq.heap.size 55 [.bool false, .bool false, .string ⟨#[]⟩] := Row.new wq _ _
                    have hb4 : Below wq.heap.size wq (wq.alloc (.cells #[.bool false, .bool false, .string ⟨#[]⟩] 55)) := (Below.refl _ _).alloc (Nat.le_refl _) _
                    obtain ⟨w4, hw4⟩ : ∃ q, q = (wq.alloc (.cells #[.bool false, .bool false, .string ⟨#[]⟩] 55)) := ⟨_, rfl⟩
                    rw [← hw4] at hr4 hb4 ⊢
                    have HB4 := hid (HBQ.out.trans (hb4.mono HBQ.out.size))
                    have HO4 := hid (HOQ.out.below hb4 (Nat.le_refl _))
                    have HW4 : Hid (w4.heap.size = wq.heap.size + 1) := hid (by rw [hw4, World.size_alloc])
                    have q0 := hr4.cell (i := 0) rfl
                    have f0 := hr4.frozen 0
                    have q1 := hr4.cell (i := 1) rfl
                    have f1 := hr4.frozen 1
                    have q2 := hr4.cell (i := 2) rfl
                    have f2 := hr4.frozen 2
                    have HR4 := hid hr4
                    clear s0 s1 s2 t0 t1 t2 hr4 hb4 hw4
                    go_wp2_with fail
                    go_ret2
                    exact SSegs.none HNO.out HB4.out
                  · have k3b : ¬ (4 + (x : Int) < (n : Int)) := by omega
                    by_cases k5 : d.size < a + n
                    · have k5b : ((d.size : Int) < (a : Int) + (n : Int)) := by omega
                      have k4 : ((n : Int) == 4) = false := by simp; omega
                      have HNO := hid (NO (fun h => by obtain ⟨m1, m2, m3, m4, m5, m6, m7, m8⟩ := h; omega))
                      clear YES NO
                      go_upto_region 12 with fail
                      have hr4 : Row (wq.alloc (.cells #[.bool false, .bool false, .string ⟨#[]⟩] 55)) wq.heap.size 55 [.bool false, .bool false, .string ⟨#[]⟩] := Row.new wq _ _
                      have hb4 : Below wq.heap.size wq (wq.alloc (.cells #[.bool false, .bool false, .string ⟨#[]⟩] 55)) := (Below.refl _ _).alloc (Nat.le_refl _) _
                      obtain ⟨w4, hw4⟩ : ∃ q, q = (wq.alloc (.cells #[.bool false, .bool false, .string ⟨#[]⟩] 55)) := ⟨_, rfl⟩
                      rw [← hw4] at hr4 hb4 ⊢
                      have HB4 := hid (HBQ.out.trans (hb4.mono HBQ.out.size))
                      have HO4 := hid (HOQ.out.below hb4 (Nat.le_refl _))
                      have HW4 : Hid (w4.heap.size = wq.heap.size + 1) := hid (by rw [hw4, World.size_alloc])
                      have q0 := hr4.cell (i := 0) rfl
                      have f0 := hr4.frozen 0
                      have q1 := hr4.cell (i := 1) rfl
                      have f1 := hr4.frozen 1
                      have q2 := hr4.cell (i := 2) rfl
                      have f2 := hr4.frozen 2
                      have HR4 := hid hr4
                      clear s0 s1 s2 t0 t1 t2 hr4 hb4 hw4
                      go_wp2_with fail
                      go_ret2
                      exact SSegs.none HNO.out HB4.out
                    · have k5b : ¬ ((d.size : Int) < (a : Int) + (n : Int)) := by omega
                      by_cases e4 : n = 4
                      · have k4 : ((n : Int) == 4) = true := by simp; omega
                        have HRS := hid (YES ⟨k1, by omega, by omega, by omega, by omega, by omega, by omega, by omega⟩)
                        clear YES NO
                        subst e4
                        rw [show d.extract (a + 4) (a + 4) = ByteArray.empty from empty_of (by rw [ByteArray.size_extract]; omega)] at HRS
                        go_upto_region 12 with fail
                        have hr4 : Row (wq.alloc (.cells #[.bool false, .bool false, .string ⟨#[]⟩] 55)) wq.heap.size 55 [.bool false, .bool false, .string ⟨#[]⟩] := Row.new wq _ _
                        have hb4 : Below wq.heap.size wq (wq.alloc (.cells #[.bool false, .bool false, .string ⟨#[]⟩] 55)) := (Below.refl _ _).alloc (Nat.le_refl _) _
                        obtain ⟨w4, hw4⟩ : ∃ q, q = (wq.alloc (.cells #[.bool false, .bool false, .string ⟨#[]⟩] 55)) := ⟨_, rfl⟩
                        rw [← hw4] at hr4 hb4 ⊢
                        have HB4 := hid (HBQ.out.trans (hb4.mono HBQ.out.size))
                        have HO4 := hid (HOQ.out.below hb4 (Nat.le_refl _))
                        have HW4 : Hid (w4.heap.size = wq.heap.size + 1) := hid (by rw [hw4, World.size_alloc])
                        have q0 := hr4.cell (i := 0) rfl
                        have f0 := hr4.frozen 0
                        have q1 := hr4.cell (i := 1) rfl
                        have f1 := hr4.frozen 1
                        have q2 := hr4.cell (i := 2) rfl
                        have f2 := hr4.frozen 2
                        have HR4 := hid hr4
                        clear s0 s1 s2 t0 t1 t2 hr4 hb4 hw4
                        go_upto_region 15 with fail
                        have hr5 := HR4.out.set 2 (.string ByteArray.empty)
                        have hb5 : Below wq.heap.size w4 (w4.setCell ⟨wq.heap.size, 2, none⟩ (.string ByteArray.empty)) := (Below.refl _ _).setCell (by exact Nat.le_refl _) _
                        have HB5 := hid (HB4.out.trans (hb5.mono HBQ.out.size))
                        have ho5 := HO4.out.upd (F := fun k => k = wq.heap.size) (Upds.set w4 ⟨wq.heap.size, 2, none⟩ (.string ByteArray.empty) rfl) (fun k hk e => by have := SliceIs.lt HOQ.out k hk; omega)
                        obtain ⟨w5, hw5⟩ : ∃ q, q = (w4.setCell ⟨wq.heap.size, 2, none⟩ (.string ByteArray.empty)) := ⟨_, rfl⟩
                        rw [← hw5] at hr5 hb5 HB5 ho5 ⊢
                        have HO5 := hid ho5
                        have g0 := hr5.cell (i := 0) rfl
                        have g1 := hr5.cell (i := 1) rfl
                        have g2 := hr5.cell (i := 2) rfl
                        clear q0 q1 q2 f0 f1 f2 hr5 hb5 ho5 hw5 HB4 HO4
                        go_wp2_with (at_builtin; refine wpList_append_slice rfl (.tmp 134) (.tmp 136) 27 rfl 55 (.agg #[.bool false, .bool false, .string ⟨#[]⟩]) 3 24 Try.underlying27 (by kernel_rfl) (by kernel_rfl) _ l.length (segCells l) rfl (SliceIs.alloc HO5.out _) ⟨w5.heap.size, 0, none⟩ 1 1 [.bool false, .bool false, .string ByteArray.empty] rfl rfl (news3 _ _ _ _ _ _ rfl) (by simp [Value.oneCell']) (by omega) (by omega) (by omega) ?_; intro g8 cap8 w8 hs8 hu8 hh8)
                        go_roundw
                        case rel => exact ⟨a + 4, l ++ [(⟨false, false, ByteArray.empty⟩ : Seg)], _, rfl, by go_num, by omega, by omega, by simp; omega, by simp; omega, HRS.out, OwnSegs.more rfl rfl hs8.out, fun k hk => (hh8.out k hk).elim (HF.out k) (fun h => by have := HB5.out.size; simp at h; omega), (HB5.out.alloc HB5.out.size _).trans (hu8.out.below (by have := HB5.out.size; simp; omega) (fun k hk => HF.out k hk))⟩
                        case measure => simp [intOf]; omega
                      · have k4 : ((n : Int) == 4) = false := by simp; omega
                        have HRS := hid (YES ⟨k1, by omega, by omega, by omega, by omega, by omega, by omega, by omega⟩)
                        clear YES NO
                        have S9 := fun W => sl_ab d ((a : Int) + 4) ((a : Int) + (n : Int)) (a + 4) (a + n) (by omega) (by omega) (by omega) (by omega) W
                        obtain ⟨p, hp⟩ : ∃ p, p = d.extract (a + 4) (a + n) := ⟨_, rfl⟩
                        rw [← hp] at S9 HRS
                        clear hp
                        go_upto_region 12 with fail
                        have hr4 : Row (wq.alloc (.cells #[.bool false, .bool false, .string ⟨#[]⟩] 55)) wq.heap.size 55 [.bool false, .bool false, .string ⟨#[]⟩] := Row.new wq _ _
                        have hb4 : Below wq.heap.size wq (wq.alloc (.cells #[.bool false, .bool false, .string ⟨#[]⟩] 55)) := (Below.refl _ _).alloc (Nat.le_refl _) _
                        obtain ⟨w4, hw4⟩ : ∃ q, q = (wq.alloc (.cells #[.bool false, .bool false, .string ⟨#[]⟩] 55)) := ⟨_, rfl⟩
                        rw [← hw4] at hr4 hb4 ⊢
                        have HB4 := hid (HBQ.out.trans (hb4.mono HBQ.out.size))
                        have HO4 := hid (HOQ.out.below hb4 (Nat.le_refl _))
                        have HW4 : Hid (w4.heap.size = wq.heap.size + 1) := hid (by rw [hw4, World.size_alloc])
                        have q0 := hr4.cell (i := 0) rfl
                        have f0 := hr4.frozen 0
                        have q1 := hr4.cell (i := 1) rfl
                        have f1 := hr4.frozen 1
                        have q2 := hr4.cell (i := 2) rfl
                        have f2 := hr4.frozen 2
                        have HR4 := hid hr4
                        clear s0 s1 s2 t0 t1 t2 hr4 hb4 hw4
                        go_upto_region 15 with fail
                        have hr5 := HR4.out.set 2 (.string p)
                        have hb5 : Below wq.heap.size w4 (w4.setCell ⟨wq.heap.size, 2, none⟩ (.string p)) := (Below.refl _ _).setCell (by exact Nat.le_refl _) _
                        have HB5 := hid (HB4.out.trans (hb5.mono HBQ.out.size))
                        have ho5 := HO4.out.upd (F := fun k => k = wq.heap.size) (Upds.set w4 ⟨wq.heap.size, 2, none⟩ (.string p) rfl) (fun k hk e => by have := SliceIs.lt HOQ.out k hk; omega)
                        obtain ⟨w5, hw5⟩ : ∃ q, q = (w4.setCell ⟨wq.heap.size, 2, none⟩ (.string p)) := ⟨_, rfl⟩
                        rw [← hw5] at hr5 hb5 HB5 ho5 ⊢
                        have HO5 := hid ho5
                        have g0 := hr5.cell (i := 0) rfl
                        have g1 := hr5.cell (i := 1) rfl
                        have g2 := hr5.cell (i := 2) rfl
                        clear q0 q1 q2 f0 f1 f2 hr5 hb5 ho5 hw5 HB4 HO4
                        go_wp2_with (at_builtin; refine wpList_append_slice rfl (.tmp 134) (.tmp 136) 27 rfl 55 (.agg #[.bool false, .bool false, .string ⟨#[]⟩]) 3 24 Try.underlying27 (by kernel_rfl) (by kernel_rfl) _ l.length (segCells l) rfl (SliceIs.alloc HO5.out _) ⟨w5.heap.size, 0, none⟩ 1 1 [.bool false, .bool false, .string p] rfl rfl (news3 _ _ _ _ _ _ rfl) (by simp [Value.oneCell']) (by omega) (by omega) (by omega) ?_; intro g8 cap8 w8 hs8 hu8 hh8)
                        go_roundw
                        case rel => exact ⟨a + n, l ++ [(⟨false, false, p⟩ : Seg)], _, rfl, by go_num, by omega, by omega, by simp; omega, by simp; omega, HRS.out, OwnSegs.more rfl rfl hs8.out, fun k hk => (hh8.out k hk).elim (HF.out k) (fun h => by have := HB5.out.size; simp at h; omega), (HB5.out.alloc HB5.out.size _).trans (hu8.out.below (by have := HB5.out.size; simp; omega) (fun k hk => HF.out k hk))⟩
                        case measure => simp [intOf]; omega
                · by_cases z1 : c = 1
                  · have c3 : c = 1 := by omega
                    subst c3
                    by_cases e4 : n = 4
                    · have k4 : ((n : Int) == 4) = true := by simp; omega
                      have HNO := hid (NO (fun h => by obtain ⟨m1, m2, m3, m4, m5, m6, m7, m8⟩ := h; omega))
                      clear YES NO
                      go_upto_region 12 with fail
                      have hr4 : Row (wq.alloc (.cells #[.bool false, .bool true, .string ⟨#[]⟩] 55)) wq.heap.size 55 [.bool false, .bool true, .string ⟨#[]⟩] := Row.new wq _ _
                      have hb4 : Below wq.heap.size wq (wq.alloc (.cells #[.bool false, .bool true, .string ⟨#[]⟩] 55)) := (Below.refl _ _).alloc (Nat.le_refl _) _
                      obtain ⟨w4, hw4⟩ : ∃ q, q = (wq.alloc (.cells #[.bool false, .bool true, .string ⟨#[]⟩] 55)) := ⟨_, rfl⟩
                      rw [← hw4] at hr4 hb4 ⊢
                      have HB4 := hid (HBQ.out.trans (hb4.mono HBQ.out.size))
                      have HO4 := hid (HOQ.out.below hb4 (Nat.le_refl _))
                      have HW4 : Hid (w4.heap.size = wq.heap.size + 1) := hid (by rw [hw4, World.size_alloc])
                      have q0 := hr4.cell (i := 0) rfl
                      have f0 := hr4.frozen 0
                      have q1 := hr4.cell (i := 1) rfl
                      have f1 := hr4.frozen 1
                      have q2 := hr4.cell (i := 2) rfl
                      have f2 := hr4.frozen 2
                      have HR4 := hid hr4
                      clear s0 s1 s2 t0 t1 t2 hr4 hb4 hw4
                      go_wp2_with fail
                      go_ret2
                      exact SSegs.none HNO.out HB4.out
                    · have k4 : ((n : Int) == 4) = false := by simp; omega
                      by_cases k3 : 4 + x < n
                      · have k3b : (4 + (x : Int) < (n : Int)) := by omega
                        have HNO := hid (NO (fun h => by obtain ⟨m1, m2, m3, m4, m5, m6, m7, m8⟩ := h; omega))
                        clear YES NO
                        go_upto_region 12 with fail
                        have hr4 : Row (wq.alloc (.cells #[.bool false, .bool true, .string ⟨#[]⟩] 55)) wq.heap.size 55 [.bool false, .bool true, .string ⟨#[]⟩] := Row.new wq _ _
                        have hb4 : Below wq.heap.size wq (wq.alloc (.cells #[.bool false, .bool true, .string ⟨#[]⟩] 55)) := (Below.refl _ _).alloc (Nat.le_refl _) _
                        obtain ⟨w4, hw4⟩ : ∃ q, q = (wq.alloc (.cells #[.bool false, .bool true, .string ⟨#[]⟩] 55)) := ⟨_, rfl⟩
                        rw [← hw4] at hr4 hb4 ⊢
                        have HB4 := hid (HBQ.out.trans (hb4.mono HBQ.out.size))
                        have HO4 := hid (HOQ.out.below hb4 (Nat.le_refl _))
                        have HW4 : Hid (w4.heap.size = wq.heap.size + 1) := hid (by rw [hw4, World.size_alloc])
                        have q0 := hr4.cell (i := 0) rfl
                        have f0 := hr4.frozen 0
                        have q1 := hr4.cell (i := 1) rfl
                        have f1 := hr4.frozen 1
                        have q2 := hr4.cell (i := 2) rfl
                        have f2 := hr4.frozen 2
                        have HR4 := hid hr4
                        clear s0 s1 s2 t0 t1 t2 hr4 hb4 hw4
                        go_wp2_with fail
                        go_ret2
                        exact SSegs.none HNO.out HB4.out
                      · have k3b : ¬ (4 + (x : Int) < (n : Int)) := by omega
                        by_cases k5 : d.size < a + n
                        · have k5b : ((d.size : Int) < (a : Int) + (n : Int)) := by omega
                          have HNO := hid (NO (fun h => by obtain ⟨m1, m2, m3, m4, m5, m6, m7, m8⟩ := h; omega))
                          clear YES NO
                          go_upto_region 12 with fail
                          have hr4 : Row (wq.alloc (.cells #[.bool false, .bool true, .string ⟨#[]⟩] 55)) wq.heap.size 55 [.bool false, .bool true, .string ⟨#[]⟩] := Row.new wq _ _
                          have hb4 : Below wq.heap.size wq (wq.alloc (.cells #[.bool false, .bool true, .string ⟨#[]⟩] 55)) := (Below.refl _ _).alloc (Nat.le_refl _) _
                          obtain ⟨w4, hw4⟩ : ∃ q, q = (wq.alloc (.cells #[.bool false, .bool true, .string ⟨#[]⟩] 55)) := ⟨_, rfl⟩
                          rw [← hw4] at hr4 hb4 ⊢
                          have HB4 := hid (HBQ.out.trans (hb4.mono HBQ.out.size))
                          have HO4 := hid (HOQ.out.below hb4 (Nat.le_refl _))
                          have HW4 : Hid (w4.heap.size = wq.heap.size + 1) := hid (by rw [hw4, World.size_alloc])
                          have q0 := hr4.cell (i := 0) rfl
                          have f0 := hr4.frozen 0
                          have q1 := hr4.cell (i := 1) rfl
                          have f1 := hr4.frozen 1
                          have q2 := hr4.cell (i := 2) rfl
                          have f2 := hr4.frozen 2
                          have HR4 := hid hr4
                          clear s0 s1 s2 t0 t1 t2 hr4 hb4 hw4
                          go_wp2_with fail
                          go_ret2
                          exact SSegs.none HNO.out HB4.out
                        · have k5b : ¬ ((d.size : Int) < (a : Int) + (n : Int)) := by omega
                          by_cases k7 : a + n < d.size
                          · have k7b : ((a : Int) + (n : Int) < (d.size : Int)) := by omega
                            have HNO := hid (NO (fun h => by obtain ⟨m1, m2, m3, m4, m5, m6, m7, m8⟩ := h; have := (m8 rfl).1; omega))
                            clear YES NO
                            go_upto_region 12 with fail
                            have hr4 : Row (wq.alloc (.cells #[.bool false, .bool true, .string ⟨#[]⟩] 55)) wq.heap.size 55 [.bool false, .bool true, .string ⟨#[]⟩] := Row.new wq _ _
                            have hb4 : Below wq.heap.size wq (wq.alloc (.cells #[.bool false, .bool true, .string ⟨#[]⟩] 55)) := (Below.refl _ _).alloc (Nat.le_refl _) _
                            obtain ⟨w4, hw4⟩ : ∃ q, q = (wq.alloc (.cells #[.bool false, .bool true, .string ⟨#[]⟩] 55)) := ⟨_, rfl⟩
                            rw [← hw4] at hr4 hb4 ⊢
                            have HB4 := hid (HBQ.out.trans (hb4.mono HBQ.out.size))
                            have HO4 := hid (HOQ.out.below hb4 (Nat.le_refl _))
                            have HW4 : Hid (w4.heap.size = wq.heap.size + 1) := hid (by rw [hw4, World.size_alloc])
                            have q0 := hr4.cell (i := 0) rfl
                            have f0 := hr4.frozen 0
                            have q1 := hr4.cell (i := 1) rfl
                            have f1 := hr4.frozen 1
                            have q2 := hr4.cell (i := 2) rfl
                            have f2 := hr4.frozen 2
                            have HR4 := hid hr4
                            clear s0 s1 s2 t0 t1 t2 hr4 hb4 hw4
                            go_wp2_with fail
                            go_ret2
                            exact SSegs.none HNO.out HB4.out
                          · have k7b : ¬ ((a : Int) + (n : Int) < (d.size : Int)) := by omega
                            by_cases k8 : d.size < b
                            · have k8b : decide (d.size < b) = true := decide_eq_true k8
                              have HNO := hid (NO (fun h => by obtain ⟨m1, m2, m3, m4, m5, m6, m7, m8⟩ := h; have := HFULL.out.1 (m8 rfl).2; omega))
                              clear YES NO
                              go_upto_region 12 with fail
                              have hr4 : Row (wq.alloc (.cells #[.bool false, .bool true, .string ⟨#[]⟩] 55)) wq.heap.size 55 [.bool false, .bool true, .string ⟨#[]⟩] := Row.new wq _ _
                              have hb4 : Below wq.heap.size wq (wq.alloc (.cells #[.bool false, .bool true, .string ⟨#[]⟩] 55)) := (Below.refl _ _).alloc (Nat.le_refl _) _
                              obtain ⟨w4, hw4⟩ : ∃ q, q = (wq.alloc (.cells #[.bool false, .bool true, .string ⟨#[]⟩] 55)) := ⟨_, rfl⟩
                              rw [← hw4] at hr4 hb4 ⊢
                              have HB4 := hid (HBQ.out.trans (hb4.mono HBQ.out.size))
                              have HO4 := hid (HOQ.out.below hb4 (Nat.le_refl _))
                              have HW4 : Hid (w4.heap.size = wq.heap.size + 1) := hid (by rw [hw4, World.size_alloc])
                              have q0 := hr4.cell (i := 0) rfl
                              have f0 := hr4.frozen 0
                              have q1 := hr4.cell (i := 1) rfl
                              have f1 := hr4.frozen 1
                              have q2 := hr4.cell (i := 2) rfl
                              have f2 := hr4.frozen 2
                              have HR4 := hid hr4
                              clear s0 s1 s2 t0 t1 t2 hr4 hb4 hw4
                              go_wp2_with fail
                              go_ret2
                              exact SSegs.none HNO.out HB4.out
                            · have k8b : decide (d.size < b) = false := decide_eq_false k8
                              have HRS := hid (YES ⟨k1, by omega, by omega, by omega, by omega, by omega, by omega, fun _ => ⟨by omega, HFULL.out.2 (by omega)⟩⟩)
                              clear YES NO
                              have S9 := fun W => sl_ab d ((a : Int) + 4) ((a : Int) + (n : Int)) (a + 4) (a + n) (by omega) (by omega) (by omega) (by omega) W
                              obtain ⟨p, hp⟩ : ∃ p, p = d.extract (a + 4) (a + n) := ⟨_, rfl⟩
                              rw [← hp] at S9 HRS
                              clear hp
                              go_upto_region 12 with fail
                              have hr4 : Row (wq.alloc (.cells #[.bool false, .bool true, .string ⟨#[]⟩] 55)) wq.heap.size 55 [.bool false, .bool true, .string ⟨#[]⟩] := Row.new wq _ _
                              have hb4 : Below wq.heap.size wq (wq.alloc (.cells #[.bool false, .bool true, .string ⟨#[]⟩] 55)) := (Below.refl _ _).alloc (Nat.le_refl _) _
                              obtain ⟨w4, hw4⟩ : ∃ q, q = (wq.alloc (.cells #[.bool false, .bool true, .string ⟨#[]⟩] 55)) := ⟨_, rfl⟩
                              rw [← hw4] at hr4 hb4 ⊢
                              have HB4 := hid (HBQ.out.trans (hb4.mono HBQ.out.size))
                              have HO4 := hid (HOQ.out.below hb4 (Nat.le_refl _))
                              have HW4 : Hid (w4.heap.size = wq.heap.size + 1) := hid (by rw [hw4, World.size_alloc])
                              have q0 := hr4.cell (i := 0) rfl
                              have f0 := hr4.frozen 0
                              have q1 := hr4.cell (i := 1) rfl
                              have f1 := hr4.frozen 1
                              have q2 := hr4.cell (i := 2) rfl
                              have f2 := hr4.frozen 2
                              have HR4 := hid hr4
                              clear s0 s1 s2 t0 t1 t2 hr4 hb4 hw4
                              go_upto_region 15 with fail
                              have hr5 := HR4.out.set 2 (.string p)
                              have hb5 : Below wq.heap.size w4 (w4.setCell ⟨wq.heap.size, 2, none⟩ (.string p)) := (Below.refl _ _).setCell (by exact Nat.le_refl _) _
                              have HB5 := hid (HB4.out.trans (hb5.mono HBQ.out.size))
                              have ho5 := HO4.out.upd (F := fun k => k = wq.heap.size) (Upds.set w4 ⟨wq.heap.size, 2, none⟩ (.string p) rfl) (fun k hk e => by have := SliceIs.lt HOQ.out k hk; omega)
                              obtain ⟨w5, hw5⟩ : ∃ q, q = (w4.setCell ⟨wq.heap.size, 2, none⟩ (.string p)) := ⟨_, rfl⟩
                              rw [← hw5] at hr5 hb5 HB5 ho5 ⊢
                              have HO5 := hid ho5
                              have g0 := hr5.cell (i := 0) rfl
                              have g1 := hr5.cell (i := 1) rfl
                              have g2 := hr5.cell (i := 2) rfl
                              clear q0 q1 q2 f0 f1 f2 hr5 hb5 ho5 hw5 HB4 HO4
                              go_wp2_with (at_builtin; refine wpList_append_slice rfl (.tmp 134) (.tmp 136) 27 rfl 55 (.agg #[.bool false, .bool false, .string ⟨#[]⟩]) 3 24 Try.underlying27 (by kernel_rfl) (by kernel_rfl) _ l.length (segCells l) rfl (SliceIs.alloc HO5.out _) ⟨w5.heap.size, 0, none⟩ 1 1 [.bool false, .bool true, .string p] rfl rfl (news3 _ _ _ _ _ _ rfl) (by simp [Value.oneCell']) (by omega) (by omega) (by omega) ?_; intro g8 cap8 w8 hs8 hu8 hh8)
                              go_roundw
                              case rel => exact ⟨a + n, l ++ [(⟨false, true, p⟩ : Seg)], _, rfl, by go_num, by omega, by omega, by simp; omega, by simp; omega, HRS.out, OwnSegs.more rfl rfl hs8.out, fun k hk => (hh8.out k hk).elim (HF.out k) (fun h => by have := HB5.out.size; simp at h; omega), (HB5.out.alloc HB5.out.size _).trans (hu8.out.below (by have := HB5.out.size; simp; omega) (fun k hk => HF.out k hk))⟩
                              case measure => simp [intOf]; omega
                  · by_cases z2 : c = 2
                    · have c3 : c = 2 := by omega
                      subst c3
                      by_cases e4 : n = 4
                      · have k4 : ((n : Int) == 4) = true := by simp; omega
                        have HNO := hid (NO (fun h => by obtain ⟨m1, m2, m3, m4, m5, m6, m7, m8⟩ := h; omega))
                        clear YES NO
                        go_upto_region 12 with fail
                        have hr4 : Row (wq.alloc (.cells #[.bool true, .bool false, .string ⟨#[]⟩] 55)) wq.heap.size 55 [.bool true, .bool false, .string ⟨#[]⟩] := Row.new wq _ _
                        have hb4 : Below wq.heap.size wq (wq.alloc (.cells #[.bool true, .bool false, .string ⟨#[]⟩] 55)) := (Below.refl _ _).alloc (Nat.le_refl _) _
                        obtain ⟨w4, hw4⟩ : ∃ q, q = (wq.alloc (.cells #[.bool true, .bool false, .string ⟨#[]⟩] 55)) := ⟨_, rfl⟩
                        rw [← hw4] at hr4 hb4 ⊢
                        have HB4 := hid (HBQ.out.trans (hb4.mono HBQ.out.size))
                        have HO4 := hid (HOQ.out.below hb4 (Nat.le_refl _))
                        have HW4 : Hid (w4.heap.size = wq.heap.size + 1) := hid (by rw [hw4, World.size_alloc])
                        have q0 := hr4.cell (i := 0) rfl
                        have f0 := hr4.frozen 0
                        have q1 := hr4.cell (i := 1) rfl
                        have f1 := hr4.frozen 1
                        have q2 := hr4.cell (i := 2) rfl
                        have f2 := hr4.frozen 2
                        have HR4 := hid hr4
                        clear s0 s1 s2 t0 t1 t2 hr4 hb4 hw4
                        go_wp2_with fail
                        go_ret2
                        exact SSegs.none HNO.out HB4.out
                      · have k4 : ((n : Int) == 4) = false := by simp; omega
                        by_cases k3 : 4 + x < n
                        · have k3b : (4 + (x : Int) < (n : Int)) := by omega
                          have HNO := hid (NO (fun h => by obtain ⟨m1, m2, m3, m4, m5, m6, m7, m8⟩ := h; omega))
                          clear YES NO
                          go_upto_region 12 with fail
                          have hr4 : Row (wq.alloc (.cells #[.bool true, .bool false, .string ⟨#[]⟩] 55)) wq.heap.size 55 [.bool true, .bool false, .string ⟨#[]⟩] := Row.new wq _ _
                          have hb4 : Below wq.heap.size wq (wq.alloc (.cells #[.bool true, .bool false, .string ⟨#[]⟩] 55)) := (Below.refl _ _).alloc (Nat.le_refl _) _
                          obtain ⟨w4, hw4⟩ : ∃ q, q = (wq.alloc (.cells #[.bool true, .bool false, .string ⟨#[]⟩] 55)) := ⟨_, rfl⟩
                          rw [← hw4] at hr4 hb4 ⊢
                          have HB4 := hid (HBQ.out.trans (hb4.mono HBQ.out.size))
                          have HO4 := hid (HOQ.out.below hb4 (Nat.le_refl _))
                          have HW4 : Hid (w4.heap.size = wq.heap.size + 1) := hid (by rw [hw4, World.size_alloc])
                          have q0 := hr4.cell (i := 0) rfl
                          have f0 := hr4.frozen 0
                          have q1 := hr4.cell (i := 1) rfl
                          have f1 := hr4.frozen 1
                          have q2 := hr4.cell (i := 2) rfl
                          have f2 := hr4.frozen 2
                          have HR4 := hid hr4
                          clear s0 s1 s2 t0 t1 t2 hr4 hb4 hw4
                          go_wp2_with fail
                          go_ret2
                          exact SSegs.none HNO.out HB4.out
                        · have k3b : ¬ (4 + (x : Int) < (n : Int)) := by omega
                          by_cases k5 : d.size < a + n
                          · have k5b : ((d.size : Int) < (a : Int) + (n : Int)) := by omega
                            have HNO := hid (NO (fun h => by obtain ⟨m1, m2, m3, m4, m5, m6, m7, m8⟩ := h; omega))
                            clear YES NO
                            go_upto_region 12 with fail
                            have hr4 : Row (wq.alloc (.cells #[.bool true, .bool false, .string ⟨#[]⟩] 55)) wq.heap.size 55 [.bool true, .bool false, .string ⟨#[]⟩] := Row.new wq _ _
                            have hb4 : Below wq.heap.size wq (wq.alloc (.cells #[.bool true, .bool false, .string ⟨#[]⟩] 55)) := (Below.refl _ _).alloc (Nat.le_refl _) _
                            obtain ⟨w4, hw4⟩ : ∃ q, q = (wq.alloc (.cells #[.bool true, .bool false, .string ⟨#[]⟩] 55)) := ⟨_, rfl⟩
                            rw [← hw4] at hr4 hb4 ⊢
                            have HB4 := hid (HBQ.out.trans (hb4.mono HBQ.out.size))
                            have HO4 := hid (HOQ.out.below hb4 (Nat.le_refl _))
                            have HW4 : Hid (w4.heap.size = wq.heap.size + 1) := hid (by rw [hw4, World.size_alloc])
                            have q0 := hr4.cell (i := 0) rfl
                            have f0 := hr4.frozen 0
                            have q1 := hr4.cell (i := 1) rfl
                            have f1 := hr4.frozen 1
                            have q2 := hr4.cell (i := 2) rfl
                            have f2 := hr4.frozen 2
                            have HR4 := hid hr4
                            clear s0 s1 s2 t0 t1 t2 hr4 hb4 hw4
                            go_wp2_with fail
                            go_ret2
                            exact SSegs.none HNO.out HB4.out
                          · have k5b : ¬ ((d.size : Int) < (a : Int) + (n : Int)) := by omega
                            by_cases k6 : 4 < a
                            · have k6b : ((4 : Int) < (a : Int)) := by omega
                              have HNO := hid (NO (fun h => by obtain ⟨m1, m2, m3, m4, m5, m6, m7, m8⟩ := h; omega))
                              clear YES NO
                              go_upto_region 12 with fail
                              have hr4 : Row (wq.alloc (.cells #[.bool true, .bool false, .string ⟨#[]⟩] 55)) wq.heap.size 55 [.bool true, .bool false, .string ⟨#[]⟩] := Row.new wq _ _
                              have hb4 : Below wq.heap.size wq (wq.alloc (.cells #[.bool true, .bool false, .string ⟨#[]⟩] 55)) := (Below.refl _ _).alloc (Nat.le_refl _) _
                              obtain ⟨w4, hw4⟩ : ∃ q, q = (wq.alloc (.cells #[.bool true, .bool false, .string ⟨#[]⟩] 55)) := ⟨_, rfl⟩
                              rw [← hw4] at hr4 hb4 ⊢
                              have HB4 := hid (HBQ.out.trans (hb4.mono HBQ.out.size))
                              have HO4 := hid (HOQ.out.below hb4 (Nat.le_refl _))
                              have HW4 : Hid (w4.heap.size = wq.heap.size + 1) := hid (by rw [hw4, World.size_alloc])
                              have q0 := hr4.cell (i := 0) rfl
                              have f0 := hr4.frozen 0
                              have q1 := hr4.cell (i := 1) rfl
                              have f1 := hr4.frozen 1
                              have q2 := hr4.cell (i := 2) rfl
                              have f2 := hr4.frozen 2
                              have HR4 := hid hr4
                              clear s0 s1 s2 t0 t1 t2 hr4 hb4 hw4
                              go_wp2_with fail
                              go_ret2
                              exact SSegs.none HNO.out HB4.out
                            · have k6b : ¬ ((4 : Int) < (a : Int)) := by omega
                              have HRS := hid (YES ⟨k1, by omega, by omega, by omega, by omega, by omega, by omega, by omega⟩)
                              clear YES NO
                              have S9 := fun W => sl_ab d ((a : Int) + 4) ((a : Int) + (n : Int)) (a + 4) (a + n) (by omega) (by omega) (by omega) (by omega) W
                              obtain ⟨p, hp⟩ : ∃ p, p = d.extract (a + 4) (a + n) := ⟨_, rfl⟩
                              rw [← hp] at S9 HRS
                              clear hp
                              go_upto_region 12 with fail
                              have hr4 : Row (wq.alloc (.cells #[.bool true, .bool false, .string ⟨#[]⟩] 55)) wq.heap.size 55 [.bool true, .bool false, .string ⟨#[]⟩] := Row.new wq _ _
                              have hb4 : Below wq.heap.size wq (wq.alloc (.cells #[.bool true, .bool false, .string ⟨#[]⟩] 55)) := (Below.refl _ _).alloc (Nat.le_refl _) _
                              obtain ⟨w4, hw4⟩ : ∃ q, q = (wq.alloc (.cells #[.bool true, .bool false, .string ⟨#[]⟩] 55)) := ⟨_, rfl⟩
                              rw [← hw4] at hr4 hb4 ⊢
                              have HB4 := hid (HBQ.out.trans (hb4.mono HBQ.out.size))
                              have HO4 := hid (HOQ.out.below hb4 (Nat.le_refl _))
                              have HW4 : Hid (w4.heap.size = wq.heap.size + 1) := hid (by rw [hw4, World.size_alloc])
                              have q0 := hr4.cell (i := 0) rfl
                              have f0 := hr4.frozen 0
                              have q1 := hr4.cell (i := 1) rfl
                              have f1 := hr4.frozen 1
                              have q2 := hr4.cell (i := 2) rfl
                              have f2 := hr4.frozen 2
                              have HR4 := hid hr4
                              clear s0 s1 s2 t0 t1 t2 hr4 hb4 hw4
                              go_upto_region 15 with fail
                              have hr5 := HR4.out.set 2 (.string p)
                              have hb5 : Below wq.heap.size w4 (w4.setCell ⟨wq.heap.size, 2, none⟩ (.string p)) := (Below.refl _ _).setCell (by exact Nat.le_refl _) _
                              have HB5 := hid (HB4.out.trans (hb5.mono HBQ.out.size))
                              have ho5 := HO4.out.upd (F := fun k => k = wq.heap.size) (Upds.set w4 ⟨wq.heap.size, 2, none⟩ (.string p) rfl) (fun k hk e => by have := SliceIs.lt HOQ.out k hk; omega)
                              obtain ⟨w5, hw5⟩ : ∃ q, q = (w4.setCell ⟨wq.heap.size, 2, none⟩ (.string p)) := ⟨_, rfl⟩
                              rw [← hw5] at hr5 hb5 HB5 ho5 ⊢
                              have HO5 := hid ho5
                              have g0 := hr5.cell (i := 0) rfl
                              have g1 := hr5.cell (i := 1) rfl
                              have g2 := hr5.cell (i := 2) rfl
                              clear q0 q1 q2 f0 f1 f2 hr5 hb5 ho5 hw5 HB4 HO4
                              go_wp2_with (at_builtin; refine wpList_append_slice rfl (.tmp 134) (.tmp 136) 27 rfl 55 (.agg #[.bool false, .bool false, .string ⟨#[]⟩]) 3 24 Try.underlying27 (by kernel_rfl) (by kernel_rfl) _ l.length (segCells l) rfl (SliceIs.alloc HO5.out _) ⟨w5.heap.size, 0, none⟩ 1 1 [.bool true, .bool false, .string p] rfl rfl (news3 _ _ _ _ _ _ rfl) (by simp [Value.oneCell']) (by omega) (by omega) (by omega) ?_; intro g8 cap8 w8 hs8 hu8 hh8)
                              go_roundw
                              case rel => exact ⟨a + n, l ++ [(⟨true, false, p⟩ : Seg)], _, rfl, by go_num, by omega, by omega, by simp; omega, by simp; omega, HRS.out, OwnSegs.more rfl rfl hs8.out, fun k hk => (hh8.out k hk).elim (HF.out k) (fun h => by have := HB5.out.size; simp at h; omega), (HB5.out.alloc HB5.out.size _).trans (hu8.out.below (by have := HB5.out.size; simp; omega) (fun k hk => HF.out k hk))⟩
                              case measure => simp [intOf]; omega
                    · have c3 : c = 3 := by omega
                      subst c3
                      by_cases e4 : n = 4
                      · have k4 : ((n : Int) == 4) = true := by simp; omega
                        have HNO := hid (NO (fun h => by obtain ⟨m1, m2, m3, m4, m5, m6, m7, m8⟩ := h; omega))
                        clear YES NO
                        go_upto_region 12 with fail
                        have hr4 : Row (wq.alloc (.cells #[.bool true, .bool true, .string ⟨#[]⟩] 55)) wq.heap.size 55 [.bool true, .bool true, .string ⟨#[]⟩] := Row.new wq _ _
                        have hb4 : Below wq.heap.size wq (wq.alloc (.cells #[.bool true, .bool true, .string ⟨#[]⟩] 55)) := (Below.refl _ _).alloc (Nat.le_refl _) _
                        obtain ⟨w4, hw4⟩ : ∃ q, q = (wq.alloc (.cells #[.bool true, .bool true, .string ⟨#[]⟩] 55)) := ⟨_, rfl⟩
                        rw [← hw4] at hr4 hb4 ⊢
                        have HB4 := hid (HBQ.out.trans (hb4.mono HBQ.out.size))
                        have HO4 := hid (HOQ.out.below hb4 (Nat.le_refl _))
                        have HW4 : Hid (w4.heap.size = wq.heap.size + 1) := hid (by rw [hw4, World.size_alloc])
                        have q0 := hr4.cell (i := 0) rfl
                        have f0 := hr4.frozen 0
                        have q1 := hr4.cell (i := 1) rfl
                        have f1 := hr4.frozen 1
                        have q2 := hr4.cell (i := 2) rfl
                        have f2 := hr4.frozen 2
                        have HR4 := hid hr4
                        clear s0 s1 s2 t0 t1 t2 hr4 hb4 hw4
                        go_wp2_with fail
                        go_ret2
                        exact SSegs.none HNO.out HB4.out
                      · have k4 : ((n : Int) == 4) = false := by simp; omega
                        by_cases k3 : 4 + x < n
                        · have k3b : (4 + (x : Int) < (n : Int)) := by omega
                          have HNO := hid (NO (fun h => by obtain ⟨m1, m2, m3, m4, m5, m6, m7, m8⟩ := h; omega))
                          clear YES NO
                          go_upto_region 12 with fail
                          have hr4 : Row (wq.alloc (.cells #[.bool true, .bool true, .string ⟨#[]⟩] 55)) wq.heap.size 55 [.bool true, .bool true, .string ⟨#[]⟩] := Row.new wq _ _
                          have hb4 : Below wq.heap.size wq (wq.alloc (.cells #[.bool true, .bool true, .string ⟨#[]⟩] 55)) := (Below.refl _ _).alloc (Nat.le_refl _) _
                          obtain ⟨w4, hw4⟩ : ∃ q, q = (wq.alloc (.cells #[.bool true, .bool true, .string ⟨#[]⟩] 55)) := ⟨_, rfl⟩
                          rw [← hw4] at hr4 hb4 ⊢
                          have HB4 := hid (HBQ.out.trans (hb4.mono HBQ.out.size))
                          have HO4 := hid (HOQ.out.below hb4 (Nat.le_refl _))
                          have HW4 : Hid (w4.heap.size = wq.heap.size + 1) := hid (by rw [hw4, World.size_alloc])
                          have q0 := hr4.cell (i := 0) rfl
                          have f0 := hr4.frozen 0
                          have q1 := hr4.cell (i := 1) rfl
                          have f1 := hr4.frozen 1
                          have q2 := hr4.cell (i := 2) rfl
                          have f2 := hr4.frozen 2
                          have HR4 := hid hr4
                          clear s0 s1 s2 t0 t1 t2 hr4 hb4 hw4
                          go_wp2_with fail
                          go_ret2
                          exact SSegs.none HNO.out HB4.out
                        · have k3b : ¬ (4 + (x : Int) < (n : Int)) := by omega
                          by_cases k5 : d.size < a + n
                          · have k5b : ((d.size : Int) < (a : Int) + (n : Int)) := by omega
                            have HNO := hid (NO (fun h => by obtain ⟨m1, m2, m3, m4, m5, m6, m7, m8⟩ := h; omega))
                            clear YES NO
                            go_upto_region 12 with fail
                            have hr4 : Row (wq.alloc (.cells #[.bool true, .bool true, .string ⟨#[]⟩] 55)) wq.heap.size 55 [.bool true, .bool true, .string ⟨#[]⟩] := Row.new wq _ _
                            have hb4 : Below wq.heap.size wq (wq.alloc (.cells #[.bool true, .bool true, .string ⟨#[]⟩] 55)) := (Below.refl _ _).alloc (Nat.le_refl _) _
                            obtain ⟨w4, hw4⟩ : ∃ q, q = (wq.alloc (.cells #[.bool true, .bool true, .string ⟨#[]⟩] 55)) := ⟨_, rfl⟩
                            rw [← hw4] at hr4 hb4 ⊢
                            have HB4 := hid (HBQ.out.trans (hb4.mono HBQ.out.size))
                            have HO4 := hid (HOQ.out.below hb4 (Nat.le_refl _))
                            have HW4 : Hid (w4.heap.size = wq.heap.size + 1) := hid (by rw [hw4, World.size_alloc])
                            have q0 := hr4.cell (i := 0) rfl
                            have f0 := hr4.frozen 0
                            have q1 := hr4.cell (i := 1) rfl
                            have f1 := hr4.frozen 1
                            have q2 := hr4.cell (i := 2) rfl
                            have f2 := hr4.frozen 2
                            have HR4 := hid hr4
                            clear s0 s1 s2 t0 t1 t2 hr4 hb4 hw4
                            go_wp2_with fail
                            go_ret2
                            exact SSegs.none HNO.out HB4.out
                          · have k5b : ¬ ((d.size : Int) < (a : Int) + (n : Int)) := by omega
                            by_cases k6 : 4 < a
                            · have k6b : ((4 : Int) < (a : Int)) := by omega
                              have HNO := hid (NO (fun h => by obtain ⟨m1, m2, m3, m4, m5, m6, m7, m8⟩ := h; omega))
                              clear YES NO
                              go_upto_region 12 with fail
                              have hr4 : Row (wq.alloc (.cells #[.bool true, .bool true, .string ⟨#[]⟩] 55)) wq.heap.size 55 [.bool true, .bool true, .string ⟨#[]⟩] := Row.new wq _ _
                              have hb4 : Below wq.heap.size wq (wq.alloc (.cells #[.bool true, .bool true, .string ⟨#[]⟩] 55)) := (Below.refl _ _).alloc (Nat.le_refl _) _
                              obtain ⟨w4, hw4⟩ : ∃ q, q = (wq.alloc (.cells #[.bool true, .bool true, .string ⟨#[]⟩] 55)) := ⟨_, rfl⟩
                              rw [← hw4] at hr4 hb4 ⊢
                              have HB4 := hid (HBQ.out.trans (hb4.mono HBQ.out.size))
                              have HO4 := hid (HOQ.out.below hb4 (Nat.le_refl _))
                              have HW4 : Hid (w4.heap.size = wq.heap.size + 1) := hid (by rw [hw4, World.size_alloc])
                              have q0 := hr4.cell (i := 0) rfl
                              have f0 := hr4.frozen 0
                              have q1 := hr4.cell (i := 1) rfl
                              have f1 := hr4.frozen 1
                              have q2 := hr4.cell (i := 2) rfl
                              have f2 := hr4.frozen 2
                              have HR4 := hid hr4
                              clear s0 s1 s2 t0 t1 t2 hr4 hb4 hw4
                              go_wp2_with fail
                              go_ret2
                              exact SSegs.none HNO.out HB4.out
                            · have k6b : ¬ ((4 : Int) < (a : Int)) := by omega
                              by_cases k7 : a + n < d.size
                              · have k7b : ((a : Int) + (n : Int) < (d.size : Int)) := by omega
                                have HNO := hid (NO (fun h => by obtain ⟨m1, m2, m3, m4, m5, m6, m7, m8⟩ := h; have := (m8 rfl).1; omega))
                                clear YES NO
                                go_upto_region 12 with fail
                                have hr4 : Row (wq.alloc (.cells #[.bool true, .bool true, .string ⟨#[]⟩] 55)) wq.heap.size 55 [.bool true, .bool true, .string ⟨#[]⟩] := Row.new wq _ _
                                have hb4 : Below wq.heap.size wq (wq.alloc (.cells #[.bool true, .bool true, .string ⟨#[]⟩] 55)) := (Below.refl _ _).alloc (Nat.le_refl _) _
                                obtain ⟨w4, hw4⟩ : ∃ q, q = (wq.alloc (.cells #[.bool true, .bool true, .string ⟨#[]⟩] 55)) := ⟨_, rfl⟩
                                rw [← hw4] at hr4 hb4 ⊢
                                have HB4 := hid (HBQ.out.trans (hb4.mono HBQ.out.size))
                                have HO4 := hid (HOQ.out.below hb4 (Nat.le_refl _))
                                have HW4 : Hid (w4.heap.size = wq.heap.size + 1) := hid (by rw [hw4, World.size_alloc])
                                have q0 := hr4.cell (i := 0) rfl
                                have f0 := hr4.frozen 0
                                have q1 := hr4.cell (i := 1) rfl
                                have f1 := hr4.frozen 1
                                have q2 := hr4.cell (i := 2) rfl
                                have f2 := hr4.frozen 2
                                have HR4 := hid hr4
                                clear s0 s1 s2 t0 t1 t2 hr4 hb4 hw4
                                go_wp2_with fail
                                go_ret2
                                exact SSegs.none HNO.out HB4.out
                              · have k7b : ¬ ((a : Int) + (n : Int) < (d.size : Int)) := by omega
                                by_cases k8 : d.size < b
                                · have k8b : decide (d.size < b) = true := decide_eq_true k8
                                  have HNO := hid (NO (fun h => by obtain ⟨m1, m2, m3, m4, m5, m6, m7, m8⟩ := h; have := HFULL.out.1 (m8 rfl).2; omega))
                                  clear YES NO
                                  go_upto_region 12 with fail
                                  have hr4 : Row (wq.alloc (.cells #[.bool true, .bool true, .string ⟨#[]⟩] 55)) wq.heap.size 55 [.bool true, .bool true, .string ⟨#[]⟩] := Row.new wq _ _
                                  have hb4 : Below wq.heap.size wq (wq.alloc (.cells #[.bool true, .bool true, .string ⟨#[]⟩] 55)) := (Below.refl _ _).alloc (Nat.le_refl _) _
                                  obtain ⟨w4, hw4⟩ : ∃ q, q = (wq.alloc (.cells #[.bool true, .bool true, .string ⟨#[]⟩] 55)) := ⟨_, rfl⟩
                                  rw [← hw4] at hr4 hb4 ⊢
                                  have HB4 := hid (HBQ.out.trans (hb4.mono HBQ.out.size))
                                  have HO4 := hid (HOQ.out.below hb4 (Nat.le_refl _))
                                  have HW4 : Hid (w4.heap.size = wq.heap.size + 1) := hid (by rw [hw4, World.size_alloc])
                                  have q0 := hr4.cell (i := 0) rfl
                                  have f0 := hr4.frozen 0
                                  have q1 := hr4.cell (i := 1) rfl
                                  have f1 := hr4.frozen 1
                                  have q2 := hr4.cell (i := 2) rfl
                                  have f2 := hr4.frozen 2
                                  have HR4 := hid hr4
                                  clear s0 s1 s2 t0 t1 t2 hr4 hb4 hw4
                                  go_wp2_with fail
                                  go_ret2
                                  exact SSegs.none HNO.out HB4.out
                                · have k8b : decide (d.size < b) = false := decide_eq_false k8
                                  have HRS := hid (YES ⟨k1, by omega, by omega, by omega, by omega, by omega, by omega, fun _ => ⟨by omega, HFULL.out.2 (by omega)⟩⟩)
                                  clear YES NO
                                  have S9 := fun W => sl_ab d ((a : Int) + 4) ((a : Int) + (n : Int)) (a + 4) (a + n) (by omega) (by omega) (by omega) (by omega) W
                                  obtain ⟨p, hp⟩ : ∃ p, p = d.extract (a + 4) (a + n) := ⟨_, rfl⟩
                                  rw [← hp] at S9 HRS
                                  clear hp
                                  go_upto_region 12 with fail
                                  have hr4 : Row (wq.alloc (.cells #[.bool true, .bool true, .string ⟨#[]⟩] 55)) wq.heap.size 55 [.bool true, .bool true, .string ⟨#[]⟩] := Row.new wq _ _
                                  have hb4 : Below wq.heap.size wq (wq.alloc (.cells #[.bool true, .bool true, .string ⟨#[]⟩] 55)) := (Below.refl _ _).alloc (Nat.le_refl _) _
                                  obtain ⟨w4, hw4⟩ : ∃ q, q = (wq.alloc (.cells #[.bool true, .bool true, .string ⟨#[]⟩] 55)) := ⟨_, rfl⟩
                                  rw [← hw4] at hr4 hb4 ⊢
                                  have HB4 := hid (HBQ.out.trans (hb4.mono HBQ.out.size))
                                  have HO4 := hid (HOQ.out.below hb4 (Nat.le_refl _))
                                  have HW4 : Hid (w4.heap.size = wq.heap.size + 1) := hid (by rw [hw4, World.size_alloc])
                                  have q0 := hr4.cell (i := 0) rfl
                                  have f0 := hr4.frozen 0
                                  have q1 := hr4.cell (i := 1) rfl
                                  have f1 := hr4.frozen 1
                                  have q2 := hr4.cell (i := 2) rfl
                                  have f2 := hr4.frozen 2
                                  have HR4 := hid hr4
                                  clear s0 s1 s2 t0 t1 t2 hr4 hb4 hw4
                                  go_upto_region 15 with fail
                                  have hr5 := HR4.out.set 2 (.string p)
                                  have hb5 : Below wq.heap.size w4 (w4.setCell ⟨wq.heap.size, 2, none⟩ (.string p)) := (Below.refl _ _).setCell (by exact Nat.le_refl _) _
                                  have HB5 := hid (HB4.out.trans (hb5.mono HBQ.out.size))
                                  have ho5 := HO4.out.upd (F := fun k => k = wq.heap.size) (Upds.set w4 ⟨wq.heap.size, 2, none⟩ (.string p) rfl) (fun k hk e => by have := SliceIs.lt HOQ.out k hk; omega)
                                  obtain ⟨w5, hw5⟩ : ∃ q, q = (w4.setCell ⟨wq.heap.size, 2, none⟩ (.string p)) := ⟨_, rfl⟩
                                  rw [← hw5] at hr5 hb5 HB5 ho5 ⊢
                                  have HO5 := hid ho5
                                  have g0 := hr5.cell (i := 0) rfl
                                  have g1 := hr5.cell (i := 1) rfl
                                  have g2 := hr5.cell (i := 2) rfl
                                  clear q0 q1 q2 f0 f1 f2 hr5 hb5 ho5 hw5 HB4 HO4
                                  go_wp2_with (at_builtin; refine wpList_append_slice rfl (.tmp 134) (.tmp 136) 27 rfl 55 (.agg #[.bool false, .bool false, .string ⟨#[]⟩]) 3 24 Try.underlying27 (by kernel_rfl) (by kernel_rfl) _ l.length (segCells l) rfl (SliceIs.alloc HO5.out _) ⟨w5.heap.size, 0, none⟩ 1 1 [.bool true, .bool true, .string p] rfl rfl (news3 _ _ _ _ _ _ rfl) (by simp [Value.oneCell']) (by omega) (by omega) (by omega) ?_; intro g8 cap8 w8 hs8 hu8 hh8)
                                  go_roundw
                                  case rel => exact ⟨a + n, l ++ [(⟨true, true, p⟩ : Seg)], _, rfl, by go_num, by omega, by omega, by simp; omega, by simp; omega, HRS.out, OwnSegs.more rfl rfl hs8.out, fun k hk => (hh8.out k hk).elim (HF.out k) (fun h => by have := HB5.out.size; simp at h; omega), (HB5.out.alloc HB5.out.size _).trans (hu8.out.below (by have := HB5.out.size; simp; omega) (fun k hk => HF.out k hk))⟩
                                  case measure => simp [intOf]; omega
            · have k1b : ((D : Int) != 0) = true := by simp; omega
              have HNO := hid (NO (fun h => by obtain ⟨m1, m2, m3, m4, m5, m6, m7, m8⟩ := h; omega))
              clear YES NO
              go_wp2_with fail
              go_ret2
              exact SSegs.none HNO.out (HBQ.out.alloc HBQ.out.size _)
    · obtain rfl : a = d.size := by omega
      have hsm : res = some l := by rw [← hrd, rd_nil _ _ _ _ (by omega)]; simp
      have HSM := hid hsm
      clear hrd ho hfr hb hsm hfi hys
      go_wp2_with fail
      go_ret2
      exact SSegs.some HSM.out HO.out HF.out HB.out
end Go.Proofs.Ytklbckonlbpbgab
