/- Statement SpaceSingle: A consolidated data set has a single run of free tracks of its size, none of them its own; the free tracks are not worse afterwards, if its own become free. For all lists of at most 30 runs each, which is the statement's own bound. -/
import Derived.Test.YtimeebajpegknaaRows
import Derived.WalkKit
import Derived.ProofKit
import Derived.OpenShut
import Derived.ShutString
import Derived.ChangeOld
import Derived.Below
import Derived.Test.YtimeebajpegknaaSpC
import Derived.Test.YtimeebajpegknaaSpX
import Derived.Test.YtimeebajpegknaaSpAw
import Derived.Laws.StructEq
import Derived.Deep.DeepCutAuto
import Derived.Test.YtimeebajpegknaaSlices
import Derived.Test.YtimeebajpegknaaOpen
namespace Go.Proofs.Ytimeebajpegknaa
open Go.Lib Go.ChangeShapes Go.WideShapes Go.ChangeAt Go.RowKit
open Go.ChangeMaps (open_string shut_string)
set_option linter.unusedVariables false
set_option maxRecDepth 100000 in
theorem long_SpaceSingle (extents : List (Int × Int)) (Aextents : Option Addr) (capextents : Nat) (free : List (Int × Int)) (Afree : Option Addr) (capfree : Nat) {w : World} (hcextents : extents.length ≤ capextents) (hdextents : capextents ≤ 9223372036854775807) (hrextents : RunsAt w (.slice Aextents extents.length capextents) extents) (hcfree : free.length ≤ capfree) (hdfree : capfree ≤ 9223372036854775807) (hrfree : RunsAt w (.slice Afree free.length capfree) free) (hlong : ¬ (extents.length ≤ 30 ∧ free.length ≤ 30)) :
    Calls Try.prog 17 #[.slice Aextents extents.length capextents, .slice Afree free.length capfree] w (Answers true w) := by
  clear hrextents
  clear hrfree
  by_cases h1 : extents.length ≤ 30
  · have h2 : ¬ free.length ≤ 30 := fun h => hlong ⟨h1, h⟩
    clear hlong
    go_enter Try.func17, Try.ntmps17
    go_wp2_with fail
    refine (awake6_any _).mono ?_
    rintro e w1 ⟨rfl, hb⟩
    have B1 := hid (hb)
    clear hb
    go_wp2_with fail
    refine (awake6_any _).mono ?_
    rintro e w2 ⟨rfl, hb⟩
    have B2 := hid (B1.out.trans (hb.mono B1.out.size))
    clear hb
    go_wp2_with fail
    go_ret
    exact ⟨rfl, B2.out⟩
  · clear hlong
    go_enter Try.func17, Try.ntmps17
    go_wp2_with fail
    refine (awake6_any _).mono ?_
    rintro e w1 ⟨rfl, hb⟩
    have B1 := hid (hb)
    clear hb
    go_wp2_with fail
    refine (awake6_any _).mono ?_
    rintro e w2 ⟨rfl, hb⟩
    have B2 := hid (B1.out.trans (hb.mono B1.out.size))
    clear hb
    go_wp2_with fail
    go_ret
    exact ⟨rfl, B2.out⟩
set_option maxRecDepth 100000 in
set_option maxHeartbeats 8000000 in
theorem short_SpaceSingle (extents : List (Int × Int)) (Aextents : Option Addr) (capextents : Nat) (free : List (Int × Int)) (Afree : Option Addr) (capfree : Nat) {w : World} (hcextents : extents.length ≤ capextents) (hdextents : capextents ≤ 9223372036854775807) (hrextents : RunsAt w (.slice Aextents extents.length capextents) extents) (hcfree : free.length ≤ capfree) (hdfree : capfree ≤ 9223372036854775807) (hrfree : RunsAt w (.slice Afree free.length capfree) free) (hsextents : extents.length ≤ 30) (hsfree : free.length ≤ 30) :
    Calls Try.prog 17 #[.slice Aextents extents.length capextents, .slice Afree free.length capfree] w (Answers true w) := by
  have Hextents := hid hrextents
  have Kextents : Hid (extents.length ≤ 4000) := by show _ ≤ _; omega
  clear hrextents
  have Hfree := hid hrfree
  have Kfree : Hid (free.length ≤ 4000) := by show _ ≤ _; omega
  clear hrfree
  have hcf := con_false extents free
  have hct := con_true extents free
  obtain ⟨⟨⟨x, y⟩, ok⟩, hC⟩ : ∃ C, C = ConAns extents free := ⟨_, rfl⟩
  rw [← hC] at hcf hct
  simp only at hcf hct
  have HCF := hid hcf
  have HCT := hid hct
  have HC := hid hC
  clear hC hcf hct
  go_enter Try.func17, Try.ntmps17
  go_wp2_with fail
  refine (awake6_any _).mono ?_
  rintro e w1 ⟨rfl, hb⟩
  replace Hextents := hid (Hextents.out.below hb (Nat.le_refl _))
  replace Hfree := hid (Hfree.out.below hb (Nat.le_refl _))
  have B1 := hid (hb)
  clear hb
  go_wp2_with fail
  refine (consolidate_any _ _ extents free Kextents.out Kfree.out _ Hextents.out Hfree.out).mono ?_
  rintro e w2 ⟨rfl, hb⟩
  rw [← HC.out]
  replace Hextents := hid (Hextents.out.below hb (Nat.le_refl _))
  replace Hfree := hid (Hfree.out.below hb (Nat.le_refl _))
  have B2 := hid (B1.out.trans (hb.mono B1.out.size))
  clear hb
  go_upto_region 4 with fail
  obtain ⟨w3, hw3⟩ : ∃ q, q = w2.alloc (.cells #[.int .i64 x, .int .i64 y] 47) := ⟨_, rfl⟩
  obtain ⟨bx, hbx⟩ : ∃ q, q = w2.heap.size := ⟨_, rfl⟩
  have hr : Row w3 bx 47 [.int .i64 x, .int .i64 y] := by rw [hw3, hbx]; exact Row.new _ _ _
  have hb : Below w2.heap.size w2 w3 := by rw [hw3]; exact (Below.refl _ _).alloc (Nat.le_refl _) _
  replace Hextents := hid (Hextents.out.below hb (Nat.le_refl _))
  replace Hfree := hid (Hfree.out.below hb (Nat.le_refl _))
  have B3 := hid (B2.out.trans (hb.mono B2.out.size))
  rw [← hw3, ← hbx]
  have Rbx := hid hr
  clear hr hb hw3 hbx
  cases ok
  · have h0 := HCF.out rfl
    simp only [Prod.mk.injEq] at h0
    obtain ⟨rfl, rfl⟩ := h0
    have bx0 := Rbx.out.cell (i := 0) rfl
    have bx1 := Rbx.out.cell (i := 1) rfl
    go_wp2_with fail
    go_ret
    exact ⟨rfl, B3.out⟩
  · have hS := HCT.out rfl
    have hsz := hS.size
    have hmi := hS.minus
    have hco := hS.common
    have hss := hS.sizes
    have htwo := hS.two
    obtain ⟨hx0, hx1, hy0, hy1⟩ := hS.bd
    obtain ⟨z, hzz⟩ : ∃ z, z = (seqI extents).length := ⟨_, rfl⟩
    rw [← hzz] at hsz
    obtain ⟨J, hJ⟩ : ∃ J, J = joinI extents := ⟨_, rfl⟩
    rw [← hJ] at htwo
    obtain ⟨jl, hjl⟩ : ∃ jl, jl = J.length := ⟨_, rfl⟩
    rw [← hjl] at htwo
    have hyz : (y != (z : Int)) = false := by rw [hsz]; simp
    have hj2 : decide ((jl : Int) < 2) = false := by simp; omega
    have HMI := hid hmi
    have HCO := hid hco
    have HSS := hid hss
    have HZZ := hid hzz
    have HJ := hid hJ
    have HJJ := hid hjl
    have HXY : Hid ((-9223372036854775808 ≤ x ∧ x ≤ 9223372036854775807) ∧ (-9223372036854775808 ≤ y ∧ y ≤ 9223372036854775807)) := hid (by omega)
    have bx0 := Rbx.out.cell (i := 0) rfl
    have bx1 := Rbx.out.cell (i := 1) rfl
    have bxl := Rbx.out.lt
    have hbd : Below w3.heap.size w3 w3.drew := (Upds.drew (F := fun _ => False) w3).below (Nat.le_refl _) (fun _ h => h.elim)
    have HE0 := hid (Hextents.out.below hbd (Nat.le_refl _))
    have HF0 := hid (Hfree.out.below hbd (Nat.le_refl _))
    have R0 := hid (Rbx.out.keep hbd)
    have BB0 := hid (B3.out.trans (hbd.mono B3.out.size))
    clear hS hsz hmi hco hss htwo hzz hJ hjl hbd hx0 hx1
    go_upto_region 6 with fail
    go_cut [58] (fun s58 wx => ∃ wq, wq = wx ∧ s58 = .bool false ∧ RunsAt wx (.slice Aextents extents.length capextents) extents ∧ RunsAt wx (.slice Afree free.length capfree) free ∧ Row wx bx 47 [.int .i64 x, .int .i64 y] ∧ Below w.heap.size w wx)
    case first =>
      go_region_law (first
        | (go_simp; go_at_call 33; refine (size_any _ extents Kextents.out w3.drew HE0.out).mono ?_; rintro e y1 ⟨rfl, hb⟩; rw [← HZZ.out]; have HE1 := hid (HE0.out.below hb (Nat.le_refl _)); have HF1 := hid (HF0.out.below hb (Nat.le_refl _)); have R1 := hid (R0.out.keep hb); have BB1 := hid (BB0.out.trans (hb.mono BB0.out.size)); have c1a := R1.out.cell (i := 0) rfl; have c1b := R1.out.cell (i := 1) rfl; have c1l := R1.out.lt; obtain ⟨y2, hy2⟩ : ∃ q, q = y1.alloc (.cells #[.int .i64 x, .int .i64 y] 47) := ⟨_, rfl⟩; obtain ⟨e2, he2⟩ : ∃ q, q = y1.heap.size := ⟨_, rfl⟩; have hb2 : Below y1.heap.size y1 y2 := (by rw [hy2]; exact (Below.refl _ _).alloc (Nat.le_refl _) _); have HE2 := hid (HE1.out.below hb2 (Nat.le_refl _)); have HF2 := hid (HF1.out.below hb2 (Nat.le_refl _)); have R2 := hid (R1.out.keep hb2); have BB2 := hid (BB1.out.trans (hb2.mono BB1.out.size)); have P2 : Hid (RunsAt y2 (.slice (some ⟨e2, 0, none⟩) 1 1) [(x, y)]) := (by show RunsAt _ _ _; rw [hy2, he2]; exact nx_at y1 x y HXY.out.1 HXY.out.2); have HY2 := hid hy2; have HQ2 := hid he2; clear hy2 he2 hb2; clear hb; dsimp only)
        | (rw [← HY2.out, ← HQ2.out]; go_simp; go_at_call 26; refine (minus_any _ _ [(x, y)] free (by simp) Kfree.out y2 P2.out HF2.out).mono ?_; rintro e y3 ⟨vm, rfl, a1, a2, hb⟩; rw [HMI.out] at a1; obtain ⟨Am, cm, e0⟩ := OwnRuns.shape a1; simp only [List.length_nil] at e0; subst e0; have HE3 := hid (HE2.out.below hb (Nat.le_refl _)); have HF3 := hid (HF2.out.below hb (Nat.le_refl _)); have R3 := hid (R2.out.keep hb); have BB3 := hid (BB2.out.trans (hb.mono BB2.out.size)); have c3a := R3.out.cell (i := 0) rfl; have c3b := R3.out.cell (i := 1) rfl; have c3l := R3.out.lt; obtain ⟨y4, hy4⟩ : ∃ q, q = y3.alloc (.cells #[.int .i64 x, .int .i64 y] 47) := ⟨_, rfl⟩; obtain ⟨e4, he4⟩ : ∃ q, q = y3.heap.size := ⟨_, rfl⟩; have hb4 : Below y3.heap.size y3 y4 := (by rw [hy4]; exact (Below.refl _ _).alloc (Nat.le_refl _) _); have HE4 := hid (HE3.out.below hb4 (Nat.le_refl _)); have HF4 := hid (HF3.out.below hb4 (Nat.le_refl _)); have R4 := hid (R3.out.keep hb4); have BB4 := hid (BB3.out.trans (hb4.mono BB3.out.size)); have P4 : Hid (RunsAt y4 (.slice (some ⟨e4, 0, none⟩) 1 1) [(x, y)]) := (by show RunsAt _ _ _; rw [hy4, he4]; exact nx_at y3 x y HXY.out.1 HXY.out.2); have HY4 := hid hy4; have HQ4 := hid he4; clear hy4 he4 hb4; clear hb a1 a2; dsimp only)
        | (rw [← HY4.out, ← HQ4.out]; go_simp; go_at_call 25; refine (common_any _ _ [(x, y)] extents (by simp) Kextents.out y4 P4.out HE4.out).mono ?_; rintro e y5 ⟨vc, rfl, a1, a2, hb⟩; rw [HCO.out] at a1; obtain ⟨Ac, cc, e0⟩ := OwnRuns.shape a1; simp only [List.length_nil] at e0; subst e0; have HE5 := hid (HE4.out.below hb (Nat.le_refl _)); have HF5 := hid (HF4.out.below hb (Nat.le_refl _)); have R5 := hid (R4.out.keep hb); have BB5 := hid (BB4.out.trans (hb.mono BB4.out.size)); have c5a := R5.out.cell (i := 0) rfl; have c5b := R5.out.cell (i := 1) rfl; have c5l := R5.out.lt; clear hb a1 a2; dsimp only)
        | (go_simp; go_at_call 39; refine (join_any _ extents Kextents.out y5 HE5.out).mono ?_; rintro e y6 ⟨vj, rfl, a1, a2, hb⟩; rw [show up (canon (seqI extents)) = J from HJ.out.symm] at a1; obtain ⟨Aj, cj, e0⟩ := OwnRuns.shape a1; rw [← HJJ.out] at e0; subst e0; have HE6 := hid (HE5.out.below hb (Nat.le_refl _)); have HF6 := hid (HF5.out.below hb (Nat.le_refl _)); have R6 := hid (R5.out.keep hb); have BB6 := hid (BB5.out.trans (hb.mono BB5.out.size)); have c6a := R6.out.cell (i := 0) rfl; have c6b := R6.out.cell (i := 1) rfl; have c6l := R6.out.lt; clear hb a1 a2; dsimp only))
      all_goals
        go_wp2_with fail
        go_meet
        exact ⟨_, rfl, rfl, HE6.out, HF6.out, R6.out, BB6.out⟩
    case rest =>
      obtain ⟨y6, rfl, rfl, k1, k2, k3, k4⟩ := hcut
      have HE6 := hid k1
      have HF6 := hid k2
      have R6 := hid k3
      have BB6 := hid k4
      have c6a := R6.out.cell (i := 0) rfl
      have c6b := R6.out.cell (i := 1) rfl
      have c6l := R6.out.lt
      clear k1 k2 k3 k4
      go_wp2_with fail
      refine (disjoint_any _ extents Kextents.out y6 HE6.out).mono ?_
      rintro e y7 ⟨rfl, hb⟩
      obtain ⟨dj, hdj⟩ : ∃ d, d = decide ((seqI extents).length = (ofB (inB extents)).length) := ⟨_, rfl⟩
      rw [← hdj]
      clear hdj
      have HE7 := hid (HE6.out.below hb (Nat.le_refl _))
      have HF7 := hid (HF6.out.below hb (Nat.le_refl _))
      have R7 := hid (R6.out.keep hb)
      have BB7 := hid (BB6.out.trans (hb.mono BB6.out.size))
      have c7a := R7.out.cell (i := 0) rfl
      have c7b := R7.out.cell (i := 1) rfl
      have c7l := R7.out.lt
      clear hb
      cases dj
      · go_wp2_with fail
        go_ret
        exact ⟨rfl, BB7.out⟩
      · obtain ⟨U, hU⟩ : ∃ U, U = (norm fun t => inB free t || inB extents t) := ⟨_, rfl⟩
        have hss2 := HSS.out
        rw [← hU] at hss2
        obtain ⟨L, hL⟩ : ∃ L, L = (norm fun t => inB U t && !inB [(x, y)] t) := ⟨_, rfl⟩
        rw [← hL] at hss2
        have hUb : Bd U := (by rw [hU]; exact norm_bd _)
        have hUl : U.length ≤ 4000 := (by rw [hU]; exact norm_len _)
        have hLb : Bd L := (by rw [hL]; exact norm_bd _)
        have hLl : L.length ≤ 4000 := (by rw [hL]; exact norm_len _)
        have hs3 : (seqI U).length ≤ 128 := (by rw [hU, norm_seq]; exact ofB_len _)
        obtain ⟨s1, hs1⟩ : ∃ q, q = (seqI L).length := ⟨_, rfl⟩
        obtain ⟨s2, hs2⟩ : ∃ q, q = (seqI U).length := ⟨_, rfl⟩
        rw [← hs1, ← hs2] at hss2
        rw [← hs2] at hs3
        have hwr : wrap64 ((s2 : Int) - y) = (s1 : Int) := (by rw [← hss2]; unfold wrap64; omega)
        have hwr2 : IntKind.i64.wrap ((s2 : Int) - y) = (s1 : Int) := (by rw [IntWalk.i64_in _ (by omega)]; omega)
        have HWR2 := hid hwr2
        clear hwr2
        have hwe : ((s1 : Int) == (s2 : Int) - y) = true := (by rw [← hss2]; simp)
        have HWE := hid hwe
        clear hwe
        have HUB := hid hUb
        have HUL := hid hUl
        have HLB := hid hLb
        have HLL := hid hLl
        have HU := hid hU
        have HL := hid hL
        have HS1 := hid hs1
        have HS2 := hid hs2
        have HSE := hid hss2
        clear hUb hUl hLb hLl hU hL hs1 hs2 hss2
        have hb : Below y7.heap.size y7 y7.drew := (Upds.drew (F := fun _ => False) y7).below (Nat.le_refl _) (fun _ h => h.elim)
        have HE8 := hid (HE7.out.below hb (Nat.le_refl _))
        have HF8 := hid (HF7.out.below hb (Nat.le_refl _))
        have R8 := hid (R7.out.keep hb)
        have BB8 := hid (BB7.out.trans (hb.mono BB7.out.size))
        have c8a := R8.out.cell (i := 0) rfl
        have c8b := R8.out.cell (i := 1) rfl
        have c8l := R8.out.lt
        clear hb
        obtain ⟨y11, hy11⟩ : ∃ q, q = y7.drew.alloc (.cells #[.int .i64 x, .int .i64 y] 47) := ⟨_, rfl⟩
        obtain ⟨e11, he11⟩ : ∃ q, q = y7.drew.heap.size := ⟨_, rfl⟩
        have hb : Below y7.drew.heap.size y7.drew y11 := (by rw [hy11]; exact (Below.refl _ _).alloc (Nat.le_refl _) _)
        have HE11 := hid (HE8.out.below hb (Nat.le_refl _))
        have HF11 := hid (HF8.out.below hb (Nat.le_refl _))
        have R11 := hid (R8.out.keep hb)
        have BB11 := hid (BB8.out.trans (hb.mono BB8.out.size))
        have c11a := R11.out.cell (i := 0) rfl
        have c11b := R11.out.cell (i := 1) rfl
        have c11l := R11.out.lt
        have P11 : Hid (RunsAt y11 (.slice (some ⟨e11, 0, none⟩) 1 1) [(x, y)]) := (by show RunsAt _ _ _; rw [hy11, he11]; exact nx_at _ x y HXY.out.1 HXY.out.2)
        have HY11 := hid hy11
        have HQ11 := hid he11
        clear hy11 he11 hb
        have HZ11 : Hid (y11 = (y7.alloc (.cells #[.int .i64 x, .int .i64 y] 47)).drew) := hid (by rw [HY11.out]; rfl)
        have HV11 : Hid (e11 = y7.heap.size) := hid (by rw [HQ11.out]; rfl)
        go_upto_region 10 with fail
        go_cut [7] (fun s7 wx => ∃ wz, wz = wx ∧ RunsAt wx s7 L ∧ Row wx bx 47 [.int .i64 x, .int .i64 y] ∧ RunsAt wx (.slice Aextents extents.length capextents) extents ∧ RunsAt wx (.slice Afree free.length capfree) free ∧ Below w.heap.size w wx)
        case first =>
          go_region_law (first
            | (go_simp; go_at_call 26; refine (minus_any _ _ U [(x, y)] HUL.out (by simp) y12 HU12.out P12.out).mono ?_; rintro e y13 ⟨vl, rfl, a1, a2, hb⟩; rw [HL.out.symm] at a1; have HL13 := hid (OwnRuns.at a1 HLB.out); have HE13 := hid (HE12.out.below hb (Nat.le_refl _)); have HF13 := hid (HF12.out.below hb (Nat.le_refl _)); have R13 := hid (R12.out.keep hb); have BB13 := hid (BB12.out.trans (hb.mono BB12.out.size)); have c13a := R13.out.cell (i := 0) rfl; have c13b := R13.out.cell (i := 1) rfl; have c13l := R13.out.lt; clear hb a1 a2; dsimp only)
            | (rw [← HY10.out, ← HQ10.out]; go_simp; go_at_call 26; refine (minus_any _ _ U [(x, y)] HUL.out (by simp) y10 HU10.out P10.out).mono ?_; rintro e y13 ⟨vl, rfl, a1, a2, hb⟩; rw [HL.out.symm] at a1; have HL13 := hid (OwnRuns.at a1 HLB.out); have HE13 := hid (HE10.out.below hb (Nat.le_refl _)); have HF13 := hid (HF10.out.below hb (Nat.le_refl _)); have R13 := hid (R10.out.keep hb); have BB13 := hid (BB10.out.trans (hb.mono BB10.out.size)); have c13a := R13.out.cell (i := 0) rfl; have c13b := R13.out.cell (i := 1) rfl; have c13l := R13.out.lt; clear hb a1 a2; dsimp only)
            | (go_simp; go_at_call 23; refine (union_any _ _ free extents Kfree.out Kextents.out y7.drew HF8.out HE8.out).mono ?_; rintro e y9 ⟨vu9, rfl, a1, a2, hb⟩; rw [HU.out.symm] at a1; have HU9 := hid (OwnRuns.at a1 HUB.out); have HE9 := hid (HE8.out.below hb (Nat.le_refl _)); have HF9 := hid (HF8.out.below hb (Nat.le_refl _)); have R9 := hid (R8.out.keep hb); have BB9 := hid (BB8.out.trans (hb.mono BB8.out.size)); have c9a := R9.out.cell (i := 0) rfl; have c9b := R9.out.cell (i := 1) rfl; have c9l := R9.out.lt; clear hb; obtain ⟨y10, hy10⟩ : ∃ q, q = y9.alloc (.cells #[.int .i64 x, .int .i64 y] 47) := ⟨_, rfl⟩; obtain ⟨e10, he10⟩ : ∃ q, q = y9.heap.size := ⟨_, rfl⟩; have hb : Below y9.heap.size y9 y10 := (by rw [hy10]; exact (Below.refl _ _).alloc (Nat.le_refl _) _); have HE10 := hid (HE9.out.below hb (Nat.le_refl _)); have HF10 := hid (HF9.out.below hb (Nat.le_refl _)); have R10 := hid (R9.out.keep hb); have BB10 := hid (BB9.out.trans (hb.mono BB9.out.size)); have c10a := R10.out.cell (i := 0) rfl; have c10b := R10.out.cell (i := 1) rfl; have c10l := R10.out.lt; have HU10 := hid (HU9.out.below hb (Nat.le_refl _)); have P10 : Hid (RunsAt y10 (.slice (some ⟨e10, 0, none⟩) 1 1) [(x, y)]) := (by show RunsAt _ _ _; rw [hy10, he10]; exact nx_at _ x y HXY.out.1 HXY.out.2); have HY10 := hid hy10; have HQ10 := hid he10; clear hy10 he10 hb; clear a1 a2; dsimp only)
            | ((first | rw [← HY11.out, ← HQ11.out] | rw [← HZ11.out, ← HV11.out]); go_simp; go_at_call 23; refine (union_any _ _ free extents Kfree.out Kextents.out y11 HF11.out HE11.out).mono ?_; rintro e y12 ⟨vu12, rfl, a1, a2, hb⟩; rw [HU.out.symm] at a1; have HU12 := hid (OwnRuns.at a1 HUB.out); have HE12 := hid (HE11.out.below hb (Nat.le_refl _)); have HF12 := hid (HF11.out.below hb (Nat.le_refl _)); have R12 := hid (R11.out.keep hb); have BB12 := hid (BB11.out.trans (hb.mono BB11.out.size)); have c12a := R12.out.cell (i := 0) rfl; have c12b := R12.out.cell (i := 1) rfl; have c12l := R12.out.lt; have P12 := hid (P11.out.below hb (Nat.le_refl _)); clear hb; clear a1 a2; dsimp only))
          all_goals
            go_wp2_with fail
            go_meet
            exact ⟨_, rfl, HL13.out, R13.out, HE13.out, HF13.out, BB13.out⟩
        case rest =>
          obtain ⟨wz, rfl, k1, k2, k3, k4, k5⟩ := hcut
          have HL13 := hid k1
          have R13 := hid k2
          have HE13 := hid k3
          have HF13 := hid k4
          have BB13 := hid k5
          clear k1 k2 k3 k4 k5
          have hb : Below wz.heap.size wz wz.drew := (Upds.drew (F := fun _ => False) wz).below (Nat.le_refl _) (fun _ h => h.elim)
          have HE14 := hid (HE13.out.below hb (Nat.le_refl _))
          have HF14 := hid (HF13.out.below hb (Nat.le_refl _))
          have R14 := hid (R13.out.keep hb)
          have BB14 := hid (BB13.out.trans (hb.mono BB13.out.size))
          have c14a := R14.out.cell (i := 0) rfl
          have c14b := R14.out.cell (i := 1) rfl
          have c14l := R14.out.lt
          have HL14 := hid (HL13.out.below hb (Nat.le_refl _))
          clear hb
          clear c6a c6b c6l c7a c7b c7l c8a c8b c8l c11a c11b c11l bx0 bx1 bxl c14a c14b c14l HE14 HF14 R14 BB14 HL14
          have UN : ∀ W, Below wz.heap.size wz W → Hid (Calls Try.prog 23 #[.slice Afree free.length capfree, .slice Aextents extents.length capextents] W (fun e w9 => ∃ vu, e = .returned vu ∧ RunsAt w9 vu U ∧ Below W.heap.size W w9 ∧ Below wz.heap.size wz w9 ∧ w9.cell? ⟨bx, 1, none⟩ = some (.int .i64 y))) := fun W hW => hid ((union_any _ _ free extents Kfree.out Kextents.out W (HF13.out.below hW (Nat.le_refl _)) (HE13.out.below hW (Nat.le_refl _))).mono (fun e w9 h => by
            obtain ⟨vu, rfl, a1, a2, hb⟩ := h
            rw [HU.out.symm] at a1
            have hz := hW.trans (hb.mono hW.size)
            exact ⟨vu, rfl, OwnRuns.at a1 HUB.out, hb, hz, (R13.out.keep hz).cell (i := 1) rfl⟩))
          have S1 : ∀ W, Below wz.heap.size wz W → Hid (Calls Try.prog 33 #[u7] W (fun e w9 => e = .returned (.int .i64 s1) ∧ Below W.heap.size W w9 ∧ Below wz.heap.size wz w9 ∧ w9.cell? ⟨bx, 1, none⟩ = some (.int .i64 y))) := fun W hW => hid ((size_any _ L HLL.out W (HL13.out.below hW (Nat.le_refl _))).mono (fun e w9 h => by
            obtain ⟨rfl, hb⟩ := h
            have hz := hW.trans (hb.mono hW.size)
            exact ⟨by rw [HS1.out], hb, hz, (R13.out.keep hz).cell (i := 1) rfl⟩))
          have S2 : ∀ W vu, RunsAt W vu U → Below wz.heap.size wz W → Hid (Calls Try.prog 33 #[vu] W (fun e w9 => e = .returned (.int .i64 s2) ∧ Below W.heap.size W w9 ∧ Below wz.heap.size wz w9 ∧ w9.cell? ⟨bx, 1, none⟩ = some (.int .i64 y))) := fun W vu hu hW => hid ((size_any _ U HUL.out W hu).mono (fun e w9 h => by
            obtain ⟨rfl, hb⟩ := h
            have hz := hW.trans (hb.mono hW.size)
            exact ⟨by rw [HS2.out], hb, hz, (R13.out.keep hz).cell (i := 1) rfl⟩))
          have hz0 : Below wz.heap.size wz wz.drew := (Upds.drew (F := fun _ => False) wz).below (Nat.le_refl _) (fun _ h => h.elim)
          have c0 := (R13.out.keep hz0).cell (i := 1) rfl
          clear HE13 HF13 HL13 HUB HUL HLB HLL HU HL HS1 HS2
          go_upto_region 11 with fail
          go_cut [4] (fun s4 wy => s4 = .bool true ∧ Below w.heap.size w wy)
          case first =>
            go_region_law (first | (go_simp; go_at_call 23; with_reducible refine (UN _ (by assumption)).out.mono ?_; rintro e yu ⟨vu, rfl, hvu, hbu, hzu, hcu⟩; dsimp only) | (go_simp; go_at_call 33; with_reducible refine (S1 _ (by assumption)).out.mono ?_; rintro e ys ⟨rfl, hbs, hzs, hcs⟩; dsimp only) | (go_simp; go_at_call 33; with_reducible refine (S2 _ vu (by first | assumption | exact hvu.below hbs (Nat.le_refl _)) (by assumption)).out.mono ?_; rintro e yt ⟨rfl, hbt, hzt, hct⟩; dsimp only))
            all_goals
              go_wp2_with fail
              go_meet
              first | exact ⟨by simp; exact HWR2.out.symm, BB13.out.trans (Below.mono (by assumption) BB13.out.size)⟩ | exact ⟨by rw [hwr]; simp, BB13.out.trans (Below.mono (by assumption) BB13.out.size)⟩ | exact ⟨by simp, BB13.out.trans (Below.mono (by assumption) BB13.out.size)⟩
          case rest =>
            obtain ⟨rfl, k1⟩ := hcut
            go_wp2_with fail
            go_ret
            exact ⟨rfl, k1⟩
theorem main_SpaceSingle (extents : List (Int × Int)) (Aextents : Option Addr) (capextents : Nat) (free : List (Int × Int)) (Afree : Option Addr) (capfree : Nat) {w : World} (hcextents : extents.length ≤ capextents) (hdextents : capextents ≤ 9223372036854775807) (hrextents : RunsAt w (.slice Aextents extents.length capextents) extents) (hcfree : free.length ≤ capfree) (hdfree : capfree ≤ 9223372036854775807) (hrfree : RunsAt w (.slice Afree free.length capfree) free) :
    Calls Try.prog 17 #[.slice Aextents extents.length capextents, .slice Afree free.length capfree] w (Answers true w) := by
  by_cases h : extents.length ≤ 30 ∧ free.length ≤ 30
  · exact short_SpaceSingle extents Aextents capextents free Afree capfree hcextents hdextents hrextents hcfree hdfree hrfree  h.1 h.2
  · exact long_SpaceSingle extents Aextents capextents free Afree capfree hcextents hdextents hrextents hcfree hdfree hrfree h
theorem walk_SpaceSingle (Aextents : Option Addr) (lenextents capextents : Nat) (Cextents : Nat → Nat → Value) (Afree : Option Addr) (lenfree capfree : Nat) (Cfree : Nat → Nat → Value) (w : World) (hlextents : lenextents ≤ capextents) (hmextents : capextents ≤ maxLen) (hEextents : Elems w Aextents lenextents 2 Cextents) (hextents0 : ∀ i, i < lenextents → ∃ n : Int, Cextents i 0 = .int .i64 n ∧ -9223372036854775808 ≤ n ∧ n ≤ 9223372036854775807) (hextents1 : ∀ i, i < lenextents → ∃ n : Int, Cextents i 1 = .int .i64 n ∧ -9223372036854775808 ≤ n ∧ n ≤ 9223372036854775807) (hlfree : lenfree ≤ capfree) (hmfree : capfree ≤ maxLen) (hEfree : Elems w Afree lenfree 2 Cfree) (hfree0 : ∀ i, i < lenfree → ∃ n : Int, Cfree i 0 = .int .i64 n ∧ -9223372036854775808 ≤ n ∧ n ≤ 9223372036854775807) (hfree1 : ∀ i, i < lenfree → ∃ n : Int, Cfree i 1 = .int .i64 n ∧ -9223372036854775808 ≤ n ∧ n ≤ 9223372036854775807) :
    Calls Try.prog 17 #[.slice Aextents lenextents capextents, .slice Afree lenfree capfree] w fun e w' => e = .returned (.bool true) ∧ Below w.heap.size w w' := by
  obtain ⟨extents, hnextents, hrextents⟩ := runs_of hlextents hmextents hEextents hextents0 hextents1
  subst hnextents
  unfold maxLen at hmextents
  obtain ⟨free, hnfree, hrfree⟩ := runs_of hlfree hmfree hEfree hfree0 hfree1
  subst hnfree
  unfold maxLen at hmfree
  exact main_SpaceSingle extents _ capextents free _ capfree hlextents (by omega) hrextents hlfree (by omega) hrfree
namespace spaceSingle
theorem own : ownKnob Try.prog.godebug = none := by kernel_rfl
theorem laidOut : laidOutB Try.prog = true := by kernel_rfl
set_option linter.unusedVariables false
set_option maxRecDepth 100000 in
theorem lifted (os : Os) (started : os.Started) (H : Type) (enc : TypeId × Value → H) :
    ReturnsInHanded {} Try.checked os 17 .any (Rows.spaceSingleSpec.pre6 enc Try.prog Try.f17 Rows.spaceSingleRow.domain false) (Rows.spaceSingleSpec.post enc Try.prog Try.f17 false true false false) := by
  refine returnsInHanded_of_change (C := Try.checked) own started (by kernel_rfl) Try.func17
    (ChangeSpec.witness6 (enc := enc) (C := Try.checked) false ⟨#[], #[.slice none 0 0, .slice none 0 0], []⟩ 8 (by kernel_rfl) (by kernel_rfl) (by kernel_rfl) (by kernel_rfl)) ?_
  intro W base args ds gs before hval0 hW hcnd _
  have hval : ∀ (j : Nat) t v, Try.f17.params[j]? = some t → args[j]? = some v → Value.okWide Try.prog W .any base t v := hval0
  have hW' := hW
  obtain ⟨p, q, hA0, hV, rfl, hfz, hnd⟩ := hW
  have hA : DataW.TrodAll enc Try.prog W 0 (fun _ => true) true Try.f17.params.toList args.toList ds p := hA0
  rw [Try.params17] at hA hval
  obtain ⟨v0, vs0, d0, ds0, p0, q0, hargs, rfl, rfl, h0, r0⟩ := trodAll_cons hA
  obtain ⟨v1, vs1, d1, ds1, p1, q1, rfl, rfl, rfl, h1, r1⟩ := trodAll_cons r0
  obtain ⟨rfl, rfl, rfl⟩ := trodAll_nil r1
  obtain rfl : args = #[v0, v1] := by cases args; simp_all
  obtain ⟨rfl, rfl⟩ := trodVars_none hV
  obtain ⟨a0, len0, cap0, rfl⟩ := okWide_slice Try.underlying22 (hval 0 22 v0 rfl rfl)
  have k0 := h0
  have lt0 : ∀ x ∈ p0, x.block < W.heap.size := by obtain ⟨m, hm⟩ := k0; exact DataW.trod_lt m _ _ _ hm
  obtain ⟨fuel0, hf0⟩ := h0
  obtain ⟨A0, l0, c0, C0, hcs0, hl0, hm0, hE0, hF0⟩ := open_elems Try.underlying22 Try.underlying47 (by kernel_rfl) (by kernel_rfl) (by decide) hf0
  simp only [Value.cells, List.cons.injEq, Value.slice.injEq, and_true] at hcs0
  obtain ⟨rfl, rfl, rfl⟩ := hcs0
  have s0_0 : ∀ i, i < len0 → ∃ n : Int, C0 i 0 = .int .i64 n ∧ -9223372036854775808 ≤ n ∧ n ≤ 9223372036854775807 := fun i hi => by obtain ⟨y, n, hy⟩ := hF0 i 0 _ hi rfl; obtain ⟨n, e, _, hw⟩ := DataW.trod_int Try.underlying3 hy; exact ⟨n, List.head_eq_of_cons_eq e, bounds_i64 hw⟩
  have s0_1 : ∀ i, i < len0 → ∃ n : Int, C0 i 1 = .int .i64 n ∧ -9223372036854775808 ≤ n ∧ n ≤ 9223372036854775807 := fun i hi => by obtain ⟨y, n, hy⟩ := hF0 i 1 _ hi rfl; obtain ⟨n, e, _, hw⟩ := DataW.trod_int Try.underlying3 hy; exact ⟨n, List.head_eq_of_cons_eq e, bounds_i64 hw⟩
  obtain ⟨a1, len1, cap1, rfl⟩ := okWide_slice Try.underlying22 (hval 1 22 v1 rfl rfl)
  have k1 := h1
  have lt1 : ∀ x ∈ p1, x.block < W.heap.size := by obtain ⟨m, hm⟩ := k1; exact DataW.trod_lt m _ _ _ hm
  obtain ⟨fuel1, hf1⟩ := h1
  obtain ⟨A1, l1, c1, C1, hcs1, hl1, hm1, hE1, hF1⟩ := open_elems Try.underlying22 Try.underlying47 (by kernel_rfl) (by kernel_rfl) (by decide) hf1
  simp only [Value.cells, List.cons.injEq, Value.slice.injEq, and_true] at hcs1
  obtain ⟨rfl, rfl, rfl⟩ := hcs1
  have s1_0 : ∀ i, i < len1 → ∃ n : Int, C1 i 0 = .int .i64 n ∧ -9223372036854775808 ≤ n ∧ n ≤ 9223372036854775807 := fun i hi => by obtain ⟨y, n, hy⟩ := hF1 i 0 _ hi rfl; obtain ⟨n, e, _, hw⟩ := DataW.trod_int Try.underlying3 hy; exact ⟨n, List.head_eq_of_cons_eq e, bounds_i64 hw⟩
  have s1_1 : ∀ i, i < len1 → ∃ n : Int, C1 i 1 = .int .i64 n ∧ -9223372036854775808 ≤ n ∧ n ≤ 9223372036854775807 := fun i hi => by obtain ⟨y, n, hy⟩ := hF1 i 1 _ hi rfl; obtain ⟨n, e, _, hw⟩ := DataW.trod_int Try.underlying3 hy; exact ⟨n, List.head_eq_of_cons_eq e, bounds_i64 hw⟩
  clear hA0 hval0
  refine (walk_SpaceSingle a0 len0 cap0 C0 a1 len1 cap1 C1 hl0 hm0 hE0 s0_0 s0_1 hl1 hm1 hE1 s1_0 s1_1 (w := W)).mono fun e W' ⟨he, bel⟩ => ?_
  subst he
  exact ⟨_, rfl, _, _, _, [], _, [], hW', trodAll_mk1 (shut_bool Try.underlying4 _), (trodAll_cons_mk (Below.trod laidOut (by kernel_rfl) (of_decide_eq_true (by kernel_rfl)) k0 bel lt0) (trodAll_cons_mk (Below.trod laidOut (by kernel_rfl) (of_decide_eq_true (by kernel_rfl)) k1 bel lt1) trodAll_mk0)), rfl, bel.frame _, fun h => by cases h⟩
theorem over : Rows.spaceSingleRow.holds Try.pinned (OpenSpec.ofChange Rows.spaceSingleSpec) :=
  OpenClaim.holds_of_wide 17 Try.f17 rfl rfl rfl rfl rfl rfl rfl ⟨rfl, rfl, rfl, rfl, rfl⟩ rfl rfl rfl rfl rfl (by kernel_rfl) Try.func17 (by kernel_rfl)
    (of_decide_eq_true (by kernel_rfl)) (by unfold Func.isWrapper; first | (rw [if_pos (by decide +kernel)]; kernel_rfl) | (rw [if_neg (by decide +kernel)]; exact ⟨rfl, rfl⟩))
    (fun os started H enc _ => lifted os started H enc)
theorem proved : Rows.SpaceSingleSaid := over
end spaceSingle

end Go.Proofs.Ytimeebajpegknaa
