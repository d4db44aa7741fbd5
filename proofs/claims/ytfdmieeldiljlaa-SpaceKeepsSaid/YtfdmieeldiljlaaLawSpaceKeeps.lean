/- Statement SpaceKeeps: Extended extents have the old tracks at the same indices, then new ones that were free, and releasing the new ones gives the old extents back. For all lists of at most 30 runs each, which is the statement's own bound. -/
import Derived.Test.YtfdmieeldiljlaaRows
import Derived.WalkKit
import Derived.ProofKit
import Derived.OpenShut
import Derived.ShutString
import Derived.ChangeOld
import Derived.Below
import Derived.Test.YtfdmieeldiljlaaSpZ
import Derived.Test.YtfdmieeldiljlaaSpX
import Derived.Test.YtfdmieeldiljlaaSpAw
import Derived.Test.YtfdmieeldiljlaaSlices
import Derived.Test.YtfdmieeldiljlaaOpen
namespace Go.Proofs.Ytfdmieeldiljlaa
open Go.Lib Go.ChangeShapes Go.WideShapes Go.ChangeAt Go.RowKit
open Go.ChangeMaps (open_string shut_string)
set_option linter.unusedVariables false
set_option maxRecDepth 100000 in
theorem long_SpaceKeeps (extents : List (Int × Int)) (Aextents : Option Addr) (capextents : Nat) (free : List (Int × Int)) (Afree : Option Addr) (capfree : Nat) (n : Int) {w : World} (hcextents : extents.length ≤ capextents) (hdextents : capextents ≤ 9223372036854775807) (hrextents : RunsAt w (.slice Aextents extents.length capextents) extents) (hcfree : free.length ≤ capfree) (hdfree : capfree ≤ 9223372036854775807) (hrfree : RunsAt w (.slice Afree free.length capfree) free) (hn : -9223372036854775808 ≤ n ∧ n ≤ 9223372036854775807) (hlong : ¬ (extents.length ≤ 30 ∧ free.length ≤ 30)) :
    Calls Try.prog 16 #[.slice Aextents extents.length capextents, .slice Afree free.length capfree, .int .i64 n] w (Answers true w) := by
  clear hrextents
  clear hrfree
  by_cases h1 : extents.length ≤ 30
  · have h2 : ¬ free.length ≤ 30 := fun h => hlong ⟨h1, h⟩
    clear hlong
    go_enter Try.func16, Try.ntmps16
    go_wp2_with fail
    refine (awake6_any _).mono ?_
    rintro e w1 ⟨rfl, hb⟩
    have B1 := hid (hb)
    clear hb
    go_wp2_with fail
    refine (awake6_any _).mono ?_
    rintro e w2 ⟨rfl, hb⟩
    have B2 := hid (B1.out.trans (hb.mono B1.out.size))
    clear hb
    go_wp2_with fail
    go_ret
    exact ⟨rfl, B2.out⟩
  · clear hlong
    go_enter Try.func16, Try.ntmps16
    go_wp2_with fail
    refine (awake6_any _).mono ?_
    rintro e w1 ⟨rfl, hb⟩
    have B1 := hid (hb)
    clear hb
    go_wp2_with fail
    refine (awake6_any _).mono ?_
    rintro e w2 ⟨rfl, hb⟩
    have B2 := hid (B1.out.trans (hb.mono B1.out.size))
    clear hb
    go_wp2_with fail
    go_ret
    exact ⟨rfl, B2.out⟩
set_option maxRecDepth 100000 in
set_option maxHeartbeats 4000000 in
theorem short_SpaceKeeps (extents : List (Int × Int)) (Aextents : Option Addr) (capextents : Nat) (free : List (Int × Int)) (Afree : Option Addr) (capfree : Nat) (n : Int) {w : World} (hcextents : extents.length ≤ capextents) (hdextents : capextents ≤ 9223372036854775807) (hrextents : RunsAt w (.slice Aextents extents.length capextents) extents) (hcfree : free.length ≤ capfree) (hdfree : capfree ≤ 9223372036854775807) (hrfree : RunsAt w (.slice Afree free.length capfree) free) (hn : -9223372036854775808 ≤ n ∧ n ≤ 9223372036854775807) (hsextents : extents.length ≤ 30) (hsfree : free.length ≤ 30) :
    Calls Try.prog 16 #[.slice Aextents extents.length capextents, .slice Afree free.length capfree, .int .i64 n] w (Answers true w) := by
  have Hextents := hid hrextents
  have Kextents : Hid (extents.length ≤ 4000) := by show _ ≤ _; omega
  clear hrextents
  have Hfree := hid hrfree
  have Kfree : Hid (free.length ≤ 4000) := by show _ ≤ _; omega
  clear hrfree
  have hk := ext_keeps extents free n
  have he := ext_error extents free n
  obtain ⟨⟨P, P3⟩, hP⟩ : ∃ P, P = ExtAns extents free n := ⟨_, rfl⟩
  rw [← hP] at hk he
  simp only at hk he
  have HP := hid hP
  have HN := hid hn
  clear hP hn
  go_enter Try.func16, Try.ntmps16
  go_wp2_with fail
  refine (awake6_any _).mono ?_
  rintro e w1 ⟨rfl, hb⟩
  replace Hextents := hid (Hextents.out.below hb (Nat.le_refl _))
  replace Hfree := hid (Hfree.out.below hb (Nat.le_refl _))
  have B1 := hid (hb)
  clear hb
  go_wp2_with fail
  by_cases hz : P3 = 0
  rotate_left
  · have hP0 := he hz
    have hd3 : (P3 != 0) = true := by simpa using hz
    have HP0 := hid hP0
    clear hk he hz hP0
    refine (extend_any _ _ extents free (by omega) Kfree.out n HN.out _ Hextents.out Hfree.out).mono ?_
    rintro e w2 ⟨l, rfl, h1, h2, hb⟩
    rw [← HP.out] at h1 ⊢
    simp only at h1 ⊢
    rw [HP0.out] at h1
    obtain ⟨A0, cap0, e0⟩ := OwnRuns.shape h1
    simp only [List.length_nil] at e0
    subst e0
    replace Hextents := hid (Hextents.out.below hb (Nat.le_refl _))
    replace Hfree := hid (Hfree.out.below hb (Nat.le_refl _))
    have B2 := hid (B1.out.trans (hb.mono B1.out.size))
    clear h1 h2 hb
    go_wp2_with fail
    go_ret
    exact ⟨rfl, B2.out⟩
  obtain ⟨hn1, hs0, X, hX⟩ := hk hz
  subst hz
  have hsz := hX.size
  have htk := hX.take
  have hdr := hX.drop
  have hdj := hX.disjoint
  have hmi := hX.minus
  have hco := hX.common
  have hrl := hX.release hs0
  have hml := hX.moreLen
  have hfw := hX.few
  have hxl := hX.len
  have hpl : P.length ≤ 4000 := by have := joinI_len extents; omega
  have hxn : n ≤ 128 := by have h5 := cnt_le 128 (fun t => X.contains t); have h6 := (nodup_cnt X hX.ltX).2.2 hX.nodup; omega
  have hPb : Bd P := by rw [hX.eq]; exact seq_bd _ hX.lt
  have hYb : Bd (up (canon X)) := seq_bd _ hX.ltX
  have hJb : Bd (joinI extents) := joinI_bd extents
  have hJl : (joinI extents).length ≤ 4000 := by have := joinI_len extents; omega
  have hzl := seqI_len_le extents
  obtain ⟨Y, hY⟩ : ∃ Y, Y = up (canon X) := ⟨_, rfl⟩
  rw [← hY] at hdr hdj hmi hco hrl hml hYb
  obtain ⟨z, hzz⟩ : ∃ z, z = (seqI extents).length := ⟨_, rfl⟩
  rw [← hzz] at hsz htk hdr hrl hzl hs0
  obtain ⟨J, hJ⟩ : ∃ J, J = joinI extents := ⟨_, rfl⟩
  rw [← hJ] at htk hrl hfw hJb hJl
  obtain ⟨jl, hjl⟩ : ∃ jl, jl = J.length := ⟨_, rfl⟩
  obtain ⟨pl, hpp⟩ : ∃ pl, pl = P.length := ⟨_, rfl⟩
  rw [← hjl, ← hpp] at hfw
  have hz4 : z ≤ 4000 := by omega
  have HTK := hid htk
  have HDR := hid hdr
  have HDJ := hid hdj
  have HMI := hid hmi
  have HCO := hid hco
  have HRL := hid hrl
  have HML : Hid (Y.length ≤ 4000) := by show _ ≤ _; omega
  have HPL := hid hpl
  have HPB := hid hPb
  have HYB := hid hYb
  have HJB := hid hJb
  have HJL := hid hJl
  have HZZ := hid hzz
  have HJ := hid hJ
  have HJJ := hid hjl
  have HPP := hid hpp
  have HNL := norm_len (inB Y)
  obtain ⟨q, hqq⟩ : ∃ q, q = (z : Int) + n := ⟨_, rfl⟩
  have hneq1 : (q != (z : Int) + n) = false := by rw [hqq]; simp
  rw [← hqq] at hsz
  have HSZ := hid hsz
  have hwz2 : wrap64 ((z : Int) + n) = q := by rw [hqq]; unfold wrap64; omega
  have hneq : (q != q) = false := by simp
  have hneq2 : (q != wrap64 ((z : Int) + n)) = false := by rw [hwz2]; simp
  clear hqq
  have HZI : Hid (-9223372036854775808 ≤ (z : Int) ∧ (z : Int) ≤ 9223372036854775807) := hid (by omega)
  clear hX he hn1 hs0 hsz htk hdr hdj hmi hco hrl hml hxl hpl hPb hYb hJb hJl hzl hY hzz hJ hjl hpp
  refine (extend_any _ _ extents free (by omega) Kfree.out n HN.out _ Hextents.out Hfree.out).mono ?_
  rintro e w2 ⟨l, rfl, h1, h2, hb⟩
  rw [← HP.out] at h1 ⊢
  simp only at h1 ⊢
  obtain ⟨A0, cap0, e0⟩ := OwnRuns.shape h1
  rw [← HPP.out] at e0
  subst e0
  replace Hextents := hid (Hextents.out.below hb (Nat.le_refl _))
  replace Hfree := hid (Hfree.out.below hb (Nat.le_refl _))
  have B2 := hid (B1.out.trans (hb.mono B1.out.size))
  have Hl := hid (OwnRuns.at h1 HPB.out)
  clear h1 h2 hb
  go_wp2_with fail
  refine (size_any _ extents Kextents.out _ Hextents.out).mono ?_
  rintro e w3 ⟨rfl, hb⟩
  rw [← HZZ.out]
  replace Hextents := hid (Hextents.out.below hb (Nat.le_refl _))
  replace Hfree := hid (Hfree.out.below hb (Nat.le_refl _))
  replace Hl := hid (Hl.out.below hb (Nat.le_refl _))
  have B3 := hid (B2.out.trans (hb.mono B2.out.size))
  clear hb
  go_wp2_with fail
  refine (cut_any _ P HPL.out z HZI.out _ Hl.out).mono ?_
  rintro e w4 ⟨old, more, rfl, h1, h2, h3, h4, h5, hb⟩
  rw [show ((z : Int)).toNat = z from rfl] at h1 h2
  rw [HTK.out] at h1
  rw [HDR.out] at h2
  replace Hextents := hid (Hextents.out.below hb (Nat.le_refl _))
  replace Hfree := hid (Hfree.out.below hb (Nat.le_refl _))
  replace Hl := hid (Hl.out.below hb (Nat.le_refl _))
  have B4 := hid (B3.out.trans (hb.mono B3.out.size))
  have Hold := hid (OwnRuns.at h1 HJB.out)
  have Hmore := hid (OwnRuns.at h2 HYB.out)
  clear h1 h2 h3 h4 h5 hb
  go_wp2_with fail
  refine (size_any _ P HPL.out _ Hl.out).mono ?_
  rintro e w5 ⟨rfl, hb⟩
  rw [HSZ.out]
  replace Hextents := hid (Hextents.out.below hb (Nat.le_refl _))
  replace Hfree := hid (Hfree.out.below hb (Nat.le_refl _))
  replace Hl := hid (Hl.out.below hb (Nat.le_refl _))
  replace Hold := hid (Hold.out.below hb (Nat.le_refl _))
  replace Hmore := hid (Hmore.out.below hb (Nat.le_refl _))
  have B5 := hid (B4.out.trans (hb.mono B4.out.size))
  clear hb
  go_wp2_with fail
  refine (join_any _ extents Kextents.out _ Hextents.out).mono ?_
  rintro e w6 ⟨j1, rfl, h1, h2, hb⟩
  rw [show up (canon (seqI extents)) = J from HJ.out.symm] at h1
  replace Hextents := hid (Hextents.out.below hb (Nat.le_refl _))
  replace Hfree := hid (Hfree.out.below hb (Nat.le_refl _))
  replace Hl := hid (Hl.out.below hb (Nat.le_refl _))
  replace Hold := hid (Hold.out.below hb (Nat.le_refl _))
  replace Hmore := hid (Hmore.out.below hb (Nat.le_refl _))
  have B6 := hid (B5.out.trans (hb.mono B5.out.size))
  have Hj1 := hid (OwnRuns.at h1 HJB.out)
  clear h1 h2 hb
  go_wp2_with fail
  refine (same_any _ _ J J HJL.out HJL.out _ Hold.out Hj1.out).mono ?_
  rintro e w7 ⟨rfl, hb⟩
  rw [decide_eq_true (rfl : J = J)]
  replace Hextents := hid (Hextents.out.below hb (Nat.le_refl _))
  replace Hfree := hid (Hfree.out.below hb (Nat.le_refl _))
  replace Hl := hid (Hl.out.below hb (Nat.le_refl _))
  replace Hold := hid (Hold.out.below hb (Nat.le_refl _))
  replace Hmore := hid (Hmore.out.below hb (Nat.le_refl _))
  replace Hj1 := hid (Hj1.out.below hb (Nat.le_refl _))
  have B7 := hid (B6.out.trans (hb.mono B6.out.size))
  clear hb
  go_wp2_with fail
  refine (disjoint_any _ Y HML.out _ Hmore.out).mono ?_
  rintro e w8 ⟨rfl, hb⟩
  rw [HDJ.out]
  replace Hextents := hid (Hextents.out.below hb (Nat.le_refl _))
  replace Hfree := hid (Hfree.out.below hb (Nat.le_refl _))
  replace Hl := hid (Hl.out.below hb (Nat.le_refl _))
  replace Hold := hid (Hold.out.below hb (Nat.le_refl _))
  replace Hmore := hid (Hmore.out.below hb (Nat.le_refl _))
  replace Hj1 := hid (Hj1.out.below hb (Nat.le_refl _))
  have B8 := hid (B7.out.trans (hb.mono B7.out.size))
  clear hb
  go_wp2_with fail
  refine (minus_any _ _ Y free HML.out Kfree.out _ Hmore.out Hfree.out).mono ?_
  rintro e w9 ⟨vm, rfl, h1, h2, hb⟩
  rw [HMI.out] at h1
  obtain ⟨Am, capm, e0⟩ := OwnRuns.shape h1
  simp only [List.length_nil] at e0
  subst e0
  replace Hextents := hid (Hextents.out.below hb (Nat.le_refl _))
  replace Hfree := hid (Hfree.out.below hb (Nat.le_refl _))
  replace Hl := hid (Hl.out.below hb (Nat.le_refl _))
  replace Hold := hid (Hold.out.below hb (Nat.le_refl _))
  replace Hmore := hid (Hmore.out.below hb (Nat.le_refl _))
  replace Hj1 := hid (Hj1.out.below hb (Nat.le_refl _))
  have B9 := hid (B8.out.trans (hb.mono B8.out.size))
  clear h1 h2 hb
  go_wp2_with fail
  refine (common_any _ _ Y extents HML.out Kextents.out _ Hmore.out Hextents.out).mono ?_
  rintro e w10 ⟨vc, rfl, h1, h2, hb⟩
  rw [HCO.out] at h1
  obtain ⟨Ac, capc, e0⟩ := OwnRuns.shape h1
  simp only [List.length_nil] at e0
  subst e0
  replace Hextents := hid (Hextents.out.below hb (Nat.le_refl _))
  replace Hfree := hid (Hfree.out.below hb (Nat.le_refl _))
  replace Hl := hid (Hl.out.below hb (Nat.le_refl _))
  replace Hold := hid (Hold.out.below hb (Nat.le_refl _))
  replace Hmore := hid (Hmore.out.below hb (Nat.le_refl _))
  replace Hj1 := hid (Hj1.out.below hb (Nat.le_refl _))
  have B10 := hid (B9.out.trans (hb.mono B9.out.size))
  clear h1 h2 hb
  go_wp2_with fail
  refine (join_any _ extents Kextents.out _ Hextents.out).mono ?_
  rintro e w11 ⟨j2, rfl, h1, h2, hb⟩
  rw [show up (canon (seqI extents)) = J from HJ.out.symm] at h1
  obtain ⟨Aj2, capj2, e0⟩ := OwnRuns.shape h1
  rw [← HJJ.out] at e0
  subst e0
  replace Hextents := hid (Hextents.out.below hb (Nat.le_refl _))
  replace Hfree := hid (Hfree.out.below hb (Nat.le_refl _))
  replace Hl := hid (Hl.out.below hb (Nat.le_refl _))
  replace Hold := hid (Hold.out.below hb (Nat.le_refl _))
  replace Hmore := hid (Hmore.out.below hb (Nat.le_refl _))
  replace Hj1 := hid (Hj1.out.below hb (Nat.le_refl _))
  have B11 := hid (B10.out.trans (hb.mono B10.out.size))
  clear h1 h2 hb
  by_cases hj : jl ≤ 16
  · have hq : pl ≤ 16 := by omega
    clear hfw
    go_wp2_with fail
    all_goals first
      | (exfalso; omega)
      | skip
    refine (release_any _ P HPL.out z HZI.out _ Hl.out).mono ?_
    rintro e w12 ⟨kept, back, rfl, h1, h2, hb⟩
    rw [HRL.out] at h1 h2 ⊢
    simp only at h1 h2 ⊢
    replace Hextents := hid (Hextents.out.below hb (Nat.le_refl _))
    replace Hfree := hid (Hfree.out.below hb (Nat.le_refl _))
    replace Hl := hid (Hl.out.below hb (Nat.le_refl _))
    replace Hold := hid (Hold.out.below hb (Nat.le_refl _))
    replace Hmore := hid (Hmore.out.below hb (Nat.le_refl _))
    replace Hj1 := hid (Hj1.out.below hb (Nat.le_refl _))
    have B12 := hid (B11.out.trans (hb.mono B11.out.size))
    have Hkept := hid h1
    have Hback := hid h2
    clear h1 h2 hb
    go_wp2_with fail
    refine (join_any _ extents Kextents.out _ Hextents.out).mono ?_
    rintro e w13 ⟨j3, rfl, h1, h2, hb⟩
    rw [show up (canon (seqI extents)) = J from HJ.out.symm] at h1
    replace Hextents := hid (Hextents.out.below hb (Nat.le_refl _))
    replace Hfree := hid (Hfree.out.below hb (Nat.le_refl _))
    replace Hl := hid (Hl.out.below hb (Nat.le_refl _))
    replace Hold := hid (Hold.out.below hb (Nat.le_refl _))
    replace Hmore := hid (Hmore.out.below hb (Nat.le_refl _))
    replace Hj1 := hid (Hj1.out.below hb (Nat.le_refl _))
    replace Hkept := hid (Hkept.out.below hb (Nat.le_refl _))
    replace Hback := hid (Hback.out.below hb (Nat.le_refl _))
    have B13 := hid (B12.out.trans (hb.mono B12.out.size))
    have Hj3 := hid (OwnRuns.at h1 HJB.out)
    clear h1 h2 hb
    go_wp2_with fail
    refine (same_any _ _ J J HJL.out HJL.out _ Hkept.out Hj3.out).mono ?_
    rintro e w14 ⟨rfl, hb⟩
    rw [decide_eq_true (rfl : J = J)]
    replace Hextents := hid (Hextents.out.below hb (Nat.le_refl _))
    replace Hfree := hid (Hfree.out.below hb (Nat.le_refl _))
    replace Hl := hid (Hl.out.below hb (Nat.le_refl _))
    replace Hold := hid (Hold.out.below hb (Nat.le_refl _))
    replace Hmore := hid (Hmore.out.below hb (Nat.le_refl _))
    replace Hj1 := hid (Hj1.out.below hb (Nat.le_refl _))
    replace Hkept := hid (Hkept.out.below hb (Nat.le_refl _))
    replace Hback := hid (Hback.out.below hb (Nat.le_refl _))
    replace Hj3 := hid (Hj3.out.below hb (Nat.le_refl _))
    have B14 := hid (B13.out.trans (hb.mono B13.out.size))
    clear hb
    go_wp2_with fail
    refine (normal_any _ Y HML.out _ Hmore.out).mono ?_
    rintro e w15 ⟨nm, rfl, h1, h2, hb⟩
    replace Hextents := hid (Hextents.out.below hb (Nat.le_refl _))
    replace Hfree := hid (Hfree.out.below hb (Nat.le_refl _))
    replace Hl := hid (Hl.out.below hb (Nat.le_refl _))
    replace Hold := hid (Hold.out.below hb (Nat.le_refl _))
    replace Hmore := hid (Hmore.out.below hb (Nat.le_refl _))
    replace Hj1 := hid (Hj1.out.below hb (Nat.le_refl _))
    replace Hkept := hid (Hkept.out.below hb (Nat.le_refl _))
    replace Hback := hid (Hback.out.below hb (Nat.le_refl _))
    replace Hj3 := hid (Hj3.out.below hb (Nat.le_refl _))
    have B15 := hid (B14.out.trans (hb.mono B14.out.size))
    have Hnm := hid (OwnRuns.at h1 (norm_bd _))
    clear h1 h2 hb
    go_wp2_with fail
    refine (same_any _ _ (norm (inB Y)) (norm (inB Y)) HNL HNL _ Hback.out Hnm.out).mono ?_
    rintro e w16 ⟨rfl, hb⟩
    rw [decide_eq_true (rfl : norm (inB Y) = norm (inB Y))]
    replace Hextents := hid (Hextents.out.below hb (Nat.le_refl _))
    replace Hfree := hid (Hfree.out.below hb (Nat.le_refl _))
    replace Hl := hid (Hl.out.below hb (Nat.le_refl _))
    replace Hold := hid (Hold.out.below hb (Nat.le_refl _))
    replace Hmore := hid (Hmore.out.below hb (Nat.le_refl _))
    replace Hj1 := hid (Hj1.out.below hb (Nat.le_refl _))
    replace Hkept := hid (Hkept.out.below hb (Nat.le_refl _))
    replace Hback := hid (Hback.out.below hb (Nat.le_refl _))
    replace Hj3 := hid (Hj3.out.below hb (Nat.le_refl _))
    replace Hnm := hid (Hnm.out.below hb (Nat.le_refl _))
    have B16 := hid (B15.out.trans (hb.mono B15.out.size))
    clear hb
    go_wp2_with fail
    go_ret
    exact ⟨rfl, B16.out⟩
  · have hq : pl ≤ jl := by omega
    clear hfw
    go_wp2_with fail
    all_goals first
      | (exfalso; omega)
      | skip
    refine (release_any _ P HPL.out z HZI.out _ Hl.out).mono ?_
    rintro e w12 ⟨kept, back, rfl, h1, h2, hb⟩
    rw [HRL.out] at h1 h2 ⊢
    simp only at h1 h2 ⊢
    replace Hextents := hid (Hextents.out.below hb (Nat.le_refl _))
    replace Hfree := hid (Hfree.out.below hb (Nat.le_refl _))
    replace Hl := hid (Hl.out.below hb (Nat.le_refl _))
    replace Hold := hid (Hold.out.below hb (Nat.le_refl _))
    replace Hmore := hid (Hmore.out.below hb (Nat.le_refl _))
    replace Hj1 := hid (Hj1.out.below hb (Nat.le_refl _))
    have B12 := hid (B11.out.trans (hb.mono B11.out.size))
    have Hkept := hid h1
    have Hback := hid h2
    clear h1 h2 hb
    go_wp2_with fail
    refine (join_any _ extents Kextents.out _ Hextents.out).mono ?_
    rintro e w13 ⟨j3, rfl, h1, h2, hb⟩
    rw [show up (canon (seqI extents)) = J from HJ.out.symm] at h1
    replace Hextents := hid (Hextents.out.below hb (Nat.le_refl _))
    replace Hfree := hid (Hfree.out.below hb (Nat.le_refl _))
    replace Hl := hid (Hl.out.below hb (Nat.le_refl _))
    replace Hold := hid (Hold.out.below hb (Nat.le_refl _))
    replace Hmore := hid (Hmore.out.below hb (Nat.le_refl _))
    replace Hj1 := hid (Hj1.out.below hb (Nat.le_refl _))
    replace Hkept := hid (Hkept.out.below hb (Nat.le_refl _))
    replace Hback := hid (Hback.out.below hb (Nat.le_refl _))
    have B13 := hid (B12.out.trans (hb.mono B12.out.size))
    have Hj3 := hid (OwnRuns.at h1 HJB.out)
    clear h1 h2 hb
    go_wp2_with fail
    refine (same_any _ _ J J HJL.out HJL.out _ Hkept.out Hj3.out).mono ?_
    rintro e w14 ⟨rfl, hb⟩
    rw [decide_eq_true (rfl : J = J)]
    replace Hextents := hid (Hextents.out.below hb (Nat.le_refl _))
    replace Hfree := hid (Hfree.out.below hb (Nat.le_refl _))
    replace Hl := hid (Hl.out.below hb (Nat.le_refl _))
    replace Hold := hid (Hold.out.below hb (Nat.le_refl _))
    replace Hmore := hid (Hmore.out.below hb (Nat.le_refl _))
    replace Hj1 := hid (Hj1.out.below hb (Nat.le_refl _))
    replace Hkept := hid (Hkept.out.below hb (Nat.le_refl _))
    replace Hback := hid (Hback.out.below hb (Nat.le_refl _))
    replace Hj3 := hid (Hj3.out.below hb (Nat.le_refl _))
    have B14 := hid (B13.out.trans (hb.mono B13.out.size))
    clear hb
    go_wp2_with fail
    refine (normal_any _ Y HML.out _ Hmore.out).mono ?_
    rintro e w15 ⟨nm, rfl, h1, h2, hb⟩
    replace Hextents := hid (Hextents.out.below hb (Nat.le_refl _))
    replace Hfree := hid (Hfree.out.below hb (Nat.le_refl _))
    replace Hl := hid (Hl.out.below hb (Nat.le_refl _))
    replace Hold := hid (Hold.out.below hb (Nat.le_refl _))
    replace Hmore := hid (Hmore.out.below hb (Nat.le_refl _))
    replace Hj1 := hid (Hj1.out.below hb (Nat.le_refl _))
    replace Hkept := hid (Hkept.out.below hb (Nat.le_refl _))
    replace Hback := hid (Hback.out.below hb (Nat.le_refl _))
    replace Hj3 := hid (Hj3.out.below hb (Nat.le_refl _))
    have B15 := hid (B14.out.trans (hb.mono B14.out.size))
    have Hnm := hid (OwnRuns.at h1 (norm_bd _))
    clear h1 h2 hb
    go_wp2_with fail
    refine (same_any _ _ (norm (inB Y)) (norm (inB Y)) HNL HNL _ Hback.out Hnm.out).mono ?_
    rintro e w16 ⟨rfl, hb⟩
    rw [decide_eq_true (rfl : norm (inB Y) = norm (inB Y))]
    replace Hextents := hid (Hextents.out.below hb (Nat.le_refl _))
    replace Hfree := hid (Hfree.out.below hb (Nat.le_refl _))
    replace Hl := hid (Hl.out.below hb (Nat.le_refl _))
    replace Hold := hid (Hold.out.below hb (Nat.le_refl _))
    replace Hmore := hid (Hmore.out.below hb (Nat.le_refl _))
    replace Hj1 := hid (Hj1.out.below hb (Nat.le_refl _))
    replace Hkept := hid (Hkept.out.below hb (Nat.le_refl _))
    replace Hback := hid (Hback.out.below hb (Nat.le_refl _))
    replace Hj3 := hid (Hj3.out.below hb (Nat.le_refl _))
    replace Hnm := hid (Hnm.out.below hb (Nat.le_refl _))
    have B16 := hid (B15.out.trans (hb.mono B15.out.size))
    clear hb
    go_wp2_with fail
    go_ret
    exact ⟨rfl, B16.out⟩
theorem main_SpaceKeeps (extents : List (Int × Int)) (Aextents : Option Addr) (capextents : Nat) (free : List (Int × Int)) (Afree : Option Addr) (capfree : Nat) (n : Int) {w : World} (hcextents : extents.length ≤ capextents) (hdextents : capextents ≤ 9223372036854775807) (hrextents : RunsAt w (.slice Aextents extents.length capextents) extents) (hcfree : free.length ≤ capfree) (hdfree : capfree ≤ 9223372036854775807) (hrfree : RunsAt w (.slice Afree free.length capfree) free) (hn : -9223372036854775808 ≤ n ∧ n ≤ 9223372036854775807) :
    Calls Try.prog 16 #[.slice Aextents extents.length capextents, .slice Afree free.length capfree, .int .i64 n] w (Answers true w) := by
  by_cases h : extents.length ≤ 30 ∧ free.length ≤ 30
  · exact short_SpaceKeeps extents Aextents capextents free Afree capfree n hcextents hdextents hrextents hcfree hdfree hrfree hn  h.1 h.2
  · exact long_SpaceKeeps extents Aextents capextents free Afree capfree n hcextents hdextents hrextents hcfree hdfree hrfree hn h
theorem walk_SpaceKeeps (Aextents : Option Addr) (lenextents capextents : Nat) (Cextents : Nat → Nat → Value) (Afree : Option Addr) (lenfree capfree : Nat) (Cfree : Nat → Nat → Value) (n : Int) (w : World) (hlextents : lenextents ≤ capextents) (hmextents : capextents ≤ maxLen) (hEextents : Elems w Aextents lenextents 2 Cextents) (hextents0 : ∀ i, i < lenextents → ∃ n : Int, Cextents i 0 = .int .i64 n ∧ -9223372036854775808 ≤ n ∧ n ≤ 9223372036854775807) (hextents1 : ∀ i, i < lenextents → ∃ n : Int, Cextents i 1 = .int .i64 n ∧ -9223372036854775808 ≤ n ∧ n ≤ 9223372036854775807) (hlfree : lenfree ≤ capfree) (hmfree : capfree ≤ maxLen) (hEfree : Elems w Afree lenfree 2 Cfree) (hfree0 : ∀ i, i < lenfree → ∃ n : Int, Cfree i 0 = .int .i64 n ∧ -9223372036854775808 ≤ n ∧ n ≤ 9223372036854775807) (hfree1 : ∀ i, i < lenfree → ∃ n : Int, Cfree i 1 = .int .i64 n ∧ -9223372036854775808 ≤ n ∧ n ≤ 9223372036854775807) (hn : -9223372036854775808 ≤ n ∧ n ≤ 9223372036854775807) :
    Calls Try.prog 16 #[.slice Aextents lenextents capextents, .slice Afree lenfree capfree, .int .i64 n] w fun e w' => e = .returned (.bool true) ∧ Below w.heap.size w w' := by
  obtain ⟨extents, hnextents, hrextents⟩ := runs_of hlextents hmextents hEextents hextents0 hextents1
  subst hnextents
  unfold maxLen at hmextents
  obtain ⟨free, hnfree, hrfree⟩ := runs_of hlfree hmfree hEfree hfree0 hfree1
  subst hnfree
  unfold maxLen at hmfree
  exact main_SpaceKeeps extents _ capextents free _ capfree n hlextents (by omega) hrextents hlfree (by omega) hrfree hn
namespace spaceKeeps
theorem own : ownKnob Try.prog.godebug = none := by kernel_rfl
theorem laidOut : laidOutB Try.prog = true := by kernel_rfl
set_option linter.unusedVariables false
set_option maxRecDepth 100000 in
theorem lifted (os : Os) (started : os.Started) (H : Type) (enc : TypeId × Value → H) :
    ReturnsInHanded {} Try.checked os 16 .any (Rows.spaceKeepsSpec.pre6 enc Try.prog Try.f16 Rows.spaceKeepsRow.domain false) (Rows.spaceKeepsSpec.post enc Try.prog Try.f16 false true false false) := by
  refine returnsInHanded_of_change (C := Try.checked) own started (by kernel_rfl) Try.func16
    (ChangeSpec.witness6 (enc := enc) (C := Try.checked) false ⟨#[], #[.slice none 0 0, .slice none 0 0, .int .i64 0], []⟩ 8 (by kernel_rfl) (by kernel_rfl) (by kernel_rfl) (by kernel_rfl)) ?_
  intro W base args ds gs before hval0 hW hcnd _
  have hval : ∀ (j : Nat) t v, Try.f16.params[j]? = some t → args[j]? = some v → Value.okWide Try.prog W .any base t v := hval0
  have hW' := hW
  obtain ⟨p, q, hA0, hV, rfl, hfz, hnd⟩ := hW
  have hA : DataW.TrodAll enc Try.prog W 0 (fun _ => true) true Try.f16.params.toList args.toList ds p := hA0
  rw [Try.params16] at hA hval
  obtain ⟨v0, vs0, d0, ds0, p0, q0, hargs, rfl, rfl, h0, r0⟩ := trodAll_cons hA
  obtain ⟨v1, vs1, d1, ds1, p1, q1, rfl, rfl, rfl, h1, r1⟩ := trodAll_cons r0
  obtain ⟨v2, vs2, d2, ds2, p2, q2, rfl, rfl, rfl, h2, r2⟩ := trodAll_cons r1
  obtain ⟨rfl, rfl, rfl⟩ := trodAll_nil r2
  obtain rfl : args = #[v0, v1, v2] := by cases args; simp_all
  obtain ⟨rfl, rfl⟩ := trodVars_none hV
  obtain ⟨a0, len0, cap0, rfl⟩ := okWide_slice Try.underlying22 (hval 0 22 v0 rfl rfl)
  have k0 := h0
  have lt0 : ∀ x ∈ p0, x.block < W.heap.size := by obtain ⟨m, hm⟩ := k0; exact DataW.trod_lt m _ _ _ hm
  obtain ⟨fuel0, hf0⟩ := h0
  obtain ⟨A0, l0, c0, C0, hcs0, hl0, hm0, hE0, hF0⟩ := open_elems Try.underlying22 Try.underlying47 (by kernel_rfl) (by kernel_rfl) (by decide) hf0
  simp only [Value.cells, List.cons.injEq, Value.slice.injEq, and_true] at hcs0
  obtain ⟨rfl, rfl, rfl⟩ := hcs0
  have s0_0 : ∀ i, i < len0 → ∃ n : Int, C0 i 0 = .int .i64 n ∧ -9223372036854775808 ≤ n ∧ n ≤ 9223372036854775807 := fun i hi => by obtain ⟨y, n, hy⟩ := hF0 i 0 _ hi rfl; obtain ⟨n, e, _, hw⟩ := DataW.trod_int Try.underlying3 hy; exact ⟨n, List.head_eq_of_cons_eq e, bounds_i64 hw⟩
  have s0_1 : ∀ i, i < len0 → ∃ n : Int, C0 i 1 = .int .i64 n ∧ -9223372036854775808 ≤ n ∧ n ≤ 9223372036854775807 := fun i hi => by obtain ⟨y, n, hy⟩ := hF0 i 1 _ hi rfl; obtain ⟨n, e, _, hw⟩ := DataW.trod_int Try.underlying3 hy; exact ⟨n, List.head_eq_of_cons_eq e, bounds_i64 hw⟩
  obtain ⟨a1, len1, cap1, rfl⟩ := okWide_slice Try.underlying22 (hval 1 22 v1 rfl rfl)
  have k1 := h1
  have lt1 : ∀ x ∈ p1, x.block < W.heap.size := by obtain ⟨m, hm⟩ := k1; exact DataW.trod_lt m _ _ _ hm
  obtain ⟨fuel1, hf1⟩ := h1
  obtain ⟨A1, l1, c1, C1, hcs1, hl1, hm1, hE1, hF1⟩ := open_elems Try.underlying22 Try.underlying47 (by kernel_rfl) (by kernel_rfl) (by decide) hf1
  simp only [Value.cells, List.cons.injEq, Value.slice.injEq, and_true] at hcs1
  obtain ⟨rfl, rfl, rfl⟩ := hcs1
  have s1_0 : ∀ i, i < len1 → ∃ n : Int, C1 i 0 = .int .i64 n ∧ -9223372036854775808 ≤ n ∧ n ≤ 9223372036854775807 := fun i hi => by obtain ⟨y, n, hy⟩ := hF1 i 0 _ hi rfl; obtain ⟨n, e, _, hw⟩ := DataW.trod_int Try.underlying3 hy; exact ⟨n, List.head_eq_of_cons_eq e, bounds_i64 hw⟩
  have s1_1 : ∀ i, i < len1 → ∃ n : Int, C1 i 1 = .int .i64 n ∧ -9223372036854775808 ≤ n ∧ n ≤ 9223372036854775807 := fun i hi => by obtain ⟨y, n, hy⟩ := hF1 i 1 _ hi rfl; obtain ⟨n, e, _, hw⟩ := DataW.trod_int Try.underlying3 hy; exact ⟨n, List.head_eq_of_cons_eq e, bounds_i64 hw⟩
  obtain ⟨a2, rfl, rfl, rfl, w2⟩ := open_int Try.underlying3 (hval 2 3 v2 rfl rfl) h2
  clear hA0 hval0
  refine (walk_SpaceKeeps a0 len0 cap0 C0 a1 len1 cap1 C1 a2 hl0 hm0 hE0 s0_0 s0_1 hl1 hm1 hE1 s1_0 s1_1 (bounds_i64 w2) (w := W)).mono fun e W' ⟨he, bel⟩ => ?_
  subst he
  exact ⟨_, rfl, _, _, _, [], _, [], hW', trodAll_mk1 (shut_bool Try.underlying4 _), (trodAll_cons_mk (Below.trod laidOut (by kernel_rfl) (of_decide_eq_true (by kernel_rfl)) k0 bel lt0) (trodAll_cons_mk (Below.trod laidOut (by kernel_rfl) (of_decide_eq_true (by kernel_rfl)) k1 bel lt1) (trodAll_cons_mk (shut_int Try.underlying3 w2) trodAll_mk0))), rfl, bel.frame _, fun h => by cases h⟩
theorem over : Rows.spaceKeepsRow.holds Try.pinned (OpenSpec.ofChange Rows.spaceKeepsSpec) :=
  OpenClaim.holds_of_wide 16 Try.f16 rfl rfl rfl rfl rfl rfl rfl ⟨rfl, rfl, rfl, rfl, rfl⟩ rfl rfl rfl rfl rfl (by kernel_rfl) Try.func16 (by kernel_rfl)
    (of_decide_eq_true (by kernel_rfl)) (by unfold Func.isWrapper; first | (rw [if_pos (by decide +kernel)]; kernel_rfl) | (rw [if_neg (by decide +kernel)]; exact ⟨rfl, rfl⟩))
    (fun os started H enc _ => lifted os started H enc)
theorem proved : Rows.SpaceKeepsSaid := over
end spaceKeeps

end Go.Proofs.Ytfdmieeldiljlaa
