/- Statement VariableBuilds: adding records one by one gives their blocks, and a record fits exactly if Room says so. For all numbers, and at most 40 records of at most 300 bytes, which is the statement's own bound. -/
import Derived.Test.YtklbckonlbpbgaaRows
import Derived.WalkKit
import Derived.ProofKit
import Derived.OpenShut
import Derived.ShutString
import Derived.ChangeOld
import Derived.Below
import Derived.Test.YtklbckonlbpbgaaSlices
import Derived.Test.YtklbckonlbpbgaaOpen
import Derived.Test.YtklbckonlbpbgaaVarT7
namespace Go.Proofs.Ytklbckonlbpbgaa
open Go.Lib Go.ChangeShapes Go.WideShapes Go.ChangeAt Go.RowKit
open Go.ChangeMaps (open_string shut_string)
set_option linter.unusedVariables false
/-- the last block, which is empty as long as there is none -/
def lastV (t : List ByteArray) : ByteArray := if t = [] then ⟨#[]⟩ else vblock t
theorem lastV_nil : lastV [] = ⟨#[]⟩ := rfl
theorem lastV_ne {t : List ByteArray} (h : t ≠ []) : lastV t = vblock t := by unfold lastV; rw [if_neg h]
/-- one more record: what the last block answers -/
theorem build_step {x b : Nat} (hb1 : x + 8 ≤ b) (l : List ByteArray) (hl : ∀ y ∈ l, y.size ≤ x) (r : ByteArray) (hr : r.size ≤ x) :
    ((vsteps b l).2 = [] ∧ vsteps b (l ++ [r]) = ((vsteps b l).1, [r])) ∨
    (∃ t, (vsteps b l).2 = t ∧ t ≠ [] ∧ isV x b t (vblock t) ∧ (r.size : Int) ≤ roomI x b (vblock t) ∧ vsteps b (l ++ [r]) = ((vsteps b l).1, t ++ [r])) ∨
    (∃ t, (vsteps b l).2 = t ∧ t ≠ [] ∧ isV x b t (vblock t) ∧ ¬ (r.size : Int) ≤ roomI x b (vblock t) ∧ vsteps b (l ++ [r]) = ((vsteps b l).1 ++ [t], [r])) := by
  have hi := vsteps_inv x b hb1 l hl
  obtain ⟨D, t, hDt⟩ : ∃ D t, vsteps b l = (D, t) := ⟨_, _, rfl⟩
  rw [vsteps_snoc, hDt]
  rw [hDt] at hi
  by_cases ht : t = []
  · left
    subst ht
    refine ⟨rfl, ?_⟩
    unfold vstep
    have h0 : (vbody []).size = 0 := rfl
    rw [if_neg (by show ¬ b < 8 + (vbody []).size + r.size; omega)]
    rfl
  · right
    have hts : (vbody t).size + 4 ≤ b := hi.tsize
    have hv : isV x b t (vblock t) := ⟨rfl, ht, fun y hy => hl y (by rw [← hi.flat]; exact List.mem_append_right _ hy), by rw [vblock_size]; omega⟩
    have hsz := vblock_size t
    by_cases hc : b < 8 + (vbody t).size + r.size
    · right
      refine ⟨t, rfl, ht, hv, by unfold roomI; omega, ?_⟩
      unfold vstep; rw [if_pos hc]
    · left
      refine ⟨t, rfl, ht, hv, by unfold roomI; omega, ?_⟩
      unfold vstep; rw [if_neg hc]
set_option maxRecDepth 100000 in
set_option maxHeartbeats 4000000 in
theorem long_VariableBuilds (L B : Int) (A : Option Addr) (cap : Nat) (l : List ByteArray) (hz : ∀ x ∈ l, x.size ≤ 9223372036854775807) (w : World) (hr : StrsAt w (.slice A l.length cap) l) (hf : ¬ few l 40 300) :
    Calls Try.prog 9 #[.int .i64 L, .int .i64 B, .slice A l.length cap] w (Gives (.bool true) w) := by
  have Hr := hid hr
  have HN := hid hf
  have HZ := hid hz
  clear hr hf hz
  go_enter Try.func9, Try.ntmps9
  go_wp2_with fail
  refine (vawake_any _).mono ?_
  rintro e w1 ⟨rfl, hb⟩
  replace Hr := hid (Hr.out.below hb (Nat.le_refl _))
  have B1 := hid (hb)
  clear hb
  go_wp2_with fail
  refine (few_no _ l 40 300 (by omega) (by omega) HZ.out HN.out _ Hr.out).mono ?_
  rintro e wq ⟨rfl, rfl⟩
  go_wp2_with fail
  refine (vawake_any _).mono ?_
  rintro e w2 ⟨rfl, hb⟩
  replace Hr := hid (Hr.out.below hb (Nat.le_refl _))
  have B2 := hid (B1.out.trans (hb.mono B1.out.size))
  clear hb
  go_wp2_with fail
  go_ret
  exact ⟨rfl, B2.out⟩
set_option maxRecDepth 100000 in
set_option maxHeartbeats 4000000 in
theorem misfit_VariableBuilds (L B : Int) (A : Option Addr) (cap : Nat) (l : List ByteArray) (hB : B ≤ 9223372036854775807) (w : World) (hr : StrsAt w (.slice A l.length cap) l) (hf : few l 40 300) (hn : ¬ vfits L B) :
    Calls Try.prog 9 #[.int .i64 L, .int .i64 B, .slice A l.length cap] w (Gives (.bool true) w) := by
  have Hr := hid hr
  have HN := hid hf
  have V1 := fun W => hid (vvalid_any L B hB W)
  rw [decide_eq_false hn] at V1
  clear hr hf hn
  go_enter Try.func9, Try.ntmps9
  go_wp2_with fail
  refine (vawake_any _).mono ?_
  rintro e w1 ⟨rfl, hb⟩
  replace Hr := hid (Hr.out.below hb (Nat.le_refl _))
  have B1 := hid (hb)
  clear hb
  go_wp2_with fail
  refine (few_yes _ l 40 300 (by omega) (by omega) HN.out _ Hr.out).mono ?_
  rintro e wq ⟨rfl, rfl⟩
  go_wp2_with fail
  refine ((V1 _).out).mono ?_
  rintro e wq ⟨rfl, rfl⟩
  go_wp2_with fail
  refine (vawake_any _).mono ?_
  rintro e w2 ⟨rfl, hb⟩
  replace Hr := hid (Hr.out.below hb (Nat.le_refl _))
  have B2 := hid (B1.out.trans (hb.mono B1.out.size))
  clear hb
  go_wp2_with fail
  go_ret
  exact ⟨rfl, B2.out⟩
set_option maxRecDepth 100000 in
set_option maxHeartbeats 8000000 in
theorem main_VariableBuilds (x b : Nat) (hft : vfits (x : Int) (b : Int)) (A : Option Addr) (cap : Nat) (l : List ByteArray) (w : World) (hr : StrsAt w (.slice A l.length cap) l) (hf : few l 40 300) :
    Calls Try.prog 9 #[.int .i64 x, .int .i64 b, .slice A l.length cap] w (Gives (.bool true) w) := by
  have Hr := hid hr
  have HN := hid hf
  have hl40 := hf.1
  have V1 := fun W => hid (vvalid_any x b (by have := hft.2.2.2; omega) W)
  rw [decide_eq_true hft] at V1
  have HFT := hid hft
  have hx1 : 1 ≤ x := by have := hft.1; omega
  have hx2 : x ≤ 1000 := by have := hft.2.1; omega
  have hb1 : x + 8 ≤ b := by have := hft.2.2.1; omega
  have hb2 : b ≤ 1024 := by have := hft.2.2.2; omega
  have K1 := fun v W hW => hid (fair11_any x hx2 v l (by omega) (fun y hy => by have := hf.2 y hy; omega) W hW)
  obtain ⟨R, hR⟩ : ∃ R, R = fairL x l := ⟨_, rfl⟩
  have hR40 : R.length ≤ 40 := by rw [hR]; exact Nat.le_trans (fairL_len x l) hl40
  have hRx : ∀ y ∈ R, y.size ≤ x := fun y hy => by rw [hR] at hy; exact (fairL_le hy).1
  have hRz : ∀ y ∈ R, y.size ≤ 300 := fun y hy => by rw [hR] at hy; exact hf.2 y (fairL_le hy).2
  rw [← hR] at K1
  have P1 : ∀ (A : Option Addr) cap W, StrsAt W (.slice A R.length cap) R → Hid (Calls Try.prog 13 #[.int .i64 x, .int .i64 b, .slice A R.length cap] W (fun e w' => ∃ v, e = .returned (.tuple #[v, .int .i64 0]) ∧ StrsAt w' v (vblocks b R) ∧ Below W.heap.size W w')) := fun A cap W hW =>
    hid ((vpack_ok x b hft A cap R (by omega) R.length (Nat.le_refl _) (fun i hi hj => hRx _ (List.getElem_mem hj)) (fun y hy => by have := hRz y hy; omega) (fun h => absurd h (Nat.lt_irrefl _)) W hW).mono fun e w' ⟨h1, h2⟩ => by
      rw [if_neg (Nat.lt_irrefl _)] at h1
      obtain ⟨v, h3, h4⟩ := h1
      exact ⟨v, h3, h4, h2⟩)
  have HP1 := hid P1
  have HRX := hid hRx
  have HRZ := hid hRz
  have NEW := fun r (h : r.size ≤ x) W => hid (vadd_new x b x r (by omega) (fun W => vroom_new x b hft W) (by omega) W)
  have ROOM0 := fun W => hid (vroom_new x b hft W)
  have ROOM1 := fun t (h : isV x b t (vblock t)) W => hid (vroom_ok x b hft _ t h W)
  have MORE := fun t r (h : isV x b t (vblock t)) (hr : r.size ≤ 300) (hle : (r.size : Int) ≤ roomI x b (vblock t)) W => hid (vadd_more x b _ t _ r rfl (by have := h.2.2.2; omega) (by omega) (fun W => vroom_ok x b hft _ t h W) hle W)
  have NONE := fun t r (h : isV x b t (vblock t)) (hr : r.size ≤ 300) (hle : ¬ (r.size : Int) ≤ roomI x b (vblock t)) W => hid (vadd_no x b _ _ r (by omega) (fun W => vroom_ok x b hft _ t h W) (by omega) W)
  have HINV : Hid (∀ j, (vsteps b (R.take j)).1.length ≤ 40) := hid (fun j => by
    have := (vsteps_inv x b hb1 (R.take j) (fun y hy => hRx y (List.mem_of_mem_take hy))).count
    simp only [List.length_take] at this; omega)
  have HST : Hid (∀ j (h : j < R.length), _) := hid (fun j (h : j < R.length) => build_step hb1 (R.take j) (fun y hy => hRx y (List.mem_of_mem_take hy)) R[j] (hRx _ (List.getElem_mem h)))
  have HNEW := hid NEW
  have HROOM1 := hid ROOM1
  have HMORE := hid MORE
  have HNONE := hid NONE
  clear hR hRx hRz hr hf hft P1 NEW ROOM1 MORE NONE
  go_enter Try.func9, Try.ntmps9
  go_wp2_with fail
  refine (vawake_any _).mono ?_
  rintro e w1 ⟨rfl, hb⟩
  replace Hr := hid (Hr.out.below hb (Nat.le_refl _))
  have B1 := hid (hb)
  clear hb
  go_wp2_with fail
  refine (few_yes _ l 40 300 (by omega) (by omega) HN.out _ Hr.out).mono ?_
  rintro e wq ⟨rfl, rfl⟩
  go_wp2_with fail
  refine ((V1 _).out).mono ?_
  rintro e wq ⟨rfl, rfl⟩
  go_wp2_with fail
  refine ((K1 _ _ Hr.out).out).mono ?_
  rintro e w2 ⟨v, rfl, h1, hb⟩
  replace Hr := hid (Hr.out.below hb (Nat.le_refl _))
  have B2 := hid (B1.out.trans (hb.mono B1.out.size))
  have Hv := hid h1
  clear h1 hb
  obtain ⟨Av, capv, rfl, hcv1, hcv2⟩ := Hv.out.shape
  go_wp2_with fail
  go_loopw [8, 9, 36] (fun s8 s9 i wr => ∃ (j : Nat) (u' : Value) (y : ByteArray), u' = s8 ∧ s9 = .string y ∧ y = lastV (vsteps b (R.take j)).2 ∧ j ≤ R.length ∧ i = .int .i64 j ∧ OwnStrs wr u' ((vsteps b (R.take j)).1.map vblock) ∧ Fresh w2 u' ∧ Below w2.heap.size w2 wr) (fun _ _ i _ => R.length - (RowKit.intOf i).toNat)
  case atStart => exact ⟨0, _, _, rfl, rfl, rfl, by omega, by go_num, OwnStrs.nil _ _, (by rintro k ⟨a, n, c, e, hc, _⟩; cases e; omega), (Below.refl _ _).alloc (Nat.le_refl _) _⟩
  case round =>
    obtain ⟨j, u, y, rfl, rfl, hy, hj, rfl, ho, hfr, hb⟩ := hrel
    have HB := hid hb
    have HO := hid ho
    have HF := hid hfr
    by_cases hlt : j < R.length
    · obtain ⟨b0, off, rfl, hb0, c0⟩ := (Hv.out.below hb (Nat.le_refl _)).round hlt
      have hxz := HRZ.out _ (List.getElem_mem hlt)
      have hxx := HRX.out _ (List.getElem_mem hlt)
      have hst := HST.out j hlt
      have hD := HINV.out j
      obtain ⟨r, hre⟩ : ∃ r, r = R[j] := ⟨_, rfl⟩
      have htk : R.take (j + 1) = R.take j ++ [r] := by rw [hre, List.take_succ_eq_append_getElem hlt]
      rw [← hre] at c0 hxz hxx hst
      rw [← htk] at hst
      obtain ⟨D, t, hDt⟩ : ∃ D t, vsteps b (R.take j) = (D, t) := ⟨_, _, rfl⟩
      rw [hDt] at hst hy ho hD
      replace ho : OwnStrs wr u (D.map vblock) := ho
      replace hy : y = lastV t := hy
      replace hD : D.length ≤ 40 := hD
      have HO := hid ho
      have hDk : (D.map vblock).length ≤ 100000 := by rw [List.length_map]; omega
      have hxI : (r.size : Int) ≤ (x : Int) := by omega
      rcases hst with ⟨ht, hst⟩ | ⟨t', ht, hne, hv, hle, hst⟩ | ⟨t', ht, hne, hv, hle, hst⟩
      · replace ht : t = [] := ht
        replace hst : vsteps b (R.take (j + 1)) = (D, [r]) := hst
        rw [ht, lastV_nil] at hy
        subst hy
        have HS := hid hst
        have Y := fun W => hid (HNEW.out r hxx W).out
        obtain ⟨q, hq⟩ : ∃ q, q = vblock [r] := ⟨_, rfl⟩
        rw [← hq] at Y
        have HQ : Hid (q = lastV [r]) := hid (by rw [hq]; rfl)
        clear hre htk ho hfr hb hDt ht hst hq hD
        go_wp2_with fail
        refine (Y _).out.mono ?_
        rintro e wa ⟨rfl, hb⟩
        have HA := hid (HB.out.trans (hb.mono HB.out.size))
        have HOA := hid (HO.out.below hb (Nat.le_refl _))
        clear hb
        go_wp2_with fail
        refine (ROOM0 _).out.mono ?_
        rintro e wc ⟨rfl, hb⟩
        have HC := hid (HA.out.trans (hb.mono HA.out.size))
        have HOC := hid (HOA.out.below hb (Nat.le_refl _))
        clear hb
        go_wp2_with fail
        go_roundw
        case rel => exact ⟨j + 1, _, _, rfl, rfl, by rw [HS.out]; exact HQ.out, by omega, by go_num, by rw [HS.out]; exact HOC.out, HF.out, HC.out⟩
        case measure => simp [RowKit.intOf]; omega
      · replace ht : t = t' := ht
        subst ht
        replace hst : vsteps b (R.take (j + 1)) = (D, t ++ [r]) := hst
        rw [lastV_ne hne] at hy
        have HS := hid hst
        have Y := fun W => hid (HMORE.out t r hv hxz hle W).out
        have Z := fun W => hid (HROOM1.out t hv W).out
        have hys : y.size ≤ 1024 := by rw [hy]; have := hv.2.2.2; omega
        obtain ⟨z, hz⟩ : ∃ z, z = roomI x b (vblock t) := ⟨_, rfl⟩
        rw [← hz] at hle Z
        rw [← hy] at Y Z
        obtain ⟨q, hq⟩ : ∃ q, q = vblock (t ++ [r]) := ⟨_, rfl⟩
        rw [← hq] at Y
        have HQ : Hid (q = lastV (t ++ [r])) := hid (by rw [hq, lastV_ne (by simp)])
        clear hre htk ho hfr hb hDt hst hq hD hv hy hz hne
        go_wp2_with fail
        refine (Y _).out.mono ?_
        rintro e wa ⟨rfl, hb⟩
        have HA := hid (HB.out.trans (hb.mono HB.out.size))
        have HOA := hid (HO.out.below hb (Nat.le_refl _))
        clear hb
        go_wp2_with fail
        refine (Z _).out.mono ?_
        rintro e wc ⟨rfl, hb⟩
        have HC := hid (HA.out.trans (hb.mono HA.out.size))
        have HOC := hid (HOA.out.below hb (Nat.le_refl _))
        clear hb
        go_wp2_with fail
        go_roundw
        case rel => exact ⟨j + 1, _, _, rfl, rfl, by rw [HS.out]; exact HQ.out, by omega, by go_num, by rw [HS.out]; exact HOC.out, HF.out, HC.out⟩
        case measure => simp [RowKit.intOf]; omega
      · replace ht : t = t' := ht
        subst ht
        replace hst : vsteps b (R.take (j + 1)) = (D ++ [t], [r]) := hst
        rw [lastV_ne hne] at hy
        have HS := hid hst
        have Y := fun W => hid (HNONE.out t r hv hxz hle W).out
        have Z := fun W => hid (HROOM1.out t hv W).out
        have N := fun W => hid (HNEW.out r hxx W).out
        obtain ⟨z, hz⟩ : ∃ z, z = roomI x b (vblock t) := ⟨_, rfl⟩
        rw [← hz] at hle Z
        rw [← hy] at Y Z
        have HY := hid hy
        obtain ⟨q, hq⟩ : ∃ q, q = vblock [r] := ⟨_, rfl⟩
        rw [← hq] at N
        have HQ : Hid (q = lastV [r]) := hid (by rw [hq]; rfl)
        clear hre htk ho hfr hb hDt hst hq hD hv hy hz hne
        go_wp2_with fail
        refine (Y _).out.mono ?_
        rintro e wa ⟨rfl, hb⟩
        have HA := hid (HB.out.trans (hb.mono HB.out.size))
        have HOA := hid (HO.out.below hb (Nat.le_refl _))
        clear hb
        go_wp2_with fail
        refine (Z _).out.mono ?_
        rintro e wc ⟨rfl, hb⟩
        have HC := hid (HA.out.trans (hb.mono HA.out.size))
        have HOC := hid (HOA.out.below hb (Nat.le_refl _))
        have HSC := hid HC.out.size
        clear hb
        go_wp2_with (at_builtin; refine wpList_append_strs (by rfl) (.tmp 59) (.tmp 61) rfl u (D.map vblock) rfl (OwnStrs.alloc HOC.out _) _ [y] rfl (strs_new1 _ y _ (by simp)) hDk (by simp) ?_; intro u8 w8 hs8 hu8 hh8)
        have HB8 := hid ((HC.out.alloc HSC.out (.cells #[.string y] 9)).trans (hu8.out.below (by have := HSC.out; simp; omega) (fun b hb => HF.out b hb)))
        have HF8 : Hid (Fresh w2 u8) := hid (fun b hb => (hh8.out b hb).elim (HF.out b) (fun h => by have := HSC.out; simp at h; omega))
        refine (N _).out.mono ?_
        rintro e wd ⟨rfl, hb⟩
        have HD := hid (HB8.out.trans (hb.mono HB8.out.size))
        have HOD := hid (hs8.out.below hb (Nat.le_refl _))
        clear hb
        go_wp2_with fail
        go_roundw
        case rel =>
          refine ⟨j + 1, _, _, rfl, rfl, by rw [HS.out]; exact HQ.out, by omega, by go_num, ?_, HF8.out, HD.out⟩
          rw [HS.out]
          show OwnStrs _ _ ((D ++ [t]).map vblock)
          rw [List.map_append, List.map_cons, List.map_nil, ← HY.out]; exact HOD.out
        case measure => simp [RowKit.intOf]; omega
    · obtain rfl : j = R.length := by omega
      rw [List.take_length] at hy ho
      have hD := HINV.out R.length
      rw [List.take_length] at hD
      obtain ⟨D, t, hDt⟩ : ∃ D t, vsteps b R = (D, t) := ⟨_, _, rfl⟩
      rw [hDt] at hy ho hD
      replace ho : OwnStrs wr u (D.map vblock) := ho
      replace hD : D.length ≤ 40 := hD
      replace hy : y = lastV t := hy
      have HO := hid ho
      have hDk : (D.map vblock).length ≤ 100000 := by rw [List.length_map]; omega
      have P2 := fun W hW => hid (HP1.out Av capv W hW).out
      have Hv3 := hid (Hv.out.below hb (Nat.le_refl _))
      by_cases ht : t = []
      · have hvb : vblocks b R = D.map vblock := by unfold vblocks vgroups; rw [hDt]; simp [ht]
        rw [ht, lastV_nil] at hy
        subst hy
        rw [hvb] at P2
        have HOT := hid HO.out.at
        clear ho hfr hb hvb hDt hD
        go_wp2_with fail
        refine (P2 _ Hv3.out).out.mono ?_
        rintro e wp ⟨vp, rfl, hvp, hb⟩
        have HP := hid (HB.out.trans (hb.mono HB.out.size))
        have HVP := hid hvp
        have HOP := hid (HOT.out.below hb (Nat.le_refl _))
        clear hb hvp
        go_wp2_with fail
        refine (same_yes _ _ (D.map vblock) _ HOP.out HVP.out).mono ?_
        rintro e wq ⟨rfl, hb⟩
        have HQ := hid (B2.out.trans ((HP.out.trans (hb.mono HP.out.size)).mono B2.out.size))
        clear hb
        go_wp2_with fail
        go_ret
        exact ⟨rfl, HQ.out⟩
      · have hvb : vblocks b R = D.map vblock ++ [vblock t] := by unfold vblocks vgroups; rw [hDt]; simp [ht]
        rw [lastV_ne ht] at hy
        have hyp : 0 < y.size := by rw [hy, vblock_size]; omega
        have hne := nel hyp
        have hie : y.toList.isEmpty = false := by simpa using hne
        rw [hvb, ← hy] at P2
        have HSB := hid HB.out.size
        clear ho hfr hb hvb hDt hD hy hyp
        go_wp2_with (at_builtin; refine wpList_append_strs (by rfl) (.tmp 76) (.tmp 78) rfl u (D.map vblock) rfl (OwnStrs.alloc HO.out _) _ [y] rfl (strs_new1 _ y _ (by simp)) hDk (by simp) ?_; intro u8 w8 hs8 hu8 hh8)
        have hb8 := (HB.out.alloc HSB.out (.cells #[.string y] 9)).trans (hu8.out.below (by have := HSB.out; simp; omega) (fun b hb => HF.out b hb))
        have HB8 := hid hb8
        have Hv8 := hid (Hv.out.below hb8 (Nat.le_refl _))
        have H8 := hid hs8.out.at
        clear hb8
        refine (P2 _ Hv8.out).out.mono ?_
        rintro e wp ⟨vp, rfl, hvp, hb⟩
        have HP := hid (HB8.out.trans (hb.mono HB8.out.size))
        have HVP := hid hvp
        have HOP := hid (H8.out.below hb (Nat.le_refl _))
        clear hb hvp
        go_wp2_with fail
        refine (same_yes _ _ (D.map vblock ++ [y]) _ HOP.out HVP.out).mono ?_
        rintro e wq ⟨rfl, hb⟩
        have HQ := hid (B2.out.trans ((HP.out.trans (hb.mono HP.out.size)).mono B2.out.size))
        clear hb
        go_wp2_with fail
        go_ret
        exact ⟨rfl, HQ.out⟩
theorem walk_VariableBuilds (L : Int) (B : Int) (Arecs : Option Addr) (lenrecs caprecs : Nat) (Crecs : Nat → Nat → Value) (w : World) (hL : -9223372036854775808 ≤ L ∧ L ≤ 9223372036854775807) (hB : -9223372036854775808 ≤ B ∧ B ≤ 9223372036854775807) (hlrecs : lenrecs ≤ caprecs) (hmrecs : caprecs ≤ maxLen) (hErecs : Elems w Arecs lenrecs 1 Crecs) (hsrecs : ∀ i, i < lenrecs → ∃ n : ByteArray, Crecs i 0 = .string n ∧ n.size ≤ maxLen) :
    Calls Try.prog 9 #[.int .i64 L, .int .i64 B, .slice Arecs lenrecs caprecs] w fun e w' => e = .returned (.bool true) ∧ Below w.heap.size w w' := by
  obtain ⟨l, hn, hr, hz⟩ := strs_of hlrecs hmrecs hErecs hsrecs
  subst hn
  by_cases hf : few l 40 300
  · by_cases hft : vfits L B
    · obtain ⟨x, b, rfl, rfl, _⟩ := hft.nat
      exact main_VariableBuilds x b hft Arecs caprecs l w hr hf
    · exact misfit_VariableBuilds L B Arecs caprecs l hB.2 w hr hf hft
  · exact long_VariableBuilds L B Arecs caprecs l hz w hr hf
namespace variableBuilds
theorem own : ownKnob Try.prog.godebug = none := by kernel_rfl
theorem laidOut : laidOutB Try.prog = true := by kernel_rfl
set_option linter.unusedVariables false
set_option maxRecDepth 100000 in
theorem lifted (os : Os) (started : os.Started) (H : Type) (enc : TypeId × Value → H) :
    ReturnsInHanded {} Try.checked os 9 .any (Rows.variableBuildsSpec.pre6 enc Try.prog Try.f9 Rows.variableBuildsRow.domain false) (Rows.variableBuildsSpec.post enc Try.prog Try.f9 false true false false) := by
  refine returnsInHanded_of_change (C := Try.checked) own started (by kernel_rfl) Try.func9
    (ChangeSpec.witness6 (enc := enc) (C := Try.checked) false ⟨#[], #[.int .i64 0, .int .i64 0, .slice none 0 0], []⟩ 8 (by kernel_rfl) (by kernel_rfl) (by kernel_rfl) (by kernel_rfl)) ?_
  intro W base args ds gs before hval0 hW hcnd _
  have hval : ∀ (j : Nat) t v, Try.f9.params[j]? = some t → args[j]? = some v → Value.okWide Try.prog W .any base t v := hval0
  have hW' := hW
  obtain ⟨p, q, hA0, hV, rfl, hfz, hnd⟩ := hW
  have hA : DataW.TrodAll enc Try.prog W 0 (fun _ => true) true Try.f9.params.toList args.toList ds p := hA0
  rw [Try.params9] at hA hval
  obtain ⟨v0, vs0, d0, ds0, p0, q0, hargs, rfl, rfl, h0, r0⟩ := trodAll_cons hA
  obtain ⟨v1, vs1, d1, ds1, p1, q1, rfl, rfl, rfl, h1, r1⟩ := trodAll_cons r0
  obtain ⟨v2, vs2, d2, ds2, p2, q2, rfl, rfl, rfl, h2, r2⟩ := trodAll_cons r1
  obtain ⟨rfl, rfl, rfl⟩ := trodAll_nil r2
  obtain rfl : args = #[v0, v1, v2] := by cases args; simp_all
  obtain ⟨rfl, rfl⟩ := trodVars_none hV
  obtain ⟨a0, rfl, rfl, rfl, w0⟩ := open_int Try.underlying3 (hval 0 3 v0 rfl rfl) h0
  obtain ⟨a1, rfl, rfl, rfl, w1⟩ := open_int Try.underlying3 (hval 1 3 v1 rfl rfl) h1
  obtain ⟨a2, len2, cap2, rfl⟩ := okWide_slice Try.underlying22 (hval 2 22 v2 rfl rfl)
  have k2 := h2
  have lt2 : ∀ x ∈ p2, x.block < W.heap.size := by obtain ⟨m, hm⟩ := k2; exact DataW.trod_lt m _ _ _ hm
  obtain ⟨fuel2, hf2⟩ := h2
  obtain ⟨A2, l2, c2, C2, hcs2, hl2, hm2, hE2, hF2⟩ := open_cells Try.underlying22 (by kernel_rfl) hf2
  simp only [Value.cells, List.cons.injEq, Value.slice.injEq, and_true] at hcs2
  obtain ⟨rfl, rfl, rfl⟩ := hcs2
  have s2_0 : ∀ i, i < len2 → ∃ n : ByteArray, C2 i 0 = .string n ∧ n.size ≤ maxLen := fun i hi => by obtain ⟨y, n, hy⟩ := hF2 i hi; obtain ⟨n, e, _, hw⟩ := DataW.trod_string Try.underlying9 hy; exact ⟨n, List.head_eq_of_cons_eq e, hw⟩
  clear hA0 hval0
  refine (walk_VariableBuilds a0 a1 a2 len2 cap2 C2 (bounds_i64 w0) (bounds_i64 w1) hl2 hm2 hE2 s2_0 (w := W)).mono fun e W' ⟨he, bel⟩ => ?_
  subst he
  exact ⟨_, rfl, _, _, _, [], _, [], hW', trodAll_mk1 (shut_bool Try.underlying4 _), (trodAll_cons_mk (shut_int Try.underlying3 w0) (trodAll_cons_mk (shut_int Try.underlying3 w1) (trodAll_cons_mk (Below.trod laidOut (by kernel_rfl) (of_decide_eq_true (by kernel_rfl)) k2 bel lt2) trodAll_mk0))), rfl, bel.frame _, fun h => by cases h⟩
theorem over : Rows.variableBuildsRow.holds Try.pinned (OpenSpec.ofChange Rows.variableBuildsSpec) :=
  OpenClaim.holds_of_wide 9 Try.f9 rfl rfl rfl rfl rfl rfl rfl ⟨rfl, rfl, rfl, rfl, rfl⟩ rfl rfl rfl rfl rfl (by kernel_rfl) Try.func9 (by kernel_rfl)
    (of_decide_eq_true (by kernel_rfl)) (by unfold Func.isWrapper; first | (rw [if_pos (by decide +kernel)]; kernel_rfl) | (rw [if_neg (by decide +kernel)]; exact ⟨rfl, rfl⟩))
    (fun os started H enc _ => lifted os started H enc)
theorem proved : Rows.VariableBuildsSaid := over
end variableBuilds

end Go.Proofs.Ytklbckonlbpbgaa
