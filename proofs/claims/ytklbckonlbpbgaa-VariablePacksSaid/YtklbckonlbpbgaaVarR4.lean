import Derived.Test.YtklbckonlbpbgaaVarT6
import Derived.Test.YtklbckonlbpbgaaVarR3
import Derived.Test.YtklbckonlbpbgaaStrA
import Derived.Deep.DeepCutAuto
/-! The reference's Pack. -/
namespace Go.Proofs.Ytklbckonlbpbgaa
open Go.Lib Go.ChangeShapes Go.WideShapes Go.ChangeAt Go.RowKit
set_option linter.unusedVariables false

set_option maxRecDepth 100000 in
set_option maxHeartbeats 400000 in
theorem refVpack_bad (L B : Int) (hB : B ≤ 9223372036854775807) (hf : ¬ vfits L B) (v : Value) (w : World) :
    Calls Try.prog 14 #[.int .i64 L, .int .i64 B, v] w (Gives (.tuple #[.slice none 0 0, .int .i64 1]) w) := by
  have HV := fun W => hid (refVvalid_any L B hB W)
  rw [decide_eq_false hf] at HV
  clear hf
  go_enter Try.func14, Try.ntmps14
  go_wp2_with fail
  refine (HV _).out.mono ?_
  rintro e w1 ⟨rfl, rfl⟩
  go_wp2_with fail
  go_ret2
  exact ⟨rfl, Below.refl _ _⟩
set_option maxRecDepth 100000 in
set_option maxHeartbeats 4000000 in
theorem refVpack_ok (x b : Nat) (hf : vfits (x : Int) (b : Int)) (A : Option Addr) (cap : Nat) (l : List ByteArray) (hl : l.length ≤ 1000) (s : Nat) (hs : s ≤ l.length) (hz : ∀ i (hi : i < s) (hj : i < l.length), l[i].size ≤ x) (hbig : ∀ x ∈ l, x.size ≤ 100000) (hne : ∀ h : s < l.length, x < l[s].size) (w : World) (hr : StrsAt w (.slice A l.length cap) l) :
    Calls Try.prog 14 #[.int .i64 x, .int .i64 b, .slice A l.length cap] w (VPacked b s l w) := by
  have HV := fun W => hid (refVvalid_any x b (by have := hf.2.2.2; omega) W)
  rw [decide_eq_true hf] at HV
  have hL2 : x ≤ 1000 := by have := hf.2.1; omega
  have hb1 : x + 8 ≤ b := by have := hf.2.2.1; omega
  have hb2 : b ≤ 1024 := by have := hf.2.2.2; omega
  have HINV : ∀ j, j ≤ s → VInv x b (l.take j) (vsteps b (l.take j)).1 (vsteps b (l.take j)).2 := fun j hj => vsteps_inv x b hb1 _ (fun y hy => by
    obtain ⟨i, hi, rfl⟩ := List.mem_iff_getElem.1 hy
    simp only [List.length_take] at hi
    rw [List.getElem_take]
    exact hz i (by omega) (by omega))
  have HI := hid HINV
  have HR := hid hr
  have HZ := hid hz
  have HBIG := hid hbig
  have HNE := hid hne
  obtain ⟨_, _, hsh, hcap1, hcap2⟩ := hr.shape
  simp only [Value.slice.injEq] at hsh
  obtain ⟨rfl, _, rfl⟩ := hsh
  clear hf hr hz hbig hne HINV
  go_enter Try.func14, Try.ntmps14
  go_wp2_with fail
  refine (HV _).out.mono ?_
  rintro e w1 ⟨rfl, rfl⟩
  go_wp2_with fail
  go_loopw [8, 9, 10] (fun s8 s9 s10 wr => ∃ (j : Nat) (u' v' : Value), u' = s8 ∧ v' = s9 ∧ j ≤ s ∧ s10 = .int .i64 j ∧ OwnStrs wr u' ((vsteps b (l.take j)).1.map vblock) ∧ Fresh w1 u' ∧ StrsAt wr v' (vsteps b (l.take j)).2 ∧ Below w1.heap.size w1 wr) (fun _ _ i _ => l.length - (intOf i).toNat)
  case atStart => exact ⟨0, _, _, rfl, rfl, by omega, by go_num, OwnStrs.nil _ _, (by rintro k ⟨a, n, c, e, hc, _⟩; cases e; omega), ⟨_, _, rfl, by simp [vsteps_nil], by omega, fun h => by simp [vsteps_nil] at h⟩, ((Below.refl _ _).alloc (Nat.le_refl _) _).alloc (by simp) _⟩
  case round =>
    obtain ⟨j, u, v, rfl, rfl, hj, rfl, ho, hfr, hv, hb⟩ := hrel
    have HB := hid hb
    have HF := hid hfr
    have HO := hid ho
    have hinv := HI.out j hj
    have htsz := hinv.tsize
    have hcnt := hinv.count
    have hDl : (vsteps b (l.take j)).1.length + (vsteps b (l.take j)).2.length ≤ 1000 := by have := hcnt; simp only [List.length_take] at this; omega
    by_cases hlt : j < l.length
    · obtain ⟨b0, off, rfl, hb0, c0⟩ := (HR.out.below hb (Nat.le_refl _)).round hlt
      have hbig := HBIG.out _ (List.getElem_mem hlt)
      by_cases hjs : j < s
      · have hx := HZ.out j hjs hlt
        obtain ⟨r, hre⟩ : ∃ r, r = l[j] := ⟨_, rfl⟩
        have htk : l.take (j + 1) = l.take j ++ [r] := by rw [hre, List.take_succ_eq_append_getElem hlt]
        have hst : vsteps b (l.take (j + 1)) = vstep b (vsteps b (l.take j)) r := by rw [htk, vsteps_snoc]
        rw [← hre] at c0 hx hbig
        obtain ⟨D, t, hDt⟩ : ∃ D t, vsteps b (l.take j) = (D, t) := ⟨_, _, rfl⟩
        rw [hDt] at hst hv ho hDl htsz
        have hv : StrsAt wr v t := hv
        have ho : OwnStrs wr u (D.map vblock) := ho
        have hDl : D.length + t.length ≤ 1000 := hDl
        have htl : t.length ≤ 1000 := by omega
        have HDL := hid hDl
        have HTSZ := hid htsz
        have HST := hid hst
        have HO := hid ho
        have HRE := hid hre
        have HK : Hid (Keep2 wr v t ⟨b0, off + j, none⟩ r wr.drew) := hid ⟨hv.below (below_drew wr) (Nat.le_refl _), c0, hb0, below_drew wr⟩
        have HK0 : Hid (Keep2 wr v t ⟨b0, off + j, none⟩ r wr) := hid ⟨hv, c0, hb0, Below.refl _ _⟩
        have HTL : Hid (t.length ≤ 100000) := hid (by show t.length ≤ 100000; omega)
        have HTL2 : Hid (([] ++ t).length ≤ 100000) := hid (by show t.length ≤ 100000; omega)
        obtain ⟨Av, capv, rfl, hcv1, hcv2⟩ := hv.shape
        clear hb hfr hinv hcnt hre htk hst hDt hv ho hDl htsz htl
        go_upto_region 9 with fail
        go_cut [8, 9, 10, 11] (fun s8 s9 s10 s11 wx => u = s8 ∧ s9 = .slice Av t.length capv ∧ s10 = .int .i64 j ∧ ∃ v9, v9 = s11 ∧ StrsAt wx v9 (t ++ [r]) ∧ Below wr.heap.size wr wx)
        case first =>
          have c0 := HK.out.2.1
          have ca := fun o => (HK0.out.alloc o).drew.2.1
          have cb := fun o o' => ((HK0.out.alloc o).alloc o').drew.2.1
          go_region_law (first
            | (refine step_append_strs (by rfl) (.tmp 31) (.tmp 32) rfl _ [] rfl (OwnStrs.nil _ _) _ t rfl (by first | exact HK.out.1 | exact (HK0.out.alloc _).drew.1 | exact ((HK0.out.alloc _).alloc _).drew.1) (by simp) HTL.out ?_; intro v8 w8 hs8 hu8 hh8; have K8 := hid (Keep2.below (by first | exact HK.out | exact (HK0.out.alloc _).drew | exact ((HK0.out.alloc _).alloc _).drew) hu8.out.below_empty); have HH8 := hid (Keep2.home (by first | exact HK.out | exact (HK0.out.alloc _).drew | exact ((HK0.out.alloc _).alloc _).drew) hh8.out); have c8 := K8.out.2.1)
            | (refine step_append_strs (by rfl) (.tmp 33) (.tmp 38) rfl _ ([] ++ t) rfl (by first | exact hs8.out | exact OwnStrs.alloc hs8.out _) _ [r] rfl (by first | exact strs_new1 w8 r _ (by simp) | exact StrsAt.below (StrsAt.drew (StrsAt.alloc (strs_new1 _ r _ (by simp)) _)) hu8.out.below_empty (Nat.le_refl _) | exact StrsAt.below (StrsAt.drew (strs_new1 _ r _ (by simp))) hu8.out.below_empty (Nat.le_refl _)) HTL2.out (by simp) ?_; intro v9 w9 hs9 hu9 hh9; have HB9 := hid (Keep2.fin (by first | exact K8.out | exact K8.out.alloc _) HH8.out hu9.out)))
          all_goals
            go_wp2_with fail
            go_meet
            exact ⟨rfl, rfl, rfl, _, rfl, hs9.out.at, HB9.out⟩
        case rest =>
          obtain ⟨rfl, rfl, rfl, v9, rfl, hn9, hb9⟩ := hcut
          have HN := hid hn9
          have KC := hid (HK0.out.below hb9)
          have HOC := hid (HO.out.below hb9 (Nat.le_refl _))
          have HBC := hid (HB.out.trans (hb9.mono HB.out.size))
          have hps : (vblock (t ++ [r])).size = 8 + (vbody t).size + r.size := by rw [vblock_size, vbody_snoc_size]; omega
          have htz : (vbody t).size + 4 ≤ b := HTSZ.out
          have P1 := fun W hW => hid (refBlock_any v9 (t ++ [r]) (by simp; have := HDL.out; omega) (by rw [vbody_snoc_size]; omega) W hW)
          have P2 := fun W hW => hid (refBlock_any (.slice Av t.length capv) t (by have := HDL.out; omega) (by omega) W hW)
          obtain ⟨p, hp⟩ : ∃ p, p = vblock (t ++ [r]) := ⟨_, rfl⟩
          rw [← hp] at P1 hps
          obtain ⟨q, hq⟩ : ∃ q, q = vblock t := ⟨_, rfl⟩
          rw [← hq] at P2
          have HQ := hid hq
          have hp3 : p.size ≤ 10000 := by omega
          clear hn9 hb9 hp hq
          by_cases hc : (b : Int) < (p.size : Int)
          · have hst2 : vsteps b (l.take (j + 1)) = (D ++ [t], [r]) := by
              rw [HST.out]; unfold vstep; rw [if_pos (by show b < 8 + (vbody t).size + r.size; omega)]
            have HST2 := hid hst2
            have hDk : (D.map vblock).length ≤ 100000 := by rw [List.length_map]; have := HDL.out; omega
            clear hst2 hps htz
            go_wp2_with fail
            refine (P1 _ HN.out).out.mono ?_
            rintro e w2 ⟨rfl, hb⟩
            have K2 := hid (KC.out.below hb)
            have HO2 := hid (HOC.out.below hb (Nat.le_refl _))
            have HB2 := hid (HBC.out.trans (hb.mono HBC.out.size))
            clear hb
            go_wp2_with fail
            refine (P2 _ K2.out.1).out.mono ?_
            rintro e w3 ⟨rfl, hb⟩
            have HO3 := hid (HO2.out.below hb (Nat.le_refl _))
            have HB3 := hid (HB2.out.trans (hb.mono HB2.out.size))
            have HSZ3 := hid HB3.out.size
            clear hb
            go_upto_region 12 with (at_builtin; refine wpList_append_strs (by rfl) (.tmp 45) (.tmp 48) rfl u (D.map vblock) rfl (OwnStrs.alloc HO3.out _) _ [q] rfl (strs_new1 _ q _ (by simp)) hDk (by simp) ?_; intro u8 w8 hs8 hu8 hh8)
            have HB8 := hid ((HB3.out.alloc HSZ3.out (.cells #[.string q] 9)).trans (hu8.out.below (by have := HSZ3.out; simp; omega) (fun b hb => HF.out b hb)))
            have HF8 : Hid (Fresh w1 u8) := hid (fun b hb => (hh8.out b hb).elim (HF.out b) (fun h => by have := HSZ3.out; simp at h; omega))
            obtain ⟨b', off', e8, hb8, c8⟩ := (HR.out.below HB8.out (Nat.le_refl _)).round hlt
            rw [← HRE.out] at c8
            cases e8
            have hn8 := strs_new1 w8 r w8.heap.size rfl
            have ho8 := hs8.out.alloc (.cells #[.string r] 9)
            have hb9 := HB8.out.alloc HB8.out.size (.cells #[.string r] 9)
            obtain ⟨wn, hwn⟩ : ∃ q, q = w8.alloc (.cells #[.string r] 9) := ⟨_, rfl⟩
            have HWN : Hid (w8.alloc (.cells #[.string r] 9) = wn) := hid hwn.symm
            rw [← hwn] at hn8 ho8 hb9
            have HN8 := hid hn8
            have HO8 := hid ho8
            have HB9 := hid hb9
            clear hwn hn8 ho8 hb9
            go_wp2_with fail
            rw [HWN.out]
            go_roundw
            case rel =>
              refine ⟨j + 1, _, _, rfl, rfl, by omega, by go_num, ?_, HF8.out, ?_, HB9.out⟩
              · rw [HST2.out]
                show OwnStrs _ _ ((D ++ [t]).map vblock)
                rw [List.map_append, List.map_cons, List.map_nil, ← HQ.out]; exact HO8.out
              · rw [HST2.out]; exact HN8.out
            case measure => simp [intOf]; omega
          · have hst2 : vsteps b (l.take (j + 1)) = (D, t ++ [r]) := by
              rw [HST.out]; unfold vstep; rw [if_neg (by show ¬ b < 8 + (vbody t).size + r.size; omega)]
            have HST2 := hid hst2
            clear hst2 hps htz P2
            go_wp2_with fail
            refine (P1 _ HN.out).out.mono ?_
            rintro e w2 ⟨rfl, hb⟩
            have HO2 := hid (HOC.out.below hb (Nat.le_refl _))
            have HN2 := hid (HN.out.below hb (Nat.le_refl _))
            have HB2 := hid (HBC.out.trans (hb.mono HBC.out.size))
            clear hb
            go_wp2_with fail
            go_roundw
            case rel =>
              refine ⟨j + 1, _, _, rfl, rfl, by omega, by go_num, ?_, HF.out, ?_, HB2.out⟩
              · rw [HST2.out]; exact HO2.out
              · rw [HST2.out]; exact HN2.out
            case measure => simp [intOf]; omega
      · have hsj : j = s := by omega
        subst hsj
        have hx := HNE.out hlt
        have HFIN : Hid (∀ w', Below w1.heap.size w1 w' → VPacked b j l w1 (.returned (.tuple #[.slice none 0 0, .int .i64 2])) w') := hid (fun w' h => ⟨by rw [if_pos hlt], h⟩)
        obtain ⟨r, hre⟩ : ∃ r, r = l[j] := ⟨_, rfl⟩
        rw [← hre] at c0 hx hbig
        clear hb hfr hinv hcnt hre hv ho hDl htsz HO
        go_wp2_with fail
        go_ret2
        exact HFIN.out _ HB.out
    · obtain rfl : j = l.length := by omega
      obtain rfl : s = l.length := by omega
      rw [List.take_length] at hv ho hinv hDl htsz
      have HFIN : Hid (∀ v w', StrsAt w' v (vblocks b l) → Below w1.heap.size w1 w' → VPacked b l.length l w1 (.returned (.tuple #[v, .int .i64 0])) w') := hid (fun v w' h1 h2 => ⟨by rw [if_neg (Nat.lt_irrefl _)]; exact ⟨v, rfl, h1⟩, h2⟩)
      obtain ⟨D, t, hDt⟩ : ∃ D t, vsteps b l = (D, t) := ⟨_, _, rfl⟩
      rw [hDt] at hv ho hDl htsz
      have hv : StrsAt wr v t := hv
      have ho : OwnStrs wr u (D.map vblock) := ho
      have hDl : D.length + t.length ≤ 1000 := hDl
      have htsz : (vbody t).size + 4 ≤ b := htsz
      obtain ⟨Av, capv, rfl, hcv1, hcv2⟩ := hv.shape
      by_cases ht : t = []
      · have hvb : vblocks b l = D.map vblock := by unfold vblocks vgroups; rw [hDt]; simp [ht]
        subst ht
        rw [← hvb] at ho
        have HO := hid ho.at
        clear hb hfr hinv hcnt hv ho hvb htsz hDl hDt
        go_wp2_with fail
        go_ret2
        exact HFIN.out _ _ HO.out HB.out
      · have hvb : vblocks b l = D.map vblock ++ [vblock t] := by unfold vblocks vgroups; rw [hDt]; simp [ht]
        have htp : 0 < t.length := List.length_pos_iff.2 ht
        have P2 := fun W hW => hid (refBlock_any (.slice Av t.length capv) t (by omega) (by omega) W hW)
        obtain ⟨q, hq⟩ : ∃ q, q = vblock t := ⟨_, rfl⟩
        rw [← hq] at P2 hvb
        have hDk : (D.map vblock).length ≤ 100000 := by rw [List.length_map]; omega
        have HO := hid ho
        have HV := hid hv
        have HVB := hid hvb
        clear hb hfr hinv hcnt hv ho hvb htsz hDt hq ht
        go_wp2_with fail
        refine (P2 _ HV.out).out.mono ?_
        rintro e w3 ⟨rfl, hb⟩
        have HO3 := hid (HO.out.below hb (Nat.le_refl _))
        have HB3 := hid (HB.out.trans (hb.mono HB.out.size))
        have HSZ3 := hid HB3.out.size
        clear hb
        go_wp2_with (at_builtin; refine wpList_append_strs (by rfl) (.tmp 59) (.tmp 62) rfl u (D.map vblock) rfl (OwnStrs.alloc HO3.out _) _ [q] rfl (strs_new1 _ q _ (by simp)) hDk (by simp) ?_; intro u8 w8 hs8 hu8 hh8)
        have HB8 := hid ((HB3.out.alloc HSZ3.out (.cells #[.string q] 9)).trans (hu8.out.below (by have := HSZ3.out; simp; omega) (fun b hb => HF.out b hb)))
        have h8 := hs8.out
        rw [← HVB.out] at h8
        have HO8 := hid h8.at
        clear h8
        go_ret2
        exact HFIN.out _ _ HO8.out HB8.out
end Go.Proofs.Ytklbckonlbpbgaa
