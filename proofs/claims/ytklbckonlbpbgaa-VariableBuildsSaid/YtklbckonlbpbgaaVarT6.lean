import Derived.Test.YtklbckonlbpbgaaVarT5
/-! Pack. -/
namespace Go.Proofs.Ytklbckonlbpbgaa
open Go.Lib Go.ChangeShapes Go.WideShapes Go.ChangeAt Go.RowKit
set_option linter.unusedVariables false

/-- what packing answers, when the first record that is too long (if any) has the number s -/
def VPacked (b s : Nat) (l : List ByteArray) (w : World) (e : Ending) (w' : World) : Prop :=
  (if s < l.length then e = .returned (.tuple #[.slice none 0 0, .int .i64 2]) else ∃ v, e = .returned (.tuple #[v, .int .i64 0]) ∧ StrsAt w' v (vblocks b l)) ∧ Below w.heap.size w w'
theorem first_long (L : Nat) (l : List ByteArray) : ∃ s, s ≤ l.length ∧ (∀ i (hi : i < s) (hj : i < l.length), l[i].size ≤ L) ∧ (∀ h : s < l.length, L < l[s].size) := by
  induction l with
  | nil => exact ⟨0, Nat.le_refl _, fun i hi => by omega, fun h => by simp at h⟩
  | cons a l ih =>
    by_cases h0 : a.size ≤ L
    · obtain ⟨s, h1, h2, h3⟩ := ih
      refine ⟨s + 1, by simp; omega, fun i hi hj => ?_, fun h => by simpa using h3 (by simpa using h)⟩
      cases i with
      | zero => simpa using h0
      | succ i => simpa using h2 i (by omega) (by simpa using hj)
    · exact ⟨0, by simp, fun i hi => by omega, fun _ => by simp; omega⟩
set_option maxRecDepth 100000 in
set_option maxHeartbeats 400000 in
theorem vpack_bad (L B : Int) (hB : B ≤ 9223372036854775807) (hf : ¬ vfits L B) (v : Value) (w : World) :
    Calls Try.prog 13 #[.int .i64 L, .int .i64 B, v] w (Gives (.tuple #[.slice none 0 0, .int .i64 1]) w) := by
  have HV := fun W => hid (vvalid_any L B hB W)
  rw [decide_eq_false hf] at HV
  clear hf
  go_enter Try.func13, Try.ntmps13
  go_wp2_with fail
  refine (HV _).out.mono ?_
  rintro e w1 ⟨rfl, rfl⟩
  go_wp2_with fail
  go_ret2
  exact ⟨rfl, Below.refl _ _⟩
set_option maxRecDepth 100000 in
set_option maxHeartbeats 2000000 in
theorem vpack_ok (x b : Nat) (hf : vfits (x : Int) (b : Int)) (A : Option Addr) (cap : Nat) (l : List ByteArray) (hl : l.length ≤ 1000) (s : Nat) (hs : s ≤ l.length) (hz : ∀ i (hi : i < s) (hj : i < l.length), l[i].size ≤ x) (hbig : ∀ x ∈ l, x.size ≤ 100000) (hne : ∀ h : s < l.length, x < l[s].size) (w : World) (hr : StrsAt w (.slice A l.length cap) l) :
    Calls Try.prog 13 #[.int .i64 x, .int .i64 b, .slice A l.length cap] w (VPacked b s l w) := by
  have HV := fun W => hid (vvalid_any x b (by have := hf.2.2.2; omega) W)
  rw [decide_eq_true hf] at HV
  have hL2 : x ≤ 1000 := by have := hf.2.1; omega
  have hb1 : x + 8 ≤ b := by have := hf.2.2.1; omega
  have hb2 : b ≤ 1024 := by have := hf.2.2.2; omega
  have HINV : ∀ j, j ≤ s → VInv x b (l.take j) (vsteps b (l.take j)).1 (vsteps b (l.take j)).2 := fun j hj => vsteps_inv x b hb1 _ (fun y hy => by
    obtain ⟨i, hi, rfl⟩ := List.mem_iff_getElem.1 hy
    simp only [List.length_take] at hi
    rw [List.getElem_take]
    exact hz i (by omega) (by omega))
  have HI := hid HINV
  have HR := hid hr
  have HZ := hid hz
  have HBIG := hid hbig
  have HNE := hid hne
  obtain ⟨_, _, hsh, hcap1, hcap2⟩ := hr.shape
  simp only [Value.slice.injEq] at hsh
  obtain ⟨rfl, _, rfl⟩ := hsh
  clear hf hr hz hbig hne HINV
  go_enter Try.func13, Try.ntmps13
  go_wp2_with fail
  refine (HV _).out.mono ?_
  rintro e w1 ⟨rfl, rfl⟩
  go_wp2_with fail
  go_loopw [8, 9, 18] (fun s8 s9 s18 wr => ∃ (j : Nat) (u' : Value) (y : ByteArray), s8 = u' ∧ j ≤ s ∧ s18 = .int .i64 j ∧ s9 = .string y ∧ y = vbody (vsteps b (l.take j)).2 ∧ OwnStrs wr u' ((vsteps b (l.take j)).1.map vblock) ∧ Fresh w1 u' ∧ Below w1.heap.size w1 wr) (fun _ _ i _ => l.length - (intOf i).toNat)
  case atStart => exact ⟨0, _, _, rfl, by omega, by go_num, rfl, rfl, OwnStrs.nil _ _, Fresh.nil _, Below.refl _ _⟩
  case round =>
    obtain ⟨j, u, y, rfl, hj, rfl, rfl, hy, ho, hfr, hb⟩ := hrel
    have HB := hid hb
    have HF := hid hfr
    have hinv := HI.out j hj
    have htsz := hinv.tsize
    have hcnt := hinv.count
    rw [← hy] at htsz
    have hDl : (vsteps b (l.take j)).1.length ≤ 1000 := by have := hcnt; simp only [List.length_take] at this; omega
    by_cases hlt : j < l.length
    · obtain ⟨b0, off, rfl, hb0, c0⟩ := (HR.out.below hb (Nat.le_refl _)).round hlt
      have hbig := HBIG.out _ (List.getElem_mem hlt)
      by_cases hjs : j < s
      · have hx := HZ.out j hjs hlt
        obtain ⟨r, hre⟩ : ∃ r, r = l[j] := ⟨_, rfl⟩
        have htk : l.take (j + 1) = l.take j ++ [r] := by rw [hre, List.take_succ_eq_append_getElem hlt]
        have hst : vsteps b (l.take (j + 1)) = vstep b (vsteps b (l.take j)) r := by rw [htk, vsteps_snoc]
        rw [← hre] at c0 hx hbig
        obtain ⟨D, t, hDt⟩ : ∃ D t, vsteps b (l.take j) = (D, t) := ⟨_, _, rfl⟩
        rw [hDt] at hst hy ho hDl
        have F1 := fun W => hid (form_any r (by omega) W)
        have F2 := fun W => hid (form_any y (by omega) W)
        have hq : vform r = vform r := rfl
        obtain ⟨q, hq2⟩ : ∃ q, q = vform r := ⟨_, rfl⟩
        have hqs : q.size ≤ 2000 := by rw [hq2, vform_size]; omega
        rw [← hq2] at F1
        obtain ⟨A2, capu, rfl⟩ := ho.shape
        have hvb : vform y = vblock t := by rw [hy]; rfl
        obtain ⟨k, hk⟩ : ∃ k, k = (D.map vblock).length := ⟨_, rfl⟩
        have hk2 : k ≤ 1000 := by rw [hk, List.length_map]; exact hDl
        by_cases hc : (b : Int) < 4 + (y.size : Int) + 4 + (r.size : Int)
        · have hst2 : vsteps b (l.take (j + 1)) = (D ++ [t], [r]) := by
            rw [hst]; unfold vstep; rw [if_pos (by show b < 8 + (vbody t).size + r.size; have e : y.size = (vbody t).size := congrArg ByteArray.size hy; omega)]
          have HST := hid hst2
          have hq1 : q = vbody [r] := by rw [hq2, vbody_one]
          have HQ := hid hq1
          rw [hvb] at F2
          obtain ⟨p, hp⟩ : ∃ p, p = vblock t := ⟨_, rfl⟩
          rw [← hp] at F2
          have HP := hid hp
          obtain ⟨cs, hcs⟩ : ∃ cs, cs = (D.map vblock).map Value.string := ⟨_, rfl⟩
          have ho2 := ho
          unfold OwnStrs at ho2
          rw [← hk] at ho2 HF ⊢
          rw [← hcs] at ho2
          have HO2 := hid ho2
          have HCS := hid hcs
          have HK := hid hk.symm
          clear hb hfr hinv hcnt hre htk hst hDt hy ho hq2 hq hvb hk hp hcs ho2 hst2 hq1 hDl
          go_wp2_with fail
          refine (F2 _).out.mono ?_
          rintro e w2 ⟨rfl, hb⟩
          have HB2 := hid (HB.out.trans (hb.mono HB.out.size))
          have HO3 := hid (SliceIs.upd HO2.out (Upds.of_below hb (Nat.le_refl _)) (F := fun _ => False) (fun _ _ h => h))
          have HSZ2 := hid HB2.out.size
          clear hb
          go_wp2_with (at_builtin; refine wpList_append_slice rfl (.tmp 35) (.tmp 38) 22 rfl 9 (.string ⟨#[]⟩) 1 16 Try.underlying22 (by kernel_rfl) (by kernel_rfl) _ k cs rfl (SliceIs.alloc HO3.out _) ⟨w2.heap.size, 0, none⟩ 1 1 [.string p] rfl rfl (news1 _ _ _ _ rfl) (by simp [Value.oneCell']) (by omega) (by omega) (by omega) ?_; intro g8 cap8 w8 hs8 hu8 hh8)
          have HB8 := hid ((HB2.out.alloc HSZ2.out (.cells #[.string p] 9)).trans (hu8.out.below (by have := HSZ2.out; simp; omega) (fun b hb => HF.out b hb)))
          have HF8 : Hid (Fresh w1 (.slice (some ⟨g8, 0, none⟩) (k + 1) cap8)) := hid (fun b hb => (hh8.out b hb).elim (HF.out b) (fun h => by have := HSZ2.out; simp at h; omega))
          refine (F1 _).out.mono ?_
          rintro e w9 ⟨rfl, hb⟩
          have HB9 := hid (HB8.out.trans (hb.mono HB8.out.size))
          have HO9 := hid (SliceIs.upd hs8.out (Upds.of_below hb (Nat.le_refl _)) (F := fun _ => False) (fun _ _ h => h))
          clear hb
          go_wp2_with fail
          go_roundw
          case rel =>
            have h8 := OwnStrs.more HK.out HCS.out HO9.out
            refine ⟨j + 1, _, _, rfl, by omega, by go_num, rfl, ?_, ?_, HF8.out, HB9.out⟩
            · rw [HST.out, ← HQ.out]; exact ByteArray.empty_append
            · rw [HST.out]
              show OwnStrs _ _ ((D ++ [t]).map vblock)
              rw [List.map_append, List.map_cons, List.map_nil, ← HP.out]; exact h8
          case measure => simp [intOf]; omega
        · have hst2 : vsteps b (l.take (j + 1)) = (D, t ++ [r]) := by
            rw [hst]; unfold vstep; rw [if_neg (by show ¬ b < 8 + (vbody t).size + r.size; have e : y.size = (vbody t).size := congrArg ByteArray.size hy; omega)]
          have HST := hid hst2
          have hq1 : y ++ q = vbody (t ++ [r]) := by rw [vbody_snoc, hq2, hy]
          have HQ := hid hq1
          have HO := hid ho
          obtain ⟨uu, huu⟩ : ∃ uu, uu = Value.slice A2 (D.map vblock).length capu := ⟨_, rfl⟩
          rw [← huu] at HO HF ⊢
          clear hb hfr hinv hcnt hre htk hst hDt hy ho hq2 hq hvb hk hst2 hq1 hDl F2 huu
          go_wp2_with fail
          refine (F1 _).out.mono ?_
          rintro e w9 ⟨rfl, hb⟩
          have HB9 := hid (HB.out.trans (hb.mono HB.out.size))
          have HO9 := hid (HO.out.below hb (Nat.le_refl _))
          clear hb
          go_wp2_with fail
          go_roundw
          case rel =>
            refine ⟨j + 1, _, _, rfl, by omega, by go_num, rfl, ?_, ?_, HF.out, HB9.out⟩
            · rw [HST.out]; exact HQ.out
            · rw [HST.out]; exact HO9.out
          case measure => simp [intOf]; omega
      · have hsj : j = s := by omega
        subst hsj
        have hx := HNE.out hlt
        have HFIN : Hid (∀ w', Below w1.heap.size w1 w' → VPacked b j l w1 (.returned (.tuple #[.slice none 0 0, .int .i64 2])) w') := hid (fun w' h => ⟨by rw [if_pos hlt], h⟩)
        obtain ⟨r, hre⟩ : ∃ r, r = l[j] := ⟨_, rfl⟩
        rw [← hre] at c0 hx hbig
        clear hb hfr hinv hcnt hre hy ho hDl htsz
        go_wp2_with fail
        go_ret2
        exact HFIN.out _ HB.out
    · obtain rfl : j = l.length := by omega
      obtain rfl : s = l.length := by omega
      rw [List.take_length] at hy ho hinv
      have HFIN : Hid (∀ v w', StrsAt w' v (vblocks b l) → Below w1.heap.size w1 w' → VPacked b l.length l w1 (.returned (.tuple #[v, .int .i64 0])) w') := hid (fun v w' h1 h2 => ⟨by rw [if_neg (Nat.lt_irrefl _)]; exact ⟨v, rfl, h1⟩, h2⟩)
      obtain ⟨D, t, hDt⟩ : ∃ D t, vsteps b l = (D, t) := ⟨_, _, rfl⟩
      rw [hDt] at hy ho hinv
      obtain ⟨A2, capu, rfl⟩ := ho.shape
      by_cases ht : t = []
      · have hvb : vblocks b l = D.map vblock := by unfold vblocks vgroups; rw [hDt]; simp [ht]
        have hye : y = ⟨#[]⟩ := by rw [hy, ht]; rfl
        subst hye
        obtain ⟨uu, huu⟩ : ∃ uu, uu = Value.slice A2 (D.map vblock).length capu := ⟨_, rfl⟩
        rw [← huu] at ho ⊢
        rw [← hvb] at ho
        have HO := hid ho.at
        clear huu hb hfr hinv hcnt hy ho hvb htsz hDl
        go_wp2_with fail
        go_ret2
        exact HFIN.out _ _ HO.out HB.out
      · have hvb : vblocks b l = D.map vblock ++ [vblock t] := by unfold vblocks vgroups; rw [hDt]; simp [ht]
        have hys : 0 < y.size := by rw [hy]; have := vbody_pos ht; show 0 < (vbody t).size; omega
        have hnl := nel hys
        have hie : y.toList.isEmpty = false := by simpa using hnl
        have F2 := fun W => hid (form_any y (by omega) W)
        rw [show vform y = vblock t by rw [hy]; rfl] at F2
        obtain ⟨p, hp⟩ : ∃ p, p = vblock t := ⟨_, rfl⟩
        rw [← hp] at F2 hvb
        obtain ⟨k, hk⟩ : ∃ k, k = (D.map vblock).length := ⟨_, rfl⟩
        have hk2 : k ≤ 1000 := by rw [List.take_length, hDt] at hDl; rw [hk, List.length_map]; exact hDl
        obtain ⟨cs, hcs⟩ : ∃ cs, cs = (D.map vblock).map Value.string := ⟨_, rfl⟩
        have ho2 := ho
        unfold OwnStrs at ho2
        rw [← hk] at ho2 HF ⊢
        rw [← hcs] at ho2
        have HO2 := hid ho2
        have HCS := hid hcs
        have HK := hid hk.symm
        have HVB := hid hvb
        clear hb hfr hinv hcnt hy ho hvb htsz hDl hDt hp hk hcs ho2 hys
        go_wp2_with fail
        refine (F2 _).out.mono ?_
        rintro e w2 ⟨rfl, hb⟩
        have HB2 := hid (HB.out.trans (hb.mono HB.out.size))
        have HO3 := hid (SliceIs.upd HO2.out (Upds.of_below hb (Nat.le_refl _)) (F := fun _ => False) (fun _ _ h => h))
        have HSZ2 := hid HB2.out.size
        clear hb
        go_wp2_with (at_builtin; refine wpList_append_slice rfl (.tmp 47) (.tmp 50) 22 rfl 9 (.string ⟨#[]⟩) 1 16 Try.underlying22 (by kernel_rfl) (by kernel_rfl) _ k cs rfl (SliceIs.alloc HO3.out _) ⟨w2.heap.size, 0, none⟩ 1 1 [.string p] rfl rfl (news1 _ _ _ _ rfl) (by simp [Value.oneCell']) (by omega) (by omega) (by omega) ?_; intro g8 cap8 w8 hs8 hu8 hh8)
        have HB8 := hid ((HB2.out.alloc HSZ2.out (.cells #[.string p] 9)).trans (hu8.out.below (by have := HSZ2.out; simp; omega) (fun b hb => HF.out b hb)))
        have h8 := OwnStrs.more HK.out HCS.out hs8.out
        rw [← HVB.out] at h8
        have HO8 := hid h8.at
        clear h8
        go_ret2
        exact HFIN.out _ _ HO8.out HB8.out
end Go.Proofs.Ytklbckonlbpbgaa
