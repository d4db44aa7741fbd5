import Derived.Test.YtklbckonlbpbgaaSpnT6
import Derived.Test.YtklbckonlbpbgaaSpnR2
import Derived.Deep.DeepCutAuto
/-! The reference's Pack. -/
namespace Go.Proofs.Ytklbckonlbpbgaa
open Go.Lib Go.ChangeShapes Go.WideShapes Go.ChangeAt Go.RowKit
set_option linter.unusedVariables false

set_option maxRecDepth 100000 in
set_option maxHeartbeats 400000 in
theorem refSpack_bad (L B : Int) (hB : B ≤ 9223372036854775807) (hf : ¬ sfits L B) (v : Value) (w : World) :
    Calls Try.prog 31 #[.int .i64 L, .int .i64 B, v] w (Gives (.tuple #[.slice none 0 0, .int .i64 1]) w) := by
  have HV := fun W => hid (refSvalid_any L B hB W)
  rw [decide_eq_false hf] at HV
  clear hf
  go_enter Try.func31, Try.ntmps31
  go_wp2_with fail
  refine (HV _).out.mono ?_
  rintro e w1 ⟨rfl, rfl⟩
  go_wp2_with fail
  go_ret2
  exact ⟨rfl, Below.refl _ _⟩
theorem putL_len (B : Nat) (hB : 9 ≤ B) (last r : ByteArray) : (putL B last r).length ≤ r.size + 2 := by
  unfold putL
  split
  · simp
  · split
    · rename_i h1 h2
      have := parts_len (B - 8) (by omega) (B - 8) (by omega) true (r.extract (room0 B last).toNat r.size)
      rw [ByteArray.size_extract] at this
      simp; omega
    · have := parts_len (B - 8) (by omega) (B - 8) (by omega) false r
      simp; omega
set_option maxRecDepth 100000 in
set_option maxHeartbeats 4000000 in
theorem refSpack_ok (x b : Nat) (hf : sfits (x : Int) (b : Int)) (A : Option Addr) (cap : Nat) (l : List ByteArray) (hl : l.length ≤ 60) (s : Nat) (hs : s ≤ l.length) (hz : ∀ i (hi : i < s) (hj : i < l.length), l[i].size ≤ x) (hbig : ∀ x ∈ l, x.size ≤ 100000) (hne : ∀ h : s < l.length, x < l[s].size) (w : World) (hr : StrsAt w (.slice A l.length cap) l) :
    Calls Try.prog 31 #[.int .i64 x, .int .i64 b, .slice A l.length cap] w (SPacked b s l w) := by
  have HV := fun W => hid (refSvalid_any x b (by have := hf.2.2.2; omega) W)
  rw [decide_eq_true hf] at HV
  have hL2 : x ≤ 1000 := by have := hf.2.1; omega
  have hb1 : 9 ≤ b := by have := hf.2.2.1; omega
  have hb2 : b ≤ 1024 := by have := hf.2.2.2; omega
  have HLEN : Hid (∀ j, j ≤ s → (spack b (l.take j)).length ≤ 60060) := hid (fun j hj => by
    have h1 := spack_len b hb1 (l.take j) (fun y hy => by
      obtain ⟨i, hi, rfl⟩ := List.mem_iff_getElem.1 hy
      simp only [List.length_take] at hi
      rw [List.getElem_take]
      have := hz i (by omega) (by omega); omega)
    simp only [List.length_take] at h1; omega)
  have HR := hid hr
  have HZ := hid hz
  have HBIG := hid hbig
  have HNE := hid hne
  obtain ⟨_, _, hsh, hcap1, hcap2⟩ := hr.shape
  simp only [Value.slice.injEq] at hsh
  obtain ⟨rfl, _, rfl⟩ := hsh
  clear hf hr hz hbig hne
  go_enter Try.func31, Try.ntmps31
  go_wp2_with fail
  refine (HV _).out.mono ?_
  rintro e w1 ⟨rfl, rfl⟩
  go_wp2_with fail
  go_loopw [8, 9] (fun s8 s9 wr => ∃ (j : Nat) (u' : Value), u' = s8 ∧ j ≤ s ∧ s9 = .int .i64 j ∧ OwnStrs wr u' (spack b (l.take j)) ∧ Fresh w1 u' ∧ Below w1.heap.size w1 wr) (fun _ i _ => l.length - (intOf i).toNat)
  case atStart => exact ⟨0, _, rfl, by omega, by go_num, OwnStrs.nil _ _, (by rintro k ⟨a, n, c, e, hc, _⟩; cases e; omega), (Below.refl _ _).alloc (Nat.le_refl _) _⟩
  case round =>
    obtain ⟨j, u, rfl, hj, rfl, ho, hfr, hb⟩ := hrel
    have HB := hid hb
    have HF := hid hfr
    by_cases hlt : j < l.length
    · obtain ⟨b0, off, rfl, hb0, c0⟩ := (HR.out.below hb (Nat.le_refl _)).round hlt
      have hbig := HBIG.out _ (List.getElem_mem hlt)
      by_cases hjs : j < s
      · have hx := HZ.out j hjs hlt
        obtain ⟨r, hre⟩ : ∃ r, r = l[j] := ⟨_, rfl⟩
        have htk : l.take (j + 1) = l.take j ++ [r] := by rw [hre, List.take_succ_eq_append_getElem hlt]
        have hst : spack b (l.take (j + 1)) = sstep b (spack b (l.take j)) r := by rw [htk, spack_snoc]
        rw [← hre] at c0 hx hbig
        have hr15 : r.size ≤ 1500 := by omega
        have hxd : decide (x < r.size) = false := by simp only [decide_eq_false_iff_not]; omega
        by_cases h0 : j = 0
        · subst h0
          have hst2 : spack b (l.take (0 + 1)) = putL b ⟨#[]⟩ r := by rw [hst]; exact (putL_nil b hb1 r).symm
          have HST := hid hst2
          have PT := fun W => hid (refPut_any b hb1 hb2 ⟨#[]⟩ r (.inl rfl) (Nat.zero_le _) hr15 W)
          simp only [Nat.add_zero] at c0
          clear hb hfr hre htk hst hst2 ho hb0 hr15 hx
          go_wp2_with fail
          refine (PT _).out.mono ?_
          rintro e w5 ⟨u2, rfl, hu2, hf2, hb5⟩
          have HU2 := hid hu2
          have HF2 := hid hf2
          have HB5 := hid (HB.out.trans (hb5.mono HB.out.size))
          have HSB := hid HB.out.size
          clear hu2 hf2 hb5
          go_wp2_with fail
          go_roundw
          case rel => exact ⟨1, _, rfl, by omega, by go_num, by rw [HST.out]; exact HU2.out, fun q hq => Nat.le_trans HSB.out (HF2.out q hq), HB5.out⟩
          case measure => simp [intOf]; omega
        · obtain ⟨bl, hbl⟩ : ∃ bl, bl = spack b (l.take j) := ⟨_, rfl⟩
          have hbne : bl ≠ [] := by
            rw [hbl]
            obtain ⟨j', rfl⟩ : ∃ j', j = j' + 1 := ⟨j - 1, by omega⟩
            rw [List.take_succ_eq_append_getElem (by omega), spack_snoc]
            exact ((LastOk.spack b hb1 _).step hb1 _).2
          have hlok : LastOk b bl := by rw [hbl]; exact LastOk.spack b hb1 _
          have hln : bl.length ≤ 60060 := by rw [hbl]; exact HLEN.out j hj
          rw [← hbl] at hst ho
          have hpm := putL_more b hb1 bl hbne hlok r
          obtain ⟨h4, h5⟩ := hlok hbne
          have hcat := (List.dropLast_concat_getLast hbne).symm
          obtain ⟨last, hla⟩ : ∃ last, last = bl.getLast hbne := ⟨_, rfl⟩
          obtain ⟨dl, hdl⟩ : ∃ dl, dl = bl.dropLast := ⟨_, rfl⟩
          rw [← hla] at hpm h4 h5 hcat
          rw [← hdl] at hpm hcat
          have hdll : dl.length + 1 = bl.length := by rw [hcat]; simp
          rw [hcat] at ho
          obtain ⟨g, capg, rfl, hg, hhome, c1, f1, _⟩ := ho.last
          obtain ⟨_, _, _, hh1, hcp, _⟩ := hhome
          simp only [Value.slice.injEq, Option.some.injEq] at hh1
          obtain ⟨rfl, rfl, rfl⟩ := hh1
          have hcc : dl.length + 1 ≤ capg ∧ capg ≤ 9223372036854775807 := by
            have ho' : OwnStrs wr (.slice (some ⟨g, 0, none⟩) (dl ++ [last]).length capg) (dl ++ [last]) := by simpa using ho
            have := ho'.cap
            simp at this
            omega
          have HO := hid ho
          have HST : Hid (spack b (l.take (j + 1)) = dl ++ putL b last r) := hid (by rw [hst]; exact hpm.symm)
          have PT := fun W => hid (refPut_any b hb1 hb2 last r (.inr h4) h5 hr15 W)
          have hpl : (putL b last r).length ≤ 100000 := by have := putL_len b hb1 last r; omega
          obtain ⟨pl, hpl0⟩ : ∃ pl, pl = putL b last r := ⟨_, rfl⟩
          rw [← hpl0] at HST PT hpl
          have hdk : dl.length ≤ 100000 := by omega
          have HDL : Hid (OwnStrs wr.drew (.slice (some ⟨g, 0, none⟩) dl.length capg) dl) := hid (by
            have ho' : OwnStrs wr.drew (.slice (some ⟨g, 0, none⟩) (dl ++ [last]).length capg) (dl ++ [last]) := by
              have := ho.below (below_drew wr) (Nat.le_refl _)
              simpa using this
            have := ho'.take dl.length (by simp)
            simpa using this)
          have hj0 : ((j : Int) == 0) = false := by simp only [beq_eq_false_iff_ne, ne_eq]; omega
          obtain ⟨p, hp⟩ : ∃ p, p = dl.length := ⟨_, rfl⟩
          have HP := hid hp
          rw [hdll.symm] at hln
          rw [← hp] at c1 f1 hcc HDL hdk hln HF ⊢
          obtain ⟨N, hN⟩ : ∃ N, N = p + 1 := ⟨_, rfl⟩
          rw [← hN] at HF ⊢
          have hN1 : (N : Int) - 1 = (p : Int) := by omega
          have hN2 : (p : Int) < (N : Int) := by omega
          have hN3 : (p : Int) ≤ (capg : Int) := by omega
          have hN4 : N ≤ 60060 := by omega
          have hN5 : (p : Int) ≤ (N : Int) := by omega
          have hHG : ∀ q, Value.home (.slice (some ⟨g, 0, none⟩) p capg) q → w1.heap.size ≤ q := fun q hq => HF.out q (by obtain ⟨a', n', c', e, h1, h2⟩ := hq; cases e; exact ⟨⟨g, 0, none⟩, N, capg, rfl, h1, h2⟩)
          have HHG := hid hHG
          have HHB0 : Hid (Below w1.heap.size w1 wr.drew) := hid (hb.trans ((below_drew wr).mono hb.size))
          clear hb hfr hre htk hst hbl hbne hlok hpm hcat hla hdl hdll ho hb0 hpl0 hp hN hcc hHG h4 h5 hx
          go_upto_region 12 with fail
          go_region_law (first
              | (go_simp; go_at_call 39; (with_reducible refine (PT _).out.mono ?_); rintro y w5 ⟨u2, rfl, hu2, hf2, hb5⟩; have HU2 := hid hu2; have HO5 := hid (HDL.out.below hb5 (Nat.le_refl _)); have HB5 := hid (HHB0.out.trans (hb5.mono HHB0.out.size)); clear hu2 hf2 hb5; dsimp only)
              | (refine step_append_strs (by rfl) (.tmp 42) (.tmp 52) rfl _ dl rfl HO5.out _ pl rfl HU2.out.at (by rw [← HP.out]; exact hdk) hpl ?_; intro u8 w8 hs8 hu8 hh8))
          all_goals
            have HS8 := hid hs8.out
            have HF8 : Hid (Fresh w1 u8) := hid (fun q hq => (hh8.out q hq).elim (HHG.out q) (fun h => by have := HB5.out.size; omega))
            have HB8 : Hid (Below w1.heap.size w1 w8) := hid (HB5.out.trans (hu8.out.below HB5.out.size (fun q hq => HHG.out q hq)))
            clear hs8 hu8 hh8
            go_wp2_with fail
            go_roundw
            case rel => exact ⟨j + 1, _, rfl, by omega, by go_num, by rw [HST.out]; exact HS8.out, HF8.out, HB8.out⟩
            case measure => simp [intOf]; omega
      · have hsj : j = s := by omega
        subst hsj
        have hx := HNE.out hlt
        have HFIN : Hid (∀ w', Below w1.heap.size w1 w' → SPacked b j l w1 (.returned (.tuple #[.slice none 0 0, .int .i64 2])) w') := hid (fun w' h => ⟨by rw [if_pos hlt], h⟩)
        obtain ⟨r, hre⟩ : ∃ r, r = l[j] := ⟨_, rfl⟩
        rw [← hre] at c0 hx hbig
        clear hb hfr hre ho
        go_wp2_with fail
        go_ret2
        exact HFIN.out _ HB.out
    · obtain rfl : j = l.length := by omega
      obtain rfl : s = l.length := by omega
      rw [List.take_length] at ho
      have HFIN : Hid (∀ v w', StrsAt w' v (spack b l) → Below w1.heap.size w1 w' → SPacked b l.length l w1 (.returned (.tuple #[v, .int .i64 0])) w') := hid (fun v w' h1 h2 => ⟨by rw [if_neg (Nat.lt_irrefl _)]; exact ⟨v, rfl, h1⟩, h2⟩)
      have HO := hid ho.at
      clear hb hfr ho
      go_wp2_with fail
      go_ret2
      exact HFIN.out _ _ HO.out HB.out
end Go.Proofs.Ytklbckonlbpbgaa
