import Derived.Test.YtklbckonlbpbgabSpnT5
/-! Pack. -/
namespace Go.Proofs.Ytklbckonlbpbgab
open Go.Lib Go.ChangeShapes Go.WideShapes Go.ChangeAt Go.RowKit
set_option linter.unusedVariables false

theorem OwnStrs.take {w : World} {A : Option Addr} {cap : Nat} {l : List ByteArray} (h : OwnStrs w (.slice A l.length cap) l) (k : Nat) (hk : k ≤ l.length) : OwnStrs w (.slice A k cap) (l.take k) := by
  have hl : (l.take k).length = k := by simp; omega
  rcases h with ⟨a, e, h0, h1⟩ | ⟨g, cap', cur, e, hr, ht, hcl, hnc, hcm, hpos⟩
  · simp only [Value.slice.injEq] at e
    obtain ⟨rfl, _, rfl⟩ := e
    have hl0 : l = [] := List.eq_nil_of_length_eq_zero h0
    subst hl0
    have : k = 0 := by simpa using hk
    subst this
    exact .inl ⟨A, rfl, rfl, rfl⟩
  · simp only [Value.slice.injEq] at e
    obtain ⟨rfl, _, rfl⟩ := e
    refine .inr ⟨g, cap, cur, by rw [hl], hr, ?_, hcl, by rw [hl]; omega, hcm, hpos⟩
    rw [hl, List.map_take, ← ht, List.take_take]
    congr 1; omega
theorem OwnStrs.cap {w : World} {A : Option Addr} {n cap : Nat} {l : List ByteArray} (h : OwnStrs w (.slice A n cap) l) : n = l.length ∧ n ≤ cap ∧ cap ≤ 9223372036854775807 ∧ (A = none → n = 0) := by
  rcases h with ⟨a, e, h0, h1⟩ | ⟨g, cap', cur, e, hr, ht, hcl, hnc, hcm, hpos⟩
  · simp only [Value.slice.injEq] at e
    obtain ⟨rfl, rfl, rfl⟩ := e
    exact ⟨h0.symm, by omega, by omega, fun _ => rfl⟩
  · simp only [Value.slice.injEq] at e
    obtain ⟨rfl, rfl, rfl⟩ := e
    exact ⟨rfl, hnc, hcm, fun h => by cases h⟩
theorem spack_len (B : Nat) (hB : 9 ≤ B) (l : List ByteArray) (h : ∀ x ∈ l, x.size ≤ 1000) : (spack B l).length ≤ 1001 * l.length := by
  obtain ⟨n, hn⟩ : ∃ n, n = l.length := ⟨_, rfl⟩
  induction n generalizing l with
  | zero => obtain rfl : l = [] := List.length_eq_zero_iff.1 hn.symm; exact Nat.zero_le _
  | succ n ih =>
    rcases List.eq_nil_or_concat l with e | ⟨k, r, e⟩
    · rw [e] at hn; simp at hn
    · rw [List.concat_eq_append] at e
      subst e
      simp only [List.length_append, List.length_singleton] at hn ⊢
      rw [spack_snoc]
      have h1 := sstep_len B hB (spack B k) r
      have h2 := ih k (fun x hx => h x (List.mem_append_left _ hx)) (by omega)
      have h3 := h r (by simp)
      omega
/-- what packing answers, when the first record that is too long (if any) has the number s -/
def SPacked (b s : Nat) (l : List ByteArray) (w : World) (e : Ending) (w' : World) : Prop :=
  (if s < l.length then e = .returned (.tuple #[.slice none 0 0, .int .i64 2]) else ∃ v, e = .returned (.tuple #[v, .int .i64 0]) ∧ StrsAt w' v (spack b l)) ∧ Below w.heap.size w w'
set_option maxRecDepth 100000 in
set_option maxHeartbeats 400000 in
theorem spack_bad (L B : Int) (hB : B ≤ 9223372036854775807) (hf : ¬ sfits L B) (v : Value) (w : World) :
    Calls Try.prog 25 #[.int .i64 L, .int .i64 B, v] w (Gives (.tuple #[.slice none 0 0, .int .i64 1]) w) := by
  have HV := fun W => hid (check_bad L B hB hf v W)
  clear hf
  go_enter Try.func25, Try.ntmps25
  go_wp2_with fail
  refine (HV _).out.mono ?_
  rintro e w1 ⟨rfl, hb⟩
  have HB := hid hb
  clear hb
  go_wp2_with fail
  go_ret2
  exact ⟨rfl, HB.out⟩
set_option maxRecDepth 100000 in
set_option maxHeartbeats 2000000 in
theorem spack_ok (x b : Nat) (hf : sfits (x : Int) (b : Int)) (A : Option Addr) (cap : Nat) (l : List ByteArray) (hl : l.length ≤ 60) (s : Nat) (hs : s ≤ l.length) (hz : ∀ i (hi : i < s) (hj : i < l.length), l[i].size ≤ x) (hbig : ∀ x ∈ l, x.size ≤ 100000) (hne : ∀ h : s < l.length, x < l[s].size) (w : World) (hr : StrsAt w (.slice A l.length cap) l) :
    Calls Try.prog 25 #[.int .i64 x, .int .i64 b, .slice A l.length cap] w (SPacked b s l w) := by
  have HV := fun W hW => hid (check_ok x b hf (.slice A l.length cap) l (by omega) s hs hz (fun y hy => by have := hbig y hy; omega) hne W hW)
  have hL2 : x ≤ 1000 := by have := hf.2.1; omega
  have hb1 : 9 ≤ b := by have := hf.2.2.1; omega
  have hb2 : b ≤ 1024 := by have := hf.2.2.2; omega
  have HR := hid hr
  obtain ⟨_, _, hsh, hcap1, hcap2⟩ := hr.shape
  simp only [Value.slice.injEq] at hsh
  obtain ⟨rfl, _, rfl⟩ := hsh
  by_cases hsl : s < l.length
  · have hck : checkI s l.length = 2 := by unfold checkI; rw [if_pos hsl]
    rw [hck] at HV
    have HFIN : Hid (∀ w', Below w.heap.size w w' → SPacked b s l w (.returned (.tuple #[.slice none 0 0, .int .i64 2])) w') := hid (fun w' h => ⟨by rw [if_pos hsl], h⟩)
    clear hf hz hbig hne hr hck hsl
    go_enter Try.func25, Try.ntmps25
    go_wp2_with fail
    refine (HV _ HR.out).out.mono ?_
    rintro e w1 ⟨rfl, hb⟩
    have HB := hid hb
    clear hb
    go_wp2_with fail
    go_ret2
    exact HFIN.out _ HB.out
  · have hck : checkI s l.length = 0 := by unfold checkI; rw [if_neg hsl]
    rw [hck] at HV
    have HFIN : Hid (∀ v w', StrsAt w' v (spack b l) → Below w.heap.size w w' → SPacked b s l w (.returned (.tuple #[v, .int .i64 0])) w') := hid (fun v w' h1 h2 => ⟨by rw [if_neg hsl]; exact ⟨v, rfl, h1⟩, h2⟩)
    have hsx : ∀ y ∈ l, y.size ≤ x := fun y hy => by
      obtain ⟨i, hi, rfl⟩ := List.mem_iff_getElem.1 hy
      exact hz i (by omega) hi
    have HLEN : Hid (∀ j, (spack b (l.take j)).length ≤ 60060) := hid (fun j => by
      have h1 := spack_len b hb1 (l.take j) (fun y hy => by have := hsx y (List.mem_of_mem_take hy); omega)
      simp only [List.length_take] at h1; omega)
    have HSX := hid hsx
    clear hf hz hbig hne hr hck hsl hsx
    go_enter Try.func25, Try.ntmps25
    go_wp2_with fail
    refine (HV _ HR.out).out.mono ?_
    rintro e w1 ⟨rfl, hb⟩
    have HB1 := hid hb
    have HR1 := hid (HR.out.below hb (Nat.le_refl _))
    clear hb
    go_wp2_with fail
    go_loopw [9, 23] (fun s9 s23 wr => ∃ (j : Nat) (u' : Value), u' = s9 ∧ j ≤ l.length ∧ s23 = .int .i64 j ∧ OwnStrs wr u' (spack b (l.take j)) ∧ Fresh w1 u' ∧ Below w1.heap.size w1 wr) (fun _ i _ => l.length - (intOf i).toNat)
    case atStart => exact ⟨0, _, rfl, by omega, by go_num, OwnStrs.nil _ _, Fresh.nil _, Below.refl _ _⟩
    case round =>
      obtain ⟨j, u, rfl, hj, rfl, ho, hfr, hb⟩ := hrel
      have HB := hid hb
      have HF := hid hfr
      by_cases hlt : j < l.length
      · obtain ⟨b0, off, rfl, hb0, c0⟩ := (HR1.out.below hb (Nat.le_refl _)).round hlt
        have hx := HSX.out _ (List.getElem_mem hlt)
        obtain ⟨r, hre⟩ : ∃ r, r = l[j] := ⟨_, rfl⟩
        have htk : l.take (j + 1) = l.take j ++ [r] := by rw [hre, List.take_succ_eq_append_getElem hlt]
        have hst : spack b (l.take (j + 1)) = sstep b (spack b (l.take j)) r := by rw [htk, spack_snoc]
        rw [← hre] at c0 hx
        obtain ⟨bl, hbl⟩ : ∃ bl, bl = spack b (l.take j) := ⟨_, rfl⟩
        have hlok : LastOk b bl := by rw [hbl]; exact LastOk.spack b hb1 _
        have hln : bl.length ≤ 60060 := by rw [hbl]; exact HLEN.out j
        have hml : (moreOf b bl r).length ≤ 1001 := by have := moreOf_len b hb1 bl r; omega
        rw [← hbl] at hst ho
        obtain ⟨Au, capu, rfl⟩ := ho.shape
        obtain ⟨_, hcu1, hcu2, hcu3⟩ := ho.cap
        have AD := fun W hW => hid (add_any b hb1 hb2 Au capu bl (by omega) hlok r (by omega) W hW)
        have HO := hid ho
        obtain ⟨k, hk⟩ : ∃ k, k = bl.length - joinOf b bl r := ⟨_, rfl⟩
        have hkl : k ≤ bl.length := by omega
        rw [← hk] at AD
        have HT : Hid (∀ W, OwnStrs W (.slice Au bl.length capu) bl → OwnStrs W (.slice Au k capu) (bl.take k)) := hid (fun W h => h.take k hkl)
        have hst2 : spack b (l.take (j + 1)) = bl.take k ++ moreOf b bl r := by rw [hst, hk]; rfl
        have HST := hid hst2
        obtain ⟨mo, hmo⟩ : ∃ mo, mo = moreOf b bl r := ⟨_, rfl⟩
        rw [← hmo] at AD HST hml
        have hkk : (bl.take k).length ≤ 100000 := by simp; omega
        have hmk : mo.length ≤ 100000 := by omega
        obtain ⟨n, hn⟩ : ∃ n, n = bl.length := ⟨_, rfl⟩
        rw [← hn] at HF HO HT AD hkl hcu1 hln ⊢
        have hkc : (k : Int) ≤ (capu : Int) := by omega
        have hAu : Au = none → k = 0 := fun h => by have := hcu3 h; omega
        clear hre htk hst hst2 hbl hlok hk hmo hn hb hfr ho hb0 hcu3 hx
        cases Au with
        | none =>
          have hk0 := hAu rfl
          subst hk0
          go_wp2_with fail
          refine (AD _ HO.out.at).out.mono ?_
          rintro e w2 ⟨u2, rfl, hu2, _, hb⟩
          have HB2 := hid (HB.out.trans (hb.mono HB.out.size))
          have HO2 := hid (HT.out _ (HO.out.below hb (Nat.le_refl _)))
          have HM := hid hu2.at
          clear hb hu2
          go_wp2_with (at_builtin; refine wpList_append_strs (by rfl) (.tmp 36) (.tmp 37) rfl _ _ rfl HO2.out _ mo rfl HM.out hkk hmk ?_; intro u8 w8 hs8 hu8 hh8)
          go_roundw
          case rel => exact ⟨j + 1, _, rfl, by omega, by go_num, by rw [HST.out]; exact hs8.out, fun b hb => (hh8.out b hb).elim (fun h => by obtain ⟨_, _, _, e, _⟩ := h; cases e) (fun h => by have := HB2.out.size; omega), HB2.out.trans (hu8.out.below HB2.out.size (fun b hb => by obtain ⟨_, _, _, e, _⟩ := hb; cases e))⟩
          case measure => simp [intOf]; omega
        | some au =>
          clear hAu
          go_wp2_with fail
          refine (AD _ HO.out.at).out.mono ?_
          rintro e w2 ⟨u2, rfl, hu2, _, hb⟩
          have HB2 := hid (HB.out.trans (hb.mono HB.out.size))
          have HO2 := hid (HT.out _ (HO.out.below hb (Nat.le_refl _)))
          have HM := hid hu2.at
          have HFK : Hid (∀ q, Value.home (.slice (some au) k capu) q → w1.heap.size ≤ q) := hid (fun q hq => HF.out q (by obtain ⟨a', n', c', e, h1, h2⟩ := hq; cases e; exact ⟨au, n, capu, rfl, h1, h2⟩))
          clear hb hu2
          go_wp2_with (at_builtin; refine wpList_append_strs (by rfl) (.tmp 36) (.tmp 37) rfl _ _ rfl HO2.out _ mo rfl HM.out hkk hmk ?_; intro u8 w8 hs8 hu8 hh8)
          go_roundw
          case rel => exact ⟨j + 1, _, rfl, by omega, by go_num, by rw [HST.out]; exact hs8.out, fun b hb => (hh8.out b hb).elim (HFK.out b) (fun h => by have := HB2.out.size; omega), HB2.out.trans (hu8.out.below HB2.out.size (fun b hb => HFK.out b hb))⟩
          case measure => simp [intOf]; omega
      · obtain rfl : j = l.length := by omega
        rw [List.take_length] at ho
        have HO := hid ho.at
        clear hb hfr ho hlt
        go_wp2_with fail
        go_ret2
        exact HFIN.out _ _ HO.out (HB1.out.trans (HB.out.mono HB1.out.size))
end Go.Proofs.Ytklbckonlbpbgab
