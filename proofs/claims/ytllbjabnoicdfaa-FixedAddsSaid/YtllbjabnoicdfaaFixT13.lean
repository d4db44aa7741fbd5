import Derived.Test.YtllbjabnoicdfaaFixT12
/-! The reference's Add. -/
namespace Go.Proofs.Ytllbjabnoicdfaa
open Go.Lib Go.ChangeShapes Go.WideShapes Go.ChangeAt Go.RowKit
set_option linter.unusedVariables false

theorem toList_ne {d : ByteArray} (h : 0 < d.size) : ¬ d.toList = [] := by
  rw [ByteArray.toList_eq]
  intro e
  have : d.data.toList.length = 0 := by rw [e]; rfl
  have e2 : d.data.toList.length = d.size := by simp
  omega
set_option maxRecDepth 100000 in
set_option maxHeartbeats 2000000 in
theorem refAdd_yes (L b : Nat) (hf : fits (L : Int) (b : Int)) (d r : ByteArray) (hd : d.size ≤ 100000) (ht : takes L (b / L) d r) (w : World) :
    Calls Try.prog 24 #[.int .i64 L, .int .i64 b, .string d, .string r] w (Gives (.tuple #[.string (d ++ r), .bool true]) w) := by
  have HV := fun W => hid (refValid_any L b W)
  rw [decide_eq_true hf] at HV
  have HM := fun W => hid (refMost_any L b W)
  rw [mostI_nat hf] at HM
  have hL : 1 ≤ L := by have := hf.1; omega
  have hL2 : L ≤ 1000 := by have := hf.2.1; omega
  have hm1 : 1 ≤ b / L := most_pos hL (by have := hf.2.2.1; omega)
  have hm2 : b / L ≤ 1024 := most_le (by have := hf.2.2.2; omega)
  obtain ⟨hr, n, h1, h2⟩ := ht
  have hd0 : ((r.size : Int) != (L : Int)) = false := by simp [hr]
  have hrs : r.size ≤ 100000 := by omega
  have HF := hid hf
  by_cases hn0 : n = 0
  · have hno : ¬ ∃ n, isBlock L (b / L) n d := fun ⟨k, h3, h4, _⟩ => by
      subst hn0
      have : 1 * 1 ≤ k * L := Nat.mul_le_mul h4 hL
      omega
    have U := hid (refUnpack_no L b HF.out d hd hno w)
    obtain ⟨m, hmm⟩ : ∃ m, m = b / L := ⟨_, rfl⟩
    rw [← hmm] at HM hm1 hm2
    have hds : d = ⟨#[]⟩ := by
      apply ByteArray.ext
      apply Array.eq_empty_of_size_eq_zero
      have : d.size = 0 := by rw [h1, hn0, Nat.zero_mul]
      exact this
    subst hds
    have hd5 : ((0 : Int) == (m : Int)) = false := by simp; omega
    clear hf hmm h1 h2 hr hno
    go_enter Try.func24, Try.ntmps24
    go_wp2_with fail
    refine U.out.mono ?_
    rintro e w1 ⟨rfl, hb⟩
    have HB := hid hb
    clear hb
    go_wp2_with fail
    refine (HV _).out.mono ?_
    rintro e w2 ⟨rfl, rfl⟩
    go_wp2_with fail
    refine (HM _).out.mono ?_
    rintro e w2 ⟨rfl, rfl⟩
    go_wp2_with fail
    go_ret2
    exact ⟨rfl, HB.out⟩
  · have U := hid (refUnpack_ok L b n HF.out d ⟨h1, by omega, by omega⟩ w)
    obtain ⟨m, hmm⟩ : ∃ m, m = b / L := ⟨_, rfl⟩
    rw [← hmm] at HM hm1 hm2 h2
    have hpos : 0 < d.size := by
      have : 1 * 1 ≤ n * L := Nat.mul_le_mul (by omega) hL
      omega
    have hd5 : ((n : Int) == (m : Int)) = false := by simp; omega
    have hnl := toList_ne hpos
    have hie : d.toList.isEmpty = false := by simpa using hnl
    clear hf hmm h1 hr
    go_enter Try.func24, Try.ntmps24
    go_wp2_with fail
    refine U.out.mono ?_
    rintro e w1 ⟨v, rfl, hv, hb⟩
    obtain ⟨Aq, capq, rfl, _, _⟩ := hv.shape
    rw [recs_length]
    have HB := hid hb
    clear hb hv
    go_wp2_with fail
    refine (HV _).out.mono ?_
    rintro e w2 ⟨rfl, rfl⟩
    go_wp2_with fail
    refine (HM _).out.mono ?_
    rintro e w2 ⟨rfl, rfl⟩
    go_wp2_with fail
    go_ret2
    exact ⟨rfl, HB.out⟩
set_option maxRecDepth 100000 in
set_option maxHeartbeats 4000000 in
theorem refAdd_no (L B : Int) (d r : ByteArray) (hd : d.size ≤ 100000) (hr : r.size ≤ 100000) (hn : ∀ l b : Nat, L = l → B = b → fits L B → ¬ takes l (b / l) d r) (w : World) :
    Calls Try.prog 24 #[.int .i64 L, .int .i64 B, .string d, .string r] w (Gives (.tuple #[.string ⟨#[]⟩, .bool false]) w) := by
  have HV := fun W => hid (refValid_any L B W)
  have HM := fun W => hid (refMost_any L B W)
  by_cases hf : fits L B
  · rw [decide_eq_true hf] at HV
    obtain ⟨x, b, rfl, rfl, hx1, hx2, hx3, hx4⟩ := hf.nat
    rw [mostI_nat hf] at HM
    have hn2 := hn x b rfl rfl hf
    have hm1 : 1 ≤ b / x := most_pos hx1 hx3
    have hm2 : b / x ≤ 1024 := most_le hx4
    have hl0 : (x : Int) ≠ 0 := by omega
    by_cases hblk : ∃ n, isBlock x (b / x) n d
    · obtain ⟨n, hblk⟩ := hblk
      have U := hid (refUnpack_ok x b n hf d hblk w)
      have hpos : 0 < d.size := by
        have h0 := hblk.1
        have : 1 * 1 ≤ n * x := Nat.mul_le_mul hblk.2.1 hx1
        omega
      have hnl := toList_ne hpos
      have hie : d.toList.isEmpty = false := by simpa using hnl
      by_cases h0 : r.size = x
      · have hd0 : ((r.size : Int) != (x : Int)) = false := by simp [h0]
        have hnm : n = b / x := by
          rcases Nat.lt_or_ge n (b / x) with h | h
          · exact absurd ⟨h0, n, hblk.1, h⟩ hn2
          · exact Nat.le_antisymm hblk.2.2 h
        obtain ⟨m, hmm⟩ : ∃ m, m = b / x := ⟨_, rfl⟩
        rw [← hmm] at HM hm1 hm2 hnm
        subst hnm
        have hd5 : ((n : Int) == (n : Int)) = true := by simp
        clear hf hmm hn hn2 h0 hblk hr
        go_enter Try.func24, Try.ntmps24
        go_wp2_with fail
        refine U.out.mono ?_
        rintro e w1 ⟨v, rfl, hv, hb⟩
        obtain ⟨Aq, capq, rfl, _, _⟩ := hv.shape
        rw [recs_length]
        have HB := hid hb
        clear hb hv
        go_wp2_with fail
        refine (HV _).out.mono ?_
        rintro e w2 ⟨rfl, rfl⟩
        go_wp2_with fail
        refine (HM _).out.mono ?_
        rintro e w2 ⟨rfl, rfl⟩
        go_wp2_with fail
        go_ret2
        exact ⟨rfl, HB.out⟩
      · have hd0 : ((r.size : Int) != (x : Int)) = true := by simp; omega
        clear hf hn hn2 h0 hblk
        go_enter Try.func24, Try.ntmps24
        go_wp2_with fail
        refine U.out.mono ?_
        rintro e w1 ⟨v, rfl, hv, hb⟩
        obtain ⟨Aq, capq, rfl, _, _⟩ := hv.shape
        have HB := hid hb
        clear hb hv
        go_wp2_with fail
        refine (HV _).out.mono ?_
        rintro e w2 ⟨rfl, rfl⟩
        go_wp2_with fail
        go_ret2
        exact ⟨rfl, HB.out⟩
    · have U := hid (refUnpack_no x b hf d hd hblk w)
      by_cases h0 : r.size = x
      · have hd0 : ((r.size : Int) != (x : Int)) = false := by simp [h0]
        have hpos : 0 < d.size := by
          rcases Nat.eq_zero_or_pos d.size with h | h
          · exact absurd ⟨h0, 0, by rw [h, Nat.zero_mul], by omega⟩ hn2
          · exact h
        have hnl := toList_ne hpos
        have hie : d.toList.isEmpty = false := by simpa using hnl
        clear hf hn hn2 h0 hblk
        go_enter Try.func24, Try.ntmps24
        go_wp2_with fail
        refine U.out.mono ?_
        rintro e w1 ⟨rfl, hb⟩
        have HB := hid hb
        clear hb
        go_wp2_with fail
        refine (HV _).out.mono ?_
        rintro e w2 ⟨rfl, rfl⟩
        go_wp2_with fail
        go_ret2
        exact ⟨rfl, HB.out⟩
      · have hd0 : ((r.size : Int) != (x : Int)) = true := by simp; omega
        clear hf hn hn2 h0 hblk
        go_enter Try.func24, Try.ntmps24
        go_wp2_with fail
        refine U.out.mono ?_
        rintro e w1 ⟨rfl, hb⟩
        have HB := hid hb
        clear hb
        go_wp2_with fail
        refine (HV _).out.mono ?_
        rintro e w2 ⟨rfl, rfl⟩
        go_wp2_with fail
        go_ret2
        exact ⟨rfl, HB.out⟩
  · rw [decide_eq_false hf] at HV
    have U := hid (refUnpack_bad L B hf d w)
    clear hf hn
    go_enter Try.func24, Try.ntmps24
    go_wp2_with fail
    refine U.out.mono ?_
    rintro e w1 ⟨rfl, hb⟩
    have HB := hid hb
    clear hb
    go_wp2_with fail
    refine (HV _).out.mono ?_
    rintro e w2 ⟨rfl, rfl⟩
    go_wp2_with fail
    go_ret2
    exact ⟨rfl, HB.out⟩
end Go.Proofs.Ytllbjabnoicdfaa
