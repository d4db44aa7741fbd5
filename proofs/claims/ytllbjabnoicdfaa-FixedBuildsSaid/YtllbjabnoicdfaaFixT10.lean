import Derived.Test.YtllbjabnoicdfaaFixT9
/-! The reference's Unpack. -/
namespace Go.Proofs.Ytllbjabnoicdfaa
open Go.Lib Go.ChangeShapes Go.WideShapes Go.ChangeAt Go.RowKit
set_option linter.unusedVariables false

set_option maxRecDepth 100000 in
theorem refUnpack_bad (L B : Int) (hf : ¬ fits L B) (d : ByteArray) (w : World) :
    Calls Try.prog 20 #[.int .i64 L, .int .i64 B, .string d] w (Gives (.tuple #[.slice none 0 0, .int .i64 1]) w) := by
  have HV := fun W => hid (refValid_any L B W)
  rw [decide_eq_false hf] at HV
  clear hf
  go_enter Try.func20, Try.ntmps20
  go_wp2_with fail
  refine (HV _).out.mono ?_
  rintro e w1 ⟨rfl, rfl⟩
  go_wp2_with fail
  go_ret2
  exact ⟨rfl, Below.refl _ _⟩
set_option maxRecDepth 100000 in
set_option maxHeartbeats 2000000 in
theorem refUnpack_no (L b : Nat) (hf : fits (L : Int) (b : Int)) (d : ByteArray) (hd : d.size ≤ 100000) (hn : ¬ ∃ n, isBlock L (b / L) n d) (w : World) :
    Calls Try.prog 20 #[.int .i64 L, .int .i64 b, .string d] w (Gives (.tuple #[.slice none 0 0, .int .i64 11]) w) := by
  have HV := fun W => hid (refValid_any L b W)
  rw [decide_eq_true hf] at HV
  have HM := fun W => hid (refMost_any L b W)
  rw [mostI_nat hf] at HM
  have hL : 1 ≤ L := by have := hf.1; omega
  have hm2 : b / L ≤ 1024 := most_le (by have := hf.2.2.2; omega)
  obtain ⟨m, hmm⟩ : ∃ m, m = b / L := ⟨_, rfl⟩
  rw [← hmm] at HM hm2 hn
  have hcase := not_block hL hn
  have hquo := quo_i64 d.size L (by omega)
  have hrem : (d.size : Int) % (L : Int) = ((d.size % L : Nat) : Int) := (Int.natCast_emod _ _).symm
  have hsm : d.size / L < 1 → d.size % L = 0 → d.size = 0 := fun h1 h2 => by have := Nat.div_add_mod d.size L; rw [Nat.lt_one_iff.1 h1, h2, Nat.mul_zero] at this; omega
  obtain ⟨n, hnn⟩ : ∃ n, n = d.size / L := ⟨_, rfl⟩
  have hn3 : n ≤ 100000 := by rw [hnn]; exact Nat.le_trans (Nat.div_le_self _ _) hd
  rw [← hnn] at hquo hcase hsm
  have hl0 : (L : Int) ≠ 0 := by omega
  clear hf hmm hn hnn
  by_cases h0 : d.size = 0
  · have hd1 : ((d.size : Int) == 0) = true := by simp [h0]
    clear hquo hrem hcase hsm h0
    go_enter Try.func20, Try.ntmps20
    go_wp2_with fail
    refine (HV _).out.mono ?_
    rintro e w1 ⟨rfl, rfl⟩
    go_wp2_with fail
    go_quiet ((go_at_call 17; refine Calls.quiet_of_same (v := .int .i64 m) ((HM _).out.mono ?_); rintro e w' ⟨rfl, rfl⟩; exact ⟨rfl, rfl⟩))
    go_wp2_with fail
    go_ret2
    exact ⟨rfl, below_drewN (Below.refl _ _) _⟩
  · have hd1 : ((d.size : Int) == 0) = false := by simp; exact fun h => h0 (by rw [h]; rfl)
    by_cases h1 : d.size % L = 0
    · have hd2 : (((d.size : Int) % (L : Int)) != 0) = false := by rw [hrem, h1]; rfl
      have hmn : m < n := by
        rcases hcase with h | h | h
        · exact absurd (hsm h h1) h0
        · exact h
        · exact absurd h1 h
      have hd4 : decide ((m : Int) < wrap64 ((d.size : Int) / (L : Int))) = true := by rw [hquo]; simp; omega
      clear hquo hrem hcase hsm h0 h1
      go_enter Try.func20, Try.ntmps20
      go_wp2_with fail
      refine (HV _).out.mono ?_
      rintro e w1 ⟨rfl, rfl⟩
      go_wp2_with fail
      go_quiet ((go_at_call 17; refine Calls.quiet_of_same (v := .int .i64 m) ((HM _).out.mono ?_); rintro e w' ⟨rfl, rfl⟩; exact ⟨rfl, rfl⟩))
      go_wp2_with fail
      go_ret2
      exact ⟨rfl, below_drewN (Below.refl _ _) _⟩
    · have hd2 : (((d.size : Int) % (L : Int)) != 0) = true := by rw [hrem]; simp; omega
      clear hquo hrem hcase hsm h0 h1
      go_enter Try.func20, Try.ntmps20
      go_wp2_with fail
      refine (HV _).out.mono ?_
      rintro e w1 ⟨rfl, rfl⟩
      go_wp2_with fail
      go_quiet ((go_at_call 17; refine Calls.quiet_of_same (v := .int .i64 m) ((HM _).out.mono ?_); rintro e w' ⟨rfl, rfl⟩; exact ⟨rfl, rfl⟩))
      go_wp2_with fail
      go_ret2
      exact ⟨rfl, below_drewN (Below.refl _ _) _⟩
set_option maxRecDepth 100000 in
set_option maxHeartbeats 2000000 in
theorem refUnpack_ok (L b n : Nat) (hf : fits (L : Int) (b : Int)) (d : ByteArray) (hn : isBlock L (b / L) n d) (w : World) :
    Calls Try.prog 20 #[.int .i64 L, .int .i64 b, .string d] w (fun e w' => ∃ v, e = .returned (.tuple #[v, .int .i64 0]) ∧ StrsAt w' v (recs L d n) ∧ Below w.heap.size w w') := by
  have HV := fun W => hid (refValid_any L b W)
  rw [decide_eq_true hf] at HV
  have HM := fun W => hid (refMost_any L b W)
  rw [mostI_nat hf] at HM
  have hL : 1 ≤ L := by have := hf.1; omega
  have hL2 : L ≤ 1000 := by have := hf.2.1; omega
  have hm2 : b / L ≤ 1024 := most_le (by have := hf.2.2.2; omega)
  obtain ⟨m, hmm⟩ : ∃ m, m = b / L := ⟨_, rfl⟩
  rw [← hmm] at HM hm2 hn
  have hq := hn.quo hL
  obtain ⟨h1, h2, h3⟩ := hn
  have hsz : d.size ≤ 1100000 := by
    have : n * L ≤ 1024 * 1000 := Nat.mul_le_mul (by omega) hL2
    omega
  have hpos : 0 < d.size := by
    have : 1 * 1 ≤ n * L := Nat.mul_le_mul h2 hL
    omega
  have hq1 : wrap64 ((d.size : Int) / (L : Int)) = (n : Int) := by
    rw [← Int.natCast_ediv, hq.1]; unfold wrap64; omega
  have hd1 : ((d.size : Int) == 0) = false := by simp; exact fun h => by rw [h] at hpos; simp at hpos
  have hd3 : (((d.size : Int) % (L : Int)) != 0) = false := by rw [← Int.natCast_emod, hq.2]; rfl
  have hd4 : decide ((m : Int) < wrap64 ((d.size : Int) / (L : Int))) = false := by rw [hq1]; simp; omega
  have hl0 : (L : Int) ≠ 0 := by omega
  have H1 := hid h1
  clear hf hmm hq hq1 h1
  go_enter Try.func20, Try.ntmps20
  go_wp2_with fail
  refine (HV _).out.mono ?_
  rintro e w1 ⟨rfl, rfl⟩
  go_wp2_with fail
  go_quiet ((go_at_call 17; refine Calls.quiet_of_same (v := .int .i64 m) ((HM _).out.mono ?_); rintro e w' ⟨rfl, rfl⟩; exact ⟨rfl, rfl⟩))
  have HB0 : Hid (Below w1.heap.size w1 (w1.drewN nq)) := hid (below_drewN (Below.refl _ _) _)
  obtain ⟨w2, hw2⟩ : ∃ w2, w2 = w1.drewN nq := ⟨_, rfl⟩
  rw [← hw2] at HB0 ⊢
  clear hw2 hd1 hd3 hd4
  go_wp2_with fail
  go_loopw [8, 9] (fun u i wr => ∃ (k a : Nat) (u' : Value), u = u' ∧ k ≤ n ∧ a = k * L ∧ i = .int .i64 a ∧ OwnStrs wr u' (recs L d k) ∧ Fresh w1 u' ∧ Below w1.heap.size w1 wr) (fun _ i _ => d.size - (intOf i).toNat)
  case atStart => exact ⟨0, 0, _, rfl, by omega, by simp, by go_num, OwnStrs.nil _ _, (by rintro k ⟨a, n, c, e, hc, _⟩; cases e; omega), HB0.out.alloc HB0.out.size _⟩
  case round =>
    obtain ⟨k, a, u, rfl, hk, ha, rfl, ho, hfr, hb⟩ := hrel
    have HB := hid hb
    have HO := hid ho
    have HF := hid hfr
    by_cases hlt : a < d.size
    · have hkn : k < n := by
        rcases Nat.lt_or_ge k n with h | h
        · exact h
        · have : n * L ≤ k * L := Nat.mul_le_mul_right L h
          have := H1.out; omega
      have ha2 : a + L ≤ d.size := by
        rw [H1.out, ha, ← Nat.succ_mul]; exact Nat.mul_le_mul_right L hkn
      have hsl : ∀ W, (Instr.slice 9 (.string d) (some (.int .i64 (a : Int))) (some (.int .i64 ((a : Int) + (L : Int)))) none).run Try.prog W = .ok (.string (d.extract a (a + L))) W := fun W => by
        rw [run_slice_string W 9 d .i64 .i64 a ((a : Int) + L) Try.underlying9 (by omega) (by omega) (by omega)]
        rw [Int.toNat_natCast, show ((a : Int) + (L : Int)).toNat = a + L by omega]
      have HSUCC := hid (recs_succ L d k)
      rw [← ha] at HSUCC
      have HA := hid ha
      obtain ⟨x, hx⟩ : ∃ x, x = d.extract a (a + L) := ⟨_, rfl⟩
      rw [← hx] at hsl HSUCC
      obtain ⟨A2, capu, rfl⟩ := HO.out.shape
      obtain ⟨cs, hcs⟩ : ∃ cs, cs = (recs L d k).map Value.string := ⟨_, rfl⟩
      have ho2 := HO.out
      unfold OwnStrs at ho2
      rw [recs_length] at ho2 HF ⊢
      rw [← hcs] at ho2
      have HO2 := hid ho2
      have HCS := hid hcs
      clear hx ho2 hcs ho hfr hb ha HO
      go_wp2_with (at_builtin; refine wpList_append_slice rfl (.tmp 42) (.tmp 49) 22 rfl 9 (.string ⟨#[]⟩) 1 16 Try.underlying22 (by kernel_rfl) (by kernel_rfl) _ k cs rfl (SliceIs.alloc HO2.out _) ⟨wr.heap.size, 0, none⟩ 1 1 [.string x] rfl rfl (news1 _ _ _ _ rfl) (by simp [Value.oneCell']) (by omega) (by omega) (by omega) ?_; intro g8 cap8 w8 hs8 hu8 hh8)
      go_roundw
      case rel =>
        have h8 := OwnStrs.more (recs_length L d k) HCS.out hs8.out
        rw [← HSUCC.out] at h8
        exact ⟨k + 1, a + L, _, rfl, by omega, by rw [HA.out, Nat.succ_mul], by go_num, h8, fun b hb => (hh8.out b hb).elim (HF.out b) (fun h => by have := HB.out.size; simp at h; omega), (HB.out.alloc HB.out.size _).trans (hu8.out.below (by have := HB.out.size; simp; omega) (fun b hb => HF.out b hb))⟩
      case measure => simp [intOf]; omega
    · have hkn : k = n := by
        rcases Nat.lt_or_ge k n with h | h
        · have : (k + 1) * L ≤ n * L := Nat.mul_le_mul_right L h
          rw [Nat.succ_mul] at this
          have := H1.out; omega
        · omega
      subst hkn
      obtain ⟨A2, capu, rfl⟩ := HO.out.shape
      clear ho hfr hb ha
      go_wp2_with fail
      go_ret2
      exact ⟨_, rfl, HO.out.at, HB.out⟩
end Go.Proofs.Ytllbjabnoicdfaa
