import Derived.Test.YtklbckonlbpbgabSpnS1
/-! What Segments refuses. -/
namespace Go.Proofs.Ytklbckonlbpbgab
open Go.Lib Go.ChangeShapes Go.WideShapes Go.ChangeAt Go.RowKit
set_option linter.unusedVariables false
set_option maxRecDepth 100000 in
set_option maxHeartbeats 400000 in
theorem ssegs_bad (L B : Int) (hB : B ≤ 9223372036854775807) (hf : ¬ sfits L B) (d : ByteArray) (w : World) :
    Calls Try.prog 11 #[.int .i64 L, .int .i64 B, .string d] w (Gives (.tuple #[.slice none 0 0, .int .i64 1]) w) := by
  have HV := fun W => hid (svalid_any L B hB W)
  rw [decide_eq_false hf] at HV
  clear hf
  go_enter Try.func11, Try.ntmps11
  go_wp2_with fail
  refine (HV _).out.mono ?_
  rintro e w1 ⟨rfl, rfl⟩
  go_wp2_with fail
  go_ret2
  exact ⟨rfl, Below.refl _ _⟩
set_option maxRecDepth 100000 in
set_option maxHeartbeats 1000000 in
theorem ssegs_a1 (x b : Nat) (hf : sfits (x : Int) (b : Int)) (d h : ByteArray) (hs : d.size ≤ 1000000) (hA : 4 < d.size) (hx : d.extract 0 4 = h) (hn : ∀ n ≤ 65535, h ≠ word n) (w : World) :
    Calls Try.prog 11 #[.int .i64 x, .int .i64 b, .string d] w (Gives (.tuple #[.slice none 0 0, .int .i64 11]) w) := by
  have HV := fun W => hid (svalid_any x b (by have := hf.2.2.2; omega) W)
  rw [decide_eq_true hf] at HV
  have hb1 : 9 ≤ b := by have := hf.2.2.1; omega
  have hb2 : b ≤ 1024 := by have := hf.2.2.2; omega
  have S1 := fun W => sl_to d 4 4 rfl (by omega) W
  rw [hx] at S1
  have hAA : (4 : Int) < (d.size : Int) := by omega
  have HR := fun W => hid (readWord_no h (by rw [← hx, ByteArray.size_extract]; omega) hn W)
  clear hx hn hf
  go_enter Try.func11, Try.ntmps11
  go_wp2_with fail
  refine (HV _).out.mono ?_
  rintro e w1 ⟨rfl, rfl⟩
  go_wp2_with fail
  refine (HR _).out.mono ?_
  rintro e w2 ⟨rfl, hb⟩
  have HB2 := hid hb
  clear hb
  go_wp2_with fail
  go_ret2
  exact ⟨rfl, HB2.out⟩
set_option maxRecDepth 100000 in
set_option maxHeartbeats 1000000 in
theorem ssegs_a2 (x b : Nat) (hf : sfits (x : Int) (b : Int)) (d h : ByteArray) (hs : d.size ≤ 1000000) (hA : 4 < d.size) (hx : d.extract 0 4 = h) (n : Nat) (hn : n ≤ 65535) (hw : h = word n) (hne : n ≠ d.size) (w : World) :
    Calls Try.prog 11 #[.int .i64 x, .int .i64 b, .string d] w (Gives (.tuple #[.slice none 0 0, .int .i64 11]) w) := by
  have HV := fun W => hid (svalid_any x b (by have := hf.2.2.2; omega) W)
  rw [decide_eq_true hf] at HV
  have hb1 : 9 ≤ b := by have := hf.2.2.1; omega
  have hb2 : b ≤ 1024 := by have := hf.2.2.2; omega
  have S1 := fun W => sl_to d 4 4 rfl (by omega) W
  rw [hx] at S1
  have hAA : (4 : Int) < (d.size : Int) := by omega
  have HR := fun W => hid (readWord_yes n hn W)
  rw [← hw] at HR
  have hq : ((n : Int) != (d.size : Int)) = true := by simp; omega
  clear hx hw hf
  go_enter Try.func11, Try.ntmps11
  go_wp2_with fail
  refine (HV _).out.mono ?_
  rintro e w1 ⟨rfl, rfl⟩
  go_wp2_with fail
  refine (HR _).out.mono ?_
  rintro e w2 ⟨rfl, hb⟩
  have HB2 := hid hb
  clear hb
  go_wp2_with fail
  go_ret2
  exact ⟨rfl, HB2.out⟩
set_option maxRecDepth 100000 in
set_option maxHeartbeats 1000000 in
theorem ssegs_a3 (x b : Nat) (hf : sfits (x : Int) (b : Int)) (d h : ByteArray) (hs : d.size ≤ 1000000) (hA : 4 < d.size) (hx : d.extract 0 4 = h) (hn : d.size ≤ 65535) (hw : h = word d.size) (hbd : b < d.size) (w : World) :
    Calls Try.prog 11 #[.int .i64 x, .int .i64 b, .string d] w (Gives (.tuple #[.slice none 0 0, .int .i64 11]) w) := by
  have HV := fun W => hid (svalid_any x b (by have := hf.2.2.2; omega) W)
  rw [decide_eq_true hf] at HV
  have hb1 : 9 ≤ b := by have := hf.2.2.1; omega
  have hb2 : b ≤ 1024 := by have := hf.2.2.2; omega
  have S1 := fun W => sl_to d 4 4 rfl (by omega) W
  rw [hx] at S1
  have hAA : (4 : Int) < (d.size : Int) := by omega
  have HR := fun W => hid (readWord_yes d.size hn W)
  rw [← hw] at HR
  have hq : ((d.size : Int) != (d.size : Int)) = false := by simp
  have hB : decide ((d.size : Int) ≤ 4) = false := by simp only [decide_eq_false_iff_not]; omega
  have hC : decide (b < d.size) = true := by simp only [decide_eq_true_eq]; omega
  clear hx hw hf
  go_enter Try.func11, Try.ntmps11
  go_wp2_with fail
  refine (HV _).out.mono ?_
  rintro e w1 ⟨rfl, rfl⟩
  go_wp2_with fail
  refine (HR _).out.mono ?_
  rintro e w2 ⟨rfl, hb⟩
  have HB2 := hid hb
  clear hb
  go_wp2_with fail
  go_ret2
  exact ⟨rfl, HB2.out⟩
set_option maxRecDepth 100000 in
set_option maxHeartbeats 1000000 in
theorem ssegs_b1 (x b : Nat) (hf : sfits (x : Int) (b : Int)) (d h : ByteArray) (hs : d.size ≤ 1000000) (hA : d.size ≤ 4) (hn : ∀ n ≤ 65535, d ≠ word n) (w : World) :
    Calls Try.prog 11 #[.int .i64 x, .int .i64 b, .string d] w (Gives (.tuple #[.slice none 0 0, .int .i64 11]) w) := by
  have HV := fun W => hid (svalid_any x b (by have := hf.2.2.2; omega) W)
  rw [decide_eq_true hf] at HV
  have hb1 : 9 ≤ b := by have := hf.2.2.1; omega
  have hb2 : b ≤ 1024 := by have := hf.2.2.2; omega
  have S1 := fun W => sl_to d (d.size : Int) d.size rfl (Nat.le_refl _) W
  rw [show d.extract 0 d.size = d by apply ByteArray.ext; simp] at S1
  have hAA : (d.size : Int) ≤ 4 := by omega
  have HR := fun W => hid (readWord_no d (by omega) hn W)
  clear hn hf
  go_enter Try.func11, Try.ntmps11
  go_wp2_with fail
  refine (HV _).out.mono ?_
  rintro e w1 ⟨rfl, rfl⟩
  go_wp2_with fail
  refine (HR _).out.mono ?_
  rintro e w2 ⟨rfl, hb⟩
  have HB2 := hid hb
  clear hb
  go_wp2_with fail
  go_ret2
  exact ⟨rfl, HB2.out⟩
set_option maxRecDepth 100000 in
set_option maxHeartbeats 1000000 in
theorem ssegs_b2 (x b : Nat) (hf : sfits (x : Int) (b : Int)) (d h : ByteArray) (hs : d.size ≤ 1000000) (hA : d.size = 4) (n : Nat) (hn : n ≤ 65535) (hw : d = word n) (hne : n ≠ 4) (w : World) :
    Calls Try.prog 11 #[.int .i64 x, .int .i64 b, .string d] w (Gives (.tuple #[.slice none 0 0, .int .i64 11]) w) := by
  have HV := fun W => hid (svalid_any x b (by have := hf.2.2.2; omega) W)
  rw [decide_eq_true hf] at HV
  have hb1 : 9 ≤ b := by have := hf.2.2.1; omega
  have hb2 : b ≤ 1024 := by have := hf.2.2.2; omega
  have S1 := fun W => sl_to d (d.size : Int) d.size rfl (Nat.le_refl _) W
  rw [show d.extract 0 d.size = d by apply ByteArray.ext; simp] at S1
  have hAA : (d.size : Int) ≤ 4 := by omega
  have hS4 : (d.size : Int) = 4 := by omega
  rw [hS4] at S1
  have HR := fun W => hid (readWord_yes n hn W)
  rw [← hw] at HR
  have hq : ((n : Int) != 4) = true := by simp; omega
  clear hw hf hA hAA
  go_enter Try.func11, Try.ntmps11
  go_wp2_with fail
  refine (HV _).out.mono ?_
  rintro e w1 ⟨rfl, rfl⟩
  go_wp2_with fail
  refine (HR _).out.mono ?_
  rintro e w2 ⟨rfl, hb⟩
  have HB2 := hid hb
  clear hb
  go_wp2_with fail
  go_ret2
  exact ⟨rfl, HB2.out⟩
set_option maxRecDepth 100000 in
set_option maxHeartbeats 1000000 in
theorem ssegs_b3 (x b : Nat) (hf : sfits (x : Int) (b : Int)) (d h : ByteArray) (hs : d.size ≤ 1000000) (hA : d.size = 4) (hw : d = word 4) (w : World) :
    Calls Try.prog 11 #[.int .i64 x, .int .i64 b, .string d] w (Gives (.tuple #[.slice none 0 0, .int .i64 11]) w) := by
  have HV := fun W => hid (svalid_any x b (by have := hf.2.2.2; omega) W)
  rw [decide_eq_true hf] at HV
  have hb1 : 9 ≤ b := by have := hf.2.2.1; omega
  have hb2 : b ≤ 1024 := by have := hf.2.2.2; omega
  have S1 := fun W => sl_to d (d.size : Int) d.size rfl (Nat.le_refl _) W
  rw [show d.extract 0 d.size = d by apply ByteArray.ext; simp] at S1
  have hAA : (d.size : Int) ≤ 4 := by omega
  have hS4 : (d.size : Int) = 4 := by omega
  rw [hS4] at S1
  have HR := fun W => hid (readWord_yes 4 (by omega) W)
  rw [← hw] at HR
  clear hw hf hA hAA
  go_enter Try.func11, Try.ntmps11
  go_wp2_with fail
  refine (HV _).out.mono ?_
  rintro e w1 ⟨rfl, rfl⟩
  go_wp2_with fail
  refine (HR _).out.mono ?_
  rintro e w2 ⟨rfl, hb⟩
  have HB2 := hid hb
  clear hb
  go_wp2_with fail
  go_ret2
  exact ⟨rfl, HB2.out⟩
theorem ssegs_head (x b : Nat) (hf : sfits (x : Int) (b : Int)) (d : ByteArray) (hs : d.size ≤ 60000) (h : ¬ (4 < d.size ∧ d.extract 0 4 = word d.size ∧ d.size ≤ b)) (w : World) :
    Calls Try.prog 11 #[.int .i64 x, .int .i64 b, .string d] w (Gives (.tuple #[.slice none 0 0, .int .i64 11]) w) := by
  by_cases hA : 4 < d.size
  · by_cases hw : ∃ n, n ≤ 65535 ∧ d.extract 0 4 = word n
    · obtain ⟨n, hn, hw⟩ := hw
      by_cases hne : n = d.size
      · subst hne
        exact ssegs_a3 x b hf d _ (by omega) hA rfl hn hw (by by_cases hb : d.size ≤ b; exact absurd ⟨hA, hw, hb⟩ h; omega) w
      · exact ssegs_a2 x b hf d _ (by omega) hA rfl n hn hw hne w
    · exact ssegs_a1 x b hf d _ (by omega) hA rfl (fun n hn e => hw ⟨n, hn, e⟩) w
  · by_cases hw : ∃ n, n ≤ 65535 ∧ d = word n
    · obtain ⟨n, hn, hw⟩ := hw
      have h4 : d.size = 4 := by rw [hw]; rfl
      by_cases hne : n = 4
      · subst hne
        exact ssegs_b3 x b hf d d (by omega) h4 hw w
      · exact ssegs_b2 x b hf d d (by omega) h4 n hn hw hne w
    · exact ssegs_b1 x b hf d d (by omega) (by omega) (fun n hn e => hw ⟨n, hn, e⟩) w
end Go.Proofs.Ytklbckonlbpbgab
