import Derived.Test.YtklbckonlbpbgaaVarT1
/-! A form is cut off a text; Unpack. -/
namespace Go.Proofs.Ytklbckonlbpbgaa
open Go.Lib Go.ChangeShapes Go.WideShapes Go.ChangeAt Go.RowKit
set_option linter.unusedVariables false

theorem sl_ab (d : ByteArray) (i j : Int) (a b : Nat) (hi : i = a) (hj : j = b) (h1 : a ≤ b) (h2 : b ≤ d.size) (W : World) : (Instr.slice 9 (.string d) (some (.int .i64 i)) (some (.int .i64 j)) none).run Try.prog W = .ok (.string (d.extract a b)) W := by
  subst hi hj
  rw [run_slice_string W 9 d .i64 .i64 a b Try.underlying9 (by omega) (by omega) (by omega)]
  rfl
theorem sl_to (d : ByteArray) (j : Int) (b : Nat) (hj : j = b) (h2 : b ≤ d.size) (W : World) : (Instr.slice 9 (.string d) none (some (.int .i64 j)) none).run Try.prog W = .ok (.string (d.extract 0 b)) W := by
  subst hj
  rw [run_slice_string_to_if W 9 d .i64 b Try.underlying9, if_pos (by omega)]
  rfl
theorem sl_from (d : ByteArray) (i : Int) (a : Nat) (hi : i = a) (h2 : a ≤ d.size) (W : World) : (Instr.slice 9 (.string d) (some (.int .i64 i)) none none).run Try.prog W = .ok (.string (d.extract a d.size)) W := by
  subst hi
  rw [run_slice_string_from_if W 9 d .i64 a Try.underlying9, if_pos (by omega)]
  rfl
set_option maxRecDepth 100000 in
set_option maxHeartbeats 400000 in
theorem cutter_any (m : Int) (w : World) : Calls Try.prog 36 #[.int .i64 m] w fun e w' => e = .returned (.func (.func 40) #[] #[.pointer (some ⟨w.heap.size, 0, none⟩)]) ∧ w' = w.alloc (.cells #[.int .i64 m] 3) := by
  go_enter Try.func36, Try.ntmps36
  go_wp2_with fail
  go_ret
  exact ⟨rfl, rfl⟩
/-! a form at the head -/
set_option maxRecDepth 100000 in
set_option maxHeartbeats 400000 in
theorem cutA_yes (most n : Nat) (hm : most ≤ 1024) (s x r y : ByteArray) (hA : (4 : Int) < (s.size : Int)) (hs : s.size ≤ 2000000) (hx : s.extract 0 4 = x) (h1 : s.extract 4 n = r) (h2 : s.extract n s.size = y) (hn4 : 4 ≤ n) (hns : n ≤ s.size) (hnm : n ≤ 4 + most) (b : Nat) (w : World)
    (hR : Calls Try.prog 24 #[.string x] w (Gives (.tuple #[.int .i64 n, .bool true]) w)) (hb : b < w.heap.size) (hc : w.cell? ⟨b, 0, none⟩ = some (.int .i64 most)) :
    Calls Try.prog 40 #[.string s, .pointer (some ⟨b, 0, none⟩)] w (Gives (.tuple #[.string r, .string y, .bool true]) w) := by
  have S1 := fun W => sl_to s 4 4 rfl (by omega) W
  have S2 := fun W => sl_ab s 4 (n : Int) 4 n rfl (by omega) (by omega) (by omega) W
  have S3 := fun W => sl_from s (n : Int) n (by omega) (by omega) W
  rw [hx] at S1
  rw [h1] at S2
  rw [h2] at S3
  have HR := hid hR
  have HC := hid hc
  have HB := hid hb
  clear hx h1 h2 hR hc hb
  go_enter Try.func40, Try.ntmps40
  go_wp2_with fail
  refine HR.out.mono ?_
  rintro e w1 ⟨rfl, hb⟩
  have c1 := (hb.cell (p := ⟨b, 0, none⟩) HB.out).trans HC.out
  have HB1 := hid hb
  clear hb
  go_wp2_with fail
  go_quiet (fail)
  go_wp2_with fail
  go_ret3
  exact ⟨rfl, below_drewN HB1.out _⟩
set_option maxRecDepth 100000 in
set_option maxHeartbeats 400000 in
theorem cutB_yes (most : Nat) (hm : most ≤ 1024) (b : Nat) (w : World) (hb : b < w.heap.size) (hc : w.cell? ⟨b, 0, none⟩ = some (.int .i64 most)) :
    Calls Try.prog 40 #[.string (word 4), .pointer (some ⟨b, 0, none⟩)] w (Gives (.tuple #[.string ⟨#[]⟩, .string ⟨#[]⟩, .bool true]) w) := by
  have HR := hid (readWord_yes 4 (by omega) w)
  obtain ⟨s, hs⟩ : ∃ s, s = word 4 := ⟨_, rfl⟩
  have hss : s.size = 4 := by rw [hs]; rfl
  have S2 := fun W => sl_ab s 4 4 4 4 rfl rfl (by omega) (by omega) W
  have S3 := fun W => sl_from s 4 4 rfl (by omega) W
  rw [show s.extract 4 4 = ⟨#[]⟩ by rw [hs]; rfl] at S2
  rw [show s.extract 4 s.size = ⟨#[]⟩ by rw [hs]; rfl] at S3
  rw [← hs] at HR ⊢
  have hB : (s.size : Int) ≤ 4 := by omega
  have hB2 : (4 : Int) ≤ s.size := by omega
  have HC := hid hc
  have HB := hid hb
  clear hs hc hb hss
  go_enter Try.func40, Try.ntmps40
  go_wp2_with fail
  refine HR.out.mono ?_
  rintro e w1 ⟨rfl, hb⟩
  have c1 := (hb.cell (p := ⟨b, 0, none⟩) HB.out).trans HC.out
  have HB1 := hid hb
  clear hb
  go_wp2_with fail
  go_quiet (fail)
  go_wp2_with fail
  go_ret3
  exact ⟨rfl, below_drewN HB1.out _⟩
theorem cut_yes (most : Nat) (hm : most ≤ 1024) (r y : ByteArray) (hr : r.size ≤ most) (hy : y.size ≤ 1000000) (b : Nat) (w : World) (hb : b < w.heap.size) (hc : w.cell? ⟨b, 0, none⟩ = some (.int .i64 most)) :
    Calls Try.prog 40 #[.string (vform r ++ y), .pointer (some ⟨b, 0, none⟩)] w (Gives (.tuple #[.string r, .string y, .bool true]) w) := by
  have hss := vform_all r y
  by_cases h : 0 < r.size + y.size
  · exact cutA_yes most (4 + r.size) hm _ (word (4 + r.size)) r y (by omega) (by omega) (vform_word r y) (vform_bytes r y) (vform_rest r y) (by omega) (by omega) (by omega) b w (readWord_yes _ (by omega) w) hb hc
  · have e1 : r = ⟨#[]⟩ := ByteArray.ext (Array.eq_empty_of_size_eq_zero (show r.size = 0 by omega))
    have e2 : y = ⟨#[]⟩ := ByteArray.ext (Array.eq_empty_of_size_eq_zero (show y.size = 0 by omega))
    subst e1 e2
    exact cutB_yes most hm b w hb hc
set_option maxRecDepth 100000 in
set_option maxHeartbeats 400000 in
theorem cutA_none (s : ByteArray) (hs : s.size ≤ 1000000) (hA : (4 : Int) < (s.size : Int)) (x : ByteArray) (hx : s.extract 0 4 = x) (hn : ∀ n ≤ 65535, x ≠ word n) (b : Nat) (w : World) :
    Calls Try.prog 40 #[.string s, .pointer (some ⟨b, 0, none⟩)] w (Gives (.tuple #[.string ⟨#[]⟩, .string ⟨#[]⟩, .bool false]) w) := by
  have HR := hid (readWord_no x (by rw [← hx, ByteArray.size_extract]; omega) hn w)
  have S1 := fun W => sl_to s 4 4 rfl (by omega) W
  rw [hx] at S1
  clear hn hx 
  go_enter Try.func40, Try.ntmps40
  go_wp2_with fail
  refine HR.out.mono ?_
  rintro e w1 ⟨rfl, hb⟩
  have HB1 := hid hb
  clear hb
  go_wp2_with fail
  go_ret3
  exact ⟨rfl, HB1.out⟩
set_option maxRecDepth 100000 in
set_option maxHeartbeats 400000 in
theorem cutA_bad (most n : Nat) (hm : most ≤ 1024) (hn : n ≤ 65535) (s : ByteArray) (hs : s.size ≤ 1000000) (hA : (4 : Int) < (s.size : Int)) (x : ByteArray) (hx : s.extract 0 4 = x) (h : x = word n) (hbad : n < 4 ∨ s.size < n ∨ 4 + most < n) (b : Nat) (w : World) (hb : b < w.heap.size) (hc : w.cell? ⟨b, 0, none⟩ = some (.int .i64 most)) :
    Calls Try.prog 40 #[.string s, .pointer (some ⟨b, 0, none⟩)] w (Gives (.tuple #[.string ⟨#[]⟩, .string ⟨#[]⟩, .bool false]) w) := by
  have HR := hid (readWord_yes n hn w)
  rw [← h] at HR
  have S1 := fun W => sl_to s 4 4 rfl (by omega) W
  rw [hx] at S1
  have HC := hid hc
  have HB := hid hb
  clear h hx hc hb
  by_cases h6 : n < 4
  · clear hbad
    go_enter Try.func40, Try.ntmps40
    go_wp2_with fail
    refine HR.out.mono ?_
    rintro e w1 ⟨rfl, hb⟩
    have HB1 := hid hb
    clear hb
    go_wp2_with fail
    go_ret3
    exact ⟨rfl, HB1.out⟩
  · by_cases h7 : s.size < n
    · clear hbad
      go_enter Try.func40, Try.ntmps40
      go_wp2_with fail
      refine HR.out.mono ?_
      rintro e w1 ⟨rfl, hb⟩
      have HB1 := hid hb
      clear hb
      go_wp2_with fail
      go_ret3
      exact ⟨rfl, HB1.out⟩
    · have h8 : 4 + most < n := by omega
      clear hbad
      go_enter Try.func40, Try.ntmps40
      go_wp2_with fail
      refine HR.out.mono ?_
      rintro e w1 ⟨rfl, hb⟩
      have c1 := (hb.cell (p := ⟨b, 0, none⟩) HB.out).trans HC.out
      have HB1 := hid hb
      clear hb
      go_wp2_with fail
      go_ret3
      exact ⟨rfl, HB1.out⟩
set_option maxRecDepth 100000 in
set_option maxHeartbeats 400000 in
theorem cutB_none (s : ByteArray) (hs : s.size ≤ 1000000) (hA : (s.size : Int) ≤ 4) (hn : ∀ n ≤ 65535, s ≠ word n) (b : Nat) (w : World) :
    Calls Try.prog 40 #[.string s, .pointer (some ⟨b, 0, none⟩)] w (Gives (.tuple #[.string ⟨#[]⟩, .string ⟨#[]⟩, .bool false]) w) := by
  have HR := hid (readWord_no s (by omega) hn w)
  clear hn 
  go_enter Try.func40, Try.ntmps40
  go_wp2_with fail
  refine HR.out.mono ?_
  rintro e w1 ⟨rfl, hb⟩
  have HB1 := hid hb
  clear hb
  go_wp2_with fail
  go_ret3
  exact ⟨rfl, HB1.out⟩
set_option maxRecDepth 100000 in
set_option maxHeartbeats 400000 in
theorem cutB_bad (most n : Nat) (hm : most ≤ 1024) (hn : n ≤ 65535) (s : ByteArray) (hs : s.size ≤ 1000000) (hA : (s.size : Int) ≤ 4) (h : s = word n) (hbad : n < 4 ∨ s.size < n ∨ 4 + most < n) (b : Nat) (w : World) (hb : b < w.heap.size) (hc : w.cell? ⟨b, 0, none⟩ = some (.int .i64 most)) :
    Calls Try.prog 40 #[.string s, .pointer (some ⟨b, 0, none⟩)] w (Gives (.tuple #[.string ⟨#[]⟩, .string ⟨#[]⟩, .bool false]) w) := by
  have HR := hid (readWord_yes n hn w)
  rw [← h] at HR
  have HC := hid hc
  have HB := hid hb
  clear h hc hb
  by_cases h6 : n < 4
  · clear hbad
    go_enter Try.func40, Try.ntmps40
    go_wp2_with fail
    refine HR.out.mono ?_
    rintro e w1 ⟨rfl, hb⟩
    have HB1 := hid hb
    clear hb
    go_wp2_with fail
    go_ret3
    exact ⟨rfl, HB1.out⟩
  · by_cases h7 : s.size < n
    · clear hbad
      go_enter Try.func40, Try.ntmps40
      go_wp2_with fail
      refine HR.out.mono ?_
      rintro e w1 ⟨rfl, hb⟩
      have HB1 := hid hb
      clear hb
      go_wp2_with fail
      go_ret3
      exact ⟨rfl, HB1.out⟩
    · omega
theorem cut_no (most : Nat) (hm : most ≤ 1024) (s : ByteArray) (hs : s.size ≤ 1000000) (hn : ¬ ∃ r y, s = vform r ++ y ∧ r.size ≤ most) (b : Nat) (w : World) (hb : b < w.heap.size) (hc : w.cell? ⟨b, 0, none⟩ = some (.int .i64 most)) :
    Calls Try.prog 40 #[.string s, .pointer (some ⟨b, 0, none⟩)] w (Gives (.tuple #[.string ⟨#[]⟩, .string ⟨#[]⟩, .bool false]) w) := by
  have hall : s.extract 0 s.size = s := by apply ByteArray.ext; simp
  rcases cut_cases most s with h | h | ⟨n, hn1, h, h4, h5⟩
  · exact absurd h hn
  · by_cases hA : 4 < s.size
    · rw [show min s.size 4 = 4 by omega] at h
      exact cutA_none s hs (by omega) _ rfl h b w
    · rw [show min s.size 4 = s.size by omega, hall] at h
      exact cutB_none s hs (by omega) h b w
  · by_cases hA : 4 < s.size
    · rw [show min s.size 4 = 4 by omega] at h
      exact cutA_bad most n hm hn1 s hs (by omega) _ rfl h h5 b w hb hc
    · rw [show min s.size 4 = s.size by omega, hall] at h
      exact cutB_bad most n hm hn1 s hs (by omega) h h5 b w hb hc
end Go.Proofs.Ytklbckonlbpbgaa
