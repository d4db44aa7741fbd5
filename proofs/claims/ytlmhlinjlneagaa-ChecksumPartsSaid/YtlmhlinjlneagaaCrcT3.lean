import Derived.Test.YtlmhlinjlneagaaCrcT2
namespace Go.Proofs.Ytlmhlinjlneagaa
open Go.Lib Go.ChangeShapes Go.WideShapes Go.ChangeAt Go.RowKit

/-- the four bytes of a number -/
def le4 (n : Nat) : ByteArray := ⟨#[UInt8.ofNat (n % 256), UInt8.ofNat (n / 256 % 256), UInt8.ofNat (n / 65536 % 256), UInt8.ofNat (n / 16777216)]⟩
theorem le4_size (n : Nat) : (le4 n).size = 4 := rfl

theorem conv_four (b n : Nat) (w : World) (h : ∀ i, i < 4 → w.cell? ⟨b, 0 + i, none⟩ = some (.int .u8 ([(n : Int) % 256, (n : Int) / 256 % 256, (n : Int) / 65536 % 256, (n : Int) / 16777216].getD i 0))) :
    (convert 75 9 (.slice (some ⟨b, 0, none⟩) 4 4)).run Try.prog w = .ok (.string (le4 n)) w := by
  rw [run_convert_bytes_arg (P := Try.prog) (w := w) 75 5 Try.underlying75 Try.underlying5 b 0 4 4 [(n : Int) % 256, (n : Int) / 256 % 256, (n : Int) / 65536 % 256, (n : Int) / 16777216] rfl h 9 Try.underlying9]
  have e0 : ((n : Int) % 256).toNat = n % 256 := by omega
  have e1 : ((n : Int) / 256 % 256).toNat = n / 256 % 256 := by omega
  have e2 : ((n : Int) / 65536 % 256).toNat = n / 65536 % 256 := by omega
  have e3 : ((n : Int) / 16777216).toNat = n / 16777216 := by omega
  simp only [strOfNums, List.map_cons, List.map_nil, e0, e1, e2, e3]
  rfl

set_option maxRecDepth 100000 in
theorem bytes_any (n : Nat) (hn : Hid (n < 4294967296)) (w : World) :
    Calls Try.prog 65 #[.int .u32 n] w fun e w' => e = .returned (.string (le4 n)) ∧ Below w.heap.size w w' := by
  have hb : (n : Int) ≤ 4294967295 := by have := hn.out; omega
  have hc := conv_four w.heap.size n (w.alloc (.cells #[.int .u8 ((n : Int) % 256), .int .u8 ((n : Int) / 256 % 256), .int .u8 ((n : Int) / 65536 % 256), .int .u8 ((n : Int) / 16777216)] 5)) (fun i hi => by
    rw [World.cell?_alloc_new]
    rcases (show i = 0 ∨ i = 1 ∨ i = 2 ∨ i = 3 by omega) with rfl | rfl | rfl | rfl <;> rfl)
  go_enter Try.func65, Try.ntmps65
  go_wp2
  go_ret
  exact ⟨rfl, (Below.refl _ w).alloc (Nat.le_refl _) _⟩
set_option maxRecDepth 100000 in
theorem refbytes_any (n : Nat) (hn : Hid (n < 4294967296)) (w : World) :
    Calls Try.prog 66 #[.int .u32 n] w fun e w' => e = .returned (.string (le4 n)) ∧ Below w.heap.size w w' := by
  have hb : (n : Int) ≤ 4294967295 := by have := hn.out; omega
  have hc := conv_four w.heap.size n (w.alloc (.cells #[.int .u8 ((n : Int) % 256), .int .u8 ((n : Int) / 256 % 256), .int .u8 ((n : Int) / 65536 % 256), .int .u8 ((n : Int) / 16777216)] 5)) (fun i hi => by
    rw [World.cell?_alloc_new]
    rcases (show i = 0 ∨ i = 1 ∨ i = 2 ∨ i = 3 by omega) with rfl | rfl | rfl | rfl <;> rfl)
  go_enter Try.func66, Try.ntmps66
  go_wp2
  go_ret
  exact ⟨rfl, (Below.refl _ w).alloc (Nat.le_refl _) _⟩

/-- the sum of a text -/
def sumS (s : ByteArray) : Nat := crc 0 s.data.toList
theorem sumS_lt (s : ByteArray) : sumS s < 4294967296 := crc_lt _ (by decide)
theorem cadd_ok (a b : ByteArray) (ha : a.size ≤ 1000000) (hb : b.size ≤ 1000000) (w : World) : (Op.stringOp .add a b).run Try.prog w = .ok (.string (a ++ b)) w :=
  run_string_add_sum w _ _ (by omega)

set_option maxRecDepth 100000 in
theorem seal_any (s : ByteArray) (hs : s.size ≤ 1000000) (w : World) :
    Calls Try.prog 49 #[.string s] w fun e w' => e = .returned (.string (s ++ le4 (sumS s))) ∧ Below w.heap.size w w' := by
  have hadd := cadd_ok s (le4 (sumS s)) hs (by rw [le4_size]; omega)
  go_enter Try.func49, Try.ntmps49
  go_wp2_with fail
  refine (sum_any s (by omega) _).mono ?_
  rintro e w1 ⟨rfl, hb1⟩
  rw [show crc 0 s.data.toList = sumS s from rfl]
  go_wp2_with fail
  refine (bytes_any _ (sumS_lt s) _).mono ?_
  rintro e w2 ⟨rfl, hb2⟩
  go_wp2_with fail
  go_ret
  exact ⟨rfl, hb1.trans (hb2.mono hb1.size)⟩
theorem sum_nine : crc 0 [49, 50, 51, 52, 53, 54, 55, 56, 57] = 3808858755 := by decide +kernel
set_option maxRecDepth 100000 in
theorem cawake_any (w : World) : Calls Try.prog 40 #[] w fun e w' => e = .returned (.bool true) ∧ Below w.heap.size w w' := by
  have h1 : ((⟨#[]⟩ : ByteArray) ++ le4 (sumS ⟨#[]⟩)) = ⟨#[0, 0, 0, 0]⟩ := by kernel_rfl
  have H1 := hid h1
  clear h1
  go_enter Try.func40, Try.ntmps40
  go_wp2_with fail
  refine (sum_any _ (by decide) _).mono ?_
  rintro e w1 ⟨rfl, hb1⟩
  rw [show (ByteArray.mk #[49, 50, 51, 52, 53, 54, 55, 56, 57]).data.toList = [49, 50, 51, 52, 53, 54, 55, 56, 57] from rfl, sum_nine]
  go_wp2_with fail
  refine (seal_any _ (by decide) _).mono ?_
  rintro e w2 ⟨rfl, hb2⟩
  rw [H1.out]
  go_wp2_with fail
  go_ret
  exact ⟨rfl, hb1.trans (hb2.mono hb1.size)⟩

/-- the bytes of a sealed text -/
def openS (s : ByteArray) : Option ByteArray := if s.size < 4 then none else if (s.extract 0 (s.size - 4)) ++ le4 (sumS (s.extract 0 (s.size - 4))) = s then some (s.extract 0 (s.size - 4)) else none
def openV : Option ByteArray → Value
  | none => .tuple #[.string ⟨#[]⟩, .int .i64 11]
  | some t => .tuple #[.string t, .int .i64 0]
theorem openV_tuple (o : Option ByteArray) : ∃ (t : ByteArray) (f : Nat), openV o = .tuple #[.string t, .int .i64 f] := by
  cases o with
  | none => exact ⟨_, 11, rfl⟩
  | some t => exact ⟨t, 0, rfl⟩
def OpenPost (s : ByteArray) (w : World) (e : Ending) (w' : World) : Prop :=
  Below w.heap.size w w' ∧ e = .returned (openV (openS s))

theorem ext_list {a b : ByteArray} (h : a.data.toList = b.data.toList) : a = b := ByteArray.ext (Array.toList_inj.1 h)
theorem ext_take (Y : ByteArray) (n : Nat) : (Y.extract 0 n).data.toList = Y.data.toList.take n := by
  rw [ByteArray.data_extract]; simp
theorem ext_drop (s : ByteArray) (a : Nat) : (s.extract a s.size).data.toList = s.data.toList.drop a := by
  rw [ByteArray.data_extract, Array.toList_extract, List.extract_eq_take_drop]
  exact List.take_of_length_le (by rw [List.length_drop]; exact Nat.le_refl _)
theorem split_at (s : ByteArray) (n : Nat) : s.extract 0 n ++ s.extract n s.size = s := by
  apply ext_list
  rw [ByteArray.data_append, Array.toList_append, ext_take, ext_drop, List.take_append_drop]
theorem eq_bool (a b : ByteArray) : (a.toList == b.toList) = decide (a = b) := by
  rw [Bool.eq_iff_iff, beq_iff_eq, decide_eq_true_iff, ByteArray.toList_eq, ByteArray.toList_eq]
  exact ⟨ext_list, fun h => by rw [h]⟩
theorem tail_eq (s x : ByteArray) (n : Nat) : (s.extract n s.size = x) ↔ (s.extract 0 n ++ x = s) := by
  constructor
  · rintro rfl; exact split_at s n
  · intro h
    have h2 : s.extract 0 n ++ x = s.extract 0 n ++ s.extract n s.size := h.trans (split_at s n).symm
    have h3 := congrArg (fun b : ByteArray => b.data.toList) h2
    simp only [ByteArray.data_append, Array.toList_append] at h3
    exact (ext_list (List.append_cancel_left h3)).symm

set_option maxRecDepth 100000 in
theorem open_any (s : ByteArray) (hs : s.size ≤ 1000000) (w : World) :
    Calls Try.prog 47 #[.string s] w (OpenPost s w) := by
  by_cases h4 : s.size < 4
  · have HO : Hid (openS s = none) := by show _ = _; unfold openS; rw [if_pos h4]
    go_enter Try.func47, Try.ntmps47
    go_wp2_with fail
    go_ret2
    unfold OpenPost; rw [HO.out]
    exact ⟨Below.refl _ _, rfl⟩
  · have h1 : (0 : Int) ≤ (s.size : Int) - 4 := by omega
    have e1 : ((s.size : Int) - 4).toNat = s.size - 4 := by omega
    obtain ⟨t, ht⟩ : ∃ t, t = s.extract 0 (s.size - 4) := ⟨_, rfl⟩
    obtain ⟨u, hu⟩ : ∃ u, u = s.extract (s.size - 4) s.size := ⟨_, rfl⟩
    have hts : t.size ≤ 1000000 := by rw [ht]; simp; omega
    have HO : Hid (openS s = if t ++ le4 (sumS t) = s then some t else none) := by show _ = _; unfold openS; rw [if_neg h4, ← ht]
    have HE : Hid ((u.toList == (le4 (sumS t)).toList) = decide (t ++ le4 (sumS t) = s)) := by
      show _ = _
      rw [eq_bool, hu, ht]
      exact decide_eq_decide.2 (tail_eq s _ _)
    have ht' := ht.symm
    have hu' := hu.symm
    clear ht hu
    go_enter Try.func47, Try.ntmps47
    go_wp2_with fail
    go_quiet (fail)
    go_wp2_with fail
    refine (sum_any t (by omega) _).mono ?_
    rintro e w1 ⟨rfl, hb1⟩
    rw [show crc 0 t.data.toList = sumS t from rfl]
    go_wp2_with fail
    refine (bytes_any _ (sumS_lt t) _).mono ?_
    rintro e w2 ⟨rfl, hb2⟩
    have HB := hid ((below_drewN (Below.refl w.heap.size w) nq).trans (hb1.trans (hb2.mono hb1.size)))
    clear hb1 hb2
    by_cases heq : t ++ le4 (sumS t) = s
    · have hq : (u.toList == (le4 (sumS t)).toList) = true := by rw [HE.out, decide_eq_true heq]
      have HQ := hid heq
      clear heq
      go_wp2_with fail
      go_ret2
      unfold OpenPost; rw [HO.out, if_pos HQ.out]
      exact ⟨HB.out, rfl⟩
    · have hq : (u.toList == (le4 (sumS t)).toList) = false := by rw [HE.out, decide_eq_false heq]
      have HQ := hid heq
      clear heq
      go_wp2_with fail
      go_ret2
      unfold OpenPost; rw [HO.out, if_neg HQ.out]
      exact ⟨HB.out, rfl⟩

end Go.Proofs.Ytlmhlinjlneagaa
