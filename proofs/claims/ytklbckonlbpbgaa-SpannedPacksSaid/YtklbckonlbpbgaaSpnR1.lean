import Derived.Test.YtklbckonlbpbgaaSpnT1
import Derived.Test.YtklbckonlbpbgaaSpnM3
/-! The reference's form of a segment, and a block with one more. -/
namespace Go.Proofs.Ytklbckonlbpbgaa
open Go.Lib Go.ChangeShapes Go.WideShapes Go.ChangeAt Go.RowKit
set_option linter.unusedVariables false

theorem conv_head (b n c : Nat) (hn : n ≤ 65535) (hc : c ≤ 3) (w : World) (h : ∀ i, i < 4 → w.cell? ⟨b, 0 + i, none⟩ = some (.int .u8 ([(n : Int) / 256, (n : Int) % 256, (c : Int), 0].getD i 0))) :
    (convert 49 9 (.slice (some ⟨b, 0, none⟩) 4 4)).run Try.prog w = .ok (.string (shead n c)) w := by
  rw [run_convert_bytes_arg (P := Try.prog) (w := w) 49 5 Try.underlying49 Try.underlying5 b 0 4 4 [(n : Int) / 256, (n : Int) % 256, (c : Int), 0] rfl h 9 Try.underlying9]
  have e0 : ((n : Int) / 256).toNat = n / 256 := by omega
  have e1 : ((n : Int) % 256).toNat = n % 256 := by omega
  simp only [strOfNums, List.map_cons, List.map_nil, e0, e1, Int.toNat_natCast]
  rfl
set_option maxRecDepth 100000 in
set_option maxHeartbeats 1000000 in
theorem rsform_0 (d : ByteArray) (hds : d.size ≤ 60000) (w : World) : Calls Try.prog 48 #[.agg #[.bool false, .bool false, .string d]] w (Gives (.string (sform ⟨false, false, d⟩)) w) := by
  obtain ⟨n, hn⟩ : ∃ n, n = 4 + d.size := ⟨_, rfl⟩
  have hn2 : n ≤ 65535 := by omega
  have hni : 4 + (d.size : Int) = (n : Int) := by omega
  have HF : Hid (sform ⟨false, false, d⟩ = shead n 0 ++ d) := hid (by rw [hn]; rfl)
  obtain ⟨w1, hw1⟩ : ∃ q, q = w.alloc (.cells #[.bool false, .bool false, .string d] 63) := ⟨_, rfl⟩
  have hr1 : Row w1 w.heap.size 63 [.bool false, .bool false, .string d] := by rw [hw1]; exact Row.new w [.bool false, .bool false, .string d] _
  have hb1 : Below w.heap.size w w1 := by rw [hw1]; exact (Below.refl _ _).alloc (Nat.le_refl _) _
  have c0 := hr1.cell (i := 0) rfl
  have c1 := hr1.cell (i := 1) rfl
  have c2 := hr1.cell (i := 2) rfl
  have k2 := (hr1.alloc (.cells #[.int .u8 ((n : Int) / 256), .int .u8 ((n : Int) % 256), .int .u8 0, .int .u8 0] 5)).cell (i := 2) rfl
  have HB1 := hid hb1
  have HW1 : Hid (w.alloc (.cells #[.bool false, .bool false, .string d] 63) = w1) := hid hw1.symm
  have hc := conv_head w1.heap.size n 0 hn2 (by omega) (w1.alloc (.cells #[.int .u8 ((n : Int) / 256), .int .u8 ((n : Int) % 256), .int .u8 0, .int .u8 0] 5)) (fun i hi => by
    rw [World.cell?_alloc_new]
    rcases (show i = 0 ∨ i = 1 ∨ i = 2 ∨ i = 3 by omega) with rfl | rfl | rfl | rfl <;> rfl)
  obtain ⟨q, hq⟩ : ∃ q, q = shead n 0 := ⟨_, rfl⟩
  have hqs : q.size ≤ 4 := by rw [hq, shead_size]; omega
  rw [← hq] at hc HF
  clear hq hw1 hr1 hb1 hn
  go_enter Try.func48, Try.ntmps48
  go_upto_region 1 with fail
  rw [HW1.out]
  go_wp2_with fail
  go_ret
  exact ⟨by rw [HF.out]; rfl, (HB1.out.alloc HB1.out.size _)⟩
set_option maxRecDepth 100000 in
set_option maxHeartbeats 1000000 in
theorem rsform_1 (d : ByteArray) (hds : d.size ≤ 60000) (w : World) : Calls Try.prog 48 #[.agg #[.bool false, .bool true, .string d]] w (Gives (.string (sform ⟨false, true, d⟩)) w) := by
  obtain ⟨n, hn⟩ : ∃ n, n = 4 + d.size := ⟨_, rfl⟩
  have hn2 : n ≤ 65535 := by omega
  have hni : 4 + (d.size : Int) = (n : Int) := by omega
  have HF : Hid (sform ⟨false, true, d⟩ = shead n 1 ++ d) := hid (by rw [hn]; rfl)
  obtain ⟨w1, hw1⟩ : ∃ q, q = w.alloc (.cells #[.bool false, .bool true, .string d] 63) := ⟨_, rfl⟩
  have hr1 : Row w1 w.heap.size 63 [.bool false, .bool true, .string d] := by rw [hw1]; exact Row.new w [.bool false, .bool true, .string d] _
  have hb1 : Below w.heap.size w w1 := by rw [hw1]; exact (Below.refl _ _).alloc (Nat.le_refl _) _
  have c0 := hr1.cell (i := 0) rfl
  have c1 := hr1.cell (i := 1) rfl
  have c2 := hr1.cell (i := 2) rfl
  have k2 := (hr1.alloc (.cells #[.int .u8 ((n : Int) / 256), .int .u8 ((n : Int) % 256), .int .u8 1, .int .u8 0] 5)).cell (i := 2) rfl
  have HB1 := hid hb1
  have HW1 : Hid (w.alloc (.cells #[.bool false, .bool true, .string d] 63) = w1) := hid hw1.symm
  have hc := conv_head w1.heap.size n 1 hn2 (by omega) (w1.alloc (.cells #[.int .u8 ((n : Int) / 256), .int .u8 ((n : Int) % 256), .int .u8 1, .int .u8 0] 5)) (fun i hi => by
    rw [World.cell?_alloc_new]
    rcases (show i = 0 ∨ i = 1 ∨ i = 2 ∨ i = 3 by omega) with rfl | rfl | rfl | rfl <;> rfl)
  obtain ⟨q, hq⟩ : ∃ q, q = shead n 1 := ⟨_, rfl⟩
  have hqs : q.size ≤ 4 := by rw [hq, shead_size]; omega
  rw [← hq] at hc HF
  clear hq hw1 hr1 hb1 hn
  go_enter Try.func48, Try.ntmps48
  go_upto_region 1 with fail
  rw [HW1.out]
  go_wp2_with fail
  go_ret
  exact ⟨by rw [HF.out]; rfl, (HB1.out.alloc HB1.out.size _)⟩
set_option maxRecDepth 100000 in
set_option maxHeartbeats 1000000 in
theorem rsform_2 (d : ByteArray) (hds : d.size ≤ 60000) (w : World) : Calls Try.prog 48 #[.agg #[.bool true, .bool false, .string d]] w (Gives (.string (sform ⟨true, false, d⟩)) w) := by
  obtain ⟨n, hn⟩ : ∃ n, n = 4 + d.size := ⟨_, rfl⟩
  have hn2 : n ≤ 65535 := by omega
  have hni : 4 + (d.size : Int) = (n : Int) := by omega
  have HF : Hid (sform ⟨true, false, d⟩ = shead n 2 ++ d) := hid (by rw [hn]; rfl)
  obtain ⟨w1, hw1⟩ : ∃ q, q = w.alloc (.cells #[.bool true, .bool false, .string d] 63) := ⟨_, rfl⟩
  have hr1 : Row w1 w.heap.size 63 [.bool true, .bool false, .string d] := by rw [hw1]; exact Row.new w [.bool true, .bool false, .string d] _
  have hb1 : Below w.heap.size w w1 := by rw [hw1]; exact (Below.refl _ _).alloc (Nat.le_refl _) _
  have c0 := hr1.cell (i := 0) rfl
  have c1 := hr1.cell (i := 1) rfl
  have c2 := hr1.cell (i := 2) rfl
  have k2 := (hr1.alloc (.cells #[.int .u8 ((n : Int) / 256), .int .u8 ((n : Int) % 256), .int .u8 2, .int .u8 0] 5)).cell (i := 2) rfl
  have HB1 := hid hb1
  have HW1 : Hid (w.alloc (.cells #[.bool true, .bool false, .string d] 63) = w1) := hid hw1.symm
  have hc := conv_head w1.heap.size n 2 hn2 (by omega) (w1.alloc (.cells #[.int .u8 ((n : Int) / 256), .int .u8 ((n : Int) % 256), .int .u8 2, .int .u8 0] 5)) (fun i hi => by
    rw [World.cell?_alloc_new]
    rcases (show i = 0 ∨ i = 1 ∨ i = 2 ∨ i = 3 by omega) with rfl | rfl | rfl | rfl <;> rfl)
  obtain ⟨q, hq⟩ : ∃ q, q = shead n 2 := ⟨_, rfl⟩
  have hqs : q.size ≤ 4 := by rw [hq, shead_size]; omega
  rw [← hq] at hc HF
  clear hq hw1 hr1 hb1 hn
  go_enter Try.func48, Try.ntmps48
  go_upto_region 1 with fail
  rw [HW1.out]
  go_wp2_with fail
  go_ret
  exact ⟨by rw [HF.out]; rfl, (HB1.out.alloc HB1.out.size _)⟩
set_option maxRecDepth 100000 in
set_option maxHeartbeats 1000000 in
theorem rsform_3 (d : ByteArray) (hds : d.size ≤ 60000) (w : World) : Calls Try.prog 48 #[.agg #[.bool true, .bool true, .string d]] w (Gives (.string (sform ⟨true, true, d⟩)) w) := by
  obtain ⟨n, hn⟩ : ∃ n, n = 4 + d.size := ⟨_, rfl⟩
  have hn2 : n ≤ 65535 := by omega
  have hni : 4 + (d.size : Int) = (n : Int) := by omega
  have HF : Hid (sform ⟨true, true, d⟩ = shead n 3 ++ d) := hid (by rw [hn]; rfl)
  obtain ⟨w1, hw1⟩ : ∃ q, q = w.alloc (.cells #[.bool true, .bool true, .string d] 63) := ⟨_, rfl⟩
  have hr1 : Row w1 w.heap.size 63 [.bool true, .bool true, .string d] := by rw [hw1]; exact Row.new w [.bool true, .bool true, .string d] _
  have hb1 : Below w.heap.size w w1 := by rw [hw1]; exact (Below.refl _ _).alloc (Nat.le_refl _) _
  have c0 := hr1.cell (i := 0) rfl
  have c1 := hr1.cell (i := 1) rfl
  have c2 := hr1.cell (i := 2) rfl
  have k2 := (hr1.alloc (.cells #[.int .u8 ((n : Int) / 256), .int .u8 ((n : Int) % 256), .int .u8 3, .int .u8 0] 5)).cell (i := 2) rfl
  have HB1 := hid hb1
  have HW1 : Hid (w.alloc (.cells #[.bool true, .bool true, .string d] 63) = w1) := hid hw1.symm
  have hc := conv_head w1.heap.size n 3 hn2 (by omega) (w1.alloc (.cells #[.int .u8 ((n : Int) / 256), .int .u8 ((n : Int) % 256), .int .u8 3, .int .u8 0] 5)) (fun i hi => by
    rw [World.cell?_alloc_new]
    rcases (show i = 0 ∨ i = 1 ∨ i = 2 ∨ i = 3 by omega) with rfl | rfl | rfl | rfl <;> rfl)
  obtain ⟨q, hq⟩ : ∃ q, q = shead n 3 := ⟨_, rfl⟩
  have hqs : q.size ≤ 4 := by rw [hq, shead_size]; omega
  rw [← hq] at hc HF
  clear hq hw1 hr1 hb1 hn
  go_enter Try.func48, Try.ntmps48
  go_upto_region 1 with fail
  rw [HW1.out]
  go_wp2_with fail
  go_ret
  exact ⟨by rw [HF.out]; rfl, (HB1.out.alloc HB1.out.size _)⟩
theorem rsform_any (s : Seg) (hs : s.data.size ≤ 60000) (w : World) : Calls Try.prog 48 #[s.val] w (Gives (.string (sform s)) w) := by
  obtain ⟨b, a, d⟩ := s
  cases b <;> cases a
  · exact rsform_0 d hs w
  · exact rsform_1 d hs w
  · exact rsform_2 d hs w
  · exact rsform_3 d hs w
/-- a block with a further segment -/
def refAdd (d : ByteArray) (s : Seg) : ByteArray := if d.size = 0 then sblk s else vform (d.extract 4 d.size ++ sform s)
set_option maxRecDepth 100000 in
set_option maxHeartbeats 1000000 in
theorem rsadd_any (d : ByteArray) (hd : d.size = 0 ∨ 4 ≤ d.size) (hd2 : d.size ≤ 2000) (s : Seg) (hs : s.data.size ≤ 2000) (w : World) : Calls Try.prog 45 #[.string d, s.val] w (Gives (.string (refAdd d s)) w) := by
  have F1 : ∀ W, Hid (Calls Try.prog 48 #[.agg #[.bool s.before, .bool s.after, .string s.data]] W (Gives (.string (sform s)) W)) := fun W => hid (rsform_any s (by omega) W)
  obtain ⟨w1, hw1⟩ : ∃ q, q = w.alloc (.cells #[.bool s.before, .bool s.after, .string s.data] 63) := ⟨_, rfl⟩
  have hr1 : Row w1 w.heap.size 63 [.bool s.before, .bool s.after, .string s.data] := by rw [hw1]; exact Row.new w [.bool s.before, .bool s.after, .string s.data] _
  have hb1 : Below w.heap.size w w1 := by rw [hw1]; exact (Below.refl _ _).alloc (Nat.le_refl _) _
  have c0 := hr1.cell (i := 0) rfl
  have c1 := hr1.cell (i := 1) rfl
  have c2 := hr1.cell (i := 2) rfl
  have HB1 := hid hb1
  have HW1 : Hid (w.alloc (.cells #[.bool s.before, .bool s.after, .string s.data] 63) = w1) := hid hw1.symm
  have hv : s.val = .agg #[.bool s.before, .bool s.after, .string s.data] := rfl
  rw [hv]
  have hfs : (sform s).size = 4 + s.data.size := sform_size s
  have HRA : Hid (refAdd d s = if d.size = 0 then vform (sform s) else vform (d.extract 4 d.size ++ sform s)) := hid rfl
  obtain ⟨f, hf⟩ : ∃ f, f = sform s := ⟨_, rfl⟩
  rw [← hf] at F1 HRA hfs
  have hff : f.size ≤ 3000 := by omega
  clear hv hw1 hr1 hb1 hf hfs
  by_cases h0 : d.size = 0
  · obtain rfl := empty_of h0
    have W1 := fun W => hid (refWord_nat (4 + f.size) (by omega) W)
    rw [show ((4 + f.size : Nat) : Int) = 4 + (f.size : Int) by omega] at W1
    obtain ⟨q, hq⟩ : ∃ q, q = word (4 + f.size) := ⟨_, rfl⟩
    have hqs : q.size ≤ 4 := by rw [hq, word_size]; omega
    have HV : Hid (refAdd ⟨#[]⟩ s = q ++ f) := hid (by rw [HRA.out, if_pos (show (⟨#[]⟩ : ByteArray).size = 0 from rfl), hq]; rfl)
    rw [← hq] at W1
    clear hq h0 hd hd2
    go_enter Try.func45, Try.ntmps45
    go_upto_region 1 with fail
    rw [HW1.out]
    go_wp2_with fail
    refine (F1 _).out.mono ?_
    rintro e w2 ⟨rfl, hb⟩
    have HB2 := hid (HB1.out.trans (hb.mono HB1.out.size))
    clear hb
    go_wp2_with fail
    (with_reducible refine (W1 _).out.mono ?_)
    rintro e w3 ⟨rfl, hb⟩
    have HB3 := hid (HB2.out.trans (hb.mono HB2.out.size))
    clear hb
    go_wp2_with fail
    go_ret
    exact ⟨by rw [HV.out]; rfl, HB3.out⟩
  · have S1 := fun W => sl_from d 4 4 rfl (by omega) W
    obtain ⟨y, hy⟩ : ∃ y, y = d.extract 4 d.size := ⟨_, rfl⟩
    have hys : y.size ≤ 2000 := by rw [hy, ByteArray.size_extract]; omega
    rw [← hy] at S1 HRA
    have W1 := fun W => hid (refWord_nat (4 + (y ++ f).size) (by rw [ByteArray.size_append]; omega) W)
    rw [show ((4 + (y ++ f).size : Nat) : Int) = 4 + ((y.size : Int) + (f.size : Int)) by rw [ByteArray.size_append]; omega] at W1
    obtain ⟨q, hq⟩ : ∃ q, q = word (4 + (y ++ f).size) := ⟨_, rfl⟩
    have hqs : q.size ≤ 4 := by rw [hq, word_size]; omega
    have HV : Hid (refAdd d s = q ++ (y ++ f)) := hid (by rw [HRA.out, if_neg h0, hq]; rfl)
    rw [← hq] at W1
    have hnl := nel (d := d) (by omega)
    have hie : d.toList.isEmpty = false := by simpa using hnl
    clear hq h0 hd hy
    go_enter Try.func45, Try.ntmps45
    go_upto_region 1 with fail
    rw [HW1.out]
    go_wp2_with fail
    refine (F1 _).out.mono ?_
    rintro e w2 ⟨rfl, hb⟩
    have HB2 := hid (HB1.out.trans (hb.mono HB1.out.size))
    clear hb
    go_wp2_with fail
    (with_reducible refine (W1 _).out.mono ?_)
    rintro e w3 ⟨rfl, hb⟩
    have HB3 := hid (HB2.out.trans (hb.mono HB2.out.size))
    clear hb
    go_wp2_with fail
    go_ret
    exact ⟨by rw [HV.out]; rfl, HB3.out⟩
end Go.Proofs.Ytklbckonlbpbgaa
