import Derived.Test.YtklbckonlbpbgaaVarT4
/-! Room and Add; Pack. -/
namespace Go.Proofs.Ytklbckonlbpbgaa
open Go.Lib Go.ChangeShapes Go.WideShapes Go.ChangeAt Go.RowKit
set_option linter.unusedVariables false

/-- how many bytes a further record of a block may have -/
def roomI (x b : Nat) (d : ByteArray) : Int := max (min (x : Int) ((b : Int) - (d.size : Int) - 4)) (-1)
set_option maxRecDepth 100000 in
theorem vroom_bad (L B : Int) (hB : B ≤ 9223372036854775807) (hf : ¬ vfits L B) (d : ByteArray) (w : World) :
    Calls Try.prog 22 #[.int .i64 L, .int .i64 B, .string d] w (Gives (.int .i64 (-1)) w) := by
  have HV := fun W => hid (vvalid_any L B hB W)
  rw [decide_eq_false hf] at HV
  clear hf
  go_enter Try.func22, Try.ntmps22
  go_wp2_with fail
  refine (HV _).out.mono ?_
  rintro e w1 ⟨rfl, rfl⟩
  go_wp2_with fail
  go_ret
  exact ⟨rfl, Below.refl _ _⟩
set_option maxRecDepth 100000 in
theorem vroom_new (x b : Nat) (hf : vfits (x : Int) (b : Int)) (w : World) :
    Calls Try.prog 22 #[.int .i64 x, .int .i64 b, .string ⟨#[]⟩] w (Gives (.int .i64 x) w) := by
  have HV := fun W => hid (vvalid_any x b (by have := hf.2.2.2; omega) W)
  rw [decide_eq_true hf] at HV
  clear hf
  go_enter Try.func22, Try.ntmps22
  go_wp2_with fail
  refine (HV _).out.mono ?_
  rintro e w1 ⟨rfl, rfl⟩
  go_wp2_with fail
  go_ret
  exact ⟨rfl, Below.refl _ _⟩
set_option maxRecDepth 100000 in
set_option maxHeartbeats 400000 in
theorem vroom_no (x b : Nat) (hf : vfits (x : Int) (b : Int)) (d : ByteArray) (hd : d.size ≤ 100000) (h0 : 0 < d.size) (hn : ¬ ∃ l, isV x b l d) (w : World) :
    Calls Try.prog 22 #[.int .i64 x, .int .i64 b, .string d] w (Gives (.int .i64 (-1)) w) := by
  have HV := fun W => hid (vvalid_any x b (by have := hf.2.2.2; omega) W)
  rw [decide_eq_true hf] at HV
  have U := fun W => hid (vunpack_no x b hf d hd hn W)
  have hnl := nel h0
  have hie : d.toList.isEmpty = false := by simpa using hnl
  clear hf hn h0
  go_enter Try.func22, Try.ntmps22
  go_wp2_with fail
  refine (HV _).out.mono ?_
  rintro e w1 ⟨rfl, rfl⟩
  go_wp2_with fail
  refine (U _).out.mono ?_
  rintro e w1 ⟨rfl, hb⟩
  have HB := hid hb
  clear hb
  go_wp2_with fail
  go_ret
  exact ⟨rfl, HB.out⟩
set_option maxRecDepth 100000 in
set_option maxHeartbeats 1000000 in
theorem vroom_ok (x b : Nat) (hf : vfits (x : Int) (b : Int)) (d : ByteArray) (l : List ByteArray) (hn : isV x b l d) (w : World) :
    Calls Try.prog 22 #[.int .i64 x, .int .i64 b, .string d] w (Gives (.int .i64 (roomI x b d)) w) := by
  have HV := fun W => hid (vvalid_any x b (by have := hf.2.2.2; omega) W)
  rw [decide_eq_true hf] at HV
  have U := fun W => hid (vunpack_ok x b hf l d hn W)
  have h0 : 0 < d.size := by rw [hn.1, vblock_size]; omega
  have hnl := nel h0
  have hie : d.toList.isEmpty = false := by simpa using hnl
  have hds : d.size ≤ b := hn.2.2.2
  have hb2 : b ≤ 1024 := by have := hf.2.2.2; omega
  have hx2 : x ≤ 1000 := by have := hf.2.1; omega
  clear hf hn h0
  by_cases h1 : (b : Int) - (d.size : Int) - 4 < (x : Int)
  · by_cases h2 : (b : Int) - (d.size : Int) - 4 < -1
    · have hR : Hid (roomI x b d = -1) := hid (by unfold roomI; omega)
      go_enter Try.func22, Try.ntmps22
      go_wp2_with fail
      refine (HV _).out.mono ?_
      rintro e w1 ⟨rfl, rfl⟩
      go_wp2_with fail
      refine (U _).out.mono ?_
      rintro e w1 ⟨v, rfl, _, hb⟩
      have HB := hid hb
      clear hb
      go_wp2_with fail
      go_ret
      exact ⟨by rw [hR.out]; rfl, HB.out⟩
    · have hR : Hid (roomI x b d = (b : Int) - (d.size : Int) - 4) := hid (by unfold roomI; omega)
      go_enter Try.func22, Try.ntmps22
      go_wp2_with fail
      refine (HV _).out.mono ?_
      rintro e w1 ⟨rfl, rfl⟩
      go_wp2_with fail
      refine (U _).out.mono ?_
      rintro e w1 ⟨v, rfl, _, hb⟩
      have HB := hid hb
      clear hb
      go_wp2_with fail
      go_ret
      exact ⟨by rw [hR.out]; rfl, HB.out⟩
  · have hR : Hid (roomI x b d = (x : Int)) := hid (by unfold roomI; omega)
    go_enter Try.func22, Try.ntmps22
    go_wp2_with fail
    refine (HV _).out.mono ?_
    rintro e w1 ⟨rfl, rfl⟩
    go_wp2_with fail
    refine (U _).out.mono ?_
    rintro e w1 ⟨v, rfl, _, hb⟩
    have HB := hid hb
    clear hb
    go_wp2_with fail
    go_ret
    exact ⟨by rw [hR.out]; rfl, HB.out⟩
set_option maxRecDepth 100000 in
set_option maxHeartbeats 400000 in
theorem vadd_no (L B R : Int) (d r : ByteArray) (hr : r.size ≤ 100000) (HR : ∀ W, Calls Try.prog 22 #[.int .i64 L, .int .i64 B, .string d] W (Gives (.int .i64 R) W)) (h : R < (r.size : Int)) (w : World) :
    Calls Try.prog 20 #[.int .i64 L, .int .i64 B, .string d, .string r] w (Gives (.tuple #[.string ⟨#[]⟩, .bool false]) w) := by
  have HRR := hid HR
  clear HR
  go_enter Try.func20, Try.ntmps20
  go_wp2_with fail
  refine (HRR.out _).mono ?_
  rintro e w1 ⟨rfl, hb⟩
  have HB := hid hb
  clear hb
  go_wp2_with fail
  go_ret2
  exact ⟨rfl, HB.out⟩
set_option maxRecDepth 100000 in
set_option maxHeartbeats 400000 in
theorem vadd_new (L B R : Int) (r : ByteArray) (hr : r.size ≤ 10000) (HR : ∀ W, Calls Try.prog 22 #[.int .i64 L, .int .i64 B, .string ⟨#[]⟩] W (Gives (.int .i64 R) W)) (h : (r.size : Int) ≤ R) (w : World) :
    Calls Try.prog 20 #[.int .i64 L, .int .i64 B, .string ⟨#[]⟩, .string r] w (Gives (.tuple #[.string (vblock [r]), .bool true]) w) := by
  have HRR := hid HR
  have F1 := fun W => hid (form_any r (by omega) W)
  have F2 := fun W => hid (form_any (vform r) (by rw [vform_size]; omega) W)
  have HV : Hid (vblock [r] = vform (vform r)) := hid (by unfold vblock; rw [vbody_one])
  obtain ⟨y, hy⟩ : ∃ y, y = vform r := ⟨_, rfl⟩
  have hys : y.size ≤ 20000 := by rw [hy, vform_size]; omega
  rw [← hy] at F1 F2 HV
  have he : (⟨#[]⟩ : ByteArray) ++ y = y := ByteArray.empty_append
  clear HR hy
  go_enter Try.func20, Try.ntmps20
  go_wp2_with fail
  refine (HRR.out _).mono ?_
  rintro e w1 ⟨rfl, hb⟩
  have HB := hid hb
  clear hb
  go_wp2_with fail
  refine (F1 _).out.mono ?_
  rintro e w2 ⟨rfl, hb⟩
  have HB2 := hid (HB.out.trans (hb.mono HB.out.size))
  clear hb
  go_wp2_with fail
  refine (F2 _).out.mono ?_
  rintro e w3 ⟨rfl, hb⟩
  have HB3 := hid (HB2.out.trans (hb.mono HB2.out.size))
  clear hb
  go_wp2_with fail
  go_ret2
  exact ⟨by rw [HV.out]; rfl, HB3.out⟩
set_option maxRecDepth 100000 in
set_option maxHeartbeats 400000 in
theorem vadd_more (L B R : Int) (l : List ByteArray) (d r : ByteArray) (hd : d = vblock l) (hds : d.size ≤ 10000) (hr : r.size ≤ 10000) (HR : ∀ W, Calls Try.prog 22 #[.int .i64 L, .int .i64 B, .string d] W (Gives (.int .i64 R) W)) (h : (r.size : Int) ≤ R) (w : World) :
    Calls Try.prog 20 #[.int .i64 L, .int .i64 B, .string d, .string r] w (Gives (.tuple #[.string (vblock (l ++ [r])), .bool true]) w) := by
  have HRR := hid HR
  have h0 : 4 ≤ d.size := by rw [hd, vblock_size]; omega
  have F1 := fun W => hid (form_any r (by omega) W)
  have hbs : (vbody l).size ≤ 10000 := by rw [hd, vblock_size] at hds; omega
  have F2 := fun W => hid (form_any (vbody l ++ vform r) (by rw [ByteArray.size_append, vform_size]; omega) W)
  have S1 := fun W => sl_from d 4 4 rfl h0 W
  have hsl : d.extract 4 d.size = vbody l := by
    rw [hd]; exact extract_app_right (word (4 + (vbody l).size)) (vbody l)
  rw [hsl] at S1
  have HV : Hid (vblock (l ++ [r]) = vform (vbody l ++ vform r)) := hid (by unfold vblock; rw [vbody_snoc])
  obtain ⟨y, hy⟩ : ∃ y, y = vform r := ⟨_, rfl⟩
  have hys : y.size ≤ 20000 := by rw [hy, vform_size]; omega
  obtain ⟨z, hz⟩ : ∃ z, z = vbody l := ⟨_, rfl⟩
  have hzs : z.size ≤ 10000 := by rw [hz]; exact hbs
  rw [← hy] at F1 F2 HV
  rw [← hz] at F2 HV S1
  have hnl := nel (d := d) (by omega)
  have hie : d.toList.isEmpty = false := by simpa using hnl
  clear HR hy hz hsl hbs hd
  go_enter Try.func20, Try.ntmps20
  go_wp2_with fail
  refine (HRR.out _).mono ?_
  rintro e w1 ⟨rfl, hb⟩
  have HB := hid hb
  clear hb
  go_wp2_with fail
  refine (F1 _).out.mono ?_
  rintro e w2 ⟨rfl, hb⟩
  have HB2 := hid (HB.out.trans (hb.mono HB.out.size))
  clear hb
  go_wp2_with fail
  refine (F2 _).out.mono ?_
  rintro e w3 ⟨rfl, hb⟩
  have HB3 := hid (HB2.out.trans (hb.mono HB2.out.size))
  clear hb
  go_wp2_with fail
  go_ret2
  exact ⟨by rw [HV.out]; rfl, HB3.out⟩
end Go.Proofs.Ytklbckonlbpbgaa
