import Derived.Test.YtklbckonlbpbgaaVarR4
/-! The reference's Room and Add. -/
namespace Go.Proofs.Ytklbckonlbpbgaa
open Go.Lib Go.ChangeShapes Go.WideShapes Go.ChangeAt Go.RowKit
set_option linter.unusedVariables false

theorem isV.empty (x b : Nat) : ¬ ∃ l, isV x b l ⟨#[]⟩ := fun ⟨l, h, _⟩ => by
  have := congrArg ByteArray.size h
  rw [vblock_size] at this
  have h0 : (ByteArray.mk #[]).size = 0 := rfl
  omega
set_option maxRecDepth 100000 in
theorem refVroom_bad (L B : Int) (hB : B ≤ 9223372036854775807) (hf : ¬ vfits L B) (d : ByteArray) (w : World) :
    Calls Try.prog 23 #[.int .i64 L, .int .i64 B, .string d] w (Gives (.int .i64 (-1)) w) := by
  have HV := fun W => hid (refVvalid_any L B hB W)
  rw [decide_eq_false hf] at HV
  have U := fun W => hid (refVunpack_bad L B hB hf d W)
  clear hf
  go_enter Try.func23, Try.ntmps23
  go_wp2_with fail
  refine (U _).out.mono ?_
  rintro e w1 ⟨rfl, hb⟩
  have HB := hid hb
  clear hb
  go_wp2_with fail
  refine (HV _).out.mono ?_
  rintro e w2 ⟨rfl, rfl⟩
  go_wp2_with fail
  go_ret
  exact ⟨rfl, HB.out⟩
set_option maxRecDepth 100000 in
theorem refVroom_new (x b : Nat) (hf : vfits (x : Int) (b : Int)) (w : World) :
    Calls Try.prog 23 #[.int .i64 x, .int .i64 b, .string ⟨#[]⟩] w (Gives (.int .i64 x) w) := by
  have HV := fun W => hid (refVvalid_any x b (by have := hf.2.2.2; omega) W)
  rw [decide_eq_true hf] at HV
  have U := fun W => hid (refVunpack_no x b hf ⟨#[]⟩ (by show 0 ≤ 60000; omega) (isV.empty x b) W)
  clear hf
  go_enter Try.func23, Try.ntmps23
  go_wp2_with fail
  refine (U _).out.mono ?_
  rintro e w1 ⟨rfl, hb⟩
  have HB := hid hb
  clear hb
  go_wp2_with fail
  refine (HV _).out.mono ?_
  rintro e w2 ⟨rfl, rfl⟩
  go_wp2_with fail
  go_ret
  exact ⟨rfl, HB.out⟩
set_option maxRecDepth 100000 in
set_option maxHeartbeats 400000 in
theorem refVroom_no (x b : Nat) (hf : vfits (x : Int) (b : Int)) (d : ByteArray) (hd : d.size ≤ 60000) (h0 : 0 < d.size) (hn : ¬ ∃ l, isV x b l d) (w : World) :
    Calls Try.prog 23 #[.int .i64 x, .int .i64 b, .string d] w (Gives (.int .i64 (-1)) w) := by
  have HV := fun W => hid (refVvalid_any x b (by have := hf.2.2.2; omega) W)
  rw [decide_eq_true hf] at HV
  have U := fun W => hid (refVunpack_no x b hf d hd hn W)
  have hnl := nel h0
  have hie : d.toList.isEmpty = false := by simpa using hnl
  clear hf hn h0
  go_enter Try.func23, Try.ntmps23
  go_wp2_with fail
  refine (U _).out.mono ?_
  rintro e w1 ⟨rfl, hb⟩
  have HB := hid hb
  clear hb
  go_wp2_with fail
  refine (HV _).out.mono ?_
  rintro e w2 ⟨rfl, rfl⟩
  go_wp2_with fail
  go_ret
  exact ⟨rfl, HB.out⟩
set_option maxRecDepth 100000 in
set_option maxHeartbeats 1000000 in
theorem refVroom_ok (x b : Nat) (hf : vfits (x : Int) (b : Int)) (d : ByteArray) (l : List ByteArray) (hn : isV x b l d) (w : World) :
    Calls Try.prog 23 #[.int .i64 x, .int .i64 b, .string d] w (Gives (.int .i64 (roomI x b d)) w) := by
  have HV := fun W => hid (refVvalid_any x b (by have := hf.2.2.2; omega) W)
  rw [decide_eq_true hf] at HV
  have U := fun W => hid (refVunpack_ok x b hf l d hn W)
  have h0 : 0 < d.size := by rw [hn.1, vblock_size]; omega
  have hnl := nel h0
  have hie : d.toList.isEmpty = false := by simpa using hnl
  have hds : d.size ≤ b := hn.2.2.2
  have hb2 : b ≤ 1024 := by have := hf.2.2.2; omega
  have hx2 : x ≤ 1000 := by have := hf.2.1; omega
  clear hf hn h0
  by_cases h1 : (b : Int) - (d.size : Int) - 4 < (x : Int)
  · by_cases h2 : (b : Int) - (d.size : Int) - 4 ≤ -1
    · have hR : Hid (roomI x b d = -1) := hid (by unfold roomI; omega)
      go_enter Try.func23, Try.ntmps23
      go_wp2_with fail
      refine (U _).out.mono ?_
      rintro e w1 ⟨v, rfl, _, _, hb⟩
      have HB := hid hb
      clear hb
      go_wp2_with fail
      refine (HV _).out.mono ?_
      rintro e w2 ⟨rfl, rfl⟩
      go_wp2_with fail
      go_ret
      exact ⟨by rw [hR.out]; rfl, HB.out⟩
    · have hR : Hid (roomI x b d = (b : Int) - (d.size : Int) - 4) := hid (by unfold roomI; omega)
      have h3 : -1 < (b : Int) - (d.size : Int) - 4 := by omega
      go_enter Try.func23, Try.ntmps23
      go_wp2_with fail
      refine (U _).out.mono ?_
      rintro e w1 ⟨v, rfl, _, _, hb⟩
      have HB := hid hb
      clear hb
      go_wp2_with fail
      refine (HV _).out.mono ?_
      rintro e w2 ⟨rfl, rfl⟩
      go_wp2_with fail
      go_ret
      exact ⟨by rw [hR.out]; rfl, HB.out⟩
  · have hR : Hid (roomI x b d = (x : Int)) := hid (by unfold roomI; omega)
    go_enter Try.func23, Try.ntmps23
    go_wp2_with fail
    refine (U _).out.mono ?_
    rintro e w1 ⟨v, rfl, _, _, hb⟩
    have HB := hid hb
    clear hb
    go_wp2_with fail
    refine (HV _).out.mono ?_
    rintro e w2 ⟨rfl, rfl⟩
    go_wp2_with fail
    go_ret
    exact ⟨by rw [hR.out]; rfl, HB.out⟩
set_option maxRecDepth 100000 in
set_option maxHeartbeats 400000 in
theorem refVadd_no (L B R : Int) (d r : ByteArray) (hr : r.size ≤ 100000) (HR : ∀ W, Calls Try.prog 23 #[.int .i64 L, .int .i64 B, .string d] W (Gives (.int .i64 R) W)) (h : R < (r.size : Int)) (w : World) :
    Calls Try.prog 21 #[.int .i64 L, .int .i64 B, .string d, .string r] w (Gives (.tuple #[.string ⟨#[]⟩, .bool false]) w) := by
  have HRR := hid HR
  clear HR
  go_enter Try.func21, Try.ntmps21
  go_wp2_with fail
  refine (HRR.out _).mono ?_
  rintro e w1 ⟨rfl, hb⟩
  have HB := hid hb
  clear hb
  go_wp2_with fail
  go_ret2
  exact ⟨rfl, HB.out⟩
set_option maxRecDepth 100000 in
set_option maxHeartbeats 1000000 in
theorem refVadd_new (x b : Nat) (hf : vfits (x : Int) (b : Int)) (r : ByteArray) (h : r.size ≤ x) (w : World) :
    Calls Try.prog 21 #[.int .i64 x, .int .i64 b, .string ⟨#[]⟩, .string r] w (Gives (.tuple #[.string (vblock [r]), .bool true]) w) := by
  have HRR := fun W => hid (refVroom_new x b hf W)
  have U := fun W => hid (refVunpack_no x b hf ⟨#[]⟩ (by show 0 ≤ 60000; omega) (isV.empty x b) W)
  have hx : x ≤ 1000 := by have := hf.2.1; omega
  have P := fun v W hW => hid (refBlock_any v [r] (by simp) (by rw [vbody_one, vform_size]; omega) W hW)
  obtain ⟨q, hq⟩ : ∃ q, q = vblock [r] := ⟨_, rfl⟩
  rw [← hq] at P ⊢
  clear hf hq
  go_enter Try.func21, Try.ntmps21
  go_wp2_with fail
  refine (HRR _).out.mono ?_
  rintro e w1 ⟨rfl, hb⟩
  have HB := hid hb
  clear hb
  go_wp2_with fail
  refine (U _).out.mono ?_
  rintro e w2 ⟨rfl, hb⟩
  have HB2 := hid (HB.out.trans (hb.mono HB.out.size))
  have HSZ2 := hid HB2.out.size
  clear hb
  go_wp2_with (at_builtin; refine wpList_append_strs (by rfl) (.tmp 26) (.tmp 28) rfl (.slice none 0 0) [] rfl (OwnStrs.nil _ _) _ [r] rfl (strs_new1 _ r _ (by simp)) (by simp) (by simp) ?_; intro u8 w8 hs8 hu8 hh8)
  have HB8 := hid ((HB2.out.alloc HSZ2.out (.cells #[.string r] 9)).trans (hu8.out.below (by have := HSZ2.out; simp; omega) (fun b hb => (home_empty hb).elim)))
  refine (P _ _ hs8.out.at).out.mono ?_
  rintro e w9 ⟨rfl, hb⟩
  have HB9 := hid (HB8.out.trans (hb.mono HB8.out.size))
  clear hb
  go_wp2_with fail
  go_ret2
  exact ⟨rfl, HB9.out⟩
set_option maxRecDepth 100000 in
set_option maxHeartbeats 1000000 in
theorem refVadd_more (x b : Nat) (hf : vfits (x : Int) (b : Int)) (l : List ByteArray) (d r : ByteArray) (hn : isV x b l d) (h : (r.size : Int) ≤ roomI x b d) (w : World) :
    Calls Try.prog 21 #[.int .i64 x, .int .i64 b, .string d, .string r] w (Gives (.tuple #[.string (vblock (l ++ [r])), .bool true]) w) := by
  have HRR := fun W => hid (refVroom_ok x b hf d l hn W)
  have U := fun W => hid (refVunpack_ok x b hf l d hn W)
  have hx : x ≤ 1000 := by have := hf.2.1; omega
  have hb2 : b ≤ 1024 := by have := hf.2.2.2; omega
  have hrs : r.size ≤ 1000 := by unfold roomI at h; omega
  have hdz : (vbody l).size + 4 ≤ 1024 := by have := hn.2.2.2; rw [hn.1, vblock_size] at this; omega
  have hln := vbody_len l
  have P := fun v W hW => hid (refBlock_any v (l ++ [r]) (by simp; omega) (by rw [vbody_snoc_size]; omega) W hW)
  have hll : l.length ≤ 100000 := by omega
  obtain ⟨q, hq⟩ : ∃ q, q = vblock (l ++ [r]) := ⟨_, rfl⟩
  rw [← hq] at P ⊢
  obtain ⟨R, hR⟩ : ∃ R, R = roomI x b d := ⟨_, rfl⟩
  rw [← hR] at HRR h
  clear hf hq hn hdz hln hR
  go_enter Try.func21, Try.ntmps21
  go_wp2_with fail
  refine (HRR _).out.mono ?_
  rintro e w1 ⟨rfl, hb⟩
  have HB := hid hb
  clear hb
  go_wp2_with fail
  refine (U _).out.mono ?_
  rintro e w2 ⟨v, rfl, ho, hf, hb⟩
  have HO := hid ho
  have HF := hid hf
  have HB2 := hid (HB.out.trans (hb.mono HB.out.size))
  have HSZ2 := hid HB2.out.size
  have HSZ1 := hid HB.out.size
  obtain ⟨A2, capu, rfl⟩ := ho.shape
  clear hb ho hf
  go_wp2_with (at_builtin; refine wpList_append_strs (by rfl) (.tmp 26) (.tmp 28) rfl _ l rfl (OwnStrs.alloc HO.out _) _ [r] rfl (strs_new1 _ r _ (by simp)) hll (by simp) ?_; intro u8 w8 hs8 hu8 hh8)
  have HB8 := hid ((HB2.out.alloc HSZ2.out (.cells #[.string r] 9)).trans (hu8.out.below (by have := HSZ2.out; simp; omega) (fun b hb => Nat.le_trans HSZ1.out (HF.out b hb))))
  refine (P _ _ hs8.out.at).out.mono ?_
  rintro e w9 ⟨rfl, hb⟩
  have HB9 := hid (HB8.out.trans (hb.mono HB8.out.size))
  clear hb
  go_wp2_with fail
  go_ret2
  exact ⟨rfl, HB9.out⟩
end Go.Proofs.Ytklbckonlbpbgaa
