import Derived.Test.YtabbkgbgldgfeaaLabH1
import Derived.Test.YtabbkgbgldgfeaaLabR3
import Derived.Test.YtabbkgbgldgfeaaLabT8
/-! EncodeHead, DecodeHead of both sides. -/
namespace Go.Proofs.Ytabbkgbgldgfeaa
open Go.Lib Go.ChangeShapes Go.WideShapes Go.ChangeAt Go.RowKit

def goodH (s : ByteArray) (tr : Int) : Prop := nameOk s ∧ trOk tr
instance (s : ByteArray) (tr : Int) : Decidable (goodH s tr) := inferInstanceAs (Decidable (_ ∧ _))
def headB (s : ByteArray) (tr : Int) : ByteArray := (encS s.size ++ s) ++ encS tr.toNat
def encH (s : ByteArray) (tr : Int) : ByteArray := if goodH s tr then padS (headB s tr) 1024 else ⟨#[]⟩
theorem headB_size (s : ByteArray) (tr : Int) (h : goodH s tr) : (headB s tr).size ≤ 1000 := by
  unfold headB
  have h1 := encS_size s.size
  have h2 := encS_size tr.toNat
  have h3 := h.1.2.1
  simp only [ByteArray.size_append]; omega
theorem goodH.size {s : ByteArray} {tr : Int} (h : goodH s tr) : (encH s tr).size = 1024 := by
  unfold encH; rw [if_pos h]; exact padS_size _ _ (by have := headB_size s tr h; omega)
theorem encH_ne (s : ByteArray) (tr : Int) : encH s tr ≠ ⟨#[]⟩ ↔ goodH s tr := by
  constructor
  · intro h; by_cases g : goodH s tr
    · exact g
    · exact absurd (by unfold encH; rw [if_neg g]) h
  · intro g e
    have := g.size
    rw [e] at this
    simp [ByteArray.size] at this
def rdH (s : ByteArray) : ByteArray × Nat × St :=
  let a := txtR 8 (s, 0)
  let b := cntR 128 a.2
  (a.1, b.1, b.2)
theorem rdH_enc (s : ByteArray) (tr : Int) (h : goodH s tr) (R : ByteArray) : rdH (headB s tr ++ R) = (s, tr.toNat, (R, 0)) := by
  obtain ⟨⟨_, h1, _⟩, h2, h3⟩ := h
  unfold rdH headB
  rw [ByteArray.append_assoc, txtR_enc 8 s h1 (by omega)]
  simp only
  rw [cntR_enc 128 _ (by omega) (by omega)]
def decHok (s : ByteArray) : Prop := s ≠ ⟨#[]⟩ ∧ encH (rdH s).1 ((rdH s).2.1 : Nat) = s
instance (s : ByteArray) : Decidable (decHok s) := inferInstanceAs (Decidable (_ ∧ _))
def decH (s : ByteArray) : ByteArray × Int × Int := if decHok s then ((rdH s).1, ((rdH s).2.1 : Nat), 0) else (⟨#[]⟩, 0, 11)
theorem decHok_iff (s : ByteArray) : decHok s ↔ ((rdH s).2.2.2 = 0 ∧ s.size = 1024 ∧ encH (rdH s).1 ((rdH s).2.1 : Nat) = s) := by
  constructor
  · rintro ⟨h1, h2⟩
    have hg := (encH_ne (rdH s).1 ((rdH s).2.1 : Nat)).1 (by rw [h2]; exact h1)
    have hs := hg.size
    rw [h2] at hs
    refine ⟨?_, hs, h2⟩
    have h3 := h2
    unfold encH at h3
    rw [if_pos hg] at h3
    have h4 := rdH_enc (rdH s).1 ((rdH s).2.1 : Nat) hg (zerosB (1024 - (headB (rdH s).1 ((rdH s).2.1 : Nat)).size))
    unfold padS at h3
    rw [h3] at h4
    rw [h4]
  · rintro ⟨_, h2, h3⟩
    refine ⟨?_, h3⟩
    rintro rfl
    simp [ByteArray.size] at h2
theorem rdH_le (s : ByteArray) : (rdH s).1.size ≤ 8 ∧ (rdH s).2.1 ≤ 128 := ⟨(txtR_le 8 _).1, (cntR_le 128 _).1⟩
set_option maxRecDepth 100000 in
set_option maxHeartbeats 1000000 in
theorem encodeHead_any (s : ByteArray) (hs : s.size ≤ 1000000) (tr : Int) (h1 : -9223372036854775808 ≤ tr ∧ tr ≤ 9223372036854775807) (w : World) :
    Calls Try.prog 24 #[.string s, .int .i64 tr] w fun e w' => e = .returned (.string (encH s tr)) ∧ Below w.heap.size w w' := by
  have HN := hid (validName_any s hs w)
  have HT := hid (validTracks_any tr h1 w)
  obtain ⟨E, hE⟩ : ∃ E, E = encH s tr := ⟨_, rfl⟩
  rw [← hE]
  unfold encH at hE
  by_cases g1 : nameOk s
  rotate_left
  · rw [decide_eq_false g1] at HN
    rw [if_neg (fun h => g1 h.1)] at hE
    have HE := hid hE
    clear hE g1
    go_enter Try.func24, Try.ntmps24
    go_wp2_with fail
    refine HN.out.mono ?_
    rintro e w' ⟨rfl, rfl⟩
    go_wp2_with fail
    go_ret
    rw [HE.out]
    exact ⟨rfl, Below.refl _ _⟩
  rw [decide_eq_true g1] at HN
  by_cases g2 : trOk tr
  rotate_left
  · rw [decide_eq_false g2] at HT
    rw [if_neg (fun h => g2 h.2)] at hE
    have HE := hid hE
    clear hE g1 g2
    go_enter Try.func24, Try.ntmps24
    go_wp2_with fail
    refine HN.out.mono ?_
    rintro e w' ⟨rfl, rfl⟩
    go_wp2_with fail
    refine HT.out.mono ?_
    rintro e w' ⟨rfl, rfl⟩
    go_wp2_with fail
    go_ret
    rw [HE.out]
    exact ⟨rfl, Below.refl _ _⟩
  rw [decide_eq_true g2] at HT
  rw [if_pos ⟨g1, g2⟩] at hE
  have hz := headB_size s tr ⟨g1, g2⟩
  have h8 := g1.2.1
  obtain ⟨h4, h128⟩ := g2
  obtain ⟨t, ht⟩ := Int.eq_ofNat_of_zero_le (show 0 ≤ tr by omega)
  subst ht
  have HT64 : Hid (t < 18446744073709551616) := by show _ < _; omega
  have hwt : IntKind.u64.wrap (t : Int) = (t : Int) := IntWalk.u64_in _ (by omega)
  have he1 := (encS_size s.size).2
  have hS1 : Hid ((⟨#[]⟩ : ByteArray) ++ (encS s.size ++ s) = encS s.size ++ s) := empty_append' _
  have hS2 : Hid (encS s.size ++ s ++ encS t = headB s t) := rfl
  have HSZ : Hid ((encS s.size ++ s).size ≤ 100) := by show _ ≤ _; rw [ByteArray.size_append]; omega
  have HZ := hid hz
  have HE := hid hE
  clear hE g1 h1 hz he1 hs
  go_enter Try.func24, Try.ntmps24
  go_wp2_with fail
  refine HN.out.mono ?_
  rintro e w' ⟨rfl, rfl⟩
  go_wp2_with fail
  refine HT.out.mono ?_
  rintro e w' ⟨rfl, rfl⟩
  go_wp2_with fail
  refine (appT ⟨#[]⟩ s (by decide) (by omega) _).mono ?_
  rintro e w1 ⟨rfl, hb⟩
  rw [hS1.out]
  have HB1 := hid hb
  clear hb
  go_wp2_with fail
  refine (appN (encS s.size ++ s) (by have := HSZ.out; omega) t HT64 _).mono ?_
  rintro e w2 ⟨rfl, hb⟩
  rw [hS2.out]
  have HB2 := hid (HB1.out.trans (hb.mono HB1.out.size))
  clear hb
  go_wp2_with fail
  refine (labPadded_any (headB s t) (by have := HZ.out; omega) _).mono ?_
  rintro e w3 ⟨rfl, hb⟩
  rw [← HE.out]
  have HB3 := hid (HB2.out.trans (hb.mono HB2.out.size))
  clear hb
  go_wp2_with fail
  go_ret
  exact ⟨rfl, HB3.out⟩
set_option maxRecDepth 100000 in
set_option maxHeartbeats 1000000 in
theorem refEncodeHead_any (s : ByteArray) (hs : s.size ≤ 1000000) (tr : Int) (w : World) :
    Calls Try.prog 25 #[.string s, .int .i64 tr] w fun e w' => e = .returned (.string (encH s tr)) ∧ Below w.heap.size w w' := by
  have HN := hid (refValidName_any s hs w)
  have HT := hid (refTr_any tr w)
  obtain ⟨E, hE⟩ : ∃ E, E = encH s tr := ⟨_, rfl⟩
  rw [← hE]
  unfold encH at hE
  by_cases g1 : nameOk s
  rotate_left
  · rw [decide_eq_false g1] at HN
    rw [if_neg (fun h => g1 h.1)] at hE
    have HE := hid hE
    clear hE g1
    go_enter Try.func25, Try.ntmps25
    go_wp2_with fail
    refine HN.out.mono ?_
    rintro e w' ⟨rfl, rfl⟩
    go_wp2_with fail
    go_ret
    rw [HE.out]
    exact ⟨rfl, Below.refl _ _⟩
  rw [decide_eq_true g1] at HN
  by_cases g2 : trOk tr
  rotate_left
  · rw [decide_eq_false g2] at HT
    rw [if_neg (fun h => g2 h.2)] at hE
    have HE := hid hE
    clear hE g1 g2
    go_enter Try.func25, Try.ntmps25
    go_wp2_with fail
    refine HN.out.mono ?_
    rintro e w' ⟨rfl, rfl⟩
    go_wp2_with fail
    refine HT.out.mono ?_
    rintro e w' ⟨rfl, rfl⟩
    go_wp2_with fail
    go_ret
    rw [HE.out]
    exact ⟨rfl, Below.refl _ _⟩
  rw [decide_eq_true g2] at HT
  rw [if_pos ⟨g1, g2⟩] at hE
  have hz := headB_size s tr ⟨g1, g2⟩
  have h8 := g1.2.1
  obtain ⟨h4, h128⟩ := g2
  obtain ⟨t, ht⟩ := Int.eq_ofNat_of_zero_le (show 0 ≤ tr by omega)
  subst ht
  have HT64 : Hid (t < 18446744073709551616) := by show _ < _; omega
  have hwt : IntKind.u64.wrap (t : Int) = (t : Int) := IntWalk.u64_in _ (by omega)
  have he1 := (encS_size s.size).2
  have he2 := (encS_size t).2
  have a1 := add_ok (encS s.size ++ s) (encS t) (by rw [ByteArray.size_append]; omega) (by omega)
  have hS2 : Hid (encS s.size ++ s ++ encS t = headB s t) := rfl
  rw [hS2.out] at a1
  have HZ := hid hz
  have HE := hid hE
  clear hE g1 hz he1 he2 hs
  go_enter Try.func25, Try.ntmps25
  go_wp2_with fail
  refine HN.out.mono ?_
  rintro e w' ⟨rfl, rfl⟩
  go_wp2_with fail
  refine HT.out.mono ?_
  rintro e w' ⟨rfl, rfl⟩
  go_wp2_with fail
  refine (refT s (by omega) _).mono ?_
  rintro e w1 ⟨rfl, hb⟩
  have HB1 := hid hb
  clear hb
  go_wp2_with fail
  refine (refN t HT64 _).mono ?_
  rintro e w2 ⟨rfl, hb⟩
  have HB2 := hid (HB1.out.trans (hb.mono HB1.out.size))
  clear hb
  go_wp2_with fail
  refine (padded_any (headB s t) 1024 (by have := HZ.out; omega) (by decide) _).mono ?_
  rintro e w3 ⟨rfl, rfl⟩
  rw [← HE.out]
  go_wp2_with fail
  go_ret
  exact ⟨rfl, HB2.out⟩
end Go.Proofs.Ytabbkgbgldgfeaa
