import Derived.Test.YtklbckonlbpbgaaVarT2
/-! Unpack. -/
namespace Go.Proofs.Ytklbckonlbpbgaa
open Go.Lib Go.ChangeShapes Go.WideShapes Go.ChangeAt Go.RowKit
set_option linter.unusedVariables false

theorem nel {d : ByteArray} (h : 0 < d.size) : ¬ d.toList = [] := by
  rw [ByteArray.toList_eq]
  intro e
  have : d.data.toList.length = 0 := by rw [e]; rfl
  have e2 : d.data.toList.length = d.size := by simp
  omega
theorem empty_of {d : ByteArray} (h : d.size = 0) : d = ⟨#[]⟩ := ByteArray.ext (Array.eq_empty_of_size_eq_zero h)
theorem app_empty (d : ByteArray) : d ++ ⟨#[]⟩ = d := ByteArray.append_empty
/-- the bytes of records begin with the first one's form -/
theorem isBody.drop {l : List ByteArray} {k : Nat} (hk : k < l.length) : vbody (l.drop k) = vform l[k] ++ vbody (l.drop (k + 1)) := by
  rw [← vbody_cons, ← List.drop_eq_getElem_cons hk]
theorem isBody.cut {L : Nat} {r y : ByteArray} (hr : r.size ≤ L) (h : ¬ ∃ l, isBody L l (vform r ++ y)) : ¬ ∃ l, isBody L l y := fun ⟨l, h1, h2⟩ =>
  h ⟨r :: l, by rw [vbody_cons, ← h1], fun z hz => by
    rcases List.mem_cons.1 hz with rfl | hz
    · exact hr
    · exact h2 z hz⟩
theorem isBody.ne {L : Nat} {x : ByteArray} (h : ¬ ∃ l, isBody L l x) : 0 < x.size := by
  rcases Nat.eq_zero_or_pos x.size with e | e
  · exact absurd ⟨[], empty_of e, fun z hz => by cases hz⟩ h
  · exact e
/-- what is no block -/
theorem isV.no {L B : Nat} {d : ByteArray} (hB : 4 ≤ B) (hB2 : B ≤ 1024) (h : ¬ ∃ l, isV L B l d) : (¬ ∃ r y, d = vform r ++ y ∧ r.size ≤ B - 4) ∨ ∃ r y, d = vform r ++ y ∧ r.size ≤ B - 4 ∧ (r.size = 0 ∨ (0 < r.size ∧ 0 < y.size) ∨ (0 < r.size ∧ y = ⟨#[]⟩ ∧ ¬ ∃ l, isBody L l r)) := by
  by_cases h1 : ∃ r y, d = vform r ++ y ∧ r.size ≤ B - 4
  · right
    obtain ⟨r, y, h2, h3⟩ := h1
    refine ⟨r, y, h2, h3, ?_⟩
    rcases Nat.eq_zero_or_pos r.size with e | e
    · exact .inl e
    · rcases Nat.eq_zero_or_pos y.size with e2 | e2
      · refine .inr (.inr ⟨e, empty_of e2, fun ⟨l, h4, h5⟩ => h ⟨l, ?_, ?_, h5, ?_⟩⟩)
        · rw [h2, empty_of e2, app_empty, h4]; rfl
        · rintro rfl
          rw [h4] at e; exact absurd e (Nat.lt_irrefl 0)
        · rw [h2, vform_all]; omega
      · exact .inr (.inl ⟨e, e2⟩)
  · exact .inl h1
set_option maxRecDepth 100000 in
set_option maxHeartbeats 400000 in
theorem vunpack_bad (L B : Int) (hB : B ≤ 9223372036854775807) (hf : ¬ vfits L B) (d : ByteArray) (w : World) :
    Calls Try.prog 18 #[.int .i64 L, .int .i64 B, .string d] w (Gives (.tuple #[.slice none 0 0, .int .i64 1]) w) := by
  have HV := fun W => hid (vvalid_any L B hB W)
  rw [decide_eq_false hf] at HV
  clear hf
  go_enter Try.func18, Try.ntmps18
  go_wp2_with fail
  refine (HV _).out.mono ?_
  rintro e w1 ⟨rfl, rfl⟩
  go_wp2_with fail
  go_ret2
  exact ⟨rfl, Below.refl _ _⟩
theorem box_int (w : World) (m : Int) : w.heap.size < (w.alloc (.cells #[.int .i64 m] 3)).heap.size ∧ (w.alloc (.cells #[.int .i64 m] 3)).cell? ⟨w.heap.size, 0, none⟩ = some (.int .i64 m) ∧ Below w.heap.size w (w.alloc (.cells #[.int .i64 m] 3)) :=
  ⟨by simp, by rw [World.cell?_alloc_new]; rfl, (Below.refl _ _).alloc (Nat.le_refl _) _⟩
set_option maxRecDepth 100000 in
set_option maxHeartbeats 1000000 in
theorem vunpack_ok (x b : Nat) (hf : vfits (x : Int) (b : Int)) (l : List ByteArray) (d : ByteArray) (hn : isV x b l d) (w : World) :
    Calls Try.prog 18 #[.int .i64 x, .int .i64 b, .string d] w (fun e w' => ∃ v, e = .returned (.tuple #[v, .int .i64 0]) ∧ StrsAt w' v l ∧ Below w.heap.size w w') := by
  have HV := fun W => hid (vvalid_any x b (by have := hf.2.2.2; omega) W)
  rw [decide_eq_true hf] at HV
  have hL : 1 ≤ x := by have := hf.1; omega
  have hL2 : x ≤ 1000 := by have := hf.2.1; omega
  have hb1 : x + 8 ≤ b := by have := hf.2.2.1; omega
  have hb2 : b ≤ 1024 := by have := hf.2.2.2; omega
  obtain ⟨e1, hne, hsz, hds⟩ := hn
  have hbody : (vbody l).size + 4 ≤ b := by rw [e1, vblock_size] at hds; omega
  have hlen := vbody_len l
  have hpos := vbody_pos hne
  have C1 := fun g W (hg : g < W.heap.size) (hc : W.cell? ⟨g, 0, none⟩ = some (.int .i64 ((b : Int) - 4))) => hid (cut_yes (b - 4) (by omega) (vbody l) ⟨#[]⟩ (by omega) (by show 0 ≤ 1000000; omega) g W hg (by rw [hc]; congr 2; omega))
  rw [app_empty, show vform (vbody l) = d from e1.symm] at C1
  have HT := fun m W => hid (cutter_any m W)
  have HSZ := hid hsz
  have hl0 : (l.drop 0) = l := rfl
  obtain ⟨y0, hy0⟩ : ∃ y, y = vbody l := ⟨_, rfl⟩
  have hll : l.length ≤ 300 := by omega
  rw [← hy0] at C1 hpos hbody
  have hnl := nel (d := y0) (by omega)
  have hie : y0.toList.isEmpty = false := by simpa using hnl
  have HY0 := hid hy0
  clear hf e1 hne hsz hds hlen hy0 hl0
  go_enter Try.func18, Try.ntmps18
  go_wp2_with fail
  refine (HV _).out.mono ?_
  rintro e w1 ⟨rfl, rfl⟩
  go_wp2_with fail
  refine (HT _ _).out.mono ?_
  rintro e w2 ⟨rfl, hw2⟩
  obtain ⟨hk1, hk2, hk3⟩ := box_int w1 ((b : Int) - 4)
  rw [← hw2] at hk1 hk2 hk3
  have HB2 := hid hk3
  have HC1 := hid (C1 w1.heap.size w2 hk1 hk2)
  clear hw2 hk1 hk2 hk3 C1
  go_wp2_with fail
  refine HC1.out.out.mono ?_
  rintro e w3 ⟨rfl, hb⟩
  have HB3 := hid (HB2.out.trans (hb.mono HB2.out.size))
  clear hb
  go_wp2_with fail
  refine (HT _ _).out.mono ?_
  rintro e w4 ⟨rfl, hw4⟩
  obtain ⟨hk1, hk2, hk3⟩ := box_int w3 (x : Int)
  rw [← hw4] at hk1 hk2 hk3
  have HB4 := hid (HB3.out.trans (hk3.mono HB3.out.size))
  obtain ⟨g, hg⟩ : ∃ g, g = w3.heap.size := ⟨_, rfl⟩
  rw [← hg] at hk1 hk2 ⊢
  have HK1 := hid hk1
  have HK2 := hid hk2
  clear hw4 hk1 hk2 hk3 hg hnl hie
  go_wp2_with fail
  go_loopw [8, 12] (fun s8 s12 wr => ∃ (k : Nat) (u' : Value) (y : ByteArray), s12 = u' ∧ k ≤ l.length ∧ s8 = .string y ∧ y = vbody (l.drop k) ∧ OwnStrs wr u' (l.take k) ∧ Fresh w4 u' ∧ Below w4.heap.size w4 wr) (fun s8 _ _ => match s8 with | .string y => y.size | _ => 0)
  case atStart => exact ⟨0, _, _, rfl, by omega, rfl, HY0.out, OwnStrs.nil _ _, Fresh.nil _, Below.refl _ _⟩
  case round =>
    obtain ⟨k, u, y, rfl, hk, rfl, hy, ho, hfr, hb⟩ := hrel
    have HB := hid hb
    have HO := hid ho
    have HF := hid hfr
    by_cases hlt : k < l.length
    · have hd := isBody.drop hlt
      rw [← hy] at hd
      have hxz := HSZ.out _ (List.getElem_mem hlt)
      obtain ⟨r, hr⟩ : ∃ r, r = l[k] := ⟨_, rfl⟩
      obtain ⟨z, hz⟩ : ∃ z, z = vbody (l.drop (k + 1)) := ⟨_, rfl⟩
      rw [← hr, ← hz] at hd
      rw [← hr] at hxz
      have htk : l.take (k + 1) = l.take k ++ [r] := by rw [hr, List.take_succ_eq_append_getElem hlt]
      have htl : (l.take k).length = k := by simp; omega
      have hzy : z.size < y.size := by rw [hd, vform_all]; omega
      have hys : y.size ≤ 1024 := by
        have h1 : y0.size = (vbody (l.take k)).size + y.size := by
          rw [HY0.out, hy]
          conv => lhs; rw [← List.take_append_drop k l]
          unfold vbody
          rw [List.map_append, cat_append, ByteArray.size_append]
        omega
      have C2 := cut_yes x (by omega) r z hxz (by omega) g wr (Nat.lt_of_lt_of_le HK1.out hb.size) ((hb.cell (p := ⟨g, 0, none⟩) HK1.out).trans HK2.out)
      rw [← hd] at C2
      have HC2 := hid C2
      have hnl := nel (d := y) (by omega)
      have hie : y.toList.isEmpty = false := by simpa using hnl
      obtain ⟨A2, capu, rfl⟩ := HO.out.shape
      obtain ⟨cs, hcs⟩ : ∃ cs, cs = (l.take k).map Value.string := ⟨_, rfl⟩
      have ho2 := HO.out
      unfold OwnStrs at ho2
      rw [htl] at ho2 HF ⊢
      rw [← hcs] at ho2
      have HO2 := hid ho2
      have HCS := hid hcs
      have HTK := hid htk
      have HTL := hid htl
      have HZ := hid hz
      have hzs : z.size ≤ 1024 := by omega
      clear hr hz hd htk htl hcs ho2 ho hfr hb C2 hy HO
      go_wp2_with fail
      refine HC2.out.mono ?_
      rintro e w5 ⟨rfl, hb⟩
      have HB5 := hid (HB.out.trans (hb.mono HB.out.size))
      have HO3 := hid (SliceIs.upd HO2.out (Upds.of_below hb (Nat.le_refl _)) (F := fun _ => False) (fun _ _ h => h))
      have HSZ5 := hid HB5.out.size
      clear hb
      go_wp2_with (at_builtin; refine wpList_append_slice rfl (.tmp 52) (.tmp 54) 22 rfl 9 (.string ⟨#[]⟩) 1 16 Try.underlying22 (by kernel_rfl) (by kernel_rfl) _ k cs rfl (SliceIs.alloc HO3.out _) ⟨w5.heap.size, 0, none⟩ 1 1 [.string r] rfl rfl (news1 _ _ _ _ rfl) (by simp [Value.oneCell']) (by omega) (by omega) (by omega) ?_; intro g8 cap8 w8 hs8 hu8 hh8)
      go_roundw
      case rel =>
        have h8 := OwnStrs.more HTL.out HCS.out hs8.out
        rw [← HTK.out] at h8
        exact ⟨k + 1, _, _, rfl, by omega, rfl, HZ.out, h8, fun b hb => (hh8.out b hb).elim (HF.out b) (fun h => by have := HSZ5.out; simp at h; omega), (HB5.out.alloc HSZ5.out _).trans (hu8.out.below (by have := HSZ5.out; simp; omega) (fun b hb => HF.out b hb))⟩
      case measure => exact hzy
    · obtain rfl : k = l.length := by omega
      rw [List.drop_length] at hy
      have hy2 : y = ⟨#[]⟩ := hy
      subst hy2
      rw [List.take_length] at HO
      obtain ⟨A2, capu, rfl⟩ := HO.out.shape
      clear ho hfr hb hy
      go_wp2_with fail
      go_ret2
      exact ⟨_, rfl, HO.out.at, HB4.out.trans (HB.out.mono HB4.out.size)⟩
end Go.Proofs.Ytklbckonlbpbgaa
