import Derived.Test.YtklbckonlbpbgaaVarR1
/-! The reference's Unpack. -/
namespace Go.Proofs.Ytklbckonlbpbgaa
open Go.Lib Go.ChangeShapes Go.WideShapes Go.ChangeAt Go.RowKit
set_option linter.unusedVariables false

theorem ext_mid (p r z : ByteArray) : (p ++ vform r ++ z).extract p.size (p.size + 4) = word (4 + r.size) ∧ (p ++ vform r ++ z).extract (p.size + 4) (p.size + (4 + r.size)) = r ∧ (p ++ vform r ++ z).extract (p.size + (4 + r.size)) (p ++ vform r ++ z).size = z ∧ (p ++ vform r ++ z).size = p.size + (4 + r.size) + z.size := by
  have e1 : p ++ vform r ++ z = p ++ word (4 + r.size) ++ (r ++ z) := by unfold vform; simp only [ByteArray.append_assoc]
  have e2 : p ++ vform r ++ z = (p ++ word (4 + r.size)) ++ r ++ z := by unfold vform; simp only [ByteArray.append_assoc]
  refine ⟨?_, ?_, ?_, ?_⟩
  · rw [e1]; exact extract_app3 p (word (4 + r.size)) (r ++ z)
  · rw [e2]
    have := extract_app3 (p ++ word (4 + r.size)) r z
    rw [ByteArray.size_append, word_size] at this
    rw [show p.size + (4 + r.size) = p.size + 4 + r.size by omega]
    exact this
  · have := extract_app_right (p ++ vform r) z
    rw [ByteArray.size_append (a := p), vform_size] at this
    exact this
  · rw [ByteArray.size_append, ByteArray.size_append, vform_size]
theorem vblock_at (l : List ByteArray) (k : Nat) (hk : k < l.length) : ∃ a, a = 4 + (vbody (l.take k)).size ∧ (vblock l).extract a (a + 4) = word (4 + l[k].size) ∧ (vblock l).extract (a + 4) (a + (4 + l[k].size)) = l[k] ∧ (vblock l).size = a + (4 + l[k].size) + (vbody (l.drop (k + 1))).size ∧ a + (4 + l[k].size) = 4 + (vbody (l.take (k + 1))).size := by
  have e : vblock l = (word (4 + (vbody l).size) ++ vbody (l.take k)) ++ vform l[k] ++ vbody (l.drop (k + 1)) := by
    rw [ByteArray.append_assoc, ← isBody.drop hk]
    have : vbody l = vbody (l.take k) ++ vbody (l.drop k) := by
      conv => lhs; rw [← List.take_append_drop k l]
      unfold vbody; rw [List.map_append, cat_append]
    unfold vblock vform
    rw [ByteArray.append_assoc, ← this]
  have h := ext_mid (word (4 + (vbody l).size) ++ vbody (l.take k)) l[k] (vbody (l.drop (k + 1)))
  rw [← e, ByteArray.size_append, word_size] at h
  refine ⟨_, rfl, h.1, h.2.1, h.2.2.2, ?_⟩
  rw [List.take_succ_eq_append_getElem hk, vbody_snoc_size]; omega
theorem KeepB.step {w W W' : World} (h : Below w.heap.size w W) (hb : Below W.heap.size W W') : Below w.heap.size w W' := h.trans (hb.mono h.size)
theorem sne_false (x : ByteArray) : (x.toList != x.toList) = false := by simp
theorem sne_true {x y : ByteArray} (h : x ≠ y) : (x.toList != y.toList) = true := by
  simp only [bne_iff_ne, ne_eq]
  intro e
  apply h
  apply ByteArray.ext
  apply Array.toList_inj.1
  rw [ByteArray.toList_eq, ByteArray.toList_eq] at e
  exact e
theorem seq_false {x y : ByteArray} (h : x ≠ y) : (x.toList == y.toList) = false := by
  have := sne_true h
  simpa [bne] using this
set_option maxRecDepth 100000 in
set_option maxHeartbeats 400000 in
theorem refVunpack_bad (L B : Int) (hB : B ≤ 9223372036854775807) (hf : ¬ vfits L B) (d : ByteArray) (w : World) :
    Calls Try.prog 19 #[.int .i64 L, .int .i64 B, .string d] w (Gives (.tuple #[.slice none 0 0, .int .i64 1]) w) := by
  have HV := fun W => hid (refVvalid_any L B hB W)
  rw [decide_eq_false hf] at HV
  clear hf
  go_enter Try.func19, Try.ntmps19
  go_wp2_with fail
  refine (HV _).out.mono ?_
  rintro e w1 ⟨rfl, rfl⟩
  go_wp2_with fail
  go_ret2
  exact ⟨rfl, Below.refl _ _⟩
set_option maxRecDepth 100000 in
set_option maxHeartbeats 2000000 in
theorem refVunpack_ok (x b : Nat) (hf : vfits (x : Int) (b : Int)) (l : List ByteArray) (d : ByteArray) (hn : isV x b l d) (w : World) :
    Calls Try.prog 19 #[.int .i64 x, .int .i64 b, .string d] w (fun e w' => ∃ v, e = .returned (.tuple #[v, .int .i64 0]) ∧ OwnStrs w' v l ∧ Fresh w v ∧ Below w.heap.size w w') := by
  have HV := fun W => hid (refVvalid_any x b (by have := hf.2.2.2; omega) W)
  rw [decide_eq_true hf] at HV
  have hL2 : x ≤ 1000 := by have := hf.2.1; omega
  have hb2 : b ≤ 1024 := by have := hf.2.2.2; omega
  obtain ⟨e1, hne, hsz, hds⟩ := hn
  have hlen := vbody_len l
  have hpos := vbody_pos hne
  have hds8 : 8 ≤ d.size := by rw [e1, vblock_size]; omega
  have hll : l.length ≤ 300 := by rw [e1, vblock_size] at hds; omega
  have S1 := fun W => sl_to d 4 4 rfl (by omega) W
  have hpre : d.extract 0 4 = word d.size := by
    rw [e1]
    have := vform_word (vbody l) ⟨#[]⟩
    rw [app_empty] at this
    rw [show vblock l = vform (vbody l) from rfl, this, vform_size]
  rw [hpre] at S1
  have W1 := fun W => hid (refWord_nat d.size (by omega) W)
  obtain ⟨q, hq⟩ : ∃ q, q = word d.size := ⟨_, rfl⟩
  rw [← hq] at S1 W1
  have hqq := sne_false q
  have HSZ := hid hsz
  have HD := hid e1
  have hd1 : ¬ ((d.size : Int) < 8) := by omega
  have hd2 : ¬ ((b : Int) < (d.size : Int)) := by omega
  have hd3 : decide ((d.size : Int) < 8) = false := decide_eq_false hd1
  have hd4 : decide (b < d.size) = false := decide_eq_false (by omega)
  clear hf e1 hne hsz hlen hpos hpre hq
  go_enter Try.func19, Try.ntmps19
  go_wp2_with fail
  refine (HV _).out.mono ?_
  rintro e w1 ⟨rfl, rfl⟩
  have hstart : Below w1.heap.size w1 w1.drew := below_drew w1
  go_upto_region 3 with fail
  go_region_held3 (fun W => Below w1.heap.size w1 W) (first | assumption | exact KeepB.step (by assumption) hb6) (first | (go_at_call 27; (with_reducible refine (W1 _).out.mono ?_); rintro x w6 ⟨rfl, hb6⟩))
  rename_i hh
  have HB0 := hid hh
  clear hh hstart hb6
  go_wp2_with fail
  go_loopw [8, 9] (fun s8 s9 wr => ∃ (k a : Nat) (u' : Value), s8 = u' ∧ s9 = .int .i64 a ∧ k ≤ l.length ∧ a = 4 + (vbody (l.take k)).size ∧ OwnStrs wr u' (l.take k) ∧ Fresh w1 u' ∧ Below w1.heap.size w1 wr) (fun _ i _ => d.size - (intOf i).toNat)
  case atStart => exact ⟨0, 4, _, rfl, by go_num, by omega, rfl, OwnStrs.nil _ _, (by rintro k ⟨a, n, c, e, hc, _⟩; cases e; omega), HB0.out.alloc HB0.out.size _⟩
  case round =>
    obtain ⟨k, a, u, rfl, rfl, hk, ha, ho, hfr, hb⟩ := hrel
    have HB := hid hb
    have HF := hid hfr
    have HO := hid ho
    by_cases hlt : k < l.length
    · obtain ⟨a', ha', v1, v2, v3, v4⟩ := vblock_at l k hlt
      rw [← ha] at ha'
      subst ha'
      rw [← HD.out] at v1 v2 v3
      have hr := HSZ.out _ (List.getElem_mem hlt)
      obtain ⟨r, hre⟩ : ∃ r, r = l[k] := ⟨_, rfl⟩
      have htk : l.take (k + 1) = l.take k ++ [r] := by rw [hre, List.take_succ_eq_append_getElem hlt]
      have htl : (l.take k).length = k := by simp; omega
      rw [← hre] at v1 v2 v3 v4 hr
      have S2 := fun W => sl_ab d (a' : Int) ((a' : Int) + 4) a' (a' + 4) rfl (by omega) (by omega) (by omega) W
      have S3 := fun W => sl_ab d ((a' : Int) + 4) ((a' : Int) + (4 + (r.size : Int))) (a' + 4) (a' + (4 + r.size)) (by omega) (by omega) (by omega) (by omega) W
      rw [v1] at S2
      rw [v2] at S3
      have R1 := fun W => hid (refReadWord_yes (4 + r.size) (by omega) W)
      rw [show ((4 + r.size : Nat) : Int) = 4 + (r.size : Int) by omega] at R1
      obtain ⟨p, hp⟩ : ∃ p, p = word (4 + r.size) := ⟨_, rfl⟩
      rw [← hp] at S2 R1
      have V4 := hid v4
      have hle : a' + 4 + r.size ≤ d.size := by omega
      have hlt2 : a' < d.size := by omega
      obtain ⟨A2, capu, rfl⟩ := ho.shape
      obtain ⟨cs, hcs⟩ : ∃ cs, cs = (l.take k).map Value.string := ⟨_, rfl⟩
      have ho2 := ho
      unfold OwnStrs at ho2
      rw [htl] at ho2 HF ⊢
      rw [← hcs] at ho2
      have HO2 := hid ho2
      have HCS := hid hcs
      have HTK := hid htk
      have HTL := hid htl
      clear hre v1 v2 v3 v4 hp htk htl hcs ho2 ho hfr hb ha HO
      go_wp2_with fail
      refine (R1 _).out.mono ?_
      rintro e w5 ⟨rfl, hb⟩
      have HB5 := hid (HB.out.trans (hb.mono HB.out.size))
      have HO3 := hid (SliceIs.upd HO2.out (Upds.of_below hb (Nat.le_refl _)) (F := fun _ => False) (fun _ _ h => h))
      have HSZ5 := hid HB5.out.size
      clear hb
      go_wp2_with (at_builtin; refine wpList_append_slice rfl (.tmp 72) (.tmp 80) 22 rfl 9 (.string ⟨#[]⟩) 1 16 Try.underlying22 (by kernel_rfl) (by kernel_rfl) _ k cs rfl (SliceIs.alloc HO3.out _) ⟨w5.heap.size, 0, none⟩ 1 1 [.string r] rfl rfl (news1 _ _ _ _ rfl) (by simp [Value.oneCell']) (by omega) (by omega) (by omega) ?_; intro g8 cap8 w8 hs8 hu8 hh8)
      go_roundw
      case rel =>
        have h8 := OwnStrs.more HTL.out HCS.out hs8.out
        rw [← HTK.out] at h8
        exact ⟨k + 1, a' + (4 + r.size), _, rfl, by go_num, by omega, V4.out, h8, fun b hb => (hh8.out b hb).elim (HF.out b) (fun h => by have := HSZ5.out; simp at h; omega), (HB5.out.alloc HSZ5.out _).trans (hu8.out.below (by have := HSZ5.out; simp; omega) (fun b hb => HF.out b hb))⟩
      case measure => simp [intOf]; omega
    · obtain rfl : k = l.length := by omega
      have hda : a = d.size := by rw [ha, List.take_length, HD.out, vblock_size]
      have hge : ¬ ((a : Int) < (d.size : Int)) := by omega
      rw [List.take_length] at HO
      obtain ⟨A2, capu, rfl⟩ := HO.out.shape
      clear ho hfr hb ha hda
      go_wp2_with fail
      go_ret2
      exact ⟨_, rfl, HO.out, HF.out, HB.out⟩
end Go.Proofs.Ytklbckonlbpbgaa
