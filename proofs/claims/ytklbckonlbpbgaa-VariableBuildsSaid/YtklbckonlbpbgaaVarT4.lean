import Derived.Test.YtklbckonlbpbgaaVarT3
/-! Unpack of what is no block; Room and Add. -/
namespace Go.Proofs.Ytklbckonlbpbgaa
open Go.Lib Go.ChangeShapes Go.WideShapes Go.ChangeAt Go.RowKit
set_option linter.unusedVariables false

set_option maxRecDepth 100000 in
set_option maxHeartbeats 2000000 in
theorem vunpack_no (x b : Nat) (hf : vfits (x : Int) (b : Int)) (d : ByteArray) (hd : d.size ≤ 100000) (hn : ¬ ∃ l, isV x b l d) (w : World) :
    Calls Try.prog 18 #[.int .i64 x, .int .i64 b, .string d] w (Gives (.tuple #[.slice none 0 0, .int .i64 11]) w) := by
  have HV := fun W => hid (vvalid_any x b (by have := hf.2.2.2; omega) W)
  rw [decide_eq_true hf] at HV
  have hL : 1 ≤ x := by have := hf.1; omega
  have hL2 : x ≤ 1000 := by have := hf.2.1; omega
  have hb1 : x + 8 ≤ b := by have := hf.2.2.1; omega
  have hb2 : b ≤ 1024 := by have := hf.2.2.2; omega
  have HT := fun m W => hid (cutter_any m W)
  have hno := isV.no (by omega) hb2 hn
  clear hn hf
  rcases hno with h | ⟨r, y, e1, hr, h⟩
  · have C1 := fun g W (hg : g < W.heap.size) (hc : W.cell? ⟨g, 0, none⟩ = some (.int .i64 ((b : Int) - 4))) => hid (cut_no (b - 4) (by omega) d (by omega) h g W hg (by rw [hc]; congr 2; omega))
    clear h
    go_enter Try.func18, Try.ntmps18
    go_wp2_with fail
    refine (HV _).out.mono ?_
    rintro e w1 ⟨rfl, rfl⟩
    go_wp2_with fail
    refine (HT _ _).out.mono ?_
    rintro e w2 ⟨rfl, hw2⟩
    obtain ⟨hk1, hk2, hk3⟩ := box_int w1 ((b : Int) - 4)
    rw [← hw2] at hk1 hk2 hk3
    have HB2 := hid hk3
    have HC1 := hid (C1 w1.heap.size w2 hk1 hk2)
    clear hw2 hk1 hk2 hk3 C1
    go_wp2_with fail
    refine HC1.out.out.mono ?_
    rintro e w3 ⟨rfl, hb⟩
    have HB3 := hid (HB2.out.trans (hb.mono HB2.out.size))
    clear hb
    go_wp2_with fail
    go_ret2
    exact ⟨rfl, HB3.out⟩
  · have hys : y.size ≤ 100000 := by rw [e1, vform_all] at hd; omega
    have C1 := fun g W (hg : g < W.heap.size) (hc : W.cell? ⟨g, 0, none⟩ = some (.int .i64 ((b : Int) - 4))) => hid (cut_yes (b - 4) (by omega) r y hr (by omega) g W hg (by rw [hc]; congr 2; omega))
    rw [← e1] at C1
    have hr2 : r.size ≤ 1024 := by omega
    clear e1 hr
    rcases h with h | ⟨h, h2⟩ | ⟨h, h2, h3⟩
    · have := empty_of h
      subst this
      clear h
      go_enter Try.func18, Try.ntmps18
      go_wp2_with fail
      refine (HV _).out.mono ?_
      rintro e w1 ⟨rfl, rfl⟩
      go_wp2_with fail
      refine (HT _ _).out.mono ?_
      rintro e w2 ⟨rfl, hw2⟩
      obtain ⟨hk1, hk2, hk3⟩ := box_int w1 ((b : Int) - 4)
      rw [← hw2] at hk1 hk2 hk3
      have HB2 := hid hk3
      have HC1 := hid (C1 w1.heap.size w2 hk1 hk2)
      clear hw2 hk1 hk2 hk3 C1
      go_wp2_with fail
      refine HC1.out.out.mono ?_
      rintro e w3 ⟨rfl, hb⟩
      have HB3 := hid (HB2.out.trans (hb.mono HB2.out.size))
      clear hb
      go_wp2_with fail
      go_ret2
      exact ⟨rfl, HB3.out⟩
    · have hnl := nel h
      have hie : r.toList.isEmpty = false := by simpa using hnl
      have hnl2 := nel h2
      have hie2 : y.toList.isEmpty = false := by simpa using hnl2
      clear h h2
      go_enter Try.func18, Try.ntmps18
      go_wp2_with fail
      refine (HV _).out.mono ?_
      rintro e w1 ⟨rfl, rfl⟩
      go_wp2_with fail
      refine (HT _ _).out.mono ?_
      rintro e w2 ⟨rfl, hw2⟩
      obtain ⟨hk1, hk2, hk3⟩ := box_int w1 ((b : Int) - 4)
      rw [← hw2] at hk1 hk2 hk3
      have HB2 := hid hk3
      have HC1 := hid (C1 w1.heap.size w2 hk1 hk2)
      clear hw2 hk1 hk2 hk3 C1
      go_wp2_with fail
      refine HC1.out.out.mono ?_
      rintro e w3 ⟨rfl, hb⟩
      have HB3 := hid (HB2.out.trans (hb.mono HB2.out.size))
      clear hb
      go_wp2_with fail
      go_ret2
      exact ⟨rfl, HB3.out⟩
    · subst h2
      have hnl := nel h
      have hie : r.toList.isEmpty = false := by simpa using hnl
      have HNO := hid h3
      clear h h3 hys
      go_enter Try.func18, Try.ntmps18
      go_wp2_with fail
      refine (HV _).out.mono ?_
      rintro e w1 ⟨rfl, rfl⟩
      go_wp2_with fail
      refine (HT _ _).out.mono ?_
      rintro e w2 ⟨rfl, hw2⟩
      obtain ⟨hk1, hk2, hk3⟩ := box_int w1 ((b : Int) - 4)
      rw [← hw2] at hk1 hk2 hk3
      have HB2 := hid hk3
      have HC1 := hid (C1 w1.heap.size w2 hk1 hk2)
      clear hw2 hk1 hk2 hk3 C1
      go_wp2_with fail
      refine HC1.out.out.mono ?_
      rintro e w3 ⟨rfl, hb⟩
      have HB3 := hid (HB2.out.trans (hb.mono HB2.out.size))
      clear hb
      go_wp2_with fail
      refine (HT _ _).out.mono ?_
      rintro e w4 ⟨rfl, hw4⟩
      obtain ⟨hk1, hk2, hk3⟩ := box_int w3 (x : Int)
      rw [← hw4] at hk1 hk2 hk3
      have HB4 := hid (HB3.out.trans (hk3.mono HB3.out.size))
      obtain ⟨g, hg⟩ : ∃ g, g = w3.heap.size := ⟨_, rfl⟩
      rw [← hg] at hk1 hk2 ⊢
      have HK1 := hid hk1
      have HK2 := hid hk2
      clear hw4 hk1 hk2 hk3 hg hnl hie
      go_wp2_with fail
      go_loopw [8, 12] (fun s8 s12 wr => ∃ (u' : Value) (rs : List ByteArray) (y : ByteArray), s12 = u' ∧ s8 = .string y ∧ (¬ ∃ l, isBody x l y) ∧ 4 * rs.length + y.size ≤ 1024 ∧ OwnStrs wr u' rs ∧ Fresh w4 u' ∧ Below w4.heap.size w4 wr) (fun s8 _ _ => match s8 with | .string y => y.size | _ => 0)
      case atStart => exact ⟨_, [], _, rfl, rfl, HNO.out, by simp; omega, OwnStrs.nil _ _, Fresh.nil _, Below.refl _ _⟩
      case round =>
        obtain ⟨u, rs, y, rfl, rfl, hno, hsz, ho, hfr, hb⟩ := hrel
        have HB := hid hb
        have HF := hid hfr
        have hy := isBody.ne hno
        have hnl := nel hy
        have hie : y.toList.isEmpty = false := by simpa using hnl
        by_cases hc : ∃ r z, y = vform r ++ z ∧ r.size ≤ x
        · obtain ⟨r, z, hd, hxz⟩ := hc
          have hyz : y.size = 4 + r.size + z.size := by rw [hd, vform_all]
          have HNZ : Hid (¬ ∃ l, isBody x l z) := hid (isBody.cut hxz (by rw [← hd]; exact hno))
          have C2 := cut_yes x (by omega) r z hxz (by omega) g wr (Nat.lt_of_lt_of_le HK1.out hb.size) ((hb.cell (p := ⟨g, 0, none⟩) HK1.out).trans HK2.out)
          rw [← hd] at C2
          have HC2 := hid C2
          obtain ⟨k, hk⟩ : ∃ k, k = rs.length := ⟨_, rfl⟩
          obtain ⟨A2, capu, rfl⟩ := ho.shape
          obtain ⟨cs, hcs⟩ : ∃ cs, cs = rs.map Value.string := ⟨_, rfl⟩
          have ho2 := ho
          unfold OwnStrs at ho2
          rw [← hk] at ho2 HF hsz ⊢
          rw [← hcs] at ho2
          have HO2 := hid ho2
          have HCS := hid hcs
          have HTL := hid hk.symm
          have hk3 : k ≤ 1024 := by omega
          have hms : 4 * (k + 1) + z.size ≤ 1024 := by omega
          have hmz : z.size < y.size := by omega
          clear hd hcs ho2 ho hfr hb C2 hk hno hsz hyz
          go_wp2_with fail
          refine HC2.out.mono ?_
          rintro e w5 ⟨rfl, hb⟩
          have HB5 := hid (HB.out.trans (hb.mono HB.out.size))
          have HO3 := hid (SliceIs.upd HO2.out (Upds.of_below hb (Nat.le_refl _)) (F := fun _ => False) (fun _ _ h => h))
          have HSZ5 := hid HB5.out.size
          clear hb
          go_wp2_with (at_builtin; refine wpList_append_slice rfl (.tmp 52) (.tmp 54) 22 rfl 9 (.string ⟨#[]⟩) 1 16 Try.underlying22 (by kernel_rfl) (by kernel_rfl) _ k cs rfl (SliceIs.alloc HO3.out _) ⟨w5.heap.size, 0, none⟩ 1 1 [.string r] rfl rfl (news1 _ _ _ _ rfl) (by simp [Value.oneCell']) (by omega) (by omega) (by omega) ?_; intro g8 cap8 w8 hs8 hu8 hh8)
          go_roundw
          case rel =>
            have h8 := OwnStrs.more HTL.out HCS.out hs8.out
            exact ⟨_, rs ++ [r], _, rfl, rfl, HNZ.out, by rw [List.length_append, HTL.out]; exact hms, h8, fun b hb => (hh8.out b hb).elim (HF.out b) (fun h => by have := HSZ5.out; simp at h; omega), (HB5.out.alloc HSZ5.out _).trans (hu8.out.below (by have := HSZ5.out; simp; omega) (fun b hb => HF.out b hb))⟩
          case measure => exact hmz
        · have C2 := cut_no x (by omega) y (by omega) hc g wr (Nat.lt_of_lt_of_le HK1.out hb.size) ((hb.cell (p := ⟨g, 0, none⟩) HK1.out).trans HK2.out)
          have HC2 := hid C2
          clear C2 hc hno ho hfr hb
          go_wp2_with fail
          refine HC2.out.mono ?_
          rintro e w5 ⟨rfl, hb⟩
          have HB5 := hid (HB4.out.trans ((HB.out.trans (hb.mono HB.out.size)).mono HB4.out.size))
          clear hb
          go_wp2_with fail
          go_ret2
          exact ⟨rfl, HB5.out⟩
end Go.Proofs.Ytklbckonlbpbgaa
