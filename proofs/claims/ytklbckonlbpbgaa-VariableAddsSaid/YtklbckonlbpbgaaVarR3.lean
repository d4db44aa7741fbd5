import Derived.Test.YtklbckonlbpbgaaVarR2
/-! The reference's Unpack of what is no block. -/
namespace Go.Proofs.Ytklbckonlbpbgaa
open Go.Lib Go.ChangeShapes Go.WideShapes Go.ChangeAt Go.RowKit
set_option linter.unusedVariables false

theorem ext_ext (d : ByteArray) (a i j : Nat) (hj : a + j ≤ d.size) : (d.extract a d.size).extract i j = d.extract (a + i) (a + j) := by
  rw [ByteArray.extract_extract]
  congr 1; omega
theorem ext_all (d : ByteArray) (a i : Nat) : (d.extract a d.size).extract i (d.size - a) = d.extract (a + i) d.size := by
  rcases Nat.le_total a d.size with h | h
  · rw [ByteArray.extract_extract, show min (a + (d.size - a)) d.size = d.size by omega]
  · rw [ByteArray.extract_extract, show min (a + (d.size - a)) d.size = d.size by omega]
/-- what the reference sees at a place -/
theorem at_cases (x : Nat) (hx : x ≤ 1000) (d : ByteArray) (a : Nat) (ha : a < d.size) :
    (∃ r, r.size ≤ x ∧ a + (4 + r.size) ≤ d.size ∧ d.extract a (a + 4) = word (4 + r.size) ∧ d.extract (a + 4) (a + (4 + r.size)) = r ∧ d.extract a d.size = vform r ++ d.extract (a + (4 + r.size)) d.size) ∨
    d.size < a + 4 ∨ (a + 4 ≤ d.size ∧ ∀ n ≤ 65535, d.extract a (a + 4) ≠ word n) ∨ (a + 4 ≤ d.size ∧ ∃ n ≤ 65535, d.extract a (a + 4) = word n ∧ (n < 4 ∨ 4 + x < n ∨ d.size < a + n)) := by
  by_cases h4 : d.size < a + 4
  · exact .inr (.inl h4)
  · have hs : (d.extract a d.size).size = d.size - a := by rw [ByteArray.size_extract]; omega
    have hm : min (d.extract a d.size).size 4 = 4 := by omega
    have he : (d.extract a d.size).extract 0 4 = d.extract a (a + 4) := ext_ext d a 0 4 (by omega)
    rcases cut_cases x (d.extract a d.size) with ⟨r, y, h1, h2⟩ | h | ⟨n, hn, h1, h2, h3⟩
    · left
      have hsz : d.size - a = 4 + r.size + y.size := by rw [← hs, h1, vform_all]
      have hle : a + (4 + r.size) ≤ d.size := by omega
      have e1 := vform_word r y
      have e2 := vform_bytes r y
      have e3 := vform_rest r y
      rw [← h1] at e1 e2 e3
      rw [hs] at e3
      rw [ext_all] at e3
      rw [ext_ext d a 0 4 (by omega)] at e1
      rw [ext_ext d a 4 (4 + r.size) (by omega)] at e2
      exact ⟨r, h2, hle, e1, e2, by rw [h1, e3]⟩
    · right; right; left
      rw [hm, he] at h
      exact ⟨by omega, h⟩
    · right; right; right
      rw [hm, he] at h1
      refine ⟨by omega, n, hn, h1, ?_⟩
      rw [hs] at h3
      omega
set_option maxRecDepth 100000 in
set_option maxHeartbeats 4000000 in
theorem refVunpack_no (x b : Nat) (hf : vfits (x : Int) (b : Int)) (d : ByteArray) (hd : d.size ≤ 60000) (hn : ¬ ∃ l, isV x b l d) (w : World) :
    Calls Try.prog 19 #[.int .i64 x, .int .i64 b, .string d] w (Gives (.tuple #[.slice none 0 0, .int .i64 11]) w) := by
  have HV := fun W => hid (refVvalid_any x b (by have := hf.2.2.2; omega) W)
  rw [decide_eq_true hf] at HV
  have hL2 : x ≤ 1000 := by have := hf.2.1; omega
  have hb2 : b ≤ 1024 := by have := hf.2.2.2; omega
  have W1 := fun W => hid (refWord_nat d.size (by omega) W)
  by_cases c1 : d.size < 8
  · have hd3 : decide ((d.size : Int) < 8) = true := decide_eq_true (by omega)
    clear hf hn
    go_enter Try.func19, Try.ntmps19
    go_wp2_with fail
    refine (HV _).out.mono ?_
    rintro e w1 ⟨rfl, rfl⟩
    go_upto_region 3 with fail
    go_quiet (fail)
    go_wp2_with fail
    go_ret2
    exact ⟨rfl, below_drewN (Below.refl _ _) _⟩
  · have hd3 : decide ((d.size : Int) < 8) = false := decide_eq_false (by omega)
    by_cases c2 : b < d.size
    · have hd4 : decide (b < d.size) = true := decide_eq_true c2
      clear hf hn c1
      go_enter Try.func19, Try.ntmps19
      go_wp2_with fail
      refine (HV _).out.mono ?_
      rintro e w1 ⟨rfl, rfl⟩
      go_upto_region 3 with fail
      go_quiet (fail)
      go_wp2_with fail
      go_ret2
      exact ⟨rfl, below_drewN (Below.refl _ _) _⟩
    · have hd4 : decide (b < d.size) = false := decide_eq_false c2
      have S1 := fun W => sl_to d 4 4 rfl (by omega) W
      by_cases c3 : d.extract 0 4 = word d.size
      · rw [c3] at S1
        have HNO : Hid (¬ ∃ l, isBody x l (d.extract 4 d.size)) := hid (fun ⟨l, h1, h2⟩ => hn ⟨l, by
          have e : d = vform (vbody l) := by
            have := split_at d 4 d.size (by omega) (Nat.le_refl _)
            unfold vform
            rw [← h1, ByteArray.size_extract, show 4 + (min d.size d.size - 4) = d.size by omega, ← c3, ByteArray.extract_append_extract]
            apply ByteArray.ext
            simp
          refine ⟨e, ?_, h2, by omega⟩
          rintro rfl
          have := congrArg ByteArray.size h1
          rw [ByteArray.size_extract] at this
          have h0 : (vbody []).size = 0 := rfl
          omega⟩)
        obtain ⟨q, hq⟩ : ∃ q, q = word d.size := ⟨_, rfl⟩
        rw [← hq] at S1 W1
        have hqq := sne_false q
        have hds : 4 < d.size := by omega
        clear hf hn c1 c3 hq
        go_enter Try.func19, Try.ntmps19
        go_wp2_with fail
        refine (HV _).out.mono ?_
        rintro e w1 ⟨rfl, rfl⟩
        have hstart : Below w1.heap.size w1 w1.drew := below_drew w1
        go_upto_region 3 with fail
        go_region_held3 (fun W => Below w1.heap.size w1 W) (first | assumption | exact KeepB.step (by assumption) hb6) (first | (go_at_call 27; (with_reducible refine (W1 _).out.mono ?_); rintro x w6 ⟨rfl, hb6⟩))
        rename_i hh
        have HB0 := hid hh
        clear hh hstart hb6
        go_wp2_with fail
        go_loopw [8, 9] (fun s8 s9 wr => ∃ (a : Nat) (u' : Value) (rs : List ByteArray), s8 = u' ∧ s9 = .int .i64 a ∧ a ≤ d.size ∧ 4 * rs.length ≤ a ∧ (¬ ∃ l, isBody x l (d.extract a d.size)) ∧ OwnStrs wr u' rs ∧ Fresh w1 u' ∧ Below w1.heap.size w1 wr) (fun _ i _ => d.size - (intOf i).toNat)
        case atStart => exact ⟨4, _, [], rfl, by go_num, by omega, by simp, HNO.out, OwnStrs.nil _ _, (by rintro k ⟨a, n, c, e, hc, _⟩; cases e; omega), HB0.out.alloc HB0.out.size _⟩
        case round =>
          obtain ⟨a, u, rs, rfl, rfl, hle, hcnt, hno, ho, hfr, hb⟩ := hrel
          have HB := hid hb
          have HF := hid hfr
          have hlt : a < d.size := by
            rcases Nat.lt_or_ge a d.size with h | h
            · exact h
            · exact absurd ⟨[], empty_of (by rw [ByteArray.size_extract]; omega), fun z hz => by cases hz⟩ hno
          rcases at_cases x hL2 d a hlt with ⟨r, h1, h2, h3, h4, h5⟩ | h1 | ⟨h1, h2⟩ | ⟨h1, n, hn1, h2, h3⟩
          · have HNZ : Hid (¬ ∃ l, isBody x l (d.extract (a + (4 + r.size)) d.size)) := hid (isBody.cut h1 (by rw [← h5]; exact hno))
            have S2 := fun W => sl_ab d (a : Int) ((a : Int) + 4) a (a + 4) rfl (by omega) (by omega) (by omega) W
            have S3 := fun W => sl_ab d ((a : Int) + 4) ((a : Int) + (4 + (r.size : Int))) (a + 4) (a + (4 + r.size)) (by omega) (by omega) (by omega) (by omega) W
            rw [h3] at S2
            rw [h4] at S3
            have R1 := fun W => hid (refReadWord_yes (4 + r.size) (by omega) W)
            rw [show ((4 + r.size : Nat) : Int) = 4 + (r.size : Int) by omega] at R1
            obtain ⟨p, hp⟩ : ∃ p, p = word (4 + r.size) := ⟨_, rfl⟩
            rw [← hp] at S2 R1
            obtain ⟨A2, capu, rfl⟩ := ho.shape
            obtain ⟨k, hk⟩ : ∃ k, k = rs.length := ⟨_, rfl⟩
            obtain ⟨cs, hcs⟩ : ∃ cs, cs = rs.map Value.string := ⟨_, rfl⟩
            have ho2 := ho
            unfold OwnStrs at ho2
            rw [← hk] at ho2 HF hcnt ⊢
            rw [← hcs] at ho2
            have HO2 := hid ho2
            have HCS := hid hcs
            have HTL := hid hk.symm
            have hle2 : a + 4 + r.size ≤ d.size := by omega
            have hkb : k ≤ 60000 := by omega
            have hms : 4 * (k + 1) ≤ a + (4 + r.size) := by omega
            clear h2 h3 h4 h5 hp hcs ho2 ho hfr hb hk hno hcnt
            go_wp2_with fail
            refine (R1 _).out.mono ?_
            rintro e w5 ⟨rfl, hb⟩
            have HB5 := hid (HB.out.trans (hb.mono HB.out.size))
            have HO3 := hid (SliceIs.upd HO2.out (Upds.of_below hb (Nat.le_refl _)) (F := fun _ => False) (fun _ _ h => h))
            have HSZ5 := hid HB5.out.size
            clear hb
            go_wp2_with (at_builtin; refine wpList_append_slice rfl (.tmp 72) (.tmp 80) 22 rfl 9 (.string ⟨#[]⟩) 1 16 Try.underlying22 (by kernel_rfl) (by kernel_rfl) _ k cs rfl (SliceIs.alloc HO3.out _) ⟨w5.heap.size, 0, none⟩ 1 1 [.string r] rfl rfl (news1 _ _ _ _ rfl) (by simp [Value.oneCell']) (by omega) (by omega) (by omega) ?_; intro g8 cap8 w8 hs8 hu8 hh8)
            go_roundw
            case rel =>
              have h8 := OwnStrs.more HTL.out HCS.out hs8.out
              exact ⟨a + (4 + r.size), _, rs ++ [r], rfl, by go_num, by omega, by rw [List.length_append, HTL.out]; exact hms, HNZ.out, h8, fun b hb => (hh8.out b hb).elim (HF.out b) (fun h => by have := HSZ5.out; simp at h; omega), (HB5.out.alloc HSZ5.out _).trans (hu8.out.below (by have := HSZ5.out; simp; omega) (fun b hb => HF.out b hb))⟩
            case measure => simp [intOf]; omega
          · clear hno ho hfr hb hcnt
            go_wp2_with fail
            go_ret2
            exact ⟨rfl, HB.out⟩
          · have S2 := fun W => sl_ab d (a : Int) ((a : Int) + 4) a (a + 4) rfl (by omega) (by omega) (by omega) W
            have R1 := fun W => hid (refReadWord_no (d.extract a (a + 4)) (by rw [ByteArray.size_extract]; omega) h2 W)
            obtain ⟨p, hp⟩ : ∃ p, p = d.extract a (a + 4) := ⟨_, rfl⟩
            rw [← hp] at S2 R1
            clear hno ho hfr hb hcnt h2 hp
            go_wp2_with fail
            refine (R1 _).out.mono ?_
            rintro e w5 ⟨rfl, hb⟩
            have HB5 := hid (HB.out.trans (hb.mono HB.out.size))
            clear hb
            go_wp2_with fail
            go_ret2
            exact ⟨rfl, HB5.out⟩
          · have S2 := fun W => sl_ab d (a : Int) ((a : Int) + 4) a (a + 4) rfl (by omega) (by omega) (by omega) W
            have R1 := fun W => hid (refReadWord_yes n hn1 W)
            rw [h2] at S2
            obtain ⟨p, hp⟩ : ∃ p, p = word n := ⟨_, rfl⟩
            rw [← hp] at S2 R1
            clear hno ho hfr hb hcnt h2 hp
            by_cases k1 : n < 4
            · clear h3
              go_wp2_with fail
              refine (R1 _).out.mono ?_
              rintro e w5 ⟨rfl, hb⟩
              have HB5 := hid (HB.out.trans (hb.mono HB.out.size))
              clear hb
              go_wp2_with fail
              go_ret2
              exact ⟨rfl, HB5.out⟩
            · by_cases k2 : 4 + x < n
              · clear h3
                go_wp2_with fail
                refine (R1 _).out.mono ?_
                rintro e w5 ⟨rfl, hb⟩
                have HB5 := hid (HB.out.trans (hb.mono HB.out.size))
                clear hb
                go_wp2_with fail
                go_ret2
                exact ⟨rfl, HB5.out⟩
              · have k3 : d.size < a + n := by omega
                clear h3
                go_wp2_with fail
                refine (R1 _).out.mono ?_
                rintro e w5 ⟨rfl, hb⟩
                have HB5 := hid (HB.out.trans (hb.mono HB.out.size))
                clear hb
                go_wp2_with fail
                go_ret2
                exact ⟨rfl, HB5.out⟩
      · have hqq := seq_false c3
        obtain ⟨y, hy⟩ : ∃ y, y = d.extract 0 4 := ⟨_, rfl⟩
        rw [← hy] at S1 hqq
        obtain ⟨q, hq⟩ : ∃ q, q = word d.size := ⟨_, rfl⟩
        rw [← hq] at hqq W1
        clear hf hn c1 c3 hq hy
        go_enter Try.func19, Try.ntmps19
        go_wp2_with fail
        refine (HV _).out.mono ?_
        rintro e w1 ⟨rfl, rfl⟩
        have hstart : Below w1.heap.size w1 w1.drew := below_drew w1
        go_upto_region 3 with fail
        go_region_held3 (fun W => Below w1.heap.size w1 W) (first | assumption | exact KeepB.step (by assumption) hb6) (first | (go_at_call 27; (with_reducible refine (W1 _).out.mono ?_); rintro x w6 ⟨rfl, hb6⟩))
        rename_i hh
        have HB0 := hid hh
        clear hh hstart hb6
        go_wp2_with fail
        go_ret2
        exact ⟨rfl, HB0.out⟩
end Go.Proofs.Ytklbckonlbpbgaa
