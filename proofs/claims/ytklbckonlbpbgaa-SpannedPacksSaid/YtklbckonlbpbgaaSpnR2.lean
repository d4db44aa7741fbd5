import Derived.Test.YtklbckonlbpbgaaSpnR1
import Derived.Deep.LoopGhost
/-! The reference puts a record behind a block. -/
namespace Go.Proofs.Ytklbckonlbpbgaa
open Go.Lib Go.ChangeShapes Go.WideShapes Go.ChangeAt Go.RowKit
set_option linter.unusedVariables false

theorem slice_inj {g g' n n' c c' : Nat} (h : Value.slice (some ⟨g, 0, none⟩) n c = .slice (some ⟨g', 0, none⟩) n' c') : g = g' ∧ n = n' ∧ c = c' := by
  simp only [Value.slice.injEq, Option.some.injEq, Addr.mk.injEq] at h
  exact ⟨h.1.1, h.2.1, h.2.2⟩
theorem own_new1 (w : World) (r : ByteArray) (g : Nat) (hg : g = w.heap.size) : OwnStrs (w.alloc (.cells #[.string r] 9)) (.slice (some ⟨g, 0, none⟩) 1 1) [r] := by
  subst hg
  exact .inr ⟨w.heap.size, 1, [.string r], rfl, Row.new w [.string r] _, rfl, rfl, Nat.le_refl _, by omega, by omega⟩
def room0 (B : Nat) (last : ByteArray) : Int := (B : Int) - max 4 (last.size : Int) - 4
def putL (B : Nat) (last r : ByteArray) : List ByteArray :=
  if (r.size : Int) ≤ room0 B last then [refAdd last ⟨false, false, r⟩]
  else if 1 ≤ room0 B last then refAdd last ⟨false, true, r.extract 0 (room0 B last).toNat⟩ :: (parts (B - 8) (B - 8) true (r.extract (room0 B last).toNat r.size)).map sblk
  else last :: (parts (B - 8) (B - 8) false r).map sblk
theorem refAdd_empty (s : Seg) : refAdd ⟨#[]⟩ s = sblk s := rfl
theorem putL_nil (B : Nat) (hB : 9 ≤ B) (r : ByteArray) : putL B ⟨#[]⟩ r = sstep B [] r := by
  have e : room0 B ⟨#[]⟩ = ((B - 8 : Nat) : Int) := by unfold room0; show (B : Int) - max 4 ((0 : Nat) : Int) - 4 = _; omega
  have hf : firstN B 0 = B - 8 := rfl
  have hs : sstep B [] r = outs ⟨#[]⟩ 0 (parts (B - 8) (B - 8) false r) := by unfold sstep moreOf psOf; rw [roomOf_nil, yOf_nil, hf]; simp
  rw [hs]
  unfold putL
  rw [e]
  by_cases h : r.size ≤ B - 8
  · rw [if_pos (by omega), parts_last _ _ _ _ (by omega), refAdd_empty]
    show _ = (if (sform ⟨false, false, r⟩).size ≤ 0 then _ else sblk ⟨false, false, r⟩) :: _
    rw [if_neg (by rw [sform_size]; omega)]; rfl
  · rw [if_neg (by omega), if_pos (by omega), Int.toNat_natCast, parts_more (B - 8) (B - 8) (by omega) (by omega) false r (by omega), refAdd_empty]
    show _ = (if (sform ⟨false, true, r.extract 0 (B - 8)⟩).size ≤ 0 then _ else sblk ⟨false, true, r.extract 0 (B - 8)⟩) :: _
    rw [if_neg (by rw [sform_size]; omega)]
theorem putL_more (B : Nat) (hB : 9 ≤ B) (bl : List ByteArray) (hb : bl ≠ []) (hl : LastOk B bl) (r : ByteArray) : bl.dropLast ++ putL B (bl.getLast hb) r = sstep B bl r := by
  obtain ⟨h4, h5⟩ := hl hb
  have hy := yOf_ne bl hb
  have hr := roomOf_ne B bl hb
  obtain ⟨last, hla⟩ : ∃ last, last = bl.getLast hb := ⟨_, rfl⟩
  have hbl : bl = bl.dropLast ++ [last] := by rw [hla, List.dropLast_concat_getLast hb]
  rw [← hla] at h4 h5 hy hr ⊢
  have hn0 : ¬ last.size = 0 := by omega
  have hdl : bl.take (bl.length - 1) = bl.dropLast := List.dropLast_eq_take.symm
  have e : room0 B last = ((B - last.size : Nat) : Int) - 4 := by unfold room0; omega
  obtain ⟨room, hrm⟩ : ∃ room, room = B - last.size := ⟨_, rfl⟩
  rw [← hrm] at hr e
  unfold sstep moreOf joinOf psOf
  rw [hr, hy]
  unfold putL
  rw [e]
  by_cases h : r.size + 4 ≤ room
  · have hps : parts (B - 8) (firstN B room) false r = [⟨false, false, r⟩] := parts_last _ _ _ _ (by unfold firstN; split <;> omega)
    have hj : joins room [⟨false, false, r⟩] = true := decide_eq_true (by rw [sform_size]; show 4 + r.size ≤ room; omega)
    rw [if_pos (by omega), hps, hj, if_pos rfl, hdl]
    congr 1
    show [refAdd last _] = (if (sform ⟨false, false, r⟩).size ≤ room then _ else _) :: _
    rw [if_pos (by rw [sform_size]; show 4 + r.size ≤ room; omega)]
    unfold refAdd; rw [if_neg hn0]; rfl
  · rw [if_neg (by omega)]
    by_cases h1 : 5 ≤ room
    · have hf : firstN B room = room - 4 := by unfold firstN; rw [if_pos (by omega)]
      have hps := parts_more (B - 8) (room - 4) (by omega) (by omega) false r (by omega)
      have hx : (r.extract 0 (room - 4)).size = room - 4 := by rw [ByteArray.size_extract]; omega
      have hle : (sform ⟨false, true, r.extract 0 (room - 4)⟩).size ≤ room := by rw [sform_size]; show 4 + (r.extract 0 (room - 4)).size ≤ room; omega
      rw [if_pos (by omega), hf, hps, show ((room : Int) - 4).toNat = room - 4 by omega]
      rw [show joins room (⟨false, true, r.extract 0 (room - 4)⟩ :: parts (B - 8) (B - 8) true (r.extract (room - 4) r.size)) = true from decide_eq_true hle, if_pos rfl, hdl]
      congr 1
      show _ = (if (sform ⟨false, true, r.extract 0 (room - 4)⟩).size ≤ room then _ else _) :: _
      rw [if_pos hle]
      unfold refAdd; rw [if_neg hn0]
    · have hf : firstN B room = B - 8 := by unfold firstN; rw [if_neg (by omega)]
      rw [if_neg (by omega), hf]
      have hno : ∀ p q, parts (B - 8) (B - 8) false r = p :: q → ¬ (sform p).size ≤ room := by
        intro p q hpq
        rw [sform_size]
        rcases parts_cases (B - 8) (B - 8) (by omega) (by omega) false r with ⟨k1, k2⟩ | ⟨k1, k2⟩
        · rw [hpq] at k2
          simp only [List.cons.injEq] at k2
          rw [k2.1]
          show ¬ 4 + (r.extract 0 (B - 8)).size ≤ room
          rw [ByteArray.size_extract]; omega
        · rw [hpq] at k2
          simp only [List.cons.injEq] at k2
          rw [k2.1]
          show ¬ 4 + r.size ≤ room
          omega
      obtain ⟨p, q, hpq⟩ : ∃ p q, parts (B - 8) (B - 8) false r = p :: q := by
        cases hc : parts (B - 8) (B - 8) false r with
        | nil => exact absurd hc (parts_ne _ _ _ _)
        | cons p q => exact ⟨p, q, rfl⟩
      have hn := hno p q hpq
      rw [hpq]
      rw [show joins room (p :: q) = false from decide_eq_false hn]
      show bl.dropLast ++ last :: (p :: q).map sblk = bl.take (bl.length - 0) ++ (if (sform p).size ≤ room then _ else sblk p) :: q.map sblk
      rw [if_neg hn, Nat.sub_zero, List.take_length]
      conv => rhs; rw [hbl]
      simp
/-- the state at the head of the loop -/
def PutInv (B : Nat) (last r : ByteArray) (gk : Nat) (pre : List ByteArray) (lst rr : ByteArray) (bf : Bool) : Prop :=
  (pre = [] ∧ lst = last ∧ bf = false ∧ rr = r ∧ gk = r.size + 2) ∨ (lst = ⟨#[]⟩ ∧ putL B last r = pre ++ (parts (B - 8) (B - 8) bf rr).map sblk ∧ gk = rr.size + 1)
/-- what the reference's putting makes of a state whose last block has room -/
theorem PutInv.whole {B : Nat} (hB : 9 ≤ B) {last r : ByteArray} {gk : Nat} {pre : List ByteArray} {lst rr : ByteArray} {bf : Bool} (h : PutInv B last r gk pre lst rr bf) (hle : (rr.size : Int) ≤ room0 B lst) : putL B last r = pre ++ [refAdd lst ⟨bf, false, rr⟩] := by
  rcases h with ⟨rfl, rfl, rfl, rfl, _⟩ | ⟨rfl, h, _⟩
  · unfold putL; rw [if_pos hle]; rfl
  · have e : room0 B ⟨#[]⟩ = ((B - 8 : Nat) : Int) := by unfold room0; show (B : Int) - max 4 ((0 : Nat) : Int) - 4 = _; omega
    rw [e] at hle
    rw [h, parts_last _ _ _ _ (by omega), refAdd_empty]; rfl
theorem PutInv.part {B : Nat} (hB : 9 ≤ B) {last r : ByteArray} {gk : Nat} {pre : List ByteArray} {lst rr : ByteArray} {bf : Bool} (h : PutInv B last r gk pre lst rr bf) (hle : ¬ (rr.size : Int) ≤ room0 B lst) (h1 : 1 ≤ room0 B lst) :
    ∃ gk', gk' < gk ∧ PutInv B last r gk' (pre ++ [refAdd lst ⟨bf, true, rr.extract 0 (room0 B lst).toNat⟩]) ⟨#[]⟩ (rr.extract (room0 B lst).toNat rr.size) true := by
  have hs : (rr.extract (room0 B lst).toNat rr.size).size < rr.size := by rw [ByteArray.size_extract]; omega
  refine ⟨_, ?_, .inr ⟨rfl, ?_, rfl⟩⟩
  · rcases h with ⟨_, _, _, rfl, h9⟩ | ⟨_, _, h9⟩ <;> omega
  · rcases h with ⟨rfl, rfl, rfl, rfl, _⟩ | ⟨rfl, h, _⟩
    · unfold putL; rw [if_neg hle, if_pos h1]; rfl
    · have e : room0 B ⟨#[]⟩ = ((B - 8 : Nat) : Int) := by unfold room0; show (B : Int) - max 4 ((0 : Nat) : Int) - 4 = _; omega
      rw [e] at hle ⊢
      rw [h, parts_more _ _ (by omega) (by omega) _ _ (by omega), refAdd_empty, Int.toNat_natCast]
      simp
theorem PutInv.none {B : Nat} (hB : 9 ≤ B) {last r : ByteArray} {gk : Nat} {pre : List ByteArray} {lst rr : ByteArray} {bf : Bool} (h : PutInv B last r gk pre lst rr bf) (hle : ¬ (rr.size : Int) ≤ room0 B lst) (h1 : ¬ 1 ≤ room0 B lst) :
    ∃ gk', gk' < gk ∧ PutInv B last r gk' (pre ++ [lst]) ⟨#[]⟩ rr bf := by
  rcases h with ⟨rfl, rfl, rfl, rfl, h9⟩ | ⟨rfl, h, h9⟩
  · refine ⟨_, ?_, .inr ⟨rfl, ?_, rfl⟩⟩
    · omega
    · unfold putL; rw [if_neg hle, if_neg h1]; rfl
  · have e : room0 B ⟨#[]⟩ = ((B - 8 : Nat) : Int) := by unfold room0; show (B : Int) - max 4 ((0 : Nat) : Int) - 4 = _; omega
    rw [e] at h1; omega
set_option maxRecDepth 100000 in
set_option maxHeartbeats 4000000 in
theorem refPut_any (B : Nat) (hB : 9 ≤ B) (hB2 : B ≤ 1024) (last r : ByteArray) (hl0 : last.size = 0 ∨ 4 ≤ last.size) (hl1 : last.size ≤ B) (hr : r.size ≤ 1500) (w : World) :
    Calls Try.prog 39 #[.int .i64 B, .string last, .string r] w (fun e w' => ∃ u, e = .returned u ∧ OwnStrs w' u (putL B last r) ∧ Fresh w u ∧ Below w.heap.size w w') := by
  go_enter Try.func39, Try.ntmps39
  go_wp2_with fail
  go_loopg [2, 7, 8] (r.size + 2) (fun gk s2 s7 s8 wr => ∃ (pre : List ByteArray) (lst rr : ByteArray) (bf : Bool) (u' : Value), u' = s7 ∧ s2 = .string rr ∧ s8 = .bool bf ∧ PutInv B last r gk pre lst rr bf ∧ OwnStrs wr u' (pre ++ [lst]) ∧ Fresh w u' ∧ Below w.heap.size w wr ∧ pre.length + rr.size ≤ 1501 ∧ rr.size ≤ 1500)
  case atStart => exact ⟨[], last, r, false, _, rfl, rfl, rfl, .inl ⟨rfl, rfl, rfl, rfl, rfl⟩, own_new1 w last _ rfl, (by rintro k ⟨a, n, c, e, hc, hk⟩; cases e; rw [hk]; exact Nat.le_refl _), (Below.refl _ _).alloc (Nat.le_refl _) _, by simp; omega, hr⟩
  case round =>
    obtain ⟨pre, lst, rr, bf, u, rfl, rfl, rfl, hinv, ho, hfr, hb, hpl, hrz⟩ := hrel
    have HB := hid hb
    have HF := hid hfr
    have HO := hid ho
    have hlsz : (lst.size = 0 ∨ 4 ≤ lst.size) ∧ lst.size ≤ B := by
      rcases hinv with ⟨_, h, _⟩ | ⟨h, _⟩
      · rw [h]; exact ⟨hl0, hl1⟩
      · rw [h]; exact ⟨.inl rfl, Nat.zero_le _⟩
    obtain ⟨hls0, hls1⟩ := hlsz
    obtain ⟨g, capg, hue, hg, hhome, c0, f0, _⟩ := ho.last
    obtain ⟨_, _, _, hh1, hcp, _⟩ := hhome
    rw [hue] at hh1
    simp only [Value.slice.injEq, Option.some.injEq] at hh1
    obtain ⟨rfl, rfl, rfl⟩ := hh1
    subst hue
    obtain ⟨ρ, hρ⟩ : ∃ ρ, ρ = room0 B lst := ⟨_, rfl⟩
    have hplb : pre.length ≤ 1502 := by omega
    have hi1 : ((pre.length : Int) + 1) - 1 = (pre.length : Int) := by omega
    clear ho hfr hb
    by_cases hbig : 4 < lst.size
    · have hρ2 : (B : Int) - (lst.size : Int) - 4 = ρ := by rw [hρ]; unfold room0; omega
      by_cases hle : (rr.size : Int) ≤ ρ
      · have HWH := hid (hinv.whole hB (by rw [← hρ]; exact hle))
        have AD : ∀ W, Hid (Calls Try.prog 45 #[.string lst, .agg #[.bool bf, .bool false, .string rr]] W (Gives (.string (refAdd lst ⟨bf, false, rr⟩)) W)) := fun W => hid (rsadd_any lst hls0 (by omega) ⟨bf, false, rr⟩ (by show rr.size ≤ 2000; omega) W)
        obtain ⟨z, hz⟩ : ∃ z, z = refAdd lst ⟨bf, false, rr⟩ := ⟨_, rfl⟩
        rw [← hz] at AD HWH
        clear hinv hρ hz
        go_wp2_with fail
        refine (AD _).out.mono ?_
        rintro e w5 ⟨rfl, hb⟩
        have HB5 := hid (HB.out.trans (hb.mono HB.out.size))
        have ho5 := HO.out.below hb (Nat.le_refl _)
        obtain ⟨g5, cap5, e5, hg5, _, d0, d1, hset⟩ := ho5.last
        obtain ⟨rfl, -, rfl⟩ := slice_inj e5
        have HSET := hid hset
        have HGG : Hid (w.heap.size ≤ g) := hid (HF.out g ⟨_, _, _, rfl, hcp, rfl⟩)
        clear hb ho5 hset
        go_wp2_with fail
        go_ret
        exact ⟨_, rfl, by rw [HWH.out]; exact HSET.out z, HF.out, HB5.out.trans ((Upds.set (F := fun k => k = g) _ _ _ rfl).below HB5.out.size (fun k hk => by rw [hk]; exact HGG.out))⟩
      · by_cases h1 : 1 ≤ ρ
        · obtain ⟨gk', hgk', hinv'⟩ := hinv.part hB (by rw [← hρ]; exact hle) (by rw [← hρ]; exact h1)
          rw [← hρ] at hinv'
          obtain ⟨n, hn⟩ : ∃ n : Nat, ρ = (n : Int) := ⟨ρ.toNat, by omega⟩
          subst hn
          rw [Int.toNat_natCast] at hinv'
          have S1 := fun W => sl_to rr (n : Int) n rfl (by omega) W
          have S2 := fun W => sl_from rr (n : Int) n rfl (by omega) W
          obtain ⟨xx, hxx⟩ : ∃ xx, xx = rr.extract 0 n := ⟨_, rfl⟩
          obtain ⟨yy, hyy⟩ : ∃ yy, yy = rr.extract n rr.size := ⟨_, rfl⟩
          rw [← hxx] at S1 hinv'
          rw [← hyy] at S2 hinv'
          have hyz : yy.size ≤ rr.size := by rw [hyy, ByteArray.size_extract]; omega
          have hyz2 : yy.size + 1 ≤ rr.size := by rw [hyy, ByteArray.size_extract]; omega
          have AD : ∀ W, Hid (Calls Try.prog 45 #[.string lst, .agg #[.bool bf, .bool true, .string xx]] W (Gives (.string (refAdd lst ⟨bf, true, xx⟩)) W)) := fun W => hid (rsadd_any lst hls0 (by omega) ⟨bf, true, xx⟩ (by show xx.size ≤ 2000; rw [hxx, ByteArray.size_extract]; omega) W)
          obtain ⟨z, hz⟩ : ∃ z, z = refAdd lst ⟨bf, true, xx⟩ := ⟨_, rfl⟩
          rw [← hz] at AD hinv'
          have HI := hid hinv'
          have HGK := hid hgk'
          have HGG : Hid (w.heap.size ≤ g) := hid (HF.out g ⟨_, _, _, rfl, hcp, rfl⟩)
          clear hinv hinv' hgk' hρ hz hxx hyy
          go_upto_region 9 with fail
          have ho6 := HO.out.below (below_drew wr) (Nat.le_refl _)
          have HO6 := hid ho6
          obtain ⟨_, _, e6, _, _, c6, _, _⟩ := ho6.last
          obtain ⟨rfl, -, rfl⟩ := slice_inj e6
          clear ho6
          have hix1 : (pre.length : Int) < ((pre.length + 1 : Nat) : Int) := by omega
          have hix2 : (0 : Int) ≤ (pre.length : Int) := by omega
          have hix3 : (pre.length : Int) < (pre.length : Int) + 1 := by omega
          go_region_law (go_simp; go_at_call 45; (with_reducible refine (AD _).out.mono ?_); rintro x w5 ⟨rfl, hb5⟩; have HO5 := hid (HO6.out.below hb5 (Nat.le_refl _)); obtain ⟨g7, cap7, e7, _, _, d0, d1, hset⟩ := HO5.out.last; have HSET := hid hset; have HB5 := hid ((HB.out.trans ((below_drew wr).mono HB.out.size)).trans (hb5.mono (HB.out.trans ((below_drew wr).mono HB.out.size)).size)); have HE7 := hid e7; clear hb5 hset e7; (obtain ⟨rfl, -, rfl⟩ := slice_inj HE7.out); dsimp only)
          have hos := HSET.out z
          have hbs := HB5.out.trans ((Upds.set (F := fun k => k = g) w5 ⟨g, pre.length, none⟩ (.string z) rfl).below HB5.out.size (fun k hk => by rw [hk]; exact HGG.out))
          obtain ⟨w6, hw6⟩ : ∃ w6, w6 = w5.setCell ⟨g, pre.length, none⟩ (.string z) := ⟨_, rfl⟩
          rw [← hw6] at hos hbs ⊢
          have HOS := hid hos
          have HBS := hid hbs
          clear hos hbs hw6 d0 d1 c6
          go_wp2_with (at_builtin; refine wpList_append_strs (by rfl) (.tmp 61) (.tmp 62) rfl _ (pre ++ [z]) rfl (OwnStrs.alloc HOS.out _) _ [⟨#[]⟩] rfl (strs_new1 _ ⟨#[]⟩ _ (by simp)) (by simp; omega) (by simp) ?_; intro u8 w8 hs8 hu8 hh8)
          go_roundg gk'
          case measure => exact HGK.out
          case rel => exact ⟨pre ++ [z], ⟨#[]⟩, yy, true, u8, rfl, rfl, rfl, HI.out, hs8.out, fun b hb => (hh8.out b hb).elim (HF.out b) (fun h => by have := HBS.out.size; simp at h; omega), (HBS.out.alloc HBS.out.size _).trans (hu8.out.below (by have := HBS.out.size; simp; omega) (fun b hb => HF.out b hb)), by simp; omega, by omega⟩
        · obtain ⟨gk', hgk', hinv'⟩ := hinv.none hB (by rw [← hρ]; exact hle) (by rw [← hρ]; exact h1)
          have HI := hid hinv'
          have HGK := hid hgk'
          have hz2 : pre = [] := hinv.elim (fun h => h.1) (fun h => by exfalso; have h8 := h.1; rw [hρ, h8] at h1; apply h1; unfold room0; show 1 ≤ (B : Int) - max 4 ((0 : Nat) : Int) - 4; omega)
          have HZ2 := hid hz2
          clear hinv hinv' hgk' hρ hz2
          go_wp2_with (at_builtin; refine wpList_append_strs (by rfl) (.tmp 61) (.tmp 62) rfl _ (pre ++ [lst]) rfl (OwnStrs.alloc HO.out _) _ [⟨#[]⟩] rfl (strs_new1 _ ⟨#[]⟩ _ (by simp)) (by simp; omega) (by simp) ?_; intro u8 w8 hs8 hu8 hh8)
          go_roundg gk'
          case measure => exact HGK.out
          case rel => exact ⟨pre ++ [lst], ⟨#[]⟩, rr, bf, u8, rfl, rfl, rfl, HI.out, hs8.out, fun b hb => (hh8.out b hb).elim (HF.out b) (fun h => by have := HB.out.size; simp at h; omega), (HB.out.alloc HB.out.size _).trans (hu8.out.below (by have := HB.out.size; simp; omega) (fun b hb => HF.out b hb)), by have := HZ2.out; rw [this]; simp; omega, by omega⟩
    · have hρ2 : (B : Int) - 4 - 4 = ρ := by rw [hρ]; unfold room0; omega
      by_cases hle : (rr.size : Int) ≤ ρ
      · have HWH := hid (hinv.whole hB (by rw [← hρ]; exact hle))
        have AD : ∀ W, Hid (Calls Try.prog 45 #[.string lst, .agg #[.bool bf, .bool false, .string rr]] W (Gives (.string (refAdd lst ⟨bf, false, rr⟩)) W)) := fun W => hid (rsadd_any lst hls0 (by omega) ⟨bf, false, rr⟩ (by show rr.size ≤ 2000; omega) W)
        obtain ⟨z, hz⟩ : ∃ z, z = refAdd lst ⟨bf, false, rr⟩ := ⟨_, rfl⟩
        rw [← hz] at AD HWH
        clear hinv hρ hz
        go_wp2_with fail
        refine (AD _).out.mono ?_
        rintro e w5 ⟨rfl, hb⟩
        have HB5 := hid (HB.out.trans (hb.mono HB.out.size))
        have ho5 := HO.out.below hb (Nat.le_refl _)
        obtain ⟨g5, cap5, e5, hg5, _, d0, d1, hset⟩ := ho5.last
        obtain ⟨rfl, -, rfl⟩ := slice_inj e5
        have HSET := hid hset
        have HGG : Hid (w.heap.size ≤ g) := hid (HF.out g ⟨_, _, _, rfl, hcp, rfl⟩)
        clear hb ho5 hset
        go_wp2_with fail
        go_ret
        exact ⟨_, rfl, by rw [HWH.out]; exact HSET.out z, HF.out, HB5.out.trans ((Upds.set (F := fun k => k = g) _ _ _ rfl).below HB5.out.size (fun k hk => by rw [hk]; exact HGG.out))⟩
      · by_cases h1 : 1 ≤ ρ
        · obtain ⟨gk', hgk', hinv'⟩ := hinv.part hB (by rw [← hρ]; exact hle) (by rw [← hρ]; exact h1)
          rw [← hρ] at hinv'
          obtain ⟨n, hn⟩ : ∃ n : Nat, ρ = (n : Int) := ⟨ρ.toNat, by omega⟩
          subst hn
          rw [Int.toNat_natCast] at hinv'
          have S1 := fun W => sl_to rr (n : Int) n rfl (by omega) W
          have S2 := fun W => sl_from rr (n : Int) n rfl (by omega) W
          obtain ⟨xx, hxx⟩ : ∃ xx, xx = rr.extract 0 n := ⟨_, rfl⟩
          obtain ⟨yy, hyy⟩ : ∃ yy, yy = rr.extract n rr.size := ⟨_, rfl⟩
          rw [← hxx] at S1 hinv'
          rw [← hyy] at S2 hinv'
          have hyz : yy.size ≤ rr.size := by rw [hyy, ByteArray.size_extract]; omega
          have hyz2 : yy.size + 1 ≤ rr.size := by rw [hyy, ByteArray.size_extract]; omega
          have AD : ∀ W, Hid (Calls Try.prog 45 #[.string lst, .agg #[.bool bf, .bool true, .string xx]] W (Gives (.string (refAdd lst ⟨bf, true, xx⟩)) W)) := fun W => hid (rsadd_any lst hls0 (by omega) ⟨bf, true, xx⟩ (by show xx.size ≤ 2000; rw [hxx, ByteArray.size_extract]; omega) W)
          obtain ⟨z, hz⟩ : ∃ z, z = refAdd lst ⟨bf, true, xx⟩ := ⟨_, rfl⟩
          rw [← hz] at AD hinv'
          have HI := hid hinv'
          have HGK := hid hgk'
          have HGG : Hid (w.heap.size ≤ g) := hid (HF.out g ⟨_, _, _, rfl, hcp, rfl⟩)
          clear hinv hinv' hgk' hρ hz hxx hyy
          go_upto_region 9 with fail
          have ho6 := HO.out.below (below_drew wr) (Nat.le_refl _)
          have HO6 := hid ho6
          obtain ⟨_, _, e6, _, _, c6, _, _⟩ := ho6.last
          obtain ⟨rfl, -, rfl⟩ := slice_inj e6
          clear ho6
          have hix1 : (pre.length : Int) < ((pre.length + 1 : Nat) : Int) := by omega
          have hix2 : (0 : Int) ≤ (pre.length : Int) := by omega
          have hix3 : (pre.length : Int) < (pre.length : Int) + 1 := by omega
          go_region_law (go_simp; go_at_call 45; (with_reducible refine (AD _).out.mono ?_); rintro x w5 ⟨rfl, hb5⟩; have HO5 := hid (HO6.out.below hb5 (Nat.le_refl _)); obtain ⟨g7, cap7, e7, _, _, d0, d1, hset⟩ := HO5.out.last; have HSET := hid hset; have HB5 := hid ((HB.out.trans ((below_drew wr).mono HB.out.size)).trans (hb5.mono (HB.out.trans ((below_drew wr).mono HB.out.size)).size)); have HE7 := hid e7; clear hb5 hset e7; (obtain ⟨rfl, -, rfl⟩ := slice_inj HE7.out); dsimp only)
          have hos := HSET.out z
          have hbs := HB5.out.trans ((Upds.set (F := fun k => k = g) w5 ⟨g, pre.length, none⟩ (.string z) rfl).below HB5.out.size (fun k hk => by rw [hk]; exact HGG.out))
          obtain ⟨w6, hw6⟩ : ∃ w6, w6 = w5.setCell ⟨g, pre.length, none⟩ (.string z) := ⟨_, rfl⟩
          rw [← hw6] at hos hbs ⊢
          have HOS := hid hos
          have HBS := hid hbs
          clear hos hbs hw6 d0 d1 c6
          go_wp2_with (at_builtin; refine wpList_append_strs (by rfl) (.tmp 61) (.tmp 62) rfl _ (pre ++ [z]) rfl (OwnStrs.alloc HOS.out _) _ [⟨#[]⟩] rfl (strs_new1 _ ⟨#[]⟩ _ (by simp)) (by simp; omega) (by simp) ?_; intro u8 w8 hs8 hu8 hh8)
          go_roundg gk'
          case measure => exact HGK.out
          case rel => exact ⟨pre ++ [z], ⟨#[]⟩, yy, true, u8, rfl, rfl, rfl, HI.out, hs8.out, fun b hb => (hh8.out b hb).elim (HF.out b) (fun h => by have := HBS.out.size; simp at h; omega), (HBS.out.alloc HBS.out.size _).trans (hu8.out.below (by have := HBS.out.size; simp; omega) (fun b hb => HF.out b hb)), by simp; omega, by omega⟩
        · exfalso; omega
end Go.Proofs.Ytklbckonlbpbgaa
