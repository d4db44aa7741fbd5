import Derived.Test.YtfcaodaaklngmaaDevT5
import Derived.IntWalk
/-! The smaller methods of a device. -/
namespace Go.Proofs.Ytfcaodaaklngmaa
open Go.Lib Go.ChangeShapes Go.WideShapes Go.ChangeAt Go.RowKit

set_option maxRecDepth 100000 in
theorem sectors_any (base : Nat) (L : Lay) (D : DS) (w : World) (hD : Dev w base L D) :
    Calls Try.prog 30 #[.pointer (some ⟨L.b, 0, none⟩)] w fun e w' => e = .returned (.int .i64 D.n) ∧ w = w' := by
  have hc0 := hD.c0
  clear hD
  go_enter Try.func30, Try.ntmps30
  go_wp2_with fail
  go_ret
  exact ⟨rfl, rfl⟩
set_option maxRecDepth 100000 in
theorem failed_any (base : Nat) (L : Lay) (D : DS) (w : World) (hD : Dev w base L D) :
    Calls Try.prog 31 #[.pointer (some ⟨L.b, 0, none⟩)] w fun e w' => e = .returned (.bool D.failed) ∧ w = w' := by
  have hc0 := hD.c6
  clear hD
  go_enter Try.func31, Try.ntmps31
  go_wp2_with fail
  go_ret
  exact ⟨rfl, rfl⟩
open Classical in
/-- how many earlier contents are kept -/
noncomputable def DS.old (D : DS) (s : Int) : Int := if D.has s then ((D.sec s.toNat).er.length : Int) else 0
set_option maxRecDepth 100000 in
theorem old_any (base : Nat) (L : Lay) (D : DS) (s : Int) (w : World) (hD : Dev w base L D) :
    Calls Try.prog 26 #[.pointer (some ⟨L.b, 0, none⟩), .int .i64 s] w fun e w' => e = .returned (.int .i64 (D.old s)) ∧ w = w' := by
  by_cases hs : D.has s
  · have hr : D.old s = ((D.sec s.toNat).er.length : Int) := by unfold DS.old; rw [if_pos hs]
    rw [hr]
    obtain ⟨i, rfl⟩ := Int.eq_ofNat_of_zero_le hs.1
    simp only [Int.toNat_natCast]
    have hi : i < D.n := by have := hs.2; omega
    obtain ⟨cur, hrw, hsec⟩ := hD.secs
    have c9 : w.cell? ⟨L.sb, i * 10 + 9, none⟩ = some (.int .i64 (D.sec i).er.length) := hrw.cell (hsec.sec i hi).kept
    have c0 := hD.c0
    have HH := hid (has_true base L D i hs w hD)
    clear hD hs hr hrw hsec
    go_enter Try.func26, Try.ntmps26
    go_wp2_with fail
    refine HH.out.mono ?_
    rintro e w' ⟨rfl, rfl⟩
    go_wp2_with fail
    go_ret
    exact ⟨rfl, rfl⟩
  · have hr : D.old s = 0 := by unfold DS.old; rw [if_neg hs]
    rw [hr]
    have HH := hid (has_false base L D s hs w hD)
    clear hD hs hr
    go_enter Try.func26, Try.ntmps26
    go_wp2_with fail
    refine HH.out.mono ?_
    rintro e w' ⟨rfl, rfl⟩
    go_wp2_with fail
    go_ret
    exact ⟨rfl, rfl⟩
theorem count_take (l : List PW) (s : Int) (k : Nat) (hk : k < l.length) : ((l.take (k + 1)).filter (fun p => decide (p.sys = s))).length = ((l.take k).filter (fun p => decide (p.sys = s))).length + (if l[k].sys = s then 1 else 0) := by
  rw [filter_take_succ _ _ _ hk, List.length_append]
  congr 1
  by_cases h : l[k].sys = s
  · rw [if_pos (by simpa using h), if_pos h]; rfl
  · rw [if_neg (by simpa using h), if_neg h]; rfl
set_option maxRecDepth 100000 in
theorem pending_any (base : Nat) (L : Lay) (D : DS) (s : Int) (w : World) (hD : Dev w base L D) :
    Calls Try.prog 23 #[.pointer (some ⟨L.b, 0, none⟩), .int .i64 s] w fun e w' => e = .returned (.int .i64 (D.count s)) ∧ Upds (fun _ => False) w w' := by
  have hc1 := hD.c1
  have hfew := hD.few.1
  rcases hD.pend with ⟨a, hpv, hl⟩ | ⟨pb, cap, cur, hpv, hr, ht, hcl, hcap, hmax, hpos⟩
  · rw [hpv] at hc1
    have hz : D.count s = 0 := by unfold DS.count; rw [hl]; rfl
    rw [hz]
    clear hD hpv hl hz
    go_enter Try.func23, Try.ntmps23
    go_wp2_with fail
    refine wp_loop_rounds 1 ?_
    rw [rounds_succ]
    go_wp2_with fail
    go_ret
    exact ⟨rfl, Upds.refl _ _⟩
  · rw [hpv] at hc1
    have HR := hid hr
    have HT := hid ht
    clear hD hpv hr ht hcl
    go_enter Try.func23, Try.ntmps23
    go_wp2_with fail
    go_loopw [5, 13] (fun s5 s13 wr => ∃ k : Nat, k ≤ D.pend.length ∧ s13 = .int .i64 k ∧ s5 = .int .i64 (((D.pend.take k).filter (fun p => decide (p.sys = s))).length : Nat) ∧ Upds (fun _ => False) w wr) (fun _ s13 _ => D.pend.length - (RowKit.intOf s13).toNat)
    case atStart => exact ⟨0, Nat.zero_le _, rfl, rfl, Upds.refl _ _⟩
    case round =>
      obtain ⟨k, hk, rfl, rfl, hu⟩ := hrel
      have HU := hid hu
      have hcb : ((D.pend.take k).filter (fun p => decide (p.sys = s))).length ≤ k := Nat.le_trans (List.length_filter_le _ _) (List.length_take_le _ _)
      by_cases hlt : k < D.pend.length
      · have hp := PwAt.of_take HT.out k hlt
        have hrk := HR.out.upd hu (fun h => h)
        have c0 : wr.cell? ⟨pb, k * 3, none⟩ = some (.int .i64 D.pend[k].sys) := hrk.cell hp.sys
        have c1 : wr.cell? ⟨pb, k * 3 + 1, none⟩ = some (.int .i64 D.pend[k].sec) := hrk.cell hp.sec
        have c2 : wr.cell? ⟨pb, k * 3 + 2, none⟩ = some (.string D.pend[k].dat) := hrk.cell hp.dat
        have hct := count_take D.pend s k hlt
        obtain ⟨p, hpe⟩ : ∃ p, p = D.pend[k] := ⟨_, rfl⟩
        obtain ⟨m, hm⟩ : ∃ m, m = ((D.pend.take k).filter (fun p => decide (p.sys = s))).length := ⟨_, rfl⟩
        rw [← hpe] at c0 c1 c2 hct
        rw [← hm] at hct hcb ⊢
        have HCT := hid hct
        clear hp hrk hct hpe hm hu
        by_cases hps : p.sys = s
        · have hb : (p.sys == s) = true := beq_iff_eq.2 hps
          have HPS := hid hps
          clear hps
          go_wp2_with fail
          go_roundw
          case rel => exact ⟨k + 1, by omega, by go_num, by rw [HCT.out, if_pos HPS.out]; go_num, HU.out.trans (Upds.alloc _ _)⟩
          case measure => simp [RowKit.intOf]; omega
        · have hb : (p.sys == s) = false := beq_eq_false_iff_ne.2 hps
          have HPS : Hid (¬ p.sys = s) := hps
          clear hps
          go_wp2_with fail
          go_roundw
          case rel => exact ⟨k + 1, by omega, by go_num, by rw [HCT.out, if_neg HPS.out]; rfl, HU.out.trans (Upds.alloc _ _)⟩
          case measure => simp [RowKit.intOf]; omega
      · obtain rfl : k = D.pend.length := by omega
        clear hu
        go_wp2_with fail
        go_ret
        exact ⟨by unfold DS.count; rw [List.take_length]; rfl, HU.out⟩
set_option maxRecDepth 100000 in
theorem repair_any (base : Nat) (L : Lay) (D : DS) (w : World) (hD : Dev w base L D) :
    Calls Try.prog 44 #[.pointer (some ⟨L.b, 0, none⟩)] w fun e w' => e = .returned (.tuple #[]) ∧ DevTo w base L D.repair w' := by
  have g6 := hD.c6
  have g7 := hD.c7
  have g8 := hD.c8
  have g9 := hD.c9
  have f6 := hD.blk.frozen 6
  have f7 := hD.blk.frozen 7
  have f8 := hD.blk.frozen 8
  have f9 := hD.blk.frozen 9
  have HD := hid hD
  clear hD
  go_enter Try.func44, Try.ntmps44
  go_wp2_with fail
  go_end0
  have hok := HD.out.ok
  exact ⟨rfl, HD.out.refail (D' := D.repair) none 0 ((((HD.out.blk.set 6 _).set 7 _).set 8 _).set 9 _) ((((Upds.set1 _ _ _ _).trans (Upds.set1 _ _ _ _)).trans (Upds.set1 _ _ _ _)).trans (Upds.set1 _ _ _ _)) rfl rfl rfl
    ⟨hok.pos, hok.most, hok.st, hok.er, hok.ers, hok.pend, hok.fen, by show -9223372036854775808 ≤ (0 : Int) ∧ (0 : Int) ≤ 9223372036854775807; omega, fun x hx => (by cases hx), fun _ => rfl⟩
    (fun h => absurd h (Nat.lt_irrefl 0)) (fun x h => absurd h (Nat.lt_irrefl 0)) (Nat.zero_le _)⟩
theorem cells_fen (L : Lay) (D : DS) (j : Nat) (hj : j < 4) (m : Int) : (L.cells D).set (2 + j) (.int .i64 m) = Lay.cells { L with va := L.va, vc := L.vc } { D with fen := fun i => if i = j then m else D.fen i } := by
  rcases (show j = 0 ∨ j = 1 ∨ j = 2 ∨ j = 3 by omega) with rfl | rfl | rfl | rfl <;> rfl
/-- a fence is set -/
theorem Dev.refence {w : World} {base : Nat} {L : Lay} {D : DS} (h : Dev w base L D) (j : Nat) (hj : j < 4) (m : Int) (h1 : -1 ≤ m) (h2 : m ≤ 9223372036854775807) (n : Nat) :
    DevTo w base L { D with fen := fun i => if i = j then m else D.fen i } ((w.setCell ⟨L.b, 2 + j, none⟩ (.int .i64 m)).drewN n) := by
  have hok := h.ok
  have hu : Upds (fun k => k = L.b) w ((w.setCell ⟨L.b, 2 + j, none⟩ (.int .i64 m)).drewN n) := (Upds.set1 _ _ _ _).trans (Upds.drewN _ _)
  refine h.refail (D' := { D with fen := fun i => if i = j then m else D.fen i }) L.va L.vc ?_ hu rfl rfl rfl ⟨hok.pos, hok.most, hok.st, hok.er, hok.ers, hok.pend, fun i => ?_, hok.left, hok.surv, hok.off⟩
    (h.surv.upd hu (fun x hx h0 e => h.va_ne h0 x hx (.inl e))) (fun x h0 hx => ?_) h.few.2
  · rw [← cells_fen L D j hj m]; exact h.blk.set (2 + j) (.int .i64 m)
  · show -1 ≤ (if i = j then m else D.fen i) ∧ (if i = j then m else D.fen i) ≤ 9223372036854775807
    split
    · exact ⟨h1, h2⟩
    · exact hok.fen i
  · obtain ⟨g1, cur, g2⟩ := h.sva x h0 hx
    exact ⟨g1, cur, hu.obj (fun e => h.no_ints _ _ g2 (.inl e)) g2⟩
set_option maxRecDepth 100000 in
theorem fence_any (base : Nat) (L : Lay) (D : DS) (s e : Int) (he : e ≤ 9223372036854775807) (w : World) (hD : Dev w base L D) :
    Calls Try.prog 25 #[.pointer (some ⟨L.b, 0, none⟩), .int .i64 s, .int .i64 e] w fun x w' => x = .returned (.tuple #[]) ∧ DevTo w base L (D.fence s e) w' := by
  by_cases hs : 1 ≤ s ∧ s ≤ 4
  · obtain ⟨j, hj, rfl⟩ : ∃ j : Nat, j < 4 ∧ s = (j : Int) + 1 := ⟨(s - 1).toNat, by omega, by omega⟩
    have hr : D.fence ((j : Int) + 1) e = { D with fen := fun i => if i = j then max (D.fen i) e else D.fen i } := by
      unfold DS.fence; rw [if_pos hs]
      rw [show ((j : Int) + 1 - 1).toNat = j by omega]
    have hfen : w.cell? ⟨L.b, 2 + j, none⟩ = some (.int .i64 (D.fen j)) := by
      rcases (show j = 0 ∨ j = 1 ∨ j = 2 ∨ j = 3 by omega) with rfl | rfl | rfl | rfl
      · exact hD.c2
      · exact hD.c3
      · exact hD.c4
      · exact hD.c5
    have f2 := hD.blk.frozen (2 + j)
    have hlo := hD.ok.fen j
    have HD := hid hD
    have HR := hid hr
    clear hD hr hs
    by_cases hm : D.fen j < e
    · have HM : Hid (D.fence ((j : Int) + 1) e = { D with fen := fun i => if i = j then e else D.fen i }) := by
        rw [HR.out]
        show DS.mk _ _ _ _ _ _ _ _ = DS.mk _ _ _ _ _ _ _ _
        congr 1
        funext i
        split
        · rename_i h; subst h; exact Int.max_eq_right (by omega)
        · rfl
      have hj1 : (0 : Int) ≤ (j : Int) := by omega
      have hj2 : (j : Int) < 4 := by omega
      have hw1 : IntKind.i64.wrap (j : Int) = (j : Int) := IntWalk.i64_in _ (by omega)
      go_enter Try.func25, Try.ntmps25
      go_wp2_with fail
      refine wp_region_still_tail 15 (by kernel_rfl) (by kernel_rfl) ?_
      simp only [List.take_succ_cons, List.take_zero, List.drop_succ_cons, List.drop_zero]
      repeat still_step
      refine wpStill_nil ?_
      show wpList _ _ _ _ _ w.drew
      go_wp2_with fail
      go_end0
      rw [HM.out]
      exact ⟨rfl, HD.out.refence j hj e (by omega) he 1⟩
    · have HM : Hid (D.fence ((j : Int) + 1) e = { D with fen := fun i => if i = j then D.fen j else D.fen i }) := by
        rw [HR.out]
        show DS.mk _ _ _ _ _ _ _ _ = DS.mk _ _ _ _ _ _ _ _
        congr 1
        funext i
        split
        · rename_i h; subst h; exact Int.max_eq_left (by omega)
        · rfl
      have hj1 : (0 : Int) ≤ (j : Int) := by omega
      have hj2 : (j : Int) < 4 := by omega
      have hw1 : IntKind.i64.wrap (j : Int) = (j : Int) := IntWalk.i64_in _ (by omega)
      go_enter Try.func25, Try.ntmps25
      go_wp2_with fail
      refine wp_region_still_tail 15 (by kernel_rfl) (by kernel_rfl) ?_
      simp only [List.take_succ_cons, List.take_zero, List.drop_succ_cons, List.drop_zero]
      repeat still_step
      refine wpStill_nil ?_
      show wpList _ _ _ _ _ w.drew
      go_wp2_with fail
      go_end0
      rw [HM.out]
      exact ⟨rfl, HD.out.refence j hj (D.fen j) hlo.1 hlo.2 1⟩
  · have hr : D.fence s e = D := by unfold DS.fence; rw [if_neg hs]
    rw [hr]
    have HD := hid hD
    clear hr hD
    by_cases h1 : 1 ≤ s
    · have h2 : ¬ s ≤ 4 := fun h => hs ⟨h1, h⟩
      clear hs
      go_enter Try.func25, Try.ntmps25
      go_wp2_with fail
      go_end0
      exact ⟨rfl, HD.out.to (Upds.refl _ _)⟩
    · clear hs
      go_enter Try.func25, Try.ntmps25
      go_wp2_with fail
      go_end0
      exact ⟨rfl, HD.out.to (Upds.refl _ _)⟩

/-- the device behind a change of its sectors alone -/
theorem Dev.resec {w w1 : World} {base : Nat} {L : Lay} {D : DS} (h : Dev w base L D) (sec' : Nat → Sec) (hu : Upds (fun k => k = L.sb) w w1) (hs : Secs w1 L.sb D.n sec') (ok : DS.Ok { D with sec := sec' }) : DevTo w base L { D with sec := sec' } w1 := by
  refine ⟨L, ⟨h.blk.upd hu h.b_ne_sb, hs, h.pend.upd hu (fun k hk e => h.sb_ne_pb k hk e.symm), h.surv.upd hu (fun x hx h0 e => h.va_ne h0 x hx (.inr (.inl e))), fun x h0 hx => ?_, h.hb, h.hsb, h.hpb, ok, h.cap, h.few⟩, rfl, hu.mono (fun k e => .inr (.inl e)), fun k hk => .inl hk⟩
  obtain ⟨g1, cur, g2⟩ := h.sva x h0 hx
  exact ⟨g1, cur, hu.obj (fun e => h.no_ints _ _ g2 (.inr (.inl e))) g2⟩
theorem SecsIs.setSt {cur : List Value} {n : Nat} {f : Nat → Sec} (h : SecsIs cur n f) (i : Nat) (hi : i < n) (c : ByteArray) : SecsIs (cur.set (i * 10) (.string c)) n (upS f i ⟨c, (f i).er⟩) := by
  have hl := h.len
  have hs := h.sec i hi
  refine h.up i _ (List.length_set ..) (fun j hj => List.getElem?_set_ne (by omega)) ⟨List.getElem?_set_self (by omega), fun j hj => ?_, ?_, hs.few⟩
  · obtain ⟨t, h1, h2⟩ := hs.er j hj
    exact ⟨t, by rw [List.getElem?_set_ne (by omega)]; exact h1, h2⟩
  · rw [List.getElem?_set_ne (by omega)]; exact hs.kept
theorem DS.Ok.setSt {D : DS} (h : D.Ok) (i : Nat) (c : ByteArray) (hc : c.size = 140) : DS.Ok { D with sec := upS D.sec i ⟨c, (D.sec i).er⟩ } := by
  have key : ∀ (P : Sec → Prop), P ⟨c, (D.sec i).er⟩ → ∀ j, P (D.sec j) → P (upS D.sec i ⟨c, (D.sec i).er⟩ j) := fun P h1 j h2 => by
    unfold upS; split
    · exact h1
    · exact h2
  refine ⟨h.pos, h.most, fun j hj => key (fun s => s.st.size = 140) hc j (h.st j hj), fun j hj => ?_, fun j hj => ?_, h.pend, h.fen, h.left, h.surv, h.off⟩
  · show (upS D.sec i ⟨c, (D.sec i).er⟩ j).er.length ≤ 8
    unfold upS; split
    · rename_i e; subst e; exact h.er j hj
    · exact h.er j hj
  · show ∀ s ∈ (upS D.sec i ⟨c, (D.sec i).er⟩ j).er, s.size = 140
    unfold upS; split
    · rename_i e; subst e; exact h.ers j hj
    · exact h.ers j hj
open Classical in
/-- an earlier content comes back -/
noncomputable def DS.ret (D : DS) (s b : Int) : Int × DS :=
  if D.has s ∧ 1 ≤ b ∧ b ≤ (D.sec s.toNat).er.length then (0, { D with sec := upS D.sec s.toNat ⟨(D.sec s.toNat).er.getD (b.toNat - 1) ⟨#[]⟩, (D.sec s.toNat).er⟩ }) else (2, D)
def OpPost (base : Nat) (L : Lay) (w : World) (r : Int × DS) (x : Ending) (w' : World) : Prop := x = .returned (.int .i64 r.1) ∧ DevTo w base L r.2 w'
set_option maxRecDepth 100000 in
theorem return_any (base : Nat) (L : Lay) (D : DS) (s b : Int) (w : World) (hD : Dev w base L D) :
    Calls Try.prog 27 #[.pointer (some ⟨L.b, 0, none⟩), .int .i64 s, .int .i64 b] w (OpPost base L w (D.ret s b)) := by
  by_cases hs : D.has s
  · obtain ⟨i, rfl⟩ := Int.eq_ofNat_of_zero_le hs.1
    have hi : i < D.n := by have := hs.2; omega
    obtain ⟨cur, hrw, hsec⟩ := hD.secs
    have c9 : w.cell? ⟨L.sb, i * 10 + 9, none⟩ = some (.int .i64 (D.sec i).er.length) := hrw.cell (hsec.sec i hi).kept
    have c0 := hD.c0
    have hfew := (hsec.sec i hi).few
    have HH := hid (has_true base L D i hs w hD)
    have HS := hid hs
    have HD := hid hD
    by_cases hb1 : b < 1
    · have hr : D.ret i b = (2, D) := by unfold DS.ret; rw [if_neg (fun h => by omega)]
      rw [hr]
      clear hD hs hr hrw hsec
      go_enter Try.func27, Try.ntmps27
      go_wp2_with fail
      refine HH.out.mono ?_
      rintro e w' ⟨rfl, rfl⟩
      go_wp2_with fail
      go_ret
      exact ⟨rfl, HD.out.to (Upds.refl _ _)⟩
    · by_cases hb2 : ((D.sec i).er.length : Int) < b
      · have hr : D.ret i b = (2, D) := by unfold DS.ret; rw [if_neg (fun h => by simp only [Int.toNat_natCast] at h; omega)]
        rw [hr]
        clear hD hs hr hrw hsec
        go_enter Try.func27, Try.ntmps27
        go_wp2_with fail
        refine HH.out.mono ?_
        rintro e w' ⟨rfl, rfl⟩
        go_wp2_with fail
        go_ret
        exact ⟨rfl, HD.out.to (Upds.refl _ _)⟩
      · obtain ⟨m, rfl⟩ : ∃ m : Nat, b = (m : Int) + 1 := ⟨(b - 1).toNat, by omega⟩
        have hm : m < (D.sec i).er.length := by omega
        have hr : D.ret i ((m : Int) + 1) = (0, { D with sec := upS D.sec i ⟨(D.sec i).er[m], (D.sec i).er⟩ }) := by
          unfold DS.ret
          rw [if_pos ⟨hs, by omega, by simp only [Int.toNat_natCast]; omega⟩]
          simp only [Int.toNat_natCast]
          rw [show ((m : Int) + 1).toNat - 1 = m by omega, List.getD_eq_getElem?_getD, List.getElem?_eq_getElem hm]; rfl
        rw [hr]
        obtain ⟨t, ht1, ht2⟩ := (hsec.sec i hi).er m (by omega)
        have ht3 := ht2 hm
        subst ht3
        have cm : w.cell? ⟨L.sb, i * 10 + 1 + m, none⟩ = some (.string (D.sec i).er[m]) := hrw.cell ht1
        have cs : w.cell? ⟨L.sb, i * 10, none⟩ = some (.string (D.sec i).st) := hrw.cell (hsec.sec i hi).st
        have fs := hrw.frozen (i * 10)
        have hsz : (D.sec i).er[m].size = 140 := HD.out.ok.ers i hi _ (List.getElem_mem hm)
        have HSZ := hid hsz
        have HRW := hid hrw
        have HSEC := hid hsec
        have hm0 : (0 : Int) ≤ (m : Int) := by omega
        have hm1 : (m : Int) < 8 := by omega
        have hi0 : (0 : Int) ≤ (i : Int) := by omega
        have hi1 : (i : Int) < (D.n : Int) := by omega
        have hw1 : IntKind.i64.wrap (m : Int) = (m : Int) := IntWalk.i64_in _ (by omega)
        clear hD hs hr hrw hsec ht1 ht2 hsz
        obtain ⟨c, hc⟩ : ∃ c, c = (D.sec i).er[m] := ⟨_, rfl⟩
        rw [← hc] at cm HSZ ⊢
        clear hc
        go_enter Try.func27, Try.ntmps27
        go_wp2_with fail
        refine HH.out.mono ?_
        rintro e w' ⟨rfl, rfl⟩
        go_wp2_with fail
        refine wp_region_still_tail 18 (by kernel_rfl) (by kernel_rfl) ?_
        simp only [List.take_succ_cons, List.take_zero, List.drop_succ_cons, List.drop_zero]
        repeat still_step
        refine wpStill_nil ?_
        show wpList _ _ _ _ _ w.drew
        go_wp2_with fail
        go_ret
        refine ⟨rfl, HD.out.resec _ ((Upds.set1 _ _ _ _).trans (Upds.drew _)) ⟨_, HRW.out.set (i * 10) (.string c), HSEC.out.setSt i hi c⟩ (HD.out.ok.setSt i c HSZ.out)⟩
  · have hr : D.ret s b = (2, D) := by unfold DS.ret; rw [if_neg (fun h => hs h.1)]
    rw [hr]
    have HH := hid (has_false base L D s hs w hD)
    have HD := hid hD
    clear hD hs hr
    go_enter Try.func27, Try.ntmps27
    go_wp2_with fail
    refine HH.out.mono ?_
    rintro e w' ⟨rfl, rfl⟩
    go_wp2_with fail
    go_ret
    exact ⟨rfl, HD.out.to (Upds.refl _ _)⟩
end Go.Proofs.Ytfcaodaaklngmaa
