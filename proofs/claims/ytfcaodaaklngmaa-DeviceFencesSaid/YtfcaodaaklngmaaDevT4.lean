import Derived.Test.YtfcaodaaklngmaaDevD
import Derived.StillTailTactics
/-! Pending writes end. -/
namespace Go.Proofs.Ytfcaodaaklngmaa
open Go.Lib Go.ChangeShapes Go.WideShapes Go.ChangeAt Go.RowKit

theorem Sec.take_size (s : Sec) (d : ByteArray) (n : Int) (hs : s.st.size = 140) (hd : d.size = 140) : (s.take d n).st.size = 140 := by
  unfold Sec.take Sec.change
  split
  · exact hs
  · exact joinN_size _ _ _ hd hs (clampN_le n)
theorem endAll_le (sel : PW → Bool) (sv : Nat → Int) (l : List PW) (f : Nat → Sec) : (endAll sel sv l f).1 ≤ l.length := by
  unfold endAll
  suffices h : ∀ (l : List PW) (a : Nat × (Nat → Sec)), (l.foldl (endStep sel sv) a).1 ≤ a.1 + l.length by simpa using h l (0, f)
  intro l
  induction l with
  | nil => intro a; simp
  | cons p l ih =>
    intro a
    refine Nat.le_trans (ih _) ?_
    have : (endStep sel sv a p).1 ≤ a.1 + 1 := by unfold endStep; split <;> simp
    rw [List.length_cons]; omega
theorem endAll_inv (P : Sec → Prop) (sel : PW → Bool) (sv : Nat → Int) (n : Nat) (l : List PW) (f : Nat → Sec) (hf : ∀ i, i < n → P (f i)) (hl : ∀ p ∈ l, ∀ s m, P s → P (s.take p.dat m)) : ∀ i, i < n → P ((endAll sel sv l f).2 i) := by
  unfold endAll
  suffices h : ∀ (l : List PW) (a : Nat × (Nat → Sec)), (∀ i, i < n → P (a.2 i)) → (∀ p ∈ l, ∀ s m, P s → P (s.take p.dat m)) → ∀ i, i < n → P ((l.foldl (endStep sel sv) a).2 i) from h l (0, f) hf hl
  intro l
  induction l with
  | nil => intro a ha _; exact ha
  | cons p l ih =>
    intro a ha hl
    refine ih _ (fun i hi => ?_) (fun q hq => hl q (List.mem_cons_of_mem _ hq))
    unfold endStep
    split
    · show P (upS a.2 p.sec _ i)
      unfold upS
      split
      · rename_i e; subst e; exact hl p (List.mem_cons_self ..) _ _ (ha _ hi)
      · exact ha i hi
    · exact ha i hi
theorem endAll_take_succ (sel : PW → Bool) (sv : Nat → Int) (l : List PW) (f : Nat → Sec) (k : Nat) (hk : k < l.length) : endAll sel sv (l.take (k + 1)) f = endStep sel sv (endAll sel sv (l.take k) f) l[k] := by
  rw [List.take_succ_eq_append_getElem hk, endAll_snoc]

theorem DS.done_ok {D : DS} (h : D.Ok) (sel : PW → Bool) (sv : Nat → Int) : (D.done sel sv).Ok := by
  have hp : ∀ p ∈ D.pend, p.dat.size = 140 := fun p hp => (h.pend p hp).2.2.2
  have hst : ∀ i, i < D.n → (((endAll sel sv D.pend D.sec).2 i).st.size = 140 ∧ ((endAll sel sv D.pend D.sec).2 i).er.length ≤ 8 ∧ ∀ s ∈ ((endAll sel sv D.pend D.sec).2 i).er, s.size = 140) :=
    endAll_inv (fun s => s.st.size = 140 ∧ s.er.length ≤ 8 ∧ ∀ t ∈ s.er, t.size = 140) sel sv D.n D.pend D.sec (fun i hi => ⟨h.st i hi, h.er i hi, h.ers i hi⟩) (fun p hpp s m hs => by
      refine ⟨Sec.take_size s p.dat m hs.1 (hp p hpp), ?_, ?_⟩
      · unfold Sec.take Sec.change
        split
        · exact hs.2.1
        · show ((s.st :: s.er).take 8).length ≤ 8
          rw [List.length_take]; omega
      · unfold Sec.take Sec.change
        split
        · exact hs.2.2
        · intro t ht
          have := List.mem_of_mem_take (show t ∈ (s.st :: s.er).take 8 from ht)
          rcases List.mem_cons.1 this with rfl | h'
          · exact hs.1
          · exact hs.2.2 t h')
  exact ⟨h.pos, h.most, fun i hi => (hst i hi).1, fun i hi => (hst i hi).2.1, fun i hi => (hst i hi).2.2, fun p hp => h.pend p (List.mem_filter.1 hp).1, h.fen, h.left, h.surv, h.off⟩

set_option maxRecDepth 100000 in
set_option maxHeartbeats 1000000 in
theorem end_any (g : Nat) (lb : Array Value) (eg : ∀ args w, (callFunc g args).run Try.prog w = .ok (.enter g args) w) (sel : PW → Bool) (h : Nat) (lb2 : Array Value) (eh : ∀ args w, (callFunc h args).run Try.prog w = .ok (.enter h args) w) (sv : Nat → Int)
    (base : Nat) (L : Lay) (D : DS) (w : World) (hD : Dev w base L D) (hw : base ≤ w.heap.size) (hsel : Chooses g lb sel L.own w)
    (hsv : ∀ W, Upds L.own w W → ∀ i : Nat, i ≤ 100000 → Calls Try.prog h (#[.int .i64 i] ++ lb2) W fun x W' => x = .returned (.int .i64 (sv i)) ∧ W = W') :
    Calls Try.prog 49 #[.pointer (some ⟨L.b, 0, none⟩), .func (.func g) #[] lb, .func (.func h) #[] lb2] w fun e w' => e = .returned (.tuple #[]) ∧ DevTo w base L (D.done sel sv) w' := by
  have hc0 := hD.c0
  have hc1 := hD.c1
  rcases hD.pend with ⟨a, hpv, hl⟩ | ⟨pb, cap, cur, hpv, hr, ht, hcl, hcap, hmax, hpos⟩
  · have HDD := hid hD
    have HL := hid hl
    have HPV := hid hpv
    rw [hpv] at hc1
    clear hD hl hpv hsel hsv
    have hf1 := HDD.out.blk.frozen 1
    go_enter Try.func49, Try.ntmps49
    go_wp2_with fail
    refine wp_loop_rounds 1 ?_
    rw [rounds_succ]
    go_wp2_with fail
    refine (strike_empty _ _ _).mono ?_
    rintro e w1 ⟨rfl, rfl⟩
    go_wp2_with fail
    go_end0
    refine ⟨rfl, ?_⟩
    have := HDD.out.relist hw (endAll sel sv D.pend D.sec).2 (D.pend.filter fun p => !sel p) (.slice a 0 0) (Upds.refl _ _) (by rw [HL.out]; exact HDD.out.secs) (.inl ⟨a, rfl, by rw [HL.out]; rfl⟩) (fun k hk => by obtain ⟨_, _, _, e, hc, _⟩ := hk; simp at e; omega) (DS.done_ok HDD.out.ok sel sv) (by rw [HL.out]; exact Nat.zero_le _)
    exact this
  · have HDD := hid hD
    have HPV := hid hpv
    have hnl : D.pend.length ≤ 100000 := hD.few.1
    have hf1 := hD.blk.frozen 1
    have hne := hD.b_ne_sb
    have hbp : L.b ≠ pb := hD.b_ne_pb pb ⟨_, _, _, hpv, hpos, rfl⟩
    have hsp : L.sb ≠ pb := hD.sb_ne_pb pb ⟨_, _, _, hpv, hpos, rfl⟩
    have hhome : Value.home L.pv pb := ⟨_, _, _, hpv, hpos, rfl⟩
    have hsub : Hid (∀ k, (k = L.sb) → L.own k) := fun k e => .inr (.inl e)
    have hsub2 : Hid (∀ k, (k = pb) → L.own k) := fun k e => e ▸ .inr (.inr hhome)
    rw [hpv] at hc1
    have HR := hid hr
    have HT := hid ht
    have HCL := hid hcl
    have HSEL := hid hsel
    have HSV := hid hsv
    have HNE := hid hne
    have HBP := hid hbp
    have HSP := hid hsp
    have HHM := hid hhome
    have hsc := hD.cap
    have hlow := hD.ok
    have HOK := hid hlow
    clear hD hpv hr ht hcl hsel hsv hne hbp hsp hhome hlow
    go_enter Try.func49, Try.ntmps49
    go_wp2_with fail
    go_loopw [6, 14] (fun s6 s14 wr => ∃ k : Nat, k ≤ D.pend.length ∧ s14 = .int .i64 k ∧ s6 = .int .i64 (endAll sel sv (D.pend.take k) D.sec).1 ∧ Secs wr L.sb D.n (endAll sel sv (D.pend.take k) D.sec).2 ∧ Upds (fun k => k = L.sb) w wr) (fun _ s14 _ => D.pend.length - (intOf s14).toNat)
    case atStart => exact ⟨0, Nat.zero_le _, rfl, rfl, HDD.out.secs, Upds.refl _ _⟩
    case round =>
      obtain ⟨k, hk, rfl, rfl, hse, hu⟩ := hrel
      have HSE := hid hse
      have HU := hid hu
      clear hse hu
      by_cases hlt : k < D.pend.length
      · have hp := PwAt.of_take HT.out k hlt
        have hrk := HR.out.upd HU.out (fun e => HSP.out e.symm)
        have c0 : wr.cell? ⟨pb, k * 3, none⟩ = some (.int .i64 D.pend[k].sys) := hrk.cell hp.sys
        have c1 : wr.cell? ⟨pb, k * 3 + 1, none⟩ = some (.int .i64 D.pend[k].sec) := hrk.cell hp.sec
        have c2 : wr.cell? ⟨pb, k * 3 + 2, none⟩ = some (.string D.pend[k].dat) := hrk.cell hp.dat
        have hok := HOK.out.pend D.pend[k] (List.getElem_mem hlt)
        have hsecn := hok.2.2.1
        have HDAT := hid hok.2.2.2
        have HSTEP := hid (endAll_take_succ sel sv D.pend D.sec k hlt)
        have hcnt : (endAll sel sv (D.pend.take k) D.sec).1 ≤ k := Nat.le_trans (endAll_le _ _ _ _) (by rw [List.length_take]; omega)
        have HSZ : Hid (((endAll sel sv (D.pend.take k) D.sec).2 D.pend[k].sec).st.size = 140) := endAll_inv (fun s => s.st.size = 140) sel sv D.n _ D.sec HOK.out.st (fun p hp s m hs => Sec.take_size s p.dat m hs (HOK.out.pend p (List.mem_of_mem_take hp)).2.2.2) _ hsecn
        clear hp hrk hok
        obtain ⟨p, hp⟩ : ∃ p, p = D.pend[k] := ⟨_, rfl⟩
        obtain ⟨E, hE⟩ : ∃ E, E = endAll sel sv (D.pend.take k) D.sec := ⟨_, rfl⟩
        rw [← hp] at c0 c1 c2 hsecn HDAT HSTEP HSZ
        rw [← hE] at hcnt HSZ HSTEP HSE
        rw [← hE]
        have HP := hid hp
        have HE := hid hE
        clear hp hE
        have hcall := hid (HSEL.out (wr.alloc (.cells #[.int .i64 p.sys, .int .i64 p.sec, .string p.dat] 90)) ((HU.out.mono hsub.out).trans (Upds.alloc _ _)) p)
        have hv := hid (Row.new wr [.int .i64 p.sys, .int .i64 p.sec, .string p.dat] 90)
        cases hse : sel p
        · have HSX := hid hse
          clear hse
          go_wp2_with fail
          refine hcall.out.mono ?_
          rintro e w2 ⟨rfl, hu2⟩
          rw [HSX.out]
          have HU2 := hid hu2
          clear hu2 c0 c1 c2
          go_wp2_with fail
          go_roundw
          case rel =>
            have e1 : endAll sel sv (D.pend.take (k + 1)) D.sec = E := by rw [HSTEP.out]; unfold endStep; rw [HSX.out]; rfl
            refine ⟨k + 1, by omega, by go_num, by rw [e1], ?_, (HU.out.trans (Upds.alloc _ _)).trans (HU2.out.mono (fun _ h => h.elim))⟩
            rw [e1]
            exact (HSE.out.upd (Upds.alloc (F := fun _ => False) _ _) (fun h => h)).upd HU2.out (fun h => h)
          case measure => simp [intOf]; omega
        · have HSX := hid hse
          clear hse
          go_wp2_with fail
          refine hcall.out.mono ?_
          rintro e w2 ⟨rfl, hu2⟩
          rw [HSX.out]
          have HU2 := hid hu2
          have d1 : w2.cell? ⟨wr.heap.size, 1, none⟩ = some (.int .i64 p.sec) := (hv.out.upd HU2.out (fun h => h)).cell rfl
          have d2 : w2.cell? ⟨wr.heap.size, 2, none⟩ = some (.string p.dat) := (hv.out.upd HU2.out (fun h => h)).cell rfl
          have hu3 : Upds (fun k => k = L.sb) w w2 := (HU.out.trans (Upds.alloc _ _)).trans (HU2.out.mono (fun _ h => h.elim))
          have HU3 := hid hu3
          have e0 : w2.cell? ⟨L.b, 0, none⟩ = some (.slice (some ⟨L.sb, 0, none⟩) D.n L.sc) := hu3.cell HNE.out hc0
          have hse2 : Secs w2 L.sb D.n E.2 := (HSE.out.upd (Upds.alloc (F := fun _ => False) _ _) (fun h => h)).upd HU2.out (fun h => h)
          have HSV2 : Hid (∀ W, Like w2 W → Calls Try.prog h (#[.int .i64 E.1] ++ lb2) W fun x W' => x = .returned (.int .i64 (sv E.1)) ∧ W = W') := fun W hW => by
            obtain ⟨n, rfl⟩ := hW
            exact HSV.out (w2.drewN n) ((hu3.mono hsub.out).trans ⟨rfl, rfl, rfl, Nat.le_refl _, fun _ _ _ => rfl⟩) E.1 (by omega)
          have HTK : Hid (∀ W, Like w2 W → Calls Try.prog 69 #[.pointer (some ⟨L.sb, p.sec * 10, none⟩), .string p.dat, .int .i64 (sv E.1)] W fun e w' => e = .returned (.tuple #[]) ∧ Secs w' L.sb D.n (upS E.2 p.sec ((E.2 p.sec).take p.dat (sv E.1))) ∧ Upds (fun k => k = L.sb) w2 w') := fun W hW => by
            obtain ⟨n, rfl⟩ := hW
            refine (take_any L.sb D.n p.sec E.2 p.dat (sv E.1) hsecn HDAT.out HSZ.out (w2.drewN n) hse2).mono ?_
            rintro e w' ⟨h1, h2, h3⟩
            exact ⟨h1, h2, ⟨h3.os, h3.tape, h3.output, h3.size, h3.block⟩⟩
          clear hu2 hu3 c0 c1 c2 hse2
          go_wp2_with fail
          refine wp_region_still_tail 12 (by kernel_rfl) (by kernel_rfl) ?_
          simp only [List.take_succ_cons, List.take_zero, List.drop_succ_cons, List.drop_zero]
          repeat still_step
          refine wpStill_step (fun K hK => ?_)
          go_simp
          refine ⟨_, (HSV2.out w2.drew (Like.drew (Like.refl w2))).mono (fun _ _ h => ⟨h.1, h.2.symm⟩), hK _ ?_⟩
          clear hK K
          repeat still_step
          refine wpStill_nil ?_
          show wpList _ _ _ _ _ w2.drew
          go_wp2_with fail
          refine (HTK.out _ (Like.drew (Like.refl w2))).mono ?_
          rintro e w3 ⟨rfl, hs3, hu3⟩
          have HS3 := hid hs3
          have HU4 := hid hu3
          clear hs3 hu3
          go_wp2_with fail
          go_roundw
          case rel =>
            have e1 : endAll sel sv (D.pend.take (k + 1)) D.sec = (E.1 + 1, upS E.2 p.sec ((E.2 p.sec).take p.dat (sv E.1))) := by rw [HSTEP.out]; unfold endStep; rw [HSX.out]; rfl
            refine ⟨k + 1, by omega, by go_num, by rw [e1]; go_num, ?_, HU3.out.trans HU4.out⟩
            rw [e1]
            exact HS3.out
          case measure => simp [intOf]; omega
      · obtain rfl : k = D.pend.length := by omega
        have hp : D.pend.take D.pend.length = D.pend := List.take_length
        have HP := hid hp
        clear hp
        have e1 : wr.cell? ⟨L.b, 1, none⟩ = some (.slice (some ⟨pb, 0, none⟩) D.pend.length cap) := HU.out.cell HNE.out hc1
        have f1 : wr.frozen? ⟨L.b, 1, none⟩ = false := (HDD.out.blk.upd HU.out HNE.out).frozen 1
        have HRW := hid (HR.out.upd HU.out (fun e => HSP.out e.symm))
        have HSTR := hid (strike_any g lb eg sel D.pend (by omega) pb cap cur wr (fun W hW p => (HSEL.out.later HU.out (fun k _ e => hsub.out k e)) W (hW.mono hsub2.out) p) HRW.out HT.out HCL.out (by omega) (by omega))
        clear hlt
        go_wp2_with fail
        refine HSTR.out.mono ?_
        intro e w3 hx
        obtain ⟨rfl, ⟨cur3, hr3, ht3, hl3⟩, hu3⟩ := hx
        have HR3 := hid hr3
        have HT3 := hid ht3
        have HL3 := hid hl3
        have HU3 := hid hu3
        have f3 : w3.frozen? ⟨L.b, 1, none⟩ = false := ((HDD.out.blk.upd HU.out HNE.out).upd hu3 HBP.out).frozen 1
        have e3 : w3.cell? ⟨L.b, 1, none⟩ = some (.slice (some ⟨pb, 0, none⟩) D.pend.length cap) := hu3.cell HBP.out e1
        have hfl : (D.pend.filter fun p => !sel p).length ≤ D.pend.length := List.length_filter_le _ _
        clear hr3 ht3 hl3 hu3
        go_wp2_with fail
        go_end0
        refine ⟨rfl, ?_⟩
        refine HDD.out.relist hw (endAll sel sv D.pend D.sec).2 (D.pend.filter fun p => !sel p) (.slice (some ⟨pb, 0, none⟩) (D.pend.filter fun p => !sel p).length cap) ?_ ?_ (.inr ⟨pb, cap, cur3, rfl, HR3.out, HT3.out, HL3.out, by omega, hmax, hpos⟩) ?_ (DS.done_ok HOK.out sel sv) (by omega)
        · exact (HU.out.mono (fun k e => Or.inl e)).trans (HU3.out.mono (fun k (e : k = pb) => Or.inr (e ▸ HHM.out)))
        · have := HSE.out.upd HU3.out HSP.out
          rw [HP.out] at this
          exact this
        · intro k hk
          obtain ⟨a, n, c, e, hc, rfl⟩ := hk
          simp only [Value.slice.injEq, Option.some.injEq] at e
          obtain ⟨rfl, _⟩ := e
          exact .inl HHM.out
end Go.Proofs.Ytfcaodaaklngmaa
