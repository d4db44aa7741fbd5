/- Statement FixedBuilds: adding records one by one gives their blocks. For all numbers, and at most 40 records of at most 300 bytes, which is the statement's own bound. -/
import Derived.Test.YtllbjabnoicdfaaRows
import Derived.WalkKit
import Derived.ProofKit
import Derived.OpenShut
import Derived.ShutString
import Derived.ChangeOld
import Derived.Below
import Derived.Test.YtllbjabnoicdfaaSlices
import Derived.Test.YtllbjabnoicdfaaOpen
import Derived.Test.YtllbjabnoicdfaaFixT8
import Derived.Test.YtllbjabnoicdfaaFixT11
import Derived.Test.YtllbjabnoicdfaaFixT12
namespace Go.Proofs.Ytllbjabnoicdfaa
open Go.Lib Go.ChangeShapes Go.WideShapes Go.ChangeAt Go.RowKit
open Go.ChangeMaps (open_string shut_string)
set_option linter.unusedVariables false
/-- the blocks of what came: the last one, and those before it -/
def Built (m x : Nat) (l o : List ByteArray) (t : ByteArray) : Prop :=
  (l = [] ∧ o = [] ∧ t = ⟨#[]⟩) ∨ (∃ q c, l.length = q * m + c ∧ 1 ≤ c ∧ c ≤ m ∧ t.size = c * x) ∧ blocks m l = o ++ [t] ∧ 0 < t.size
theorem Built.size {m x : Nat} {l o : List ByteArray} {t : ByteArray} (h : Built m x l o t) (hm : 1 ≤ m) (hmx : m * x ≤ 1024) : t.size ≤ 1024 := by
  rcases h with ⟨_, _, rfl⟩ | ⟨⟨q, c, _, _, h3, h4⟩, _⟩
  · show (0 : Nat) ≤ 1024; omega
  · have : c * x ≤ m * x := Nat.mul_le_mul_right x h3
    omega
theorem Built.step {m x : Nat} {l o : List ByteArray} {t r : ByteArray} (h : Built m x l o t) (hm : 1 ≤ m) (hx : 1 ≤ x) (hr : r.size = x) :
    (takes x m t r ∧ Built m x (l ++ [r]) o (t ++ r)) ∨ (¬ takes x m t r ∧ blocks m l = o ++ [t] ∧ Built m x (l ++ [r]) (o ++ [t]) r) := by
  rcases h with ⟨rfl, rfl, rfl⟩ | ⟨⟨q, c, h1, h2, h3, h4⟩, h5, h6⟩
  · left
    refine ⟨⟨hr, 0, by rw [Nat.zero_mul]; rfl, by omega⟩, .inr ⟨⟨0, 1, by simp, by omega, by omega, ?_⟩, ?_, ?_⟩⟩
    · rw [ByteArray.size_append, hr]; show 0 + x = 1 * x; omega
    · have := blocks_new hm [] r 0 (by simp)
      rw [blocks_nil hm] at this
      rw [this, show (⟨#[]⟩ : ByteArray) ++ r = r from ByteArray.empty_append]
    · rw [ByteArray.size_append, hr]; omega
  · by_cases hc : c < m
    · left
      have hmore := blocks_more hm l r q (by omega) (by rw [Nat.succ_mul]; omega)
      rw [hmore.2] at h5
      have hinj := List.append_inj' h5 rfl
      have e2 : cat (part m l q) = t := by have := hinj.2; simpa using this
      refine ⟨⟨hr, c, h4, hc⟩, .inr ⟨⟨q, c + 1, by simp; omega, by omega, by omega, ?_⟩, ?_, ?_⟩⟩
      · rw [ByteArray.size_append, hr, h4, Nat.succ_mul]
      · rw [hmore.1, hinj.1, e2]
      · rw [ByteArray.size_append]; omega
    · right
      have hcm : c = m := by omega
      subst hcm
      refine ⟨fun ⟨_, n, h7, h8⟩ => ?_, h5, .inr ⟨⟨q + 1, 1, by rw [List.length_append, h1, Nat.succ_mul]; rfl, by omega, by omega, by rw [hr]; omega⟩, ?_, by omega⟩⟩
      · rw [h4] at h7
        have := Nat.eq_of_mul_eq_mul_right hx h7
        omega
      · rw [blocks_new hm l r (q + 1) (by rw [h1, Nat.succ_mul]), h5]
theorem lenOf_nat (x : Nat) (h : x ≤ 1000) : lenOf (x : Int) = x := by unfold lenOf; omega
theorem string_ne {d : ByteArray} (h : 0 < d.size) : ¬ d.toList = [] := by
  rw [ByteArray.toList_eq]
  intro e
  have : d.data.toList.length = 0 := by rw [e]; rfl
  have e2 : d.data.toList.length = d.size := by simp
  omega
set_option maxRecDepth 100000 in
set_option maxHeartbeats 2000000 in
theorem long_FixedBuilds (L B : Int) (A : Option Addr) (cap : Nat) (l : List ByteArray) (hz : ∀ x ∈ l, x.size ≤ 9223372036854775807) (w : World) (hr : StrsAt w (.slice A l.length cap) l) (hf : ¬ few l 40 300) :
    Calls Try.prog 8 #[.int .i64 L, .int .i64 B, .slice A l.length cap] w (Gives (.bool true) w) := by
  have Hr := hid hr
  have HN := hid hf
  have HZ := hid hz
  clear hr hf hz
  go_enter Try.func8, Try.ntmps8
  go_wp2_with fail
  refine (awake_any _).mono ?_
  rintro e w1 ⟨rfl, hb⟩
  replace Hr := hid (Hr.out.below hb (Nat.le_refl _))
  have B1 := hid (hb)
  clear hb
  go_wp2_with fail
  refine (few_no _ l 40 300 (by omega) (by omega) HZ.out HN.out _ Hr.out).mono ?_
  rintro e wq ⟨rfl, rfl⟩
  go_wp2_with fail
  refine (awake_any _).mono ?_
  rintro e w2 ⟨rfl, hb⟩
  replace Hr := hid (Hr.out.below hb (Nat.le_refl _))
  have B2 := hid (B1.out.trans (hb.mono B1.out.size))
  clear hb
  go_wp2_with fail
  go_ret
  exact ⟨rfl, B2.out⟩
set_option maxRecDepth 100000 in
set_option maxHeartbeats 2000000 in
theorem misfit_FixedBuilds (L B : Int) (A : Option Addr) (cap : Nat) (l : List ByteArray) (hz : ∀ x ∈ l, x.size ≤ 9223372036854775807) (w : World) (hr : StrsAt w (.slice A l.length cap) l) (hf : few l 40 300) (hn : ¬ fits L B) :
    Calls Try.prog 8 #[.int .i64 L, .int .i64 B, .slice A l.length cap] w (Gives (.bool true) w) := by
  have Hr := hid hr
  have HN := hid hf
  have V1 := fun W => hid (valid_any L B W)
  rw [decide_eq_false hn] at V1
  clear hr hf hz hn
  go_enter Try.func8, Try.ntmps8
  go_wp2_with fail
  refine (awake_any _).mono ?_
  rintro e w1 ⟨rfl, hb⟩
  replace Hr := hid (Hr.out.below hb (Nat.le_refl _))
  have B1 := hid (hb)
  clear hb
  go_wp2_with fail
  refine (few_yes _ l 40 300 (by omega) (by omega) HN.out _ Hr.out).mono ?_
  rintro e wq ⟨rfl, rfl⟩
  go_wp2_with fail
  refine ((V1 _).out).mono ?_
  rintro e wq ⟨rfl, rfl⟩
  go_wp2_with fail
  refine (awake_any _).mono ?_
  rintro e w2 ⟨rfl, hb⟩
  replace Hr := hid (Hr.out.below hb (Nat.le_refl _))
  have B2 := hid (B1.out.trans (hb.mono B1.out.size))
  clear hb
  go_wp2_with fail
  go_ret
  exact ⟨rfl, B2.out⟩
set_option maxRecDepth 100000 in
set_option maxHeartbeats 8000000 in
theorem main_FixedBuilds (x b : Nat) (hft : fits (x : Int) (b : Int)) (A : Option Addr) (cap : Nat) (l : List ByteArray) (w : World) (hr : StrsAt w (.slice A l.length cap) l) (hf : few l 40 300) :
    Calls Try.prog 8 #[.int .i64 x, .int .i64 b, .slice A l.length cap] w (Gives (.bool true) w) := by
  have Hr := hid hr
  have HN := hid hf
  have hl40 := hf.1
  have V1 := fun W => hid (valid_any x b W)
  rw [decide_eq_true hft] at V1
  have M1 := fun W => hid (most_any x b W)
  rw [mostI_nat hft] at M1
  have HFT := hid hft
  have hx1 : 1 ≤ x := by have := hft.1; omega
  have hx2 : x ≤ 1000 := by have := hft.2.1; omega
  have hm1 : 1 ≤ b / x := most_pos hx1 (by have := hft.2.2.1; omega)
  have hm2 : b / x ≤ 1024 := most_le (by have := hft.2.2.2; omega)
  have hmx : b / x * x ≤ 1024 := Nat.le_trans (Nat.div_mul_le_self b x) (by have := hft.2.2.2; omega)
  have K1 := fun v W hW => hid (records_any x v l (by omega) (fun y hy => by have := hf.2 y hy; omega) W hW)
  rw [lenOf_nat x hx2] at K1
  obtain ⟨R, hR⟩ : ∃ R, R = l.map (padB x) := ⟨_, rfl⟩
  have hRl : R.length = l.length := by rw [hR, List.length_map]
  have hRz : ∀ y ∈ R, y.size = x := fun y hy => by
    rw [hR] at hy
    obtain ⟨z, _, rfl⟩ := List.mem_map.1 hy
    exact padB_size x z
  rw [← hR] at K1
  have P1 := fun A cap W hW => hid (pack_ok x b hft A cap R (by omega) hRz W hW)
  have HRZ := hid hRz
  have hR40 : R.length ≤ 40 := by omega
  have Y1 := fun d r (h : takes x (b / x) d r) (hd : d.size ≤ 100000) W => hid (add_yes x b hft d r hd h W)
  have N1 := fun d r (hn : ¬ takes x (b / x) d r) (hd : d.size ≤ 100000) (hr : r.size ≤ 100000) W => hid (add_no x b d r hd hr (fun l c h1 h2 _ => by
    have e1 : l = x := by omega
    have e2 : c = b := by omega
    subst e1 e2; exact hn) W)
  obtain ⟨m, hmm⟩ : ∃ m, m = b / x := ⟨_, rfl⟩
  rw [← hmm] at Y1 N1 P1 M1 hm1 hm2 hmx
  have HMX := hid hmx
  clear hR hRl hRz hr hf hft hmm hmx
  go_enter Try.func8, Try.ntmps8
  go_wp2_with fail
  refine (awake_any _).mono ?_
  rintro e w1 ⟨rfl, hb⟩
  replace Hr := hid (Hr.out.below hb (Nat.le_refl _))
  have B1 := hid (hb)
  clear hb
  go_wp2_with fail
  refine (few_yes _ l 40 300 (by omega) (by omega) HN.out _ Hr.out).mono ?_
  rintro e wq ⟨rfl, rfl⟩
  go_wp2_with fail
  refine ((V1 _).out).mono ?_
  rintro e wq ⟨rfl, rfl⟩
  go_wp2_with fail
  refine ((K1 _ _ Hr.out).out).mono ?_
  rintro e w2 ⟨v, rfl, h1, hb⟩
  replace Hr := hid (Hr.out.below hb (Nat.le_refl _))
  have B2 := hid (B1.out.trans (hb.mono B1.out.size))
  have Hv := hid h1
  clear h1 hb
  obtain ⟨Av, capv, rfl, hcv1, hcv2⟩ := Hv.out.shape
  go_wp2_with fail
  go_loopw [8, 9, 36] (fun u s i wr => ∃ (j : Nat) (u' : Value) (o : List ByteArray) (t : ByteArray), u = u' ∧ s = .string t ∧ j ≤ R.length ∧ i = .int .i64 j ∧ OwnStrs wr u' o ∧ Fresh w2 u' ∧ Below w2.heap.size w2 wr ∧ o.length ≤ j ∧ Built m x (R.take j) o t) (fun _ _ i _ => R.length - (RowKit.intOf i).toNat)
  case atStart => exact ⟨0, _, [], ⟨#[]⟩, rfl, rfl, by omega, by go_num, OwnStrs.nil _ _, (by rintro k ⟨a, n, c, e, hc, _⟩; cases e; omega), (Below.refl _ _).alloc (Nat.le_refl _) _, by simp, .inl ⟨rfl, rfl, rfl⟩⟩
  case round =>
    obtain ⟨j, u, o, t, rfl, rfl, hj, rfl, ho, hfr, hb, hol, hbt⟩ := hrel
    have HB := hid hb
    have HO := hid ho
    have HF := hid hfr
    have HBT := hid hbt
    by_cases hlt : j < R.length
    · obtain ⟨b0, off, rfl, hb0, c0⟩ := (Hv.out.below hb (Nat.le_refl _)).round hlt
      have hxz := HRZ.out _ (List.getElem_mem hlt)
      obtain ⟨r, hre⟩ : ∃ r, r = R[j] := ⟨_, rfl⟩
      have htk : R.take (j + 1) = R.take j ++ [r] := by rw [hre, List.take_succ_eq_append_getElem hlt]
      rw [← hre] at c0 hxz
      have hts := hbt.size hm1 HMX.out
      have HTK := hid htk
      have HXZ := hid hxz
      obtain ⟨A2, capu, rfl⟩ := HO.out.shape
      rcases hbt.step hm1 hx1 hxz with ⟨hyes, hnew⟩ | ⟨hno, hall, hnew⟩
      · have Y := fun W => hid (Y1 t r hyes (by omega) W).out
        have HNEW := hid hnew
        clear hre htk ho hfr hb hbt hyes hnew hts hxz
        go_wp2_with fail
        refine (Y _).out.mono ?_
        rintro e wa ⟨rfl, hb⟩
        have HA := hid (HB.out.trans (hb.mono HB.out.size))
        have HOA := hid (HO.out.below hb (Nat.le_refl _))
        clear hb
        go_wp2_with fail
        go_roundw
        case rel => exact ⟨j + 1, _, o, t ++ r, rfl, rfl, by omega, by go_num, HOA.out, HF.out, HA.out, by omega, by rw [HTK.out]; exact HNEW.out⟩
        case measure => simp [RowKit.intOf]; omega
      · have Y := fun W => hid (N1 t r hno (by omega) (by omega) W).out
        have Z := fun W => hid (Y1 ⟨#[]⟩ r ⟨hxz, 0, by rw [Nat.zero_mul]; rfl, by omega⟩ (by show (0 : Nat) ≤ _; omega) W).out
        rw [show (⟨#[]⟩ : ByteArray) ++ r = r from ByteArray.empty_append] at Z
        have HNEW := hid hnew
        have HALL := hid hall
        obtain ⟨cs, hcs⟩ : ∃ cs, cs = o.map Value.string := ⟨_, rfl⟩
        obtain ⟨n, hn⟩ : ∃ n, n = o.length := ⟨_, rfl⟩
        have ho2 := HO.out
        unfold OwnStrs at ho2
        rw [← hcs, ← hn] at ho2
        rw [← hn] at HO HF hol ⊢
        have HO2 := hid ho2
        have HCS := hid hcs
        have HNN := hid hn
        clear hre htk ho hfr hb hbt hno hnew hall hts hxz hcs hn ho2
        go_wp2_with fail
        refine (Y _).out.mono ?_
        rintro e wa ⟨rfl, hb⟩
        have HA := hid (HB.out.trans (hb.mono HB.out.size))
        have hza := HA.out.size
        have HOA := hid (SliceIs.upd HO2.out (Upds.of_below hb (Nat.le_refl _)) (F := fun _ => False) (fun _ _ h => h))
        clear hb
        go_wp2_with (at_builtin; refine wpList_append_slice rfl (.tmp 50) (.tmp 52) 22 rfl 9 (.string ⟨#[]⟩) 1 16 Try.underlying22 (by kernel_rfl) (by kernel_rfl) _ n cs rfl (SliceIs.alloc HOA.out _) ⟨wa.heap.size, 0, none⟩ 1 1 [.string t] rfl rfl (news1 _ _ _ _ rfl) (by simp [Value.oneCell']) (by omega) (by omega) (by omega) ?_; intro g8 cap8 w8 hs8 hu8 hh8)
        have h8 := OwnStrs.more HNN.out.symm HCS.out hs8.out
        have hb8 : Below w2.heap.size w2 w8 := (HA.out.alloc HA.out.size _).trans (hu8.out.below (by simp; omega) (fun b hb => HF.out b hb))
        have hf8 : Fresh w2 (.slice (some ⟨g8, 0, none⟩) (n + 1) cap8) := fun b hb => (hh8.out b hb).elim (HF.out b) (fun h => by simp at h; omega)
        have H8 := hid h8
        have HB8 := hid hb8
        have HF8 := hid hf8
        clear h8 hb8 hf8 hza
        refine (Z _).out.mono ?_
        rintro e wc ⟨rfl, hb⟩
        have HC := hid (HB8.out.trans (hb.mono HB8.out.size))
        have HOC := hid (H8.out.below hb (Nat.le_refl _))
        clear hb
        go_wp2_with fail
        go_roundw
        case rel => exact ⟨j + 1, _, o ++ [t], r, rfl, rfl, by omega, by go_num, HOC.out, HF8.out, HC.out, by rw [List.length_append, List.length_singleton, ← HNN.out]; omega, by rw [HTK.out]; exact HNEW.out⟩
        case measure => simp [RowKit.intOf]; omega
    · obtain rfl : j = R.length := by omega
      rw [List.take_length] at hbt HBT
      obtain ⟨A2, capu, rfl⟩ := HO.out.shape
      have P2 := fun W hW => hid (P1 Av capv W hW).out
      rcases hbt with ⟨h1, rfl, rfl⟩ | ⟨h1, h2, h3⟩
      · have hbl : blocks m R = [] := by rw [h1]; exact blocks_nil hm1
        rw [hbl] at P2
        have Hv3 := hid (Hv.out.below hb (Nat.le_refl _))
        have HOT := hid HO.out.at
        clear ho hfr hb h1 hbl
        go_wp2_with fail
        refine (P2 _ Hv3.out).out.mono ?_
        rintro e wp ⟨vp, rfl, hvp, hb⟩
        have HP := hid (HB.out.trans (hb.mono HB.out.size))
        have HVP := hid hvp
        have HOP := hid (HOT.out.below hb (Nat.le_refl _))
        clear hb hvp
        go_wp2_with fail
        refine (same_yes _ _ [] _ HOP.out HVP.out).mono ?_
        rintro e wq ⟨rfl, hb⟩
        have HQ := hid (B2.out.trans ((HP.out.trans (hb.mono HP.out.size)).mono B2.out.size))
        clear hb
        go_wp2_with fail
        go_ret
        exact ⟨rfl, HQ.out⟩
      · have hne := string_ne h3
        have hie : t.toList.isEmpty = false := by simpa using hne
        rw [h2] at P2
        have Hv3 := hid (Hv.out.below hb (Nat.le_refl _))
        obtain ⟨cs, hcs⟩ : ∃ cs, cs = o.map Value.string := ⟨_, rfl⟩
        obtain ⟨n, hn⟩ : ∃ n, n = o.length := ⟨_, rfl⟩
        have ho2 := HO.out
        unfold OwnStrs at ho2
        rw [← hcs, ← hn] at ho2
        rw [← hn] at HO HF hol ⊢
        have HO2 := hid ho2
        have HCS := hid hcs
        have HNN := hid hn
        clear ho hfr hb h1 h2 h3 hcs hn ho2 HBT
        go_wp2_with (at_builtin; refine wpList_append_slice rfl (.tmp 67) (.tmp 69) 22 rfl 9 (.string ⟨#[]⟩) 1 16 Try.underlying22 (by kernel_rfl) (by kernel_rfl) _ n cs rfl (SliceIs.alloc HO2.out _) ⟨wr.heap.size, 0, none⟩ 1 1 [.string t] rfl rfl (news1 _ _ _ _ rfl) (by simp [Value.oneCell']) (by omega) (by omega) (by omega) ?_; intro g8 cap8 w8 hs8 hu8 hh8)
        have h8 := (OwnStrs.more HNN.out.symm HCS.out hs8.out).at
        have hbq : Below wr.heap.size wr w8 ∨ True := .inr trivial
        have hb8 : Below w2.heap.size w2 w8 := (HB.out.alloc HB.out.size _).trans (hu8.out.below (by have := HB.out.size; simp; omega) (fun b hb => HF.out b hb))
        have Hv8 := hid (Hv.out.below hb8 (Nat.le_refl _))
        have H8 := hid h8
        have HB8 := hid hb8
        clear h8 hb8 hbq
        refine (P2 _ Hv8.out).out.mono ?_
        rintro e wp ⟨vp, rfl, hvp, hb⟩
        have HP := hid (HB8.out.trans (hb.mono HB8.out.size))
        have HVP := hid hvp
        have HOP := hid (H8.out.below hb (Nat.le_refl _))
        clear hb hvp
        go_wp2_with fail
        refine (same_yes _ _ (o ++ [t]) _ HOP.out HVP.out).mono ?_
        rintro e wq ⟨rfl, hb⟩
        have HQ := hid (B2.out.trans ((HP.out.trans (hb.mono HP.out.size)).mono B2.out.size))
        clear hb
        go_wp2_with fail
        go_ret
        exact ⟨rfl, HQ.out⟩
theorem walk_FixedBuilds (L : Int) (B : Int) (Arecs : Option Addr) (lenrecs caprecs : Nat) (Crecs : Nat → Nat → Value) (w : World) (hL : -9223372036854775808 ≤ L ∧ L ≤ 9223372036854775807) (hB : -9223372036854775808 ≤ B ∧ B ≤ 9223372036854775807) (hlrecs : lenrecs ≤ caprecs) (hmrecs : caprecs ≤ maxLen) (hErecs : Elems w Arecs lenrecs 1 Crecs) (hsrecs : ∀ i, i < lenrecs → ∃ n : ByteArray, Crecs i 0 = .string n ∧ n.size ≤ maxLen) :
    Calls Try.prog 8 #[.int .i64 L, .int .i64 B, .slice Arecs lenrecs caprecs] w fun e w' => e = .returned (.bool true) ∧ Below w.heap.size w w' := by
  obtain ⟨l, hn, hr, hz⟩ := strs_of hlrecs hmrecs hErecs hsrecs
  subst hn
  by_cases hf : few l 40 300
  · by_cases hft : fits L B
    · obtain ⟨x, b, rfl, rfl, _⟩ := hft.nat
      exact main_FixedBuilds x b hft Arecs caprecs l w hr hf
    · exact misfit_FixedBuilds L B Arecs caprecs l hz w hr hf hft
  · exact long_FixedBuilds L B Arecs caprecs l hz w hr hf
namespace fixedBuilds
theorem own : ownKnob Try.prog.godebug = none := by kernel_rfl
theorem laidOut : laidOutB Try.prog = true := by kernel_rfl
set_option linter.unusedVariables false
set_option maxRecDepth 100000 in
theorem lifted (os : Os) (started : os.Started) (H : Type) (enc : TypeId × Value → H) :
    ReturnsInHanded {} Try.checked os 8 .any (Rows.fixedBuildsSpec.pre6 enc Try.prog Try.f8 Rows.fixedBuildsRow.domain false) (Rows.fixedBuildsSpec.post enc Try.prog Try.f8 false true false false) := by
  refine returnsInHanded_of_change (C := Try.checked) own started (by kernel_rfl) Try.func8
    (ChangeSpec.witness6 (enc := enc) (C := Try.checked) false ⟨#[], #[.int .i64 0, .int .i64 0, .slice none 0 0], []⟩ 8 (by kernel_rfl) (by kernel_rfl) (by kernel_rfl) (by kernel_rfl)) ?_
  intro W base args ds gs before hval0 hW hcnd _
  have hval : ∀ (j : Nat) t v, Try.f8.params[j]? = some t → args[j]? = some v → Value.okWide Try.prog W .any base t v := hval0
  have hW' := hW
  obtain ⟨p, q, hA0, hV, rfl, hfz, hnd⟩ := hW
  have hA : DataW.TrodAll enc Try.prog W 0 (fun _ => true) true Try.f8.params.toList args.toList ds p := hA0
  rw [Try.params8] at hA hval
  obtain ⟨v0, vs0, d0, ds0, p0, q0, hargs, rfl, rfl, h0, r0⟩ := trodAll_cons hA
  obtain ⟨v1, vs1, d1, ds1, p1, q1, rfl, rfl, rfl, h1, r1⟩ := trodAll_cons r0
  obtain ⟨v2, vs2, d2, ds2, p2, q2, rfl, rfl, rfl, h2, r2⟩ := trodAll_cons r1
  obtain ⟨rfl, rfl, rfl⟩ := trodAll_nil r2
  obtain rfl : args = #[v0, v1, v2] := by cases args; simp_all
  obtain ⟨rfl, rfl⟩ := trodVars_none hV
  obtain ⟨a0, rfl, rfl, rfl, w0⟩ := open_int Try.underlying3 (hval 0 3 v0 rfl rfl) h0
  obtain ⟨a1, rfl, rfl, rfl, w1⟩ := open_int Try.underlying3 (hval 1 3 v1 rfl rfl) h1
  obtain ⟨a2, len2, cap2, rfl⟩ := okWide_slice Try.underlying22 (hval 2 22 v2 rfl rfl)
  have k2 := h2
  have lt2 : ∀ x ∈ p2, x.block < W.heap.size := by obtain ⟨m, hm⟩ := k2; exact DataW.trod_lt m _ _ _ hm
  obtain ⟨fuel2, hf2⟩ := h2
  obtain ⟨A2, l2, c2, C2, hcs2, hl2, hm2, hE2, hF2⟩ := open_cells Try.underlying22 (by kernel_rfl) hf2
  simp only [Value.cells, List.cons.injEq, Value.slice.injEq, and_true] at hcs2
  obtain ⟨rfl, rfl, rfl⟩ := hcs2
  have s2_0 : ∀ i, i < len2 → ∃ n : ByteArray, C2 i 0 = .string n ∧ n.size ≤ maxLen := fun i hi => by obtain ⟨y, n, hy⟩ := hF2 i hi; obtain ⟨n, e, _, hw⟩ := DataW.trod_string Try.underlying9 hy; exact ⟨n, List.head_eq_of_cons_eq e, hw⟩
  clear hA0 hval0
  refine (walk_FixedBuilds a0 a1 a2 len2 cap2 C2 (bounds_i64 w0) (bounds_i64 w1) hl2 hm2 hE2 s2_0 (w := W)).mono fun e W' ⟨he, bel⟩ => ?_
  subst he
  exact ⟨_, rfl, _, _, _, [], _, [], hW', trodAll_mk1 (shut_bool Try.underlying4 _), (trodAll_cons_mk (shut_int Try.underlying3 w0) (trodAll_cons_mk (shut_int Try.underlying3 w1) (trodAll_cons_mk (Below.trod laidOut (by kernel_rfl) (of_decide_eq_true (by kernel_rfl)) k2 bel lt2) trodAll_mk0))), rfl, bel.frame _, fun h => by cases h⟩
theorem over : Rows.fixedBuildsRow.holds Try.pinned (OpenSpec.ofChange Rows.fixedBuildsSpec) :=
  OpenClaim.holds_of_wide 8 Try.f8 rfl rfl rfl rfl rfl rfl rfl ⟨rfl, rfl, rfl, rfl, rfl⟩ rfl rfl rfl rfl rfl (by kernel_rfl) Try.func8 (by kernel_rfl)
    (of_decide_eq_true (by kernel_rfl)) (by unfold Func.isWrapper; first | (rw [if_pos (by decide +kernel)]; kernel_rfl) | (rw [if_neg (by decide +kernel)]; exact ⟨rfl, rfl⟩))
    (fun os started H enc _ => lifted os started H enc)
theorem proved : Rows.FixedBuildsSaid := over
end fixedBuilds

end Go.Proofs.Ytllbjabnoicdfaa
