/- Statement FixedReturns: unpacking the blocks of records returns them; no block is longer than its size, and no smaller number of blocks has room for them. For all numbers, and at most 40 records of at most 300 bytes, which is the statement's own bound. -/
import Derived.Test.YtllbjabnoicdfaaRows
import Derived.WalkKit
import Derived.ProofKit
import Derived.OpenShut
import Derived.ShutString
import Derived.ChangeOld
import Derived.Below
import Derived.Test.YtllbjabnoicdfaaSlices
import Derived.Test.YtllbjabnoicdfaaOpen
import Derived.Test.YtllbjabnoicdfaaFixT8
import Derived.Test.YtllbjabnoicdfaaFixT9
import Derived.Test.YtllbjabnoicdfaaFixT11
namespace Go.Proofs.Ytllbjabnoicdfaa
open Go.Lib Go.ChangeShapes Go.WideShapes Go.ChangeAt Go.RowKit
open Go.ChangeMaps (open_string shut_string)
set_option linter.unusedVariables false
theorem lenOf_nat (x : Nat) (h : x ≤ 1000) : lenOf (x : Int) = x := by unfold lenOf; omega
theorem string_ne {d : ByteArray} (h : 0 < d.size) : ¬ d.toList = [] := by
  rw [ByteArray.toList_eq]
  intro e
  have : d.data.toList.length = 0 := by rw [e]; rfl
  have e2 : d.data.toList.length = d.size := by simp
  omega
set_option maxRecDepth 100000 in
set_option maxHeartbeats 2000000 in
theorem long_FixedReturns (L B : Int) (A : Option Addr) (cap : Nat) (l : List ByteArray) (hz : ∀ x ∈ l, x.size ≤ 9223372036854775807) (w : World) (hr : StrsAt w (.slice A l.length cap) l) (hf : ¬ few l 40 300) :
    Calls Try.prog 6 #[.int .i64 L, .int .i64 B, .slice A l.length cap] w (Gives (.bool true) w) := by
  have Hr := hid hr
  have HN := hid hf
  have HZ := hid hz
  clear hr hf hz
  go_enter Try.func6, Try.ntmps6
  go_wp2_with fail
  refine (awake_any _).mono ?_
  rintro e w1 ⟨rfl, hb⟩
  replace Hr := hid (Hr.out.below hb (Nat.le_refl _))
  have B1 := hid (hb)
  clear hb
  go_wp2_with fail
  refine (few_no _ l 40 300 (by omega) (by omega) HZ.out HN.out _ Hr.out).mono ?_
  rintro e wq ⟨rfl, rfl⟩
  go_wp2_with fail
  refine (awake_any _).mono ?_
  rintro e w2 ⟨rfl, hb⟩
  replace Hr := hid (Hr.out.below hb (Nat.le_refl _))
  have B2 := hid (B1.out.trans (hb.mono B1.out.size))
  clear hb
  go_wp2_with fail
  go_ret
  exact ⟨rfl, B2.out⟩
set_option maxRecDepth 100000 in
set_option maxHeartbeats 2000000 in
theorem misfit_FixedReturns (L B : Int) (A : Option Addr) (cap : Nat) (l : List ByteArray) (hz : ∀ x ∈ l, x.size ≤ 9223372036854775807) (w : World) (hr : StrsAt w (.slice A l.length cap) l) (hf : few l 40 300) (hn : ¬ fits L B) :
    Calls Try.prog 6 #[.int .i64 L, .int .i64 B, .slice A l.length cap] w (Gives (.bool true) w) := by
  have Hr := hid hr
  have HN := hid hf
  have V1 := fun W => hid (valid_any L B W)
  rw [decide_eq_false hn] at V1
  clear hr hf hz hn
  go_enter Try.func6, Try.ntmps6
  go_wp2_with fail
  refine (awake_any _).mono ?_
  rintro e w1 ⟨rfl, hb⟩
  replace Hr := hid (Hr.out.below hb (Nat.le_refl _))
  have B1 := hid (hb)
  clear hb
  go_wp2_with fail
  refine (few_yes _ l 40 300 (by omega) (by omega) HN.out _ Hr.out).mono ?_
  rintro e wq ⟨rfl, rfl⟩
  go_wp2_with fail
  refine ((V1 _).out).mono ?_
  rintro e wq ⟨rfl, rfl⟩
  go_wp2_with fail
  refine (awake_any _).mono ?_
  rintro e w2 ⟨rfl, hb⟩
  replace Hr := hid (Hr.out.below hb (Nat.le_refl _))
  have B2 := hid (B1.out.trans (hb.mono B1.out.size))
  clear hb
  go_wp2_with fail
  go_ret
  exact ⟨rfl, B2.out⟩
set_option maxRecDepth 100000 in
set_option maxHeartbeats 8000000 in
theorem main_FixedReturns (x b : Nat) (hft : fits (x : Int) (b : Int)) (A : Option Addr) (cap : Nat) (l : List ByteArray) (w : World) (hr : StrsAt w (.slice A l.length cap) l) (hf : few l 40 300) :
    Calls Try.prog 6 #[.int .i64 x, .int .i64 b, .slice A l.length cap] w (Gives (.bool true) w) := by
  have Hr := hid hr
  have HN := hid hf
  have hl40 := hf.1
  have V1 := fun W => hid (valid_any x b W)
  rw [decide_eq_true hft] at V1
  have M1 := fun W => hid (most_any x b W)
  rw [mostI_nat hft] at M1
  have HFT := hid hft
  have hx1 : 1 ≤ x := by have := hft.1; omega
  have hx2 : x ≤ 1000 := by have := hft.2.1; omega
  have hm1 : 1 ≤ b / x := most_pos hx1 (by have := hft.2.2.1; omega)
  have hm2 : b / x ≤ 1024 := most_le (by have := hft.2.2.2; omega)
  have hmx : b / x * x ≤ 1024 := Nat.le_trans (Nat.div_mul_le_self b x) (by have := hft.2.2.2; omega)
  have K1 := fun v W hW => hid (records_any x v l (by omega) (fun y hy => by have := hf.2 y hy; omega) W hW)
  rw [lenOf_nat x hx2] at K1
  obtain ⟨R, hR⟩ : ∃ R, R = l.map (padB x) := ⟨_, rfl⟩
  have hRl : R.length = l.length := by rw [hR, List.length_map]
  have hRz : ∀ y ∈ R, y.size = x := fun y hy => by
    rw [hR] at hy
    obtain ⟨z, _, rfl⟩ := List.mem_map.1 hy
    exact padB_size x z
  rw [← hR] at K1
  have P1 := fun A cap W hW => hid (pack_ok x b hft A cap R (by omega) hRz W hW)
  have HRZ := hid hRz
  have hR40 : R.length ≤ 40 := by omega
  have hnb1 : nb (b / x) R.length ≤ 40 := (nb_le hm1).2 (by
    have : 40 * 1 ≤ 40 * (b / x) := Nat.mul_le_mul_left _ hm1
    omega)
  have hnb2 : R.length ≤ nb (b / x) R.length * (b / x) := (nb_le hm1).1 (Nat.le_refl _)
  have hnb3 : ∀ k, k < nb (b / x) R.length → k * (b / x) < R.length := fun k hk => by
    rcases Nat.lt_or_ge (k * (b / x)) R.length with h | h
    · exact h
    · have := (nb_le (m := b / x) (n := R.length) (k := k) hm1).2 h; omega
  have U1 := fun k (hk : k < nb (b / x) R.length) W => hid (unpack_ok x b (part (b / x) R k).length hft (cat (part (b / x) R k)) ⟨cat_size x _ (fun y hy => hRz y (part_mem hy)), by rw [part_length]; have := hnb3 k hk; omega, by rw [part_length]; omega⟩ W)
  have U2 : ∀ k, recs x (cat (part (b / x) R k)) (part (b / x) R k).length = part (b / x) R k := fun k => recs_cat x _ (fun y hy => hRz y (part_mem hy))
  obtain ⟨m, hmm⟩ : ∃ m, m = b / x := ⟨_, rfl⟩
  rw [← hmm] at U1 P1 M1 hm1 hm2 hmx hnb1 hnb2 hnb3
  simp only [← hmm] at U2
  have hbs : ∀ k, (hk : k < (blocks m R).length) → (blocks m R)[k] = cat (part m R k) ∧ (blocks m R)[k].size ≤ b := fun k hk => by
    have e1 : (blocks m R)[k] = cat (part m R k) := by simp [blocks, firstB]
    refine ⟨e1, ?_⟩
    rw [e1, cat_size x _ (fun y hy => hRz y (part_mem hy)), part_length]
    have h1 : min m (R.length - k * m) * x ≤ m * x := Nat.mul_le_mul_right x (Nat.min_le_left _ _)
    have h2 : m * x ≤ b := by rw [hmm]; exact Nat.div_mul_le_self b x
    omega
  have hbl : (blocks m R).length = nb m R.length := by unfold blocks; rw [firstB_length]
  have hb1024 : b ≤ 1024 := by have := hft.2.2.2; omega
  have HBS := hid hbs
  have HU1 := hid U1
  have HU2 := hid U2
  have HNB3 := hid hnb3
  have HBL := hid hbl
  obtain ⟨z, hz⟩ : ∃ z, z = nb m R.length := ⟨_, rfl⟩
  rw [← hz] at hnb1 hnb2 hbl HNB3 HBL
  have HZ := hid hz
  obtain ⟨p, hp⟩ : ∃ p, p = z * m := ⟨_, rfl⟩
  have hp1 : (z : Int) * (m : Int) = (p : Int) := by rw [hp, Int.natCast_mul]
  have hp2 : p ≤ 100000 := by
    have : z * m ≤ 40 * 1024 := Nat.mul_le_mul hnb1 hm2
    omega
  have hp3 : ((z : Int) - 1) * (m : Int) = (p : Int) - (m : Int) := by rw [Int.sub_mul, hp1, Int.one_mul]
  have hp4 : R.length ≤ p := by rw [hp]; exact hnb2
  have hp5 : (p : Int) - (m : Int) < max 1 (R.length : Int) := by
    rcases Nat.eq_zero_or_pos z with h | h
    · have : p = 0 := by rw [hp, h, Nat.zero_mul]
      omega
    · have := HNB3.out (z - 1) (by omega)
      have e : z * m = (z - 1) * m + m := by
        have h9 := Nat.succ_mul (z - 1) m
        rw [show (z - 1).succ = z by omega] at h9; exact h9
      omega
  have hw1 : wrap64 ((p : Int) - (m : Int)) = (p : Int) - (m : Int) := by unfold wrap64; omega
  have hw2 : wrap64 (p : Int) = (p : Int) := by unfold wrap64; omega
  have hc1 : decide (wrap64 ((z : Int) * (m : Int)) < (R.length : Int)) = false := by rw [hp1, hw2]; simp; omega
  have hc2 : decide (max 1 (R.length : Int) ≤ wrap64 (((z : Int) - 1) * (m : Int))) = false := by rw [hp3, hw1]; simp; omega
  have HP := hid hp
  have HP4 := hid hp4
  clear U1 U2 hnb2 hnb3 hbs hR hRl hRz hr hf hft hmm hmx hz hp hp1 hp3 hp4 hp5 hw1 hw2
  go_enter Try.func6, Try.ntmps6
  go_wp2_with fail
  refine (awake_any _).mono ?_
  rintro e w1 ⟨rfl, hb⟩
  replace Hr := hid (Hr.out.below hb (Nat.le_refl _))
  have B1 := hid (hb)
  clear hb
  go_wp2_with fail
  refine (few_yes _ l 40 300 (by omega) (by omega) HN.out _ Hr.out).mono ?_
  rintro e wq ⟨rfl, rfl⟩
  go_wp2_with fail
  refine ((V1 _).out).mono ?_
  rintro e wq ⟨rfl, rfl⟩
  go_wp2_with fail
  refine ((K1 _ _ Hr.out).out).mono ?_
  rintro e w2 ⟨v, rfl, h1, hb⟩
  replace Hr := hid (Hr.out.below hb (Nat.le_refl _))
  have B2 := hid (B1.out.trans (hb.mono B1.out.size))
  have Hv := hid h1
  clear h1 hb
  obtain ⟨Av, capv, rfl, hcv1, hcv2⟩ := Hv.out.shape
  go_wp2_with fail
  refine ((P1 _ _ _ Hv.out).out).mono ?_
  rintro e w3 ⟨v1, rfl, h1, hb⟩
  replace Hr := hid (Hr.out.below hb (Nat.le_refl _))
  replace Hv := hid (Hv.out.below hb (Nat.le_refl _))
  have B3 := hid (B2.out.trans (hb.mono B2.out.size))
  have Hv1 := hid h1
  clear h1 hb
  obtain ⟨A1, cap1, rfl, hcw1, hcw2⟩ := Hv1.out.shape
  have HV1 := Hv1
  rw [hbl] at hcw1 ⊢
  rw [hbl] at HV1
  go_wp2_with fail
  refine ((M1 _).out).mono ?_
  rintro e wq ⟨rfl, rfl⟩
  go_wp2_with fail
  refine ((M1 _).out).mono ?_
  rintro e wq ⟨rfl, rfl⟩
  go_wp2_with fail
  go_loopw [10, 68] (fun u i wr => ∃ (k : Nat) (u' : Value), u = u' ∧ k ≤ z ∧ i = .int .i64 k ∧ OwnStrs wr u' (R.take (k * m)) ∧ Fresh wq u' ∧ Below wq.heap.size wq wr) (fun _ i _ => z - (RowKit.intOf i).toNat)
  case atStart => exact ⟨0, _, rfl, by omega, by go_num, by rw [Nat.zero_mul, List.take_zero]; exact OwnStrs.nil _ _, (by rintro k ⟨a, n, c, e, hc, _⟩; cases e; omega), (Below.refl _ _).alloc (Nat.le_refl _) _⟩
  case round =>
    obtain ⟨k, u, rfl, hk, rfl, ho, hfr, hb⟩ := hrel
    have HB := hid hb
    have HO := hid ho
    have HF := hid hfr
    obtain ⟨A2, capu, rfl⟩ := HO.out.shape
    by_cases hlt : k < z
    · have hkl : k < (blocks m R).length := by rw [HBL.out]; exact hlt
      obtain ⟨b0, off, rfl, hb0, c0⟩ := (HV1.out.below hb (Nat.le_refl _)).round hkl
      obtain ⟨e1, htb⟩ := HBS.out k hkl
      have htk : R.take (k * m) ++ part m R k = R.take ((k + 1) * m) := take_part m R k
      have hcl : 1 ≤ (part m R k).length := by rw [part_length]; have := HNB3.out k hlt; omega
      have U := fun W => hid ((HU1.out k (by rw [← HZ.out]; exact hlt) W).out)
      rw [HU2.out k] at U
      rw [e1] at c0 htb
      obtain ⟨t, ht⟩ : ∃ t, t = cat (part m R k) := ⟨_, rfl⟩
      rw [← ht] at c0 htb U
      have hcl2 : (part m R k).length ≤ 40 := by rw [part_length]; omega
      have hol : (R.take (k * m)).length ≤ 40 := by simp; omega
      obtain ⟨q, hq⟩ : ∃ q, q = part m R k := ⟨_, rfl⟩
      rw [← hq] at U htk hcl hcl2
      obtain ⟨o, hoo⟩ : ∃ o, o = R.take (k * m) := ⟨_, rfl⟩
      rw [← hoo] at HO htk hol
      have hcs9 : (R.take (k * m)).length = o.length := by rw [hoo]
      rw [hcs9]
      have HTK := hid htk
      obtain ⟨cs, hcs⟩ : ∃ cs, cs = o.map Value.string := ⟨_, rfl⟩
      obtain ⟨n, hn⟩ : ∃ n, n = o.length := ⟨_, rfl⟩
      rw [hcs9] at HF
      have ho2 := HO.out
      unfold OwnStrs at ho2
      rw [← hcs, ← hn] at ho2
      rw [← hn] at HF hol ⊢
      obtain ⟨c, hc⟩ : ∃ c, c = q.length := ⟨_, rfl⟩
      rw [← hc] at hcl hcl2
      have HO2 := hid ho2
      have HCS := hid hcs
      have HNN := hid hn
      have HCC := hid hc
      clear ho hfr hb e1 htk ht hq hoo hcs9 hcs hn ho2 hc HO
      go_wp2_with fail
      refine (U _).out.mono ?_
      rintro e wa ⟨v, rfl, hv, hb⟩
      have HA := hid (HB.out.trans (hb.mono HB.out.size))
      have hza := HA.out.size
      have HOA := hid (SliceIs.upd HO2.out (Upds.of_below hb (Nat.le_refl _)) (F := fun _ => False) (fun _ _ h => h))
      obtain ⟨Aq, capq, e7, h71, h72, h73⟩ := hv
      obtain ⟨bq, oq, e8, h81, h82⟩ := h73 (by rw [← HCC.out]; omega)
      subst e7
      subst e8
      rw [← HCC.out]
      have HNEWS : Hid (∀ j u, (q.map Value.string)[j]? = some u → wa.cell? ((⟨bq, oq, none⟩ : Addr).add j) = some u) := hid (fun j u hu => by
        rw [List.getElem?_map] at hu
        obtain ⟨y, hy, rfl⟩ := Option.map_eq_some_iff.1 hu
        obtain ⟨hj, rfl⟩ := List.getElem?_eq_some_iff.1 hy
        rw [Go.WideShapes.add_plain]
        exact h82 j hj)
      clear hb h71 h72 h73 h81 h82
      go_wp2_with (at_builtin; refine wpList_append_slice rfl (.tmp 87) (.tmp 88) 22 rfl 9 (.string ⟨#[]⟩) 1 16 Try.underlying22 (by kernel_rfl) (by kernel_rfl) _ n cs rfl HOA.out ⟨bq, oq, none⟩ c capq (q.map Value.string) rfl (by rw [List.length_map, Nat.mul_one, ← HCC.out]) HNEWS.out (fun u hu => by obtain ⟨y, _, rfl⟩ := List.mem_map.1 hu; rfl) (by omega) (by omega) (by omega) ?_; intro g8 cap8 w8 hs8 hu8 hh8)
      go_roundw
      case rel =>
        have h8 : OwnStrs w8 (.slice (some ⟨g8, 0, none⟩) (n + c) cap8) (R.take ((k + 1) * m)) := by
          rw [← HTK.out]
          unfold OwnStrs
          rw [List.length_append, List.map_append, ← HNN.out, ← HCC.out, ← HCS.out]
          exact hs8.out
        exact ⟨k + 1, _, rfl, by omega, by go_num, h8, fun b hb => (hh8.out b hb).elim (HF.out b) (fun h => by omega), HA.out.trans (hu8.out.below (by omega) (fun b hb => HF.out b hb))⟩
      case measure => simp [RowKit.intOf]; omega
    · obtain rfl : k = z := by omega
      have hall : R.take (k * m) = R := List.take_of_length_le (by rw [← HP.out]; exact HP4.out)
      rw [hall] at HO ⊢
      have HV3 := hid (Hv.out.below hb (Nat.le_refl _))
      have HOT := hid HO.out.at
      clear ho hfr hb hall
      go_wp2_with fail
      refine (same_yes _ _ R _ HOT.out HV3.out).mono ?_
      rintro e wz ⟨rfl, hb⟩
      have HQ := hid (B3.out.trans ((HB.out.trans (hb.mono HB.out.size)).mono B3.out.size))
      clear hb
      go_wp2_with fail
      go_ret
      exact ⟨rfl, HQ.out⟩
theorem walk_FixedReturns (L : Int) (B : Int) (Arecs : Option Addr) (lenrecs caprecs : Nat) (Crecs : Nat → Nat → Value) (w : World) (hL : -9223372036854775808 ≤ L ∧ L ≤ 9223372036854775807) (hB : -9223372036854775808 ≤ B ∧ B ≤ 9223372036854775807) (hlrecs : lenrecs ≤ caprecs) (hmrecs : caprecs ≤ maxLen) (hErecs : Elems w Arecs lenrecs 1 Crecs) (hsrecs : ∀ i, i < lenrecs → ∃ n : ByteArray, Crecs i 0 = .string n ∧ n.size ≤ maxLen) :
    Calls Try.prog 6 #[.int .i64 L, .int .i64 B, .slice Arecs lenrecs caprecs] w fun e w' => e = .returned (.bool true) ∧ Below w.heap.size w w' := by
  obtain ⟨l, hn, hr, hz⟩ := strs_of hlrecs hmrecs hErecs hsrecs
  subst hn
  by_cases hf : few l 40 300
  · by_cases hft : fits L B
    · obtain ⟨x, b, rfl, rfl, _⟩ := hft.nat
      exact main_FixedReturns x b hft Arecs caprecs l w hr hf
    · exact misfit_FixedReturns L B Arecs caprecs l hz w hr hf hft
  · exact long_FixedReturns L B Arecs caprecs l hz w hr hf
namespace fixedReturns
theorem own : ownKnob Try.prog.godebug = none := by kernel_rfl
theorem laidOut : laidOutB Try.prog = true := by kernel_rfl
set_option linter.unusedVariables false
set_option maxRecDepth 100000 in
theorem lifted (os : Os) (started : os.Started) (H : Type) (enc : TypeId × Value → H) :
    ReturnsInHanded {} Try.checked os 6 .any (Rows.fixedReturnsSpec.pre6 enc Try.prog Try.f6 Rows.fixedReturnsRow.domain false) (Rows.fixedReturnsSpec.post enc Try.prog Try.f6 false true false false) := by
  refine returnsInHanded_of_change (C := Try.checked) own started (by kernel_rfl) Try.func6
    (ChangeSpec.witness6 (enc := enc) (C := Try.checked) false ⟨#[], #[.int .i64 0, .int .i64 0, .slice none 0 0], []⟩ 8 (by kernel_rfl) (by kernel_rfl) (by kernel_rfl) (by kernel_rfl)) ?_
  intro W base args ds gs before hval0 hW hcnd _
  have hval : ∀ (j : Nat) t v, Try.f6.params[j]? = some t → args[j]? = some v → Value.okWide Try.prog W .any base t v := hval0
  have hW' := hW
  obtain ⟨p, q, hA0, hV, rfl, hfz, hnd⟩ := hW
  have hA : DataW.TrodAll enc Try.prog W 0 (fun _ => true) true Try.f6.params.toList args.toList ds p := hA0
  rw [Try.params6] at hA hval
  obtain ⟨v0, vs0, d0, ds0, p0, q0, hargs, rfl, rfl, h0, r0⟩ := trodAll_cons hA
  obtain ⟨v1, vs1, d1, ds1, p1, q1, rfl, rfl, rfl, h1, r1⟩ := trodAll_cons r0
  obtain ⟨v2, vs2, d2, ds2, p2, q2, rfl, rfl, rfl, h2, r2⟩ := trodAll_cons r1
  obtain ⟨rfl, rfl, rfl⟩ := trodAll_nil r2
  obtain rfl : args = #[v0, v1, v2] := by cases args; simp_all
  obtain ⟨rfl, rfl⟩ := trodVars_none hV
  obtain ⟨a0, rfl, rfl, rfl, w0⟩ := open_int Try.underlying3 (hval 0 3 v0 rfl rfl) h0
  obtain ⟨a1, rfl, rfl, rfl, w1⟩ := open_int Try.underlying3 (hval 1 3 v1 rfl rfl) h1
  obtain ⟨a2, len2, cap2, rfl⟩ := okWide_slice Try.underlying22 (hval 2 22 v2 rfl rfl)
  have k2 := h2
  have lt2 : ∀ x ∈ p2, x.block < W.heap.size := by obtain ⟨m, hm⟩ := k2; exact DataW.trod_lt m _ _ _ hm
  obtain ⟨fuel2, hf2⟩ := h2
  obtain ⟨A2, l2, c2, C2, hcs2, hl2, hm2, hE2, hF2⟩ := open_cells Try.underlying22 (by kernel_rfl) hf2
  simp only [Value.cells, List.cons.injEq, Value.slice.injEq, and_true] at hcs2
  obtain ⟨rfl, rfl, rfl⟩ := hcs2
  have s2_0 : ∀ i, i < len2 → ∃ n : ByteArray, C2 i 0 = .string n ∧ n.size ≤ maxLen := fun i hi => by obtain ⟨y, n, hy⟩ := hF2 i hi; obtain ⟨n, e, _, hw⟩ := DataW.trod_string Try.underlying9 hy; exact ⟨n, List.head_eq_of_cons_eq e, hw⟩
  clear hA0 hval0
  refine (walk_FixedReturns a0 a1 a2 len2 cap2 C2 (bounds_i64 w0) (bounds_i64 w1) hl2 hm2 hE2 s2_0 (w := W)).mono fun e W' ⟨he, bel⟩ => ?_
  subst he
  exact ⟨_, rfl, _, _, _, [], _, [], hW', trodAll_mk1 (shut_bool Try.underlying4 _), (trodAll_cons_mk (shut_int Try.underlying3 w0) (trodAll_cons_mk (shut_int Try.underlying3 w1) (trodAll_cons_mk (Below.trod laidOut (by kernel_rfl) (of_decide_eq_true (by kernel_rfl)) k2 bel lt2) trodAll_mk0))), rfl, bel.frame _, fun h => by cases h⟩
theorem over : Rows.fixedReturnsRow.holds Try.pinned (OpenSpec.ofChange Rows.fixedReturnsSpec) :=
  OpenClaim.holds_of_wide 6 Try.f6 rfl rfl rfl rfl rfl rfl rfl ⟨rfl, rfl, rfl, rfl, rfl⟩ rfl rfl rfl rfl rfl (by kernel_rfl) Try.func6 (by kernel_rfl)
    (of_decide_eq_true (by kernel_rfl)) (by unfold Func.isWrapper; first | (rw [if_pos (by decide +kernel)]; kernel_rfl) | (rw [if_neg (by decide +kernel)]; exact ⟨rfl, rfl⟩))
    (fun os started H enc _ => lifted os started H enc)
theorem proved : Rows.FixedReturnsSaid := over
end fixedReturns

end Go.Proofs.Ytllbjabnoicdfaa
