/- Statement VariableReturns: unpacking the blocks of records returns them; no block is longer than its size, and the first record of a block would not have fitted into the one before. For all numbers, and at most 40 records of at most 300 bytes, which is the statement's own bound. -/
import Derived.Test.YtklbckonlbpbgaaRows
import Derived.WalkKit
import Derived.ProofKit
import Derived.OpenShut
import Derived.ShutString
import Derived.ChangeOld
import Derived.Below
import Derived.Test.YtklbckonlbpbgaaSlices
import Derived.Test.YtklbckonlbpbgaaOpen
import Derived.Test.YtklbckonlbpbgaaVarT7
namespace Go.Proofs.Ytklbckonlbpbgaa
open Go.Lib Go.ChangeShapes Go.WideShapes Go.ChangeAt Go.RowKit
open Go.ChangeMaps (open_string shut_string)
set_option linter.unusedVariables false
/-- the groups of records that stand in one block each -/
theorem vgroups_spec {x b : Nat} (hb1 : x + 8 ≤ b) (l : List ByteArray) (hl : ∀ y ∈ l, y.size ≤ x) (G : List (List ByteArray)) (hG : G = vgroups b l) :
    (∀ g ∈ G, isV x b g (vblock g)) ∧ (∀ i (h : i + 1 < G.length), ∀ z q, G[i + 1] = z :: q → b < 8 + (vbody G[i]).size + z.size) ∧ G.length ≤ l.length := by
  have hi := vsteps_inv x b hb1 l hl
  have hflat := vgroups_flat x b hb1 l hl
  rw [← hG] at hflat
  have hmem : ∀ g ∈ G, ∀ y ∈ g, y.size ≤ x := fun g hg y hy => hl y (by rw [← hflat]; exact List.mem_flatten.2 ⟨g, hg, hy⟩)
  obtain ⟨D, t, hDt⟩ : ∃ D t, vsteps b l = (D, t) := ⟨_, _, rfl⟩
  rw [hDt] at hi
  unfold vgroups at hG
  rw [hDt] at hG
  have hts : (vbody t).size + 4 ≤ b := hi.tsize
  have hct : D.length + t.length ≤ l.length := hi.count
  have hsz : ∀ g ∈ D, (vbody g).size + 4 ≤ b := hi.size
  have hne : ∀ g ∈ D, g ≠ [] := hi.ne
  have hnx : ∀ i (h : i + 1 < D.length), ∀ z q, D[i + 1] = z :: q → b < 8 + (vbody D[i]).size + z.size := hi.next
  have htn : ∀ (h : 0 < D.length), ∀ z q, t = z :: q → b < 8 + (vbody D[D.length - 1]).size + z.size := hi.tnext
  by_cases ht : t = []
  · have hg : G = D := by rw [hG]; simp [ht]
    clear hG
    subst hg
    exact ⟨fun g h => ⟨rfl, hne g h, hmem g h, by have := hsz g h; rw [vblock_size]; omega⟩, hnx, by omega⟩
  · have hg : G = D ++ [t] := by rw [hG]; simp [ht]
    clear hG
    subst hg
    have htp : 0 < t.length := List.length_pos_iff.2 ht
    refine ⟨fun g h => ⟨rfl, ?_, hmem g h, ?_⟩, ?_, by simp; omega⟩
    · rcases List.mem_append.1 h with h | h
      · exact hne g h
      · rw [List.mem_singleton.1 h]; exact ht
    · rw [vblock_size]
      rcases List.mem_append.1 h with h | h
      · have := hsz g h; omega
      · rw [List.mem_singleton.1 h]; omega
    · intro i h z q e
      have h' := h
      simp only [List.length_append, List.length_singleton] at h'
      have hiD : i < D.length := by omega
      rw [List.getElem_append_left hiD]
      by_cases hlast : i + 1 < D.length
      · rw [List.getElem_append_left hlast] at e
        exact hnx i hlast z q e
      · have e4 : i + 1 = D.length := by omega
        rw [List.getElem_append_right (by omega)] at e
        simp only [e4, Nat.sub_self, List.getElem_cons_zero] at e
        have := htn (by omega) z q e
        have e5 : D.length - 1 = i := by omega
        simp only [e5] at this
        exact this
set_option maxRecDepth 100000 in
set_option maxHeartbeats 4000000 in
theorem long_VariableReturns (L B : Int) (A : Option Addr) (cap : Nat) (l : List ByteArray) (hz : ∀ x ∈ l, x.size ≤ 9223372036854775807) (w : World) (hr : StrsAt w (.slice A l.length cap) l) (hf : ¬ few l 40 300) :
    Calls Try.prog 7 #[.int .i64 L, .int .i64 B, .slice A l.length cap] w (Gives (.bool true) w) := by
  have Hr := hid hr
  have HN := hid hf
  have HZ := hid hz
  clear hr hf hz
  go_enter Try.func7, Try.ntmps7
  go_wp2_with fail
  refine (vawake_any _).mono ?_
  rintro e w1 ⟨rfl, hb⟩
  replace Hr := hid (Hr.out.below hb (Nat.le_refl _))
  have B1 := hid (hb)
  clear hb
  go_wp2_with fail
  refine (few_no _ l 40 300 (by omega) (by omega) HZ.out HN.out _ Hr.out).mono ?_
  rintro e wq ⟨rfl, rfl⟩
  go_wp2_with fail
  refine (vawake_any _).mono ?_
  rintro e w2 ⟨rfl, hb⟩
  replace Hr := hid (Hr.out.below hb (Nat.le_refl _))
  have B2 := hid (B1.out.trans (hb.mono B1.out.size))
  clear hb
  go_wp2_with fail
  go_ret
  exact ⟨rfl, B2.out⟩
set_option maxRecDepth 100000 in
set_option maxHeartbeats 4000000 in
theorem misfit_VariableReturns (L B : Int) (A : Option Addr) (cap : Nat) (l : List ByteArray) (hB : B ≤ 9223372036854775807) (w : World) (hr : StrsAt w (.slice A l.length cap) l) (hf : few l 40 300) (hn : ¬ vfits L B) :
    Calls Try.prog 7 #[.int .i64 L, .int .i64 B, .slice A l.length cap] w (Gives (.bool true) w) := by
  have Hr := hid hr
  have HN := hid hf
  have V1 := fun W => hid (vvalid_any L B hB W)
  rw [decide_eq_false hn] at V1
  clear hr hf hn
  go_enter Try.func7, Try.ntmps7
  go_wp2_with fail
  refine (vawake_any _).mono ?_
  rintro e w1 ⟨rfl, hb⟩
  replace Hr := hid (Hr.out.below hb (Nat.le_refl _))
  have B1 := hid (hb)
  clear hb
  go_wp2_with fail
  refine (few_yes _ l 40 300 (by omega) (by omega) HN.out _ Hr.out).mono ?_
  rintro e wq ⟨rfl, rfl⟩
  go_wp2_with fail
  refine ((V1 _).out).mono ?_
  rintro e wq ⟨rfl, rfl⟩
  go_wp2_with fail
  refine (vawake_any _).mono ?_
  rintro e w2 ⟨rfl, hb⟩
  replace Hr := hid (Hr.out.below hb (Nat.le_refl _))
  have B2 := hid (B1.out.trans (hb.mono B1.out.size))
  clear hb
  go_wp2_with fail
  go_ret
  exact ⟨rfl, B2.out⟩
set_option maxRecDepth 100000 in
set_option maxHeartbeats 8000000 in
theorem main_VariableReturns (x b : Nat) (hft : vfits (x : Int) (b : Int)) (A : Option Addr) (cap : Nat) (l : List ByteArray) (w : World) (hr : StrsAt w (.slice A l.length cap) l) (hf : few l 40 300) :
    Calls Try.prog 7 #[.int .i64 x, .int .i64 b, .slice A l.length cap] w (Gives (.bool true) w) := by
  have Hr := hid hr
  have HN := hid hf
  have hl40 := hf.1
  have V1 := fun W => hid (vvalid_any x b (by have := hft.2.2.2; omega) W)
  rw [decide_eq_true hft] at V1
  have HFT := hid hft
  have hx1 : 1 ≤ x := by have := hft.1; omega
  have hx2 : x ≤ 1000 := by have := hft.2.1; omega
  have hb1 : x + 8 ≤ b := by have := hft.2.2.1; omega
  have hb2 : b ≤ 1024 := by have := hft.2.2.2; omega
  have K1 := fun v W hW => hid (fair11_any x hx2 v l (by omega) (fun y hy => by have := hf.2 y hy; omega) W hW)
  obtain ⟨R, hR⟩ : ∃ R, R = fairL x l := ⟨_, rfl⟩
  have hR40 : R.length ≤ 40 := by rw [hR]; exact Nat.le_trans (fairL_len x l) hl40
  have hRx : ∀ y ∈ R, y.size ≤ x := fun y hy => by rw [hR] at hy; exact (fairL_le hy).1
  have hRz : ∀ y ∈ R, y.size ≤ 300 := fun y hy => by rw [hR] at hy; exact hf.2 y (fairL_le hy).2
  rw [← hR] at K1
  have P1 : ∀ (A : Option Addr) cap W, StrsAt W (.slice A R.length cap) R → Hid (Calls Try.prog 13 #[.int .i64 x, .int .i64 b, .slice A R.length cap] W (fun e w' => ∃ v, e = .returned (.tuple #[v, .int .i64 0]) ∧ StrsAt w' v (vblocks b R) ∧ Below W.heap.size W w')) := fun A cap W hW =>
    hid ((vpack_ok x b hft A cap R (by omega) R.length (Nat.le_refl _) (fun i hi hj => hRx _ (List.getElem_mem hj)) (fun y hy => by have := hRz y hy; omega) (fun h => absurd h (Nat.lt_irrefl _)) W hW).mono fun e w' ⟨h1, h2⟩ => by
      rw [if_neg (Nat.lt_irrefl _)] at h1
      obtain ⟨v, h3, h4⟩ := h1
      exact ⟨v, h3, h4, h2⟩)
  have HP1 := hid P1
  have HRX := hid hRx
  have HRZ := hid hRz
  have U1 := fun g (h : isV x b g (vblock g)) W => hid (vunpack_ok x b hft g _ h W)
  have s4 := vgroups_flat x b hb1 R hRx
  have hvb : vblocks b R = (vgroups b R).map vblock := rfl
  rw [hvb] at P1
  obtain ⟨G, hG⟩ : ∃ G, G = vgroups b R := ⟨_, rfl⟩
  obtain ⟨s1, s2, s3⟩ := vgroups_spec hb1 R hRx G hG
  rw [← hG] at s4 P1
  have hG40 : G.length ≤ 40 := by omega
  have hflen : ∀ k, (G.take k).flatten.length ≤ 40 := fun k => by
    have h1 : (G.take k).flatten ++ (G.drop k).flatten = R := by rw [← List.flatten_append, List.take_append_drop, s4]
    have h2 := congrArg List.length h1
    simp only [List.length_append] at h2
    omega
  have HP2 := hid P1
  have HU := hid U1
  have HS1 := hid s1
  have HS2 := hid s2
  have HS4 := hid s4
  have HFL := hid hflen
  clear hR hRx hRz hr hf hft P1 U1 s1 s2 s4 hG hvb HP1 hflen
  go_enter Try.func7, Try.ntmps7
  go_wp2_with fail
  refine (vawake_any _).mono ?_
  rintro e w1 ⟨rfl, hb⟩
  replace Hr := hid (Hr.out.below hb (Nat.le_refl _))
  have B1 := hid (hb)
  clear hb
  go_wp2_with fail
  refine (few_yes _ l 40 300 (by omega) (by omega) HN.out _ Hr.out).mono ?_
  rintro e wq ⟨rfl, rfl⟩
  go_wp2_with fail
  refine ((V1 _).out).mono ?_
  rintro e wq ⟨rfl, rfl⟩
  go_wp2_with fail
  refine ((K1 _ _ Hr.out).out).mono ?_
  rintro e w2 ⟨v, rfl, h1, hb⟩
  replace Hr := hid (Hr.out.below hb (Nat.le_refl _))
  have B2 := hid (B1.out.trans (hb.mono B1.out.size))
  have Hv := hid h1
  clear h1 hb
  obtain ⟨Av, capv, rfl, hcv1, hcv2⟩ := Hv.out.shape
  go_wp2_with fail
  refine ((HP2.out _ _ _ Hv.out).out).mono ?_
  rintro e w3 ⟨v1, rfl, h1, hb⟩
  replace Hv := hid (Hv.out.below hb (Nat.le_refl _))
  have B3 := hid (B2.out.trans (hb.mono B2.out.size))
  have Hv1 := hid h1
  clear h1 hb
  obtain ⟨A1, cap1, e7, hcw1, hcw2⟩ := Hv1.out.shape
  rw [List.length_map] at e7 hcw1
  subst e7
  go_wp2_with fail
  go_loopw [10, 11, 45] (fun s10 s11 i wr => ∃ (k : Nat) (u' : Value) (z : Int), u' = s10 ∧ s11 = .int .i64 z ∧ k ≤ G.length ∧ i = .int .i64 k ∧ ((k = 0 ∧ z = -1) ∨ ∃ k', ∃ h : k' < G.length, k = k' + 1 ∧ z = ((vblock G[k']).size : Nat)) ∧ OwnStrs wr u' (G.take k).flatten ∧ Fresh w3 u' ∧ Below w3.heap.size w3 wr) (fun _ _ i _ => G.length - (RowKit.intOf i).toNat)
  case atStart => exact ⟨0, _, -1, rfl, rfl, by omega, by go_num, .inl ⟨rfl, rfl⟩, OwnStrs.nil _ _, (by rintro k ⟨a, n, c, e, hc, _⟩; cases e; omega), (Below.refl _ _).alloc (Nat.le_refl _) _⟩
  case round =>
    obtain ⟨k, u, z, rfl, rfl, hk, rfl, hz, ho, hfr, hb⟩ := hrel
    have HB := hid hb
    have HO := hid ho
    have HF := hid hfr
    by_cases hlt : k < G.length
    · have hkl : k < (G.map vblock).length := by rw [List.length_map]; exact hlt
      obtain ⟨b0, off, rfl, hb0, c0⟩ := (Hv1.out.below hb (Nat.le_refl _)).round hkl
      rw [List.getElem_map] at c0
      have hg := HS1.out _ (List.getElem_mem hlt)
      have hgz : ∀ k', (h : k' < G.length) → k = k' + 1 → ∀ y q, G[k] = y :: q → b < 8 + (vbody G[k']).size + y.size := fun k' h e y q hq => by
        subst e; exact HS2.out k' hlt y q hq
      have htk : (G.take (k + 1)).flatten = (G.take k).flatten ++ G[k] := by rw [List.take_succ_eq_append_getElem hlt, List.flatten_append]; simp
      have hfl := HFL.out k
      have hfl1 := HFL.out (k + 1)
      rw [htk, List.length_append] at hfl1
      have HBEF : Hid (((vblock G[k]).size : Int) = ((vblock G[k]).size : Nat) ∧ k < G.length) := hid ⟨rfl, hlt⟩
      obtain ⟨g, hgg⟩ : ∃ g, g = G[k] := ⟨_, rfl⟩
      rw [← hgg] at c0 hg htk hfl1
      replace hgz : ∀ k', (h : k' < G.length) → k = k' + 1 → ∀ y q, g = y :: q → b < 8 + (vbody G[k']).size + y.size := fun k' h e y q hq => hgz k' h e y q (by rw [← hgg]; exact hq)
      have U := fun W => hid (HU.out g hg W).out
      have hds : (vblock g).size ≤ b := hg.2.2.2
      obtain ⟨d, hd⟩ : ∃ d, d = vblock g := ⟨_, rfl⟩
      have HD : Hid (d = vblock G[k]) := hid (by rw [hd, hgg])
      rw [← hd] at c0 U hds
      obtain ⟨r, q, hrq⟩ : ∃ r q, g = r :: q := by
        cases hgc : g with
        | nil => exact absurd hgc hg.2.1
        | cons r q => exact ⟨r, q, rfl⟩
      have hr9 : r.size ≤ 1000 := by have := hg.2.2.1 r (by rw [hrq]; exact List.mem_cons_self); omega
      have hn0 : 0 < g.length := by rw [hrq]; simp
      have hn0i : ((g.length : Int) == 0) = false := by simp only [beq_eq_false_iff_ne, ne_eq]; omega
      have hn40 : g.length ≤ 40 := by omega
      have hfk : (G.take k).flatten.length ≤ 100000 := by omega
      have hgk : g.length ≤ 100000 := by omega
      have HTK := hid htk
      have HR0 : Hid (g[0]'hn0 = r) := hid (by simp [hrq])
      have hdbI : ¬ ((b : Int) < (d.size : Int)) := by omega
      rcases hz with ⟨hk0, rfl⟩ | ⟨k', hk', hke, hz⟩
      · clear ho hfr hb htk hgg hd hg hgz hrq hfl hfl1 hk0
        go_wp2_with fail
        refine (U _).out.mono ?_
        rintro e wa ⟨vm, rfl, hvm, hb⟩
        obtain ⟨Am, capm, rfl, hcm1, hcm2⟩ := hvm.shape
        have HM := hid hvm
        have HA := hid (HB.out.trans (hb.mono HB.out.size))
        have HOA := hid (HO.out.below hb (Nat.le_refl _))
        have HSA := hid HA.out.size
        clear hb hvm
        go_wp2_with (at_builtin; refine wpList_append_strs (by rfl) (.tmp 84) (.tmp 85) rfl u _ rfl HOA.out _ g rfl HM.out hfk hgk ?_; intro u8 w8 hs8 hu8 hh8)
        go_roundw
        case rel =>
          refine ⟨k + 1, _, _, rfl, rfl, by omega, by go_num, .inr ⟨k, hlt, rfl, ?_⟩, by rw [HTK.out]; exact hs8.out, fun b hb => (hh8.out b hb).elim (HF.out b) (fun h => by have := HSA.out; omega), HA.out.trans (hu8.out.below HSA.out (fun b hb => HF.out b hb))⟩
          rw [HD.out]
        case measure => simp [RowKit.intOf]; omega
      · have hbig := hgz k' hk' hke r q hrq
        have hz2 : z = ((4 + (vbody G[k']).size : Nat) : Int) := by rw [hz, vblock_size]
        obtain ⟨n, hn⟩ : ∃ n, n = 4 + (vbody G[k']).size := ⟨_, rfl⟩
        rw [← hn] at hz2
        have hnb : b < n + 4 + r.size := by omega
        have hn3 : n ≤ 3000 := by
          have h9 := (HS1.out _ (List.getElem_mem hk')).2.2.2
          rw [vblock_size] at h9; omega
        subst hz2
        have hnbI : ¬ ((n : Int) + 4 + (r.size : Int) ≤ (b : Int)) := by omega
        clear ho hfr hb htk hgg hd hg hgz hrq hfl hfl1 hke hz hbig hn hnb
        go_wp2_with fail
        refine (U _).out.mono ?_
        rintro e wa ⟨vm, rfl, hvm, hb⟩
        obtain ⟨Am, capm, rfl, hcm1, hcm2⟩ := hvm.shape
        obtain ⟨bm, om, rfl, hbm, cm⟩ := hvm.round hn0
        rw [HR0.out, Nat.add_zero] at cm
        have HM := hid hvm
        have HA := hid (HB.out.trans (hb.mono HB.out.size))
        have HOA := hid (HO.out.below hb (Nat.le_refl _))
        have HSA := hid HA.out.size
        clear hb hvm
        go_wp2_with (at_builtin; refine wpList_append_strs (by rfl) (.tmp 84) (.tmp 85) rfl u _ rfl HOA.out _ g rfl HM.out hfk hgk ?_; intro u8 w8 hs8 hu8 hh8)
        go_roundw
        case rel =>
          refine ⟨k + 1, _, _, rfl, rfl, by omega, by go_num, .inr ⟨k, hlt, rfl, ?_⟩, by rw [HTK.out]; exact hs8.out, fun b hb => (hh8.out b hb).elim (HF.out b) (fun h => by have := HSA.out; omega), HA.out.trans (hu8.out.below HSA.out (fun b hb => HF.out b hb))⟩
          rw [HD.out]
        case measure => simp [RowKit.intOf]; omega
    · obtain rfl : k = G.length := by omega
      rw [List.take_length, HS4.out] at HO
      have HV3 := hid (Hv.out.below hb (Nat.le_refl _))
      have HOT := hid HO.out.at
      clear ho hfr hb hz
      go_wp2_with fail
      refine (same_yes _ _ R _ HOT.out HV3.out).mono ?_
      rintro e wz ⟨rfl, hb⟩
      have HQ := hid (B3.out.trans ((HB.out.trans (hb.mono HB.out.size)).mono B3.out.size))
      clear hb
      go_wp2_with fail
      go_ret
      exact ⟨rfl, HQ.out⟩
theorem walk_VariableReturns (L : Int) (B : Int) (Arecs : Option Addr) (lenrecs caprecs : Nat) (Crecs : Nat → Nat → Value) (w : World) (hL : -9223372036854775808 ≤ L ∧ L ≤ 9223372036854775807) (hB : -9223372036854775808 ≤ B ∧ B ≤ 9223372036854775807) (hlrecs : lenrecs ≤ caprecs) (hmrecs : caprecs ≤ maxLen) (hErecs : Elems w Arecs lenrecs 1 Crecs) (hsrecs : ∀ i, i < lenrecs → ∃ n : ByteArray, Crecs i 0 = .string n ∧ n.size ≤ maxLen) :
    Calls Try.prog 7 #[.int .i64 L, .int .i64 B, .slice Arecs lenrecs caprecs] w fun e w' => e = .returned (.bool true) ∧ Below w.heap.size w w' := by
  obtain ⟨l, hn, hr, hz⟩ := strs_of hlrecs hmrecs hErecs hsrecs
  subst hn
  by_cases hf : few l 40 300
  · by_cases hft : vfits L B
    · obtain ⟨x, b, rfl, rfl, _⟩ := hft.nat
      exact main_VariableReturns x b hft Arecs caprecs l w hr hf
    · exact misfit_VariableReturns L B Arecs caprecs l hB.2 w hr hf hft
  · exact long_VariableReturns L B Arecs caprecs l hz w hr hf
namespace variableReturns
theorem own : ownKnob Try.prog.godebug = none := by kernel_rfl
theorem laidOut : laidOutB Try.prog = true := by kernel_rfl
set_option linter.unusedVariables false
set_option maxRecDepth 100000 in
theorem lifted (os : Os) (started : os.Started) (H : Type) (enc : TypeId × Value → H) :
    ReturnsInHanded {} Try.checked os 7 .any (Rows.variableReturnsSpec.pre6 enc Try.prog Try.f7 Rows.variableReturnsRow.domain false) (Rows.variableReturnsSpec.post enc Try.prog Try.f7 false true false false) := by
  refine returnsInHanded_of_change (C := Try.checked) own started (by kernel_rfl) Try.func7
    (ChangeSpec.witness6 (enc := enc) (C := Try.checked) false ⟨#[], #[.int .i64 0, .int .i64 0, .slice none 0 0], []⟩ 8 (by kernel_rfl) (by kernel_rfl) (by kernel_rfl) (by kernel_rfl)) ?_
  intro W base args ds gs before hval0 hW hcnd _
  have hval : ∀ (j : Nat) t v, Try.f7.params[j]? = some t → args[j]? = some v → Value.okWide Try.prog W .any base t v := hval0
  have hW' := hW
  obtain ⟨p, q, hA0, hV, rfl, hfz, hnd⟩ := hW
  have hA : DataW.TrodAll enc Try.prog W 0 (fun _ => true) true Try.f7.params.toList args.toList ds p := hA0
  rw [Try.params7] at hA hval
  obtain ⟨v0, vs0, d0, ds0, p0, q0, hargs, rfl, rfl, h0, r0⟩ := trodAll_cons hA
  obtain ⟨v1, vs1, d1, ds1, p1, q1, rfl, rfl, rfl, h1, r1⟩ := trodAll_cons r0
  obtain ⟨v2, vs2, d2, ds2, p2, q2, rfl, rfl, rfl, h2, r2⟩ := trodAll_cons r1
  obtain ⟨rfl, rfl, rfl⟩ := trodAll_nil r2
  obtain rfl : args = #[v0, v1, v2] := by cases args; simp_all
  obtain ⟨rfl, rfl⟩ := trodVars_none hV
  obtain ⟨a0, rfl, rfl, rfl, w0⟩ := open_int Try.underlying3 (hval 0 3 v0 rfl rfl) h0
  obtain ⟨a1, rfl, rfl, rfl, w1⟩ := open_int Try.underlying3 (hval 1 3 v1 rfl rfl) h1
  obtain ⟨a2, len2, cap2, rfl⟩ := okWide_slice Try.underlying22 (hval 2 22 v2 rfl rfl)
  have k2 := h2
  have lt2 : ∀ x ∈ p2, x.block < W.heap.size := by obtain ⟨m, hm⟩ := k2; exact DataW.trod_lt m _ _ _ hm
  obtain ⟨fuel2, hf2⟩ := h2
  obtain ⟨A2, l2, c2, C2, hcs2, hl2, hm2, hE2, hF2⟩ := open_cells Try.underlying22 (by kernel_rfl) hf2
  simp only [Value.cells, List.cons.injEq, Value.slice.injEq, and_true] at hcs2
  obtain ⟨rfl, rfl, rfl⟩ := hcs2
  have s2_0 : ∀ i, i < len2 → ∃ n : ByteArray, C2 i 0 = .string n ∧ n.size ≤ maxLen := fun i hi => by obtain ⟨y, n, hy⟩ := hF2 i hi; obtain ⟨n, e, _, hw⟩ := DataW.trod_string Try.underlying9 hy; exact ⟨n, List.head_eq_of_cons_eq e, hw⟩
  clear hA0 hval0
  refine (walk_VariableReturns a0 a1 a2 len2 cap2 C2 (bounds_i64 w0) (bounds_i64 w1) hl2 hm2 hE2 s2_0 (w := W)).mono fun e W' ⟨he, bel⟩ => ?_
  subst he
  exact ⟨_, rfl, _, _, _, [], _, [], hW', trodAll_mk1 (shut_bool Try.underlying4 _), (trodAll_cons_mk (shut_int Try.underlying3 w0) (trodAll_cons_mk (shut_int Try.underlying3 w1) (trodAll_cons_mk (Below.trod laidOut (by kernel_rfl) (of_decide_eq_true (by kernel_rfl)) k2 bel lt2) trodAll_mk0))), rfl, bel.frame _, fun h => by cases h⟩
theorem over : Rows.variableReturnsRow.holds Try.pinned (OpenSpec.ofChange Rows.variableReturnsSpec) :=
  OpenClaim.holds_of_wide 7 Try.f7 rfl rfl rfl rfl rfl rfl rfl ⟨rfl, rfl, rfl, rfl, rfl⟩ rfl rfl rfl rfl rfl (by kernel_rfl) Try.func7 (by kernel_rfl)
    (of_decide_eq_true (by kernel_rfl)) (by unfold Func.isWrapper; first | (rw [if_pos (by decide +kernel)]; kernel_rfl) | (rw [if_neg (by decide +kernel)]; exact ⟨rfl, rfl⟩))
    (fun os started H enc _ => lifted os started H enc)
theorem proved : Rows.VariableReturnsSaid := over
end variableReturns

end Go.Proofs.Ytklbckonlbpbgaa
