/- Statement DeviceFences: a fenced writer changes nothing, whatever it does, and a later epoch is not fenced; for every number and every list of operations, within the statement's own bounds. -/
import Derived.Test.YtfcaodaaklngmaaRows
import Derived.WalkKit
import Derived.ProofKit
import Derived.OpenShut
import Derived.ShutString
import Derived.ChangeOld
import Derived.Below
import Derived.Test.YtfcaodaaklngmaaFenceM
import Derived.Deep.RegionHeld3
import Derived.Test.YtfcaodaaklngmaaFull

namespace Go.Proofs.Ytfcaodaaklngmaa
open Go.Lib Go.ChangeShapes Go.WideShapes Go.ChangeAt Go.RowKit
open Go.ChangeMaps (open_string shut_string)
set_option linter.unusedVariables false

set_option maxRecDepth 100000 in
set_option maxHeartbeats 8000000 in
theorem fences_main (s : Nat) (hs : s ≤ 18446744073709551615) (A : Option Addr) (len cap : Nat) (f : Nat → OpD) (hl : len ≤ cap) (hm : cap ≤ 9223372036854775807) (w : World) (hO : OpsAt w A len f) (hf : fewO f len 20) :
    Calls Try.prog 8 #[.int .u64 s, .slice A len cap] w fun e w' => e = .returned (.bool true) ∧ Below w.heap.size w w' := by
  have HO := hid hO
  have HF := hid hf
  have hlen := hf.2
  clear hO hf
  obtain ⟨n, hn⟩ : ∃ n : Nat, n = s % 549755813888 := ⟨_, rfl⟩
  have hnb : n < 549755813888 := by omega
  have hrem : (s : Int) % 549755813888 = (n : Int) := by omega
  clear hn
  go_enter Try.func8, Try.ntmps8
  go_wp2_with fail
  refine (awake_dev _).mono ?_
  rintro e w1 ⟨rfl, hb⟩
  have B1 := hid hb
  have HO1 := hid (HO.out.below hb)
  clear hb
  go_wp2_with fail
  refine (fewO_yes A len cap f hl hm 20 (by omega) HF.out w1 HO1.out).mono ?_
  rintro e w' ⟨rfl, rfl⟩
  go_wp2_with fail
  refine (begin_any 3 (by omega) w').mono ?_
  intro e w3 hx
  obtain ⟨L, R, rfl, hd, _, hu⟩ := hx
  have HD3 := hid hd
  have HU3 := hid hu
  clear hd hu
  rw [show R.agg (DS.fresh (1 + 3 % 6)) = .agg #[.slice (some ⟨R.sg, 0, none⟩) 4 R.scap, .slice (some ⟨R.og, 0, none⟩) 4 R.ocap, .slice R.pa 0 R.pc, .slice (some ⟨R.fg, 0, none⟩) 5 R.fcap, .bool false, .int .i64 (-1), .slice R.va R.vn R.vc] from rfl]
  obtain ⟨w4, hw4⟩ : ∃ w4, w4 = w3.alloc (.cells #[.slice (some ⟨R.sg, 0, none⟩) 4 R.scap, .slice (some ⟨R.og, 0, none⟩) 4 R.ocap, .slice R.pa 0 R.pc, .slice (some ⟨R.fg, 0, none⟩) 5 R.fcap, .bool false, .int .i64 (-1), .slice R.va R.vn R.vc] 32) := ⟨_, rfl⟩
  have hu4 : Upds (fun _ => False) w3 w4 := by rw [hw4]; exact Upds.alloc _ _
  have HD4 : Hid (Dev w4 w'.heap.size L (DS.fresh 4)) := hid (HD3.out.calm hu4)
  have HU4 := hid (HU3.out.trans hu4)
  have HW4 := hid hw4
  clear hu4 hw4 HD3 HU3
  go_upto_region 4 with fail
  rw [← HW4.out]
  clear HW4
  go_wp2_with fail
  refine (fence_any w'.heap.size L (DS.fresh 4) 3 n (by omega) w4 HD4.out).mono ?_
  rintro e w5 ⟨rfl, ht⟩
  obtain ⟨L5, hd5, hb5, hu5, _⟩ := DevTo.next HU4.out HD4.out ht
  have hc := clone_dev w'.heap.size L5 (fenD n) w5 hd5
  rw [hb5] at hc
  have HC := hid hc
  have HD5 : Hid (Dev w5 w'.heap.size L5 (fenD n)) := hid hd5
  have HB5 := hid hb5
  have HU5 := hid hu5
  clear ht hd5 hb5 hu5 hc HD4 HU4
  go_wp2_with fail
  refine HC.out.mono ?_
  rintro e w6 ⟨L2, rfl, hd2, hu6⟩
  have hx6 : ∀ k, L5.own k → ¬ L2.own k := fun k hk h => by have := HD5.out.own_lt k hk; have := hd2.below k h; omega
  have HX6 := hid hx6
  have HE6 := hid (hd2.lower HU5.out.size)
  have HD6 := hid (HD5.out.calm hu6)
  have HU6 := hid (HU5.out.trans hu6)
  clear hx6 hd2 hu6 HC HD5 HU5
  go_wp2_with fail
  go_loopw [45] (fun s45 wr => ∃ (j : Nat) (L' : Lay), j ≤ len ∧ s45 = .int .i64 j ∧ Dev wr w'.heap.size L' (fenD n) ∧ L'.b = L.b ∧ Dev wr w'.heap.size L2 (fenD n) ∧ (∀ k, L'.own k → ¬ L2.own k) ∧ Upds (fun _ => False) w' wr) (fun s45 _ => len - (RowKit.intOf s45).toNat)
  case atStart => exact ⟨0, L5, by omega, rfl, HD6.out, HB5.out, HE6.out, HX6.out, HU6.out⟩
  case round =>
    clear HD6 HB5 HE6 HX6 HU6 L5 w6
    obtain ⟨j, L', hj, rfl, hd, hb, h2, hx, hu⟩ := hrel
    have HD := hid hd
    have HB := hid hb
    have H2 := hid h2
    have HX := hid hx
    have HU := hid hu
    have HUB : Hid (Below w'.heap.size w' wr) := hid (hu.below (Nat.le_refl _) (fun _ h => h.elim))
    by_cases hlt : j < len
    · have hop := HO1.out.below HUB.out
      obtain ⟨b0, off, rfl, hb0, hc⟩ := hop.get hlt
      have hdat := (HF.out.1 j hlt).1
      obtain ⟨o, ho⟩ : ∃ o, o = f j := ⟨_, rfl⟩
      have hok := hop.ok j hlt
      rw [← ho] at hc hok hdat
      have c0 : wr.cell? ⟨b0, off + j * 8, none⟩ = some (.int .u8 o.kind) := hc 0 _ rfl
      have c1 := hc 1 _ rfl
      have c2 := hc 2 _ rfl
      have c3 := hc 3 _ rfl
      have c4 := hc 4 _ rfl
      have c5 := hc 5 _ rfl
      have c6 := hc 6 _ rfl
      have c7 := hc 7 _ rfl
      obtain ⟨hk0, hk1⟩ := hok.kind
      obtain ⟨he0, he1⟩ := hok.ep
      have hu5 : Upds (fun _ => False) wr (wr.alloc (.cells #[.int .u8 o.kind, .int .i64 o.sys, .int .i64 o.ep, .int .i64 o.sec, .string o.dat, .int .i64 o.n, .int .u8 o.mask, .slice o.sa o.sur.length o.sc] 44)) := Upds.alloc _ _
      have hr5 := op_box wr o
      obtain ⟨w5, hw5⟩ : ∃ w5, w5 = wr.alloc (.cells #[.int .u8 o.kind, .int .i64 o.sys, .int .i64 o.ep, .int .i64 o.sec, .string o.dat, .int .i64 o.n, .int .u8 o.mask, .slice o.sa o.sur.length o.sc] 44) := ⟨_, rfl⟩
      rw [← hw5] at hu5 hr5
      have hu6 : Upds (fun _ => False) w5 (w5.alloc (.cells #[.int .i64 3, .int .i64 n] 42)) := Upds.alloc _ _
      have hr6 : Row (w5.alloc (.cells #[.int .i64 3, .int .i64 n] 42)) w5.heap.size 42 [.int .i64 3, .int .i64 n] := Row.new w5 [.int .i64 3, .int .i64 n] _
      obtain ⟨w6, hw6⟩ : ∃ w6, w6 = w5.alloc (.cells #[.int .i64 3, .int .i64 n] 42) := ⟨_, rfl⟩
      rw [← hw6] at hu6 hr6
      have HR5 := hid (hr5.upd hu6 (fun h => h))
      have HR6 := hid hr6
      have HD6 := hid ((hd.calm hu5).calm hu6)
      have HE6 := hid ((h2.calm hu5).calm hu6)
      have HU6 := hid ((hu.trans hu5).trans hu6)
      have HW6 := hid hw6
      have HW5 := hid hw5
      have hz5 := (hu.trans hu5).size
      have d2 := HR5.out.cell (i := 2) rfl
      have g0 := hr6.cell (i := 0) rfl
      have g1 := hr6.cell (i := 1) rfl
      have gf := hr6.frozen 1
      clear hop hok ho hc hd hb h2 hx hu hu5 hr5 hu6 hr6 hw6 hw5 HD H2 HU HUB
      go_upto_region 14 with fail
      rw [← HW5.out]
      clear HW5 c0 c1 c2 c3 c4 c5 c6 c7
      go_upto_region 15 with fail
      rw [← HW6.out]
      clear HW6
      have key : ∃ e' : Int, 0 ≤ e' ∧ e' ≤ n ∧ (e' = if 0 ≤ o.ep ∧ o.ep < n then o.ep else n) := by
        by_cases h : 0 ≤ o.ep ∧ o.ep < n
        · exact ⟨o.ep, h.1, by omega, by rw [if_pos h]⟩
        · exact ⟨n, by omega, by omega, by rw [if_neg h]⟩
      obtain ⟨e', h0', hn', he'⟩ := key
      have HDAT := hid hdat
      have facts : ∀ w7, (w7 = w6 ∧ e' = n ∨ w7 = w6.setCell ⟨w5.heap.size, 1, none⟩ (.int .i64 o.ep) ∧ e' = o.ep) → Dev w7 w'.heap.size L' (fenD n) ∧ Dev w7 w'.heap.size L2 (fenD n) ∧ Row w7 wr.heap.size 44 o.cells ∧ Row w7 w5.heap.size 42 [.int .i64 3, .int .i64 e'] ∧ Upds (fun _ => False) w' w7 := by
        rintro w7 (⟨rfl, rfl⟩ | ⟨rfl, rfl⟩)
        · exact ⟨HD6.out, HE6.out, HR5.out, HR6.out, HU6.out⟩
        · have hset : Upds (fun k => k = w5.heap.size) w6 (w6.setCell ⟨w5.heap.size, 1, none⟩ (.int .i64 o.ep)) := Upds.set _ _ _ rfl
          refine ⟨HD6.out.aside HR6.out (by decide) (by decide) (by decide) (by decide) hset, HE6.out.aside HR6.out (by decide) (by decide) (by decide) (by decide) hset, HR5.out.upd hset (fun e => (HR5.out.ne HR6.out (by decide)) e), HR6.out.set 1 _, HU6.out.trans' hset (fun i hi h => by omega)⟩
      have FACTS := hid facts
      clear facts HR5 HR6 HD6 HE6 HU6
      have hcase : (0 ≤ o.ep ∧ o.ep < n) ∨ (0 ≤ o.ep ∧ ¬ o.ep < n) ∨ ¬ 0 ≤ o.ep := by omega
      rcases hcase with ⟨hp, hq⟩ | ⟨hp, hq⟩ | hp
      all_goals first
        | (rw [if_pos (And.intro hp hq)] at he'
           have hge : decide (o.ep ≥ 0) = true := decide_eq_true hp
           have hlt2 : decide (o.ep < n) = true := decide_eq_true hq
           go_upto_region 17 with fail
           have hw := FACTS.out _ (.inr ⟨rfl, he'⟩)
           obtain ⟨w7, hw7⟩ : ∃ w7, w7 = w6.setCell ⟨w5.heap.size, 1, none⟩ (.int .i64 o.ep) := ⟨_, rfl⟩
           rw [← hw7] at hw ⊢
           clear hge hlt2 hw7)
        | (rw [if_neg (fun h : 0 ≤ o.ep ∧ o.ep < n => hq h.2)] at he'
           have hge : decide (o.ep ≥ 0) = true := decide_eq_true hp
           have hlt2 : decide (o.ep < n) = false := decide_eq_false hq
           go_upto_region 17 with fail
           have hw := FACTS.out _ (.inl ⟨rfl, he'⟩)
           obtain ⟨w7, hw7⟩ : ∃ w7, w7 = w6 := ⟨_, rfl⟩
           rw [← hw7] at hw ⊢
           clear hge hlt2 hw7)
        | (rw [if_neg (fun h : 0 ≤ o.ep ∧ o.ep < n => hp h.1)] at he'
           have hge : decide (o.ep ≥ 0) = false := decide_eq_false hp
           go_upto_region 17 with fail
           have hw := FACTS.out _ (.inl ⟨rfl, he'⟩)
           obtain ⟨w7, hw7⟩ : ∃ w7, w7 = w6 := ⟨_, rfl⟩
           rw [← hw7] at hw ⊢
           clear hge hw7)
      all_goals
        clear he' FACTS d2 g0 g1 gf hp hz5
        obtain ⟨hd, h2, hr5, hr7, hu⟩ := hw
        have hg0 : FG w' L L2 n wr.heap.size o w5.heap.size e' w7.drew := ⟨L', hd.calm (Upds.drew w7), HB.out, h2.calm (Upds.drew w7), HX.out, hr5.upd (F := fun _ => False) (Upds.drew w7) (fun h => h), hr7.upd (F := fun _ => False) (Upds.drew w7) (fun h => h), hu.trans (Upds.drew w7)⟩
        have hx0 := fullS_size o.dat
        obtain ⟨x, hx⟩ : ∃ x, x = fullS o.dat := ⟨_, rfl⟩
        have HX0 := hid hx
        rw [← hx] at hx0
        have hts : o.dat.size ≤ 9223372036854775807 := by have := HDAT.out; omega
        have FW : Hid (∀ W, FG w' L L2 n wr.heap.size o w5.heap.size e' W → Calls Try.prog 21 #[.pointer (some ⟨L.b, 0, none⟩), .agg #[.int .i64 3, .int .i64 e'], .int .i64 0, .string x] W fun e W2 => e = .returned (.int .i64 13) ∧ FG w' L L2 n wr.heap.size o w5.heap.size e' W2) := hid (FG.write h0' hn' hnb x hx0)
        have FS : Hid (∀ W, FG w' L L2 n wr.heap.size o w5.heap.size e' W → Calls Try.prog 22 #[.pointer (some ⟨L.b, 0, none⟩), .agg #[.int .i64 3, .int .i64 e']] W fun e W2 => e = .returned (.int .i64 13) ∧ FG w' L L2 n wr.heap.size o w5.heap.size e' W2) := hid (FG.sync h0' hn' hnb)
        have FC : Hid (∀ W, FG w' L L2 n wr.heap.size o w5.heap.size e' W → W.cell? ⟨wr.heap.size, 0, none⟩ = some (.int .u8 o.kind) ∧ W.cell? ⟨wr.heap.size, 4, none⟩ = some (.string o.dat) ∧ W.cell? ⟨w5.heap.size, 0, none⟩ = some (.int .i64 3) ∧ W.cell? ⟨w5.heap.size, 1, none⟩ = some (.int .i64 e')) := hid (fun W h => h.cells)
        have FE : Hid (∀ W, FG w' L L2 n wr.heap.size o w5.heap.size e' W → ∃ L9 : Lay, Dev W w'.heap.size L9 (fenD n) ∧ L9.b = L.b ∧ Dev W w'.heap.size L2 (fenD n) ∧ (∀ k, L9.own k → ¬ L2.own k) ∧ Upds (fun _ => False) w' W) := hid (fun W h => by
          obtain ⟨L9, a1, a2, a3, a4, _, _, a5⟩ := h
          exact ⟨L9, a1, a2, a3, a4, a5⟩)
        obtain ⟨G, hG⟩ : ∃ G, G = FG w' L L2 n wr.heap.size o w5.heap.size e' := ⟨_, rfl⟩
        rw [← hG] at hg0 FW FS FC FE
        have HG0 := hid hg0
        have KS : Hid (∀ W, G W → W.cell? ⟨wr.heap.size, 0, none⟩ = some (.int .u8 o.kind) ∧ W.cell? ⟨wr.heap.size, 4, none⟩ = some (.string o.dat) ∧ W.cell? ⟨w5.heap.size, 0, none⟩ = some (.int .i64 3) ∧ W.cell? ⟨w5.heap.size, 1, none⟩ = some (.int .i64 e') ∧ G W) := hid (fun W h => by
          obtain ⟨q1, q2, q3, q4⟩ := FC.out W h
          exact ⟨q1, q2, q3, q4, h⟩)
        obtain ⟨y1, y2, y3, y4⟩ := FC.out _ HG0.out
        clear hG hg0 hx0 hx hd h2 hu hr5 hr7 KS
        go_cut [45, 90] (fun s45 s90 wx => s45 = .int .i64 j ∧ s90 = .bool false ∧ ∃ L9 : Lay, Dev wx w'.heap.size L9 (fenD n) ∧ L9.b = L.b ∧ Dev wx w'.heap.size L2 (fenD n) ∧ (∀ k, L9.own k → ¬ L2.own k) ∧ Upds (fun _ => False) w' wx)
        case first =>
          by_cases hk : o.kind % 2 = 0
          · have k0 : (o.kind.tmod 2 == 0) = true := by rw [Int.tmod_eq_emod_of_nonneg hk0, hk]; rfl
            have k1 : (o.kind.tmod 2 == 1) = false := by rw [Int.tmod_eq_emod_of_nonneg hk0, hk]; rfl
            refine wp_region_held_drew (S := G) (by kernel_rfl) HG0.out (fun hHeld => ?_)
            refine wpAnyH_take (i := 0) (v := ?_) rfl (by kernel_rfl) (by kernel_rfl) (by kernel_rfl) (fun _ _ _ h => h) (Or.inl ⟨by rfl, ?_⟩) (by assumption) ?_
            rotate_left
            · intro w hSw; (go_simp <;> with_reducible rfl)
            try simp only [Act.put, List.getElem_toArray, List.getElem_cons_zero, List.setIfInBounds_toArray, List.set_cons_zero, List.set_cons_succ]
            refine wpAnyH_take (i := 1) (v := ?_) rfl (by kernel_rfl) (by kernel_rfl) (by kernel_rfl) (fun _ _ _ h => h) (Or.inl ⟨by rfl, ?_⟩) (by assumption) ?_
            rotate_left
            · intro w hSw; obtain ⟨q1, q2, q3, q4⟩ := FC.out _ hSw; (go_simp <;> with_reducible rfl)
            try simp only [Act.put, List.getElem_toArray, List.getElem_cons_succ, List.getElem_cons_zero, List.setIfInBounds_toArray, List.set_cons_zero, List.set_cons_succ]
            refine wpAnyH_take (i := 2) (v := ?_) rfl (by kernel_rfl) (by kernel_rfl) (by kernel_rfl) (fun _ _ _ h => h) (Or.inl ⟨by rfl, ?_⟩) (by assumption) ?_
            rotate_left
            · intro w hSw; (go_simp <;> with_reducible rfl)
            try simp only [Act.put, List.getElem_toArray, List.getElem_cons_succ, List.getElem_cons_zero, List.setIfInBounds_toArray, List.set_cons_zero, List.set_cons_succ]
            refine wpAnyH_take (i := 3) (v := ?_) rfl (by kernel_rfl) (by kernel_rfl) (by kernel_rfl) (fun _ _ _ h => h) (Or.inl ⟨by rfl, ?_⟩) (by assumption) ?_
            rotate_left
            · intro w hSw; (go_simp <;> with_reducible rfl)
            try simp only [Act.put, List.getElem_toArray, List.getElem_cons_succ, List.getElem_cons_zero, List.setIfInBounds_toArray, List.set_cons_zero, List.set_cons_succ]
            refine wpAnyH_take (i := 4) (v := ?_) rfl (by kernel_rfl) (by kernel_rfl) (by kernel_rfl) (fun _ _ _ h => h) (Or.inl ⟨by rfl, ?_⟩) (by assumption) ?_
            rotate_left
            · intro w hSw; (go_simp <;> with_reducible rfl)
            try simp only [Act.put, List.getElem_toArray, List.getElem_cons_succ, List.getElem_cons_zero, List.setIfInBounds_toArray, List.set_cons_zero, List.set_cons_succ]
            refine wpAnyH_take (i := 5) (v := ?_) rfl (by kernel_rfl) (by kernel_rfl) (by kernel_rfl) (fun _ _ _ h => h) (Or.inl ⟨by rfl, ?_⟩) (by assumption) ?_
            rotate_left
            · intro w hSw; (go_simp <;> with_reducible rfl)
            try simp only [Act.put, List.getElem_toArray, List.getElem_cons_succ, List.getElem_cons_zero, List.setIfInBounds_toArray, List.set_cons_zero, List.set_cons_succ]
            refine wpAnyH_take (i := 6) (v := ?_) rfl (by kernel_rfl) (by kernel_rfl) (by kernel_rfl) (fun _ _ _ h => h) (Or.inl ⟨by rfl, ?_⟩) (by assumption) ?_
            rotate_left
            · intro w hSw; obtain ⟨q1, q2, q3, q4⟩ := FC.out _ hSw; (go_simp <;> with_reducible rfl)
            try simp only [Act.put, List.getElem_toArray, List.getElem_cons_succ, List.getElem_cons_zero, List.setIfInBounds_toArray, List.set_cons_zero, List.set_cons_succ]
            refine wpAnyH_take (i := 7) (v := ?_) rfl (by kernel_rfl) (by kernel_rfl) (by kernel_rfl) (fun _ _ _ h => h) (Or.inl ⟨by rfl, ?_⟩) (by assumption) ?_
            rotate_left
            · intro w hSw; (go_simp <;> with_reducible rfl)
            try simp only [Act.put, List.getElem_toArray, List.getElem_cons_succ, List.getElem_cons_zero, List.setIfInBounds_toArray, List.set_cons_zero, List.set_cons_succ]
            refine wpAnyH_take (i := 8) (v := ?_) rfl (by kernel_rfl) (by kernel_rfl) (by kernel_rfl) (fun _ _ _ h => h) (Or.inl ⟨by rfl, ?_⟩) (by assumption) ?_
            rotate_left
            · intro w hSw; obtain ⟨q1, q2, q3, q4⟩ := FC.out _ hSw; (go_simp <;> with_reducible rfl)
            try simp only [Act.put, List.getElem_toArray, List.getElem_cons_succ, List.getElem_cons_zero, List.setIfInBounds_toArray, List.set_cons_zero, List.set_cons_succ]
            refine wpAnyH_ready (rs := [9]) (by kernel_rfl) (by simp) ?_
            refine AllReadyH.cons rfl (fun K hK => ?_) AllReadyH.nil
            go_simp
            go_at_call 19
            refine (full_any o.dat hts _).mono ?_
            rintro e w0 ⟨rfl, rfl⟩
            rw [← HX0.out]
            dsimp only
            try go_simp
            refine hK.out _ _ HG0.out (fun hHeld => ?_)
            clear hK K
            try simp only [Act.put, List.getElem_toArray, List.getElem_cons_succ, List.getElem_cons_zero, List.setIfInBounds_toArray, List.set_cons_zero, List.set_cons_succ]
            refine wpAnyH_ready (rs := [10]) (by kernel_rfl) (by simp) ?_
            refine AllReadyH.cons rfl (fun K hK => ?_) AllReadyH.nil
            go_simp
            go_at_call 21
            refine (FW.out _ HG0.out).mono ?_
            rintro e w8 ⟨rfl, hg5⟩
            have HG5 := hid hg5
            clear hg5 hHeld
            dsimp only
            try go_simp
            refine hK.out _ _ HG5.out (fun hHeld => ?_)
            clear hK K
            try simp only [Act.put, List.getElem_toArray, List.getElem_cons_succ, List.getElem_cons_zero, List.setIfInBounds_toArray, List.set_cons_zero, List.set_cons_succ]
            refine wpAnyH_take (i := 11) (v := ?_) rfl (by kernel_rfl) (by kernel_rfl) (by kernel_rfl) (fun _ _ _ h => h) (Or.inl ⟨by rfl, ?_⟩) (by assumption) ?_
            rotate_left
            · intro w hSw; (go_simp <;> with_reducible rfl)
            try simp only [Act.put, List.getElem_toArray, List.getElem_cons_succ, List.getElem_cons_zero, List.setIfInBounds_toArray, List.set_cons_zero, List.set_cons_succ]
            refine wpAnyH_take (i := 12) (v := ?_) rfl (by kernel_rfl) (by kernel_rfl) (by kernel_rfl) (fun _ _ _ h => h) (Or.inl ⟨by rfl, ?_⟩) (by assumption) ?_
            rotate_left
            · intro w hSw; (go_simp <;> with_reducible rfl)
            try simp only [Act.put, List.getElem_toArray, List.getElem_cons_succ, List.getElem_cons_zero, List.setIfInBounds_toArray, List.set_cons_zero, List.set_cons_succ]
            refine wpAnyH_take (i := 13) (v := ?_) rfl (by kernel_rfl) (by kernel_rfl) (by kernel_rfl) (fun _ _ _ h => h) (Or.inl ⟨by rfl, ?_⟩) (by assumption) ?_
            rotate_left
            · intro w hSw; (go_simp <;> with_reducible rfl)
            try simp only [Act.put, List.getElem_toArray, List.getElem_cons_succ, List.getElem_cons_zero, List.setIfInBounds_toArray, List.set_cons_zero, List.set_cons_succ]
            refine wpAnyH_take (i := 14) (v := ?_) rfl (by kernel_rfl) (by kernel_rfl) (by kernel_rfl) (fun _ _ _ h => h) (Or.inl ⟨by rfl, ?_⟩) (by assumption) ?_
            rotate_left
            · intro w hSw; (go_simp <;> with_reducible rfl)
            try simp only [Act.put, List.getElem_toArray, List.getElem_cons_succ, List.getElem_cons_zero, List.setIfInBounds_toArray, List.set_cons_zero, List.set_cons_succ]
            refine wpAnyH_take (i := 15) (v := ?_) rfl (by kernel_rfl) (by kernel_rfl) (by kernel_rfl) (fun _ _ _ h => h) (Or.inl ⟨by rfl, ?_⟩) (by assumption) ?_
            rotate_left
            · intro w hSw; obtain ⟨q1, q2, q3, q4⟩ := FC.out _ hSw; (go_simp <;> with_reducible rfl)
            try simp only [Act.put, List.getElem_toArray, List.getElem_cons_succ, List.getElem_cons_zero, List.setIfInBounds_toArray, List.set_cons_zero, List.set_cons_succ]
            refine wpAnyH_take (i := 16) (v := ?_) rfl (by kernel_rfl) (by kernel_rfl) (by kernel_rfl) (fun _ _ _ h => h) (Or.inl ⟨by rfl, ?_⟩) (by assumption) ?_
            rotate_left
            · intro w hSw; (go_simp <;> with_reducible rfl)
            try simp only [Act.put, List.getElem_toArray, List.getElem_cons_succ, List.getElem_cons_zero, List.setIfInBounds_toArray, List.set_cons_zero, List.set_cons_succ]
            refine wpAnyH_take (i := 17) (v := ?_) rfl (by kernel_rfl) (by kernel_rfl) (by kernel_rfl) (fun _ _ _ h => h) (Or.inl ⟨by rfl, ?_⟩) (by assumption) ?_
            rotate_left
            · intro w hSw; (go_simp <;> with_reducible rfl)
            try simp only [Act.put, List.getElem_toArray, List.getElem_cons_succ, List.getElem_cons_zero, List.setIfInBounds_toArray, List.set_cons_zero, List.set_cons_succ]
            refine wpAnyH_take (i := 18) (v := ?_) rfl (by kernel_rfl) (by kernel_rfl) (by kernel_rfl) (fun _ _ _ h => h) (Or.inl ⟨by rfl, ?_⟩) (by assumption) ?_
            rotate_left
            · intro w hSw; (go_simp <;> with_reducible rfl)
            try simp only [Act.put, List.getElem_toArray, List.getElem_cons_succ, List.getElem_cons_zero, List.setIfInBounds_toArray, List.set_cons_zero, List.set_cons_succ]
            refine wpAnyH_take (i := 19) (v := undef) rfl (by kernel_rfl) (by kernel_rfl) (by kernel_rfl) (fun _ _ _ h => h) (Or.inr ⟨by rfl, rfl⟩) (by assumption) ?_
            try simp only [Act.put, List.getElem_toArray, List.getElem_cons_succ, List.getElem_cons_zero, List.setIfInBounds_toArray, List.set_cons_zero, List.set_cons_succ]
            refine wpAnyH_take (i := 20) (v := undef) rfl (by kernel_rfl) (by kernel_rfl) (by kernel_rfl) (fun _ _ _ h => h) (Or.inr ⟨by rfl, rfl⟩) (by assumption) ?_
            try simp only [Act.put, List.getElem_toArray, List.getElem_cons_succ, List.getElem_cons_zero, List.setIfInBounds_toArray, List.set_cons_zero, List.set_cons_succ]
            refine wpAnyH_take (i := 21) (v := undef) rfl (by kernel_rfl) (by kernel_rfl) (by kernel_rfl) (fun _ _ _ h => h) (Or.inr ⟨by rfl, rfl⟩) (by assumption) ?_
            try simp only [Act.put, List.getElem_toArray, List.getElem_cons_succ, List.getElem_cons_zero, List.setIfInBounds_toArray, List.set_cons_zero, List.set_cons_succ]
            refine wpAnyH_take (i := 22) (v := undef) rfl (by kernel_rfl) (by kernel_rfl) (by kernel_rfl) (fun _ _ _ h => h) (Or.inr ⟨by rfl, rfl⟩) (by assumption) ?_
            try simp only [Act.put, List.getElem_toArray, List.getElem_cons_succ, List.getElem_cons_zero, List.setIfInBounds_toArray, List.set_cons_zero, List.set_cons_succ]
            refine wpAnyH_take (i := 23) (v := ?_) rfl (by kernel_rfl) (by kernel_rfl) (by kernel_rfl) (fun _ _ _ h => h) (Or.inl ⟨by rfl, ?_⟩) (by assumption) ?_
            rotate_left
            · intro w hSw; (go_simp <;> with_reducible rfl)
            try simp only [Act.put, List.getElem_toArray, List.getElem_cons_succ, List.getElem_cons_zero, List.setIfInBounds_toArray, List.set_cons_zero, List.set_cons_succ]
            refine wpAnyH_take (i := 24) (v := ?_) rfl (by kernel_rfl) (by kernel_rfl) (by kernel_rfl) (fun _ _ _ h => h) (Or.inl ⟨by rfl, ?_⟩) (by assumption) ?_
            rotate_left
            · intro w hSw; (go_simp <;> with_reducible rfl)
            try simp only [Act.put, List.getElem_toArray, List.getElem_cons_succ, List.getElem_cons_zero, List.setIfInBounds_toArray, List.set_cons_zero, List.set_cons_succ]
            refine wpAnyH_done (by kernel_rfl) ?_ _
            go_wp2_with fail
            go_meet
            exact ⟨rfl, rfl, FE.out _ HG5.out⟩
          · have hk' : o.kind % 2 = 1 := by omega
            have k0 : (o.kind.tmod 2 == 0) = false := by rw [Int.tmod_eq_emod_of_nonneg hk0, hk']; rfl
            have k1 : (o.kind.tmod 2 == 1) = true := by rw [Int.tmod_eq_emod_of_nonneg hk0, hk']; rfl
            refine wp_region_held_drew (S := G) (by kernel_rfl) HG0.out (fun hHeld => ?_)
            refine wpAnyH_take (i := 0) (v := ?_) rfl (by kernel_rfl) (by kernel_rfl) (by kernel_rfl) (fun _ _ _ h => h) (Or.inl ⟨by rfl, ?_⟩) (by assumption) ?_
            rotate_left
            · intro w hSw; (go_simp <;> with_reducible rfl)
            try simp only [Act.put, List.getElem_toArray, List.getElem_cons_zero, List.setIfInBounds_toArray, List.set_cons_zero, List.set_cons_succ]
            refine wpAnyH_take (i := 1) (v := ?_) rfl (by kernel_rfl) (by kernel_rfl) (by kernel_rfl) (fun _ _ _ h => h) (Or.inl ⟨by rfl, ?_⟩) (by assumption) ?_
            rotate_left
            · intro w hSw; obtain ⟨q1, q2, q3, q4⟩ := FC.out _ hSw; (go_simp <;> with_reducible rfl)
            try simp only [Act.put, List.getElem_toArray, List.getElem_cons_succ, List.getElem_cons_zero, List.setIfInBounds_toArray, List.set_cons_zero, List.set_cons_succ]
            refine wpAnyH_take (i := 2) (v := ?_) rfl (by kernel_rfl) (by kernel_rfl) (by kernel_rfl) (fun _ _ _ h => h) (Or.inl ⟨by rfl, ?_⟩) (by assumption) ?_
            rotate_left
            · intro w hSw; (go_simp <;> with_reducible rfl)
            try simp only [Act.put, List.getElem_toArray, List.getElem_cons_succ, List.getElem_cons_zero, List.setIfInBounds_toArray, List.set_cons_zero, List.set_cons_succ]
            refine wpAnyH_take (i := 3) (v := ?_) rfl (by kernel_rfl) (by kernel_rfl) (by kernel_rfl) (fun _ _ _ h => h) (Or.inl ⟨by rfl, ?_⟩) (by assumption) ?_
            rotate_left
            · intro w hSw; (go_simp <;> with_reducible rfl)
            try simp only [Act.put, List.getElem_toArray, List.getElem_cons_succ, List.getElem_cons_zero, List.setIfInBounds_toArray, List.set_cons_zero, List.set_cons_succ]
            refine wpAnyH_take (i := 4) (v := ?_) rfl (by kernel_rfl) (by kernel_rfl) (by kernel_rfl) (fun _ _ _ h => h) (Or.inl ⟨by rfl, ?_⟩) (by assumption) ?_
            rotate_left
            · intro w hSw; (go_simp <;> with_reducible rfl)
            try simp only [Act.put, List.getElem_toArray, List.getElem_cons_succ, List.getElem_cons_zero, List.setIfInBounds_toArray, List.set_cons_zero, List.set_cons_succ]
            refine wpAnyH_take (i := 5) (v := undef) rfl (by kernel_rfl) (by kernel_rfl) (by kernel_rfl) (fun _ _ _ h => h) (Or.inr ⟨by rfl, rfl⟩) (by assumption) ?_
            try simp only [Act.put, List.getElem_toArray, List.getElem_cons_succ, List.getElem_cons_zero, List.setIfInBounds_toArray, List.set_cons_zero, List.set_cons_succ]
            refine wpAnyH_take (i := 6) (v := undef) rfl (by kernel_rfl) (by kernel_rfl) (by kernel_rfl) (fun _ _ _ h => h) (Or.inr ⟨by rfl, rfl⟩) (by assumption) ?_
            try simp only [Act.put, List.getElem_toArray, List.getElem_cons_succ, List.getElem_cons_zero, List.setIfInBounds_toArray, List.set_cons_zero, List.set_cons_succ]
            refine wpAnyH_take (i := 7) (v := undef) rfl (by kernel_rfl) (by kernel_rfl) (by kernel_rfl) (fun _ _ _ h => h) (Or.inr ⟨by rfl, rfl⟩) (by assumption) ?_
            try simp only [Act.put, List.getElem_toArray, List.getElem_cons_succ, List.getElem_cons_zero, List.setIfInBounds_toArray, List.set_cons_zero, List.set_cons_succ]
            refine wpAnyH_take (i := 8) (v := undef) rfl (by kernel_rfl) (by kernel_rfl) (by kernel_rfl) (fun _ _ _ h => h) (Or.inr ⟨by rfl, rfl⟩) (by assumption) ?_
            try simp only [Act.put, List.getElem_toArray, List.getElem_cons_succ, List.getElem_cons_zero, List.setIfInBounds_toArray, List.set_cons_zero, List.set_cons_succ]
            refine wpAnyH_take (i := 9) (v := undef) rfl (by kernel_rfl) (by kernel_rfl) (by kernel_rfl) (fun _ _ _ h => h) (Or.inr ⟨by rfl, rfl⟩) (by assumption) ?_
            try simp only [Act.put, List.getElem_toArray, List.getElem_cons_succ, List.getElem_cons_zero, List.setIfInBounds_toArray, List.set_cons_zero, List.set_cons_succ]
            refine wpAnyH_take (i := 10) (v := undef) rfl (by kernel_rfl) (by kernel_rfl) (by kernel_rfl) (fun _ _ _ h => h) (Or.inr ⟨by rfl, rfl⟩) (by assumption) ?_
            try simp only [Act.put, List.getElem_toArray, List.getElem_cons_succ, List.getElem_cons_zero, List.setIfInBounds_toArray, List.set_cons_zero, List.set_cons_succ]
            refine wpAnyH_take (i := 11) (v := undef) rfl (by kernel_rfl) (by kernel_rfl) (by kernel_rfl) (fun _ _ _ h => h) (Or.inr ⟨by rfl, rfl⟩) (by assumption) ?_
            try simp only [Act.put, List.getElem_toArray, List.getElem_cons_succ, List.getElem_cons_zero, List.setIfInBounds_toArray, List.set_cons_zero, List.set_cons_succ]
            refine wpAnyH_take (i := 12) (v := ?_) rfl (by kernel_rfl) (by kernel_rfl) (by kernel_rfl) (fun _ _ _ h => h) (Or.inl ⟨by rfl, ?_⟩) (by assumption) ?_
            rotate_left
            · intro w hSw; (go_simp <;> with_reducible rfl)
            try simp only [Act.put, List.getElem_toArray, List.getElem_cons_succ, List.getElem_cons_zero, List.setIfInBounds_toArray, List.set_cons_zero, List.set_cons_succ]
            refine wpAnyH_take (i := 13) (v := ?_) rfl (by kernel_rfl) (by kernel_rfl) (by kernel_rfl) (fun _ _ _ h => h) (Or.inl ⟨by rfl, ?_⟩) (by assumption) ?_
            rotate_left
            · intro w hSw; (go_simp <;> with_reducible rfl)
            try simp only [Act.put, List.getElem_toArray, List.getElem_cons_succ, List.getElem_cons_zero, List.setIfInBounds_toArray, List.set_cons_zero, List.set_cons_succ]
            refine wpAnyH_take (i := 14) (v := ?_) rfl (by kernel_rfl) (by kernel_rfl) (by kernel_rfl) (fun _ _ _ h => h) (Or.inl ⟨by rfl, ?_⟩) (by assumption) ?_
            rotate_left
            · intro w hSw; (go_simp <;> with_reducible rfl)
            try simp only [Act.put, List.getElem_toArray, List.getElem_cons_succ, List.getElem_cons_zero, List.setIfInBounds_toArray, List.set_cons_zero, List.set_cons_succ]
            refine wpAnyH_take (i := 15) (v := ?_) rfl (by kernel_rfl) (by kernel_rfl) (by kernel_rfl) (fun _ _ _ h => h) (Or.inl ⟨by rfl, ?_⟩) (by assumption) ?_
            rotate_left
            · intro w hSw; obtain ⟨q1, q2, q3, q4⟩ := FC.out _ hSw; (go_simp <;> with_reducible rfl)
            try simp only [Act.put, List.getElem_toArray, List.getElem_cons_succ, List.getElem_cons_zero, List.setIfInBounds_toArray, List.set_cons_zero, List.set_cons_succ]
            refine wpAnyH_take (i := 16) (v := ?_) rfl (by kernel_rfl) (by kernel_rfl) (by kernel_rfl) (fun _ _ _ h => h) (Or.inl ⟨by rfl, ?_⟩) (by assumption) ?_
            rotate_left
            · intro w hSw; (go_simp <;> with_reducible rfl)
            try simp only [Act.put, List.getElem_toArray, List.getElem_cons_succ, List.getElem_cons_zero, List.setIfInBounds_toArray, List.set_cons_zero, List.set_cons_succ]
            refine wpAnyH_take (i := 17) (v := ?_) rfl (by kernel_rfl) (by kernel_rfl) (by kernel_rfl) (fun _ _ _ h => h) (Or.inl ⟨by rfl, ?_⟩) (by assumption) ?_
            rotate_left
            · intro w hSw; (go_simp <;> with_reducible rfl)
            try simp only [Act.put, List.getElem_toArray, List.getElem_cons_succ, List.getElem_cons_zero, List.setIfInBounds_toArray, List.set_cons_zero, List.set_cons_succ]
            refine wpAnyH_take (i := 18) (v := ?_) rfl (by kernel_rfl) (by kernel_rfl) (by kernel_rfl) (fun _ _ _ h => h) (Or.inl ⟨by rfl, ?_⟩) (by assumption) ?_
            rotate_left
            · intro w hSw; (go_simp <;> with_reducible rfl)
            try simp only [Act.put, List.getElem_toArray, List.getElem_cons_succ, List.getElem_cons_zero, List.setIfInBounds_toArray, List.set_cons_zero, List.set_cons_succ]
            refine wpAnyH_take (i := 19) (v := ?_) rfl (by kernel_rfl) (by kernel_rfl) (by kernel_rfl) (fun _ _ _ h => h) (Or.inl ⟨by rfl, ?_⟩) (by assumption) ?_
            rotate_left
            · intro w hSw; (go_simp <;> with_reducible rfl)
            try simp only [Act.put, List.getElem_toArray, List.getElem_cons_succ, List.getElem_cons_zero, List.setIfInBounds_toArray, List.set_cons_zero, List.set_cons_succ]
            refine wpAnyH_take (i := 20) (v := ?_) rfl (by kernel_rfl) (by kernel_rfl) (by kernel_rfl) (fun _ _ _ h => h) (Or.inl ⟨by rfl, ?_⟩) (by assumption) ?_
            rotate_left
            · intro w hSw; obtain ⟨q1, q2, q3, q4⟩ := FC.out _ hSw; (go_simp <;> with_reducible rfl)
            try simp only [Act.put, List.getElem_toArray, List.getElem_cons_succ, List.getElem_cons_zero, List.setIfInBounds_toArray, List.set_cons_zero, List.set_cons_succ]
            refine wpAnyH_ready (rs := [21]) (by kernel_rfl) (by simp) ?_
            refine AllReadyH.cons rfl (fun K hK => ?_) AllReadyH.nil
            go_simp
            go_at_call 22
            refine (FS.out _ HG0.out).mono ?_
            rintro e w8 ⟨rfl, hg5⟩
            have HG5 := hid hg5
            clear hg5 hHeld
            dsimp only
            try go_simp
            refine hK.out _ _ HG5.out (fun hHeld => ?_)
            clear hK K
            try simp only [Act.put, List.getElem_toArray, List.getElem_cons_succ, List.getElem_cons_zero, List.setIfInBounds_toArray, List.set_cons_zero, List.set_cons_succ]
            refine wpAnyH_take (i := 22) (v := ?_) rfl (by kernel_rfl) (by kernel_rfl) (by kernel_rfl) (fun _ _ _ h => h) (Or.inl ⟨by rfl, ?_⟩) (by assumption) ?_
            rotate_left
            · intro w hSw; (go_simp <;> with_reducible rfl)
            try simp only [Act.put, List.getElem_toArray, List.getElem_cons_succ, List.getElem_cons_zero, List.setIfInBounds_toArray, List.set_cons_zero, List.set_cons_succ]
            refine wpAnyH_take (i := 23) (v := ?_) rfl (by kernel_rfl) (by kernel_rfl) (by kernel_rfl) (fun _ _ _ h => h) (Or.inl ⟨by rfl, ?_⟩) (by assumption) ?_
            rotate_left
            · intro w hSw; (go_simp <;> with_reducible rfl)
            try simp only [Act.put, List.getElem_toArray, List.getElem_cons_succ, List.getElem_cons_zero, List.setIfInBounds_toArray, List.set_cons_zero, List.set_cons_succ]
            refine wpAnyH_take (i := 24) (v := ?_) rfl (by kernel_rfl) (by kernel_rfl) (by kernel_rfl) (fun _ _ _ h => h) (Or.inl ⟨by rfl, ?_⟩) (by assumption) ?_
            rotate_left
            · intro w hSw; (go_simp <;> with_reducible rfl)
            try simp only [Act.put, List.getElem_toArray, List.getElem_cons_succ, List.getElem_cons_zero, List.setIfInBounds_toArray, List.set_cons_zero, List.set_cons_succ]
            refine wpAnyH_done (by kernel_rfl) ?_ _
            go_wp2_with fail
            go_meet
            exact ⟨rfl, rfl, FE.out _ HG5.out⟩
        case rest =>
          obtain ⟨rfl, rfl, L9, hd, hb, he, hx, hu⟩ := hcut
          have HD9 := hid hd
          have HB9 := hid hb
          have HU9 := hid hu
          have HE9 := hid he
          have HX9 := hid hx
          clear hd hb he hx hu hts HX0 FW FS FC FE y1 y2 y3 y4 HG0 G
          go_wp2_with fail
          go_roundw
          case rel => exact ⟨j + 1, L9, by omega, by go_num, HD9.out, HB9.out, HE9.out, HX9.out, HU9.out⟩
          case measure => simp [RowKit.intOf]; omega
    · obtain rfl : j = len := by omega
      clear hd hb h2 hx hu hlt HX HUB HO1 HF
      go_wp2_with fail
      go_loopw [92] (fun s92 wr => ∃ k : Nat, k ≤ 4 ∧ s92 = .int .i64 k ∧ Dev wr w'.heap.size L' (fenD n) ∧ Dev wr w'.heap.size L2 (fenD n) ∧ Upds (fun _ => False) w' wr) (fun s92 _ => (4 - RowKit.intOf s92).toNat)
      case atStart => exact ⟨0, by omega, rfl, HD.out, H2.out, HU.out⟩
      case round =>
        clear HD H2 HU
        obtain ⟨k, hk, rfl, hd, h2, hu⟩ := hrel
        have HD := hid hd
        have HU := hid hu
        by_cases hlt : k < 4
        · obtain ⟨x, y, hxy⟩ : ∃ x y, (fenD n).read k = (x, y) := ⟨_, _, rfl⟩
          have hr := read_any w'.heap.size L' (fenD n) k wr hd
          rw [HB.out, hxy] at hr
          have HR := hid hr
          have HXY := hid hxy
          have H2 := hid h2
          have hxx : (x.toList != x.toList) = false := by simp
          clear hd h2 hu hr hxy
          go_wp2_with fail
          refine HR.out.mono ?_
          rintro e w5 ⟨rfl, hu5⟩
          have hr2 := read_any w'.heap.size L2 (fenD n) k w5 (H2.out.calm hu5)
          rw [HXY.out] at hr2
          have HR2 := hid hr2
          have HD5 := hid (HD.out.calm hu5)
          have H25 := hid (H2.out.calm hu5)
          have HU5 := hid (HU.out.trans hu5)
          clear hr2 hu5 HR HD H2 HU
          go_wp2_with fail
          refine HR2.out.mono ?_
          rintro e w6 ⟨rfl, hu6⟩
          have HD6 := hid (HD5.out.calm hu6)
          have H26 := hid (H25.out.calm hu6)
          have HU6 := hid (HU5.out.trans hu6)
          clear hu6 HR2 HD5 H25 HU5
          go_wp2_with fail
          go_roundw
          case rel => exact ⟨k + 1, by omega, by go_num, HD6.out, H26.out, HU6.out⟩
          case measure => simp [RowKit.intOf]; omega
        · obtain rfl : k = 4 := by omega
          have hp := pending_any w'.heap.size L' (fenD n) 3 wr hd
          rw [HB.out, fenD_count] at hp
          have HP := hid hp
          have HXF := hid (full_any ⟨#[120]⟩ (by decide))
          obtain ⟨x, hx⟩ : ∃ x, x = fullS ⟨#[120]⟩ := ⟨_, rfl⟩
          have hxs : x.size = 140 := by rw [hx]; exact fullS_size _
          rw [← hx] at HXF
          have HLA := hid (fenD_later n hnb x hxs)
          obtain ⟨D9, hD9⟩ := fenD_other n x hxs
          have HOT := hid hD9
          clear hd h2 hu hp hx hxs hD9
          go_wp2_with fail
          refine HP.out.mono ?_
          rintro e w5 ⟨rfl, hu5⟩
          have HD5 := hid (HD.out.calm hu5)
          have HU5 := hid (HU.out.trans hu5)
          have hw5 := write_any w'.heap.size L' (fenD n) 3 ((n : Int) + 1) 0 x w5 HD5.out HU5.out.size (by rw [fenD_fen]; show 0 + 1 ≤ 100000; omega)
          rw [HB.out, HLA.out] at hw5
          have HW5 := hid hw5
          clear hu5 hw5 HP HD HU
          go_wp2_with fail
          refine (HXF.out _).mono ?_
          rintro e w0 ⟨rfl, rfl⟩
          go_wp2_with fail
          refine HW5.out.mono ?_
          rintro e w6 ⟨rfl, ht⟩
          obtain ⟨L6, hd6, hb6, hu6, _⟩ := DevTo.next HU5.out HD5.out ht
          have hw6 := write_any w'.heap.size L6 _ 4 0 0 x w6 hd6 hu6.size (by show 1 + 1 ≤ 100000; omega)
          rw [hb6.trans HB.out, HOT.out] at hw6
          have HW6 := hid hw6
          have HD6 := hid hd6
          have HU6 := hid hu6
          clear ht hd6 hb6 hu6 hw6 HW5 HD5 HU5
          go_wp2_with fail
          refine (HXF.out _).mono ?_
          rintro e w0 ⟨rfl, rfl⟩
          go_wp2_with fail
          refine HW6.out.mono ?_
          rintro e w7 ⟨rfl, ht⟩
          obtain ⟨L7, _, _, hu7, _⟩ := DevTo.next HU6.out HD6.out ht
          have HZ := hid (B1.out.trans ((hu7.below (Nat.le_refl _) (fun _ h => h.elim)).mono B1.out.size))
          clear hu7 ht
          go_wp2_with fail
          go_ret
          exact ⟨rfl, HZ.out⟩
set_option maxRecDepth 100000 in
set_option maxHeartbeats 1000000 in
theorem fences_many (s : Nat) (A : Option Addr) (len cap : Nat) (f : Nat → OpD) (hl : len ≤ cap) (hm : cap ≤ 9223372036854775807) (w : World) (hO : OpsAt w A len f) (hf : ¬ fewO f len 20) :
    Calls Try.prog 8 #[.int .u64 s, .slice A len cap] w fun e w' => e = .returned (.bool true) ∧ Below w.heap.size w w' := by
  have HO := hid hO
  have HF := hid hf
  clear hO hf
  go_enter Try.func8, Try.ntmps8
  go_wp2_with fail
  refine (awake_dev _).mono ?_
  rintro e w1 ⟨rfl, hb⟩
  have B1 := hid hb
  have HO1 := hid (HO.out.below hb)
  clear hb
  go_wp2_with fail
  refine (fewO_no A len cap f hl hm 20 (by omega) HF.out w1 HO1.out).mono ?_
  rintro e w' ⟨rfl, rfl⟩
  go_wp2_with fail
  refine (awake_dev _).mono ?_
  rintro e w2 ⟨rfl, hb⟩
  have B2 := hid (B1.out.trans (hb.mono B1.out.size))
  clear hb
  go_wp2_with fail
  go_ret
  exact ⟨rfl, B2.out⟩
theorem walk_DeviceFences (s : Int) (A : Option Addr) (len cap : Nat) (f : Nat → OpD) {w : World} (hs : 0 ≤ s ∧ s ≤ 18446744073709551615) (hl : len ≤ cap) (hm : cap ≤ 9223372036854775807) (hO : OpsAt w A len f) :
    Calls Try.prog 8 #[.int .u64 s, .slice A len cap] w fun e w' => e = .returned (.bool true) ∧ Below w.heap.size w w' := by
  obtain ⟨n, rfl⟩ := Int.eq_ofNat_of_zero_le hs.1
  by_cases hf : fewO f len 20
  · exact fences_main n (by omega) A len cap f hl hm w hO hf
  · exact fences_many n A len cap f hl hm w hO hf
namespace deviceFences
theorem own : ownKnob Try.prog.godebug = none := by kernel_rfl
theorem laidOut : laidOutB Try.prog = true := by kernel_rfl
set_option linter.unusedVariables false
set_option maxRecDepth 100000 in
theorem lifted (os : Os) (started : os.Started) (H : Type) (enc : TypeId × Value → H) :
    ReturnsInHanded {} Try.checked os 8 .any (Rows.deviceFencesSpec.pre6 enc Try.prog Try.f8 Rows.deviceFencesRow.domain false) (Rows.deviceFencesSpec.post enc Try.prog Try.f8 false true false false) := by
  refine returnsInHanded_of_change (C := Try.checked) own started (by kernel_rfl) Try.func8
    (ChangeSpec.witness6 (enc := enc) (C := Try.checked) false ⟨#[], #[.int .u64 0, .slice none 0 0], []⟩ 8 (by kernel_rfl) (by kernel_rfl) (by kernel_rfl) (by kernel_rfl)) ?_
  intro W base args ds gs before hval0 hW hcnd _
  have hval : ∀ (j : Nat) t v, Try.f8.params[j]? = some t → args[j]? = some v → Value.okWide Try.prog W .any base t v := hval0
  have hW' := hW
  obtain ⟨p, q, hA0, hV, rfl, hfz, hnd⟩ := hW
  have hA : DataW.TrodAll enc Try.prog W 0 (fun _ => true) true Try.f8.params.toList args.toList ds p := hA0
  rw [Try.params8] at hA hval
  obtain ⟨v0, vs0, d0, ds0, p0, q0, hargs, rfl, rfl, h0, r0⟩ := trodAll_cons hA
  obtain ⟨v1, vs1, d1, ds1, p1, q1, rfl, rfl, rfl, h1, r1⟩ := trodAll_cons r0
  obtain ⟨rfl, rfl, rfl⟩ := trodAll_nil r1
  obtain rfl : args = #[v0, v1] := by cases args; simp_all
  obtain ⟨rfl, rfl⟩ := trodVars_none hV
  obtain ⟨a0, rfl, rfl, rfl, w0⟩ := open_int Try.underlying59 (hval 0 59 v0 rfl rfl) h0
  obtain ⟨a1, len1, cap1, rfl⟩ := okWide_slice Try.underlying37 (hval 1 37 v1 rfl rfl)
  have k1 := h1
  have lt1 : ∀ x ∈ p1, x.block < W.heap.size := by obtain ⟨m, hm⟩ := k1; exact DataW.trod_lt m _ _ _ hm
  obtain ⟨fuel1, hf1⟩ := h1
  obtain ⟨A1, l1, c1, f1, hcs1, hl1, hm1, hO1⟩ := ops_open hf1
  simp only [Value.cells, List.cons.injEq, Value.slice.injEq, and_true] at hcs1
  obtain ⟨rfl, rfl, rfl⟩ := hcs1
  clear hA0 hval0
  refine (walk_DeviceFences a0 a1 len1 cap1 f1 (bounds_u64 w0) hl1 hm1 hO1 (w := W)).mono fun e W' ⟨he, bel⟩ => ?_
  subst he
  exact ⟨_, rfl, _, _, _, [], _, [], hW', trodAll_mk1 (shut_bool Try.underlying4 _), (trodAll_cons_mk (shut_int Try.underlying59 w0) (trodAll_cons_mk (Below.trod laidOut (by kernel_rfl) (of_decide_eq_true (by kernel_rfl)) k1 bel lt1) trodAll_mk0)), rfl, bel.frame _, fun h => by cases h⟩
theorem over : Rows.deviceFencesRow.holds Try.pinned (OpenSpec.ofChange Rows.deviceFencesSpec) :=
  OpenClaim.holds_of_wide 8 Try.f8 rfl rfl rfl rfl rfl rfl rfl ⟨rfl, rfl, rfl, rfl, rfl⟩ rfl rfl rfl rfl rfl (by kernel_rfl) Try.func8 (by kernel_rfl)
    (of_decide_eq_true (by kernel_rfl)) (by unfold Func.isWrapper; first | (rw [if_pos (by decide +kernel)]; kernel_rfl) | (rw [if_neg (by decide +kernel)]; exact ⟨rfl, rfl⟩))
    (fun os started H enc _ => lifted os started H enc)
theorem proved : Rows.DeviceFencesSaid := over
end deviceFences

end Go.Proofs.Ytfcaodaaklngmaa
