/- Statement DeviceLasts: what was written and synced survives any crashes, and is read as long as nothing is written or damaged; for every number, every text, every list of operations and every list of numbers, within the statement's own bounds. -/
import Derived.Test.YtiehchbaiikjiaaRows
import Derived.WalkKit
import Derived.ProofKit
import Derived.OpenShut
import Derived.ShutString
import Derived.ChangeOld
import Derived.Below
import Derived.Test.YtiehchbaiikjiaaLastM
import Derived.Test.YtiehchbaiikjiaaFull
namespace Go.Proofs.Ytiehchbaiikjiaa
open Go.Lib Go.ChangeShapes Go.WideShapes Go.ChangeAt Go.RowKit
open Go.ChangeMaps (open_string shut_string)
set_option linter.unusedVariables false

set_option maxRecDepth 100000 in
set_option maxHeartbeats 4000000 in
theorem lasts_main (s : Nat) (hs : s ≤ 255) (t : ByteArray) (ht : t.size ≤ 9223372036854775807) (A : Option Addr) (len cap : Nat) (f : Nat → OpD) (hl : len ≤ cap) (hm : cap ≤ 9223372036854775807) (A2 : Option Addr) (l : List Int) (cS : Nat) (w : World) (hO : OpsAt w A len f) (hS : SurAt w A2 l cS) (hf : fewO f len 15) (hl40 : l.length ≤ 40) :
    Calls Try.prog 6 #[.int .u8 s, .string t, .slice A len cap, .slice A2 l.length cS] w fun e w' => e = .returned (.bool true) ∧ Below w.heap.size w w' := by
  have HO := hid hO
  have HS := hid hS
  have HF := hid hf
  have hlen := hf.2
  have hcl := hS.cap
  clear hO hS hf
  go_enter Try.func6, Try.ntmps6
  go_wp2_with fail
  refine (awake_dev _).mono ?_
  rintro e w1 ⟨rfl, hb⟩
  have B1 := hid hb
  have HO1 := hid (HO.out.below hb)
  clear hb
  go_wp2_with fail
  refine (fewO_yes A len cap f hl hm 15 (by omega) HF.out w1 HO1.out).mono ?_
  rintro e w' ⟨rfl, rfl⟩
  go_wp2_with fail
  refine (begin_any 5 (by omega) w').mono ?_
  intro e w3 hx
  obtain ⟨L, R, rfl, hd, _, hu⟩ := hx
  have HD3 := hid hd
  have HU3 := hid hu
  clear hd hu
  rw [show R.agg (DS.fresh (1 + 5 % 6)) = .agg #[.slice (some ⟨R.sg, 0, none⟩) 6 R.scap, .slice (some ⟨R.og, 0, none⟩) 6 R.ocap, .slice R.pa 0 R.pc, .slice (some ⟨R.fg, 0, none⟩) 5 R.fcap, .bool false, .int .i64 (-1), .slice R.va R.vn R.vc] from rfl]
  obtain ⟨w4, hw4⟩ : ∃ w4, w4 = w3.alloc (.cells #[.slice (some ⟨R.sg, 0, none⟩) 6 R.scap, .slice (some ⟨R.og, 0, none⟩) 6 R.ocap, .slice R.pa 0 R.pc, .slice (some ⟨R.fg, 0, none⟩) 5 R.fcap, .bool false, .int .i64 (-1), .slice R.va R.vn R.vc] 32) := ⟨_, rfl⟩
  have hu4 : Upds (fun _ => False) w3 w4 := by rw [hw4]; exact Upds.alloc _ _
  have HD4 : Hid (Dev w4 w'.heap.size L (DS.fresh 6)) := hid (HD3.out.calm hu4)
  have HU4 := hid (HU3.out.trans hu4)
  have HW4 := hid hw4
  clear hu4 hw4 HD3 HU3
  go_upto_region 4 with fail
  rw [← HW4.out]
  go_wp2_with fail
  go_loopw [43] (fun s43 wr => ∃ (j : Nat) (L' : Lay) (D' : DS), j ≤ len ∧ s43 = .int .i64 j ∧ Dev wr w'.heap.size L' D' ∧ L'.b = L.b ∧ Plain D' j ∧ Upds (fun _ => False) w' wr) (fun s43 _ => len - (RowKit.intOf s43).toNat)
  case atStart => exact ⟨0, L, DS.fresh 6, by omega, rfl, HD4.out, rfl, Plain.fresh, HU4.out⟩
  case round =>
    clear HD4 HU4 HW4 w4
    obtain ⟨j, L', D', hj, rfl, hd, hb, hp, hu⟩ := hrel
    have HD := hid hd
    have HB := hid hb
    have HP := hid hp
    have HU := hid hu
    have HUB : Hid (Below w'.heap.size w' wr) := hid (hu.below (Nat.le_refl _) (fun _ h => h.elim))
    by_cases hlt : j < len
    · have hop := HO1.out.below HUB.out
      obtain ⟨b0, off, rfl, hb0, hc⟩ := hop.get hlt
      obtain ⟨o, ho⟩ : ∃ o, o = f j := ⟨_, rfl⟩
      have hok := hop.ok j hlt
      have hok0 := HO1.out.ok j hlt
      rw [← ho] at hc hok hok0
      have c0 : wr.cell? ⟨b0, off + j * 8, none⟩ = some (.int .u8 o.kind) := hc 0 _ rfl
      have c1 := hc 1 _ rfl
      have c2 := hc 2 _ rfl
      have c3 := hc 3 _ rfl
      have c4 := hc 4 _ rfl
      have c5 := hc 5 _ rfl
      have c6 := hc 6 _ rfl
      have c7 := hc 7 _ rfl
      obtain ⟨hk0, hk1⟩ := hok.kind
      have hu5 : Upds (fun _ => False) wr (wr.alloc (.cells #[.int .u8 o.kind, .int .i64 o.sys, .int .i64 o.ep, .int .i64 o.sec, .string o.dat, .int .i64 o.n, .int .u8 o.mask, .slice o.sa o.sur.length o.sc] 44)) := Upds.alloc _ _
      have hr5 := op_box wr o
      obtain ⟨w5, hw5⟩ : ∃ w5, w5 = wr.alloc (.cells #[.int .u8 o.kind, .int .i64 o.sys, .int .i64 o.ep, .int .i64 o.sec, .string o.dat, .int .i64 o.n, .int .u8 o.mask, .slice o.sa o.sur.length o.sc] 44) := ⟨_, rfl⟩
      rw [← hw5] at hu5 hr5
      have d0 := hr5.cell (i := 0) rfl
      have d1 := hr5.cell (i := 1) rfl
      have d2 := hr5.cell (i := 2) rfl
      have d3 := hr5.cell (i := 3) rfl
      have d4 := hr5.cell (i := 4) rfl
      have d5 := hr5.cell (i := 5) rfl
      have d6 := hr5.cell (i := 6) rfl
      have d7 := hr5.cell (i := 7) rfl
      have HD5 := hid (hd.calm hu5)
      have HU5 := hid (hu.trans hu5)
      have HOK5 := hid (hok.below (hu5.below (Nat.le_refl _) (fun _ h => h.elim)))
      have HSB : Hid (∀ x, o.sa = some x → 0 < o.sur.length → x.block < w'.heap.size) := hid hok0.sur.lt
      have HW5 := hid hw5
      clear hc hop hok hok0 ho hd hb hp hu hu5 hr5 hw5
      go_upto_region 9 with fail
      rw [← HW5.out]
      clear c0 c1 c2 c3 c4 c5 c6 c7
      by_cases h3 : o.kind % 8 = 3
      · have hd3 : (o.kind % 8 != 3) = false := by rw [h3]; rfl
        clear h3
        go_wp2_with fail
        go_roundw
        case rel => exact ⟨j + 1, L', D', by omega, by go_num, HD5.out, HB.out, HP.out.mono (by omega), HU5.out⟩
        case measure => simp [RowKit.intOf]; omega
      · have hd3 : (o.kind % 8 != 3) = true := by simpa using h3
        by_cases h4 : o.kind % 8 = 4
        · have hd4 : (o.kind % 8 != 4) = false := by rw [h4]; rfl
          clear h3 h4
          go_wp2_with fail
          go_roundw
          case rel => exact ⟨j + 1, L', D', by omega, by go_num, HD5.out, HB.out, HP.out.mono (by omega), HU5.out⟩
          case measure => simp [RowKit.intOf]; omega
        · have hd4 : (o.kind % 8 != 4) = true := by simpa using h4
          have hc : ∃ r : Int × DS, Plain r.2 (j + 1) ∧ Calls Try.prog 17 #[.pointer (some ⟨L'.b, 0, none⟩), opV o] w5 (OpPost w'.heap.size L' w5 r) := by
            have hz := HU5.out.size
            have hq : o.kind % 8 = 0 ∨ o.kind % 8 = 1 ∨ o.kind % 8 = 2 ∨ o.kind % 8 = 5 ∨ o.kind % 8 = 6 ∨ o.kind % 8 = 7 := by omega
            have hfew := HP.out.few
            rcases hq with h | h | h | h | h | h
            · exact ⟨_, HP.out.write _ _ _ _, do_write _ L' D' o h w5 HD5.out hz (by omega) HOK5.out⟩
            · exact ⟨_, (HP.out.sync _ _).mono (by omega), do_sync _ L' D' o h w5 HD5.out hz HOK5.out⟩
            · exact ⟨_, (HP.out.done _ _).mono (by omega), do_crash _ L' D' o h w5 HD5.out hz HSB.out HOK5.out⟩
            · exact ⟨_, HP.out.repair.mono (by omega), do_repair _ L' D' o h w5 HD5.out hz HOK5.out⟩
            · exact ⟨_, (HP.out.damage _ _ _).mono (by omega), do_damage _ L' D' o h w5 HD5.out hz HOK5.out⟩
            · exact ⟨_, (HP.out.ret _ _).mono (by omega), do_return _ L' D' o h w5 HD5.out hz HOK5.out⟩
          obtain ⟨r, hr1, hr2⟩ := hc
          rw [HB.out] at hr2
          have HR1 := hid hr1
          have HR2 := hid hr2
          clear h3 h4 hr1 hr2
          go_wp2_with fail
          refine HR2.out.mono ?_
          rintro e w6 ⟨rfl, hd⟩
          obtain ⟨L6, hd6, hb6, hu6, _⟩ := DevTo.next HU5.out HD5.out hd
          have HD6 := hid hd6
          have HB6 := hid (hb6.trans HB.out)
          have HU6 := hid hu6
          clear hd hd6 hb6 hu6
          go_wp2_with fail
          go_roundw
          case rel => exact ⟨j + 1, L6, r.2, by omega, by go_num, HD6.out, HB6.out, HR1.out, HU6.out⟩
          case measure => simp [RowKit.intOf]; omega
    · obtain rfl : j = len := by omega
      have HFT := hid (full_any t ht)
      obtain ⟨x, hx⟩ : ∃ x, x = fullS t := ⟨_, rfl⟩
      have hxs : x.size = 140 := by rw [hx]; exact fullS_size t
      rw [← hx] at HFT
      have HXS := hid hxs
      obtain ⟨i, hi⟩ : ∃ i : Nat, i = s % 6 := ⟨_, rfl⟩
      have hi6 : i < 6 := by omega
      have hrem : (s : Int) % 6 = (i : Int) := by omega
      have hw0 : Hid (∀ W : World, W = W) := hid (fun _ => rfl)
      have hu5 : Upds (fun _ => False) wr (wr.alloc (.cells #[.int .i64 2, .int .i64 1] 42)) := Upds.alloc _ _
      have hr5 : Row (wr.alloc (.cells #[.int .i64 2, .int .i64 1] 42)) wr.heap.size 42 [.int .i64 2, .int .i64 1] := Row.new wr [.int .i64 2, .int .i64 1] _
      obtain ⟨w5, hw5⟩ : ∃ w5, w5 = wr.alloc (.cells #[.int .i64 2, .int .i64 1] 42) := ⟨_, rfl⟩
      obtain ⟨bw, hbw⟩ : ∃ bw, bw = wr.heap.size := ⟨_, rfl⟩
      rw [← hw5] at hu5 hr5
      rw [← hbw] at hr5
      have HD5 := hid (hd.calm hu5)
      have HU5 := hid (hu.trans hu5)
      have HR5 := hid hr5
      have HW5 := hid hw5
      have HBW := hid hbw
      clear hx hxs hd hb hp hu hu5 hr5 hw5 hbw hw0 hi HD HU HUB
      go_wp2_with fail
      refine (HFT.out wr).mono ?_
      rintro e w6 ⟨rfl, rfl⟩
      go_upto_region 13 with fail
      rw [← HBW.out, ← HW5.out]
      go_wp2_with fail
      go_loopw [17] (fun s17 wr => ∃ (k : Nat) (L' : Lay) (D' : DS), k ≤ 4 ∧ s17 = .int .i64 ((k : Int) + 1) ∧ Dev wr w'.heap.size L' D' ∧ L'.b = L.b ∧ Plain D' j ∧ Gone D' k ∧ Row wr bw 42 [.int .i64 2, .int .i64 1] ∧ Upds (fun _ => False) w' wr) (fun s17 _ => (5 - RowKit.intOf s17).toNat)
      case atStart => exact ⟨0, L', D', by omega, by go_num, HD5.out, HB.out, HP.out, fun p hp => by have := (HD5.out.ok.pend p hp).1; omega, HR5.out, HU5.out⟩
      case round =>
        clear HD5 HB HP HR5 HU5 HW5 HBW w5 L' D'
        obtain ⟨k, L', D', hk, rfl, hd, hb, hp, hg, hr, hu⟩ := hrel
        have HD := hid hd
        have HB := hid hb
        have HP := hid hp
        have HG := hid hg
        have HR := hid hr
        have HU := hid hu
        by_cases hlt : k < 4
        · have hc := crash_any w'.heap.size L' D' ((k : Int) + 1) none 0 [] (by simp) wr hd hu.size (fun h => by simp at h) (fun x e => by cases e)
          rw [hb] at hc
          have HC := hid hc
          clear hd hb hp hg hr hu hc
          go_wp2_with fail
          refine HC.out.mono ?_
          rintro e w6 ⟨rfl, ht⟩
          obtain ⟨L6, hd6, hb6, hu6, ho6⟩ := DevTo.next HU.out HD.out ht
          have HR6 := hid (HR.out.upd ho6 (HD.out.not_own HR.out (by decide) (by decide) (by decide)))
          have HD6 := hid hd6
          have HB6 := hid (hb6.trans HB.out)
          have HU6 := hid hu6
          clear ht hd6 hb6 hu6 ho6
          go_wp2_with fail
          go_roundw
          case rel => exact ⟨k + 1, L6, _, by omega, by go_num, HD6.out, HB6.out, HP.out.done _ _, HG.out.crash [], HR6.out, HU6.out⟩
          case measure => simp [RowKit.intOf]; omega
        · obtain rfl : k = 4 := by omega
          have hnil := hg.all hd.ok
          have hst := hd.ok.st i (by rw [hp.n]; exact hi6)
          have HW := hid (write_kept hp hnil i hi6 x HXS.out)
          have HSY := hid (sync_kept hp i x HXS.out hst)
          have HKR := hid (kept_read hp i hi6 x)
          have HKP := hid (kept_plain hp i x)
          have hwc := write_any w'.heap.size L' D' 2 1 i x wr hd hu.size (by rw [hnil]; simp)
          rw [hb] at hwc
          have HWC := hid hwc
          have c0 := hr.cell (i := 0) rfl
          have c1 := hr.cell (i := 1) rfl
          clear hnil hst hd hb hp hg hr hu hwc
          go_wp2_with fail
          refine HWC.out.mono ?_
          intro e w6 hx
          rw [HW.out] at hx
          obtain ⟨rfl, ht⟩ := hx
          obtain ⟨L6, hd6, hb6, hu6, ho6⟩ := DevTo.next HU.out HD.out ht
          have hr6 := HR.out.upd ho6 (HD.out.not_own HR.out (by decide) (by decide) (by decide))
          have HR6 := hid hr6
          have HD6 := hid hd6
          have HB6 := hid (hb6.trans HB.out)
          have HU6 := hid hu6
          have e0 := hr6.cell (i := 0) rfl
          have e1 := hr6.cell (i := 1) rfl
          have hsc := sync_any w'.heap.size L6 _ 2 1 w6 hd6 hu6.size
          rw [hb6.trans HB.out, HSY.out] at hsc
          have HSC := hid hsc
          clear ht hd6 hb6 hu6 ho6 hr6 c0 c1 hsc HR HD HU
          go_wp2_with fail
          refine HSC.out.mono ?_
          rintro e w7 ⟨rfl, ht⟩
          obtain ⟨L7, hd7, hb7, hu7, ho7⟩ := DevTo.next HU6.out HD6.out ht
          have hr7 := HR6.out.upd ho7 (HD6.out.not_own HR6.out (by decide) (by decide) (by decide))
          have HD7 := hid hd7
          have HB7 := hid (hb7.trans HB6.out)
          have HU7 := hid hu7
          have hpc := pending_any w'.heap.size L7 _ 2 w7 hd7
          rw [hb7.trans HB6.out, kept_count] at hpc
          have HPC := hid hpc
          clear ht hd7 hb7 hu7 ho7 hr7 hpc e0 e1 HR6
          go_wp2_with fail
          refine HPC.out.mono ?_
          rintro e w8 ⟨rfl, hu⟩
          have HD8 := hid (HD7.out.calm hu)
          have HU8 := hid (HU7.out.trans hu)
          obtain ⟨K, hK⟩ : ∃ K, K = kept D' i x := ⟨_, rfl⟩
          rw [← hK] at HD8 HKR HKP
          have hkp0 : K.pend = [] := by rw [hK]; rfl
          have HK0 := hid hkp0
          clear hu HD7 HU7 HD6 HU6 HPC HSC HWC HW HSY HB6 hkp0 hK
          go_wp2_with fail
          go_loopw [18] (fun s18 wr => ∃ (k : Nat) (L' : Lay), k ≤ 4 ∧ s18 = .int .i64 ((k : Int) + 1) ∧ Dev wr w'.heap.size L' K ∧ L'.b = L.b ∧ Upds (fun _ => False) w' wr) (fun s18 _ => (5 - RowKit.intOf s18).toNat)
          case atStart => exact ⟨0, L7, by omega, by go_num, HD8.out, HB7.out, HU8.out⟩
          case round =>
            clear HD8 HB7 HU8 L7 HB HP HG
            obtain ⟨k, L', hk, rfl, hd, hb, hu⟩ := hrel
            have HD := hid hd
            have HB := hid hb
            have HU := hid hu
            by_cases hlt : k < 4
            · have hbw : Below w.heap.size w wr := B1.out.trans ((hu.below (Nat.le_refl _) (fun _ h => h.elim)).mono B1.out.size)
              have hc := crash_any w'.heap.size L' K ((k : Int) + 1) A2 cS l (by omega) wr hd hu.size (HS.out.below hbw).at_ (fun y e h0 ho => by have := hd.below _ ho; have := HS.out.lt y e h0; have := B1.out.size; omega)
              rw [hb, crash_rest HK0.out] at hc
              have HC := hid hc
              clear hd hb hu hc hbw
              go_wp2_with fail
              refine HC.out.mono ?_
              rintro e w9 ⟨rfl, ht⟩
              obtain ⟨L9, hd9, hb9, hu9, _⟩ := DevTo.next HU.out HD.out ht
              have HD9 := hid hd9
              have HB9 := hid (hb9.trans HB.out)
              have HU9 := hid hu9
              clear ht hd9 hb9 hu9
              go_wp2_with fail
              go_roundw
              case rel => exact ⟨k + 1, L9, by omega, by go_num, HD9.out, HB9.out, HU9.out⟩
              case measure => simp [RowKit.intOf]; omega
            · obtain rfl : k = 4 := by omega
              have hrc := read_any w'.heap.size L' K i wr hd
              rw [hb, HKR.out] at hrc
              have HRC := hid hrc
              have hxx : (x.toList == x.toList) = true := by simp
              clear hd hb hu hrc
              go_wp2_with fail
              refine HRC.out.mono ?_
              rintro e wz ⟨rfl, hu⟩
              have HZ := hid (B1.out.trans (((HU.out.trans hu).below (Nat.le_refl _) (fun _ h => h.elim)).mono B1.out.size))
              clear hu
              go_wp2_with fail
              go_ret
              exact ⟨rfl, HZ.out⟩
set_option maxRecDepth 100000 in
set_option maxHeartbeats 1000000 in
theorem lasts_many (s : Nat) (t : ByteArray) (A : Option Addr) (len cap : Nat) (f : Nat → OpD) (hl : len ≤ cap) (hm : cap ≤ 9223372036854775807) (A2 : Option Addr) (l : List Int) (cS : Nat) (w : World) (hO : OpsAt w A len f) (hf : ¬ fewO f len 15) :
    Calls Try.prog 6 #[.int .u8 s, .string t, .slice A len cap, .slice A2 l.length cS] w fun e w' => e = .returned (.bool true) ∧ Below w.heap.size w w' := by
  have HO := hid hO
  have HF := hid hf
  clear hO hf
  go_enter Try.func6, Try.ntmps6
  go_wp2_with fail
  refine (awake_dev _).mono ?_
  rintro e w1 ⟨rfl, hb⟩
  have B1 := hid hb
  have HO1 := hid (HO.out.below hb)
  clear hb
  go_wp2_with fail
  refine (fewO_no A len cap f hl hm 15 (by omega) HF.out w1 HO1.out).mono ?_
  rintro e w' ⟨rfl, rfl⟩
  go_wp2_with fail
  refine (awake_dev _).mono ?_
  rintro e w2 ⟨rfl, hb⟩
  have B2 := hid (B1.out.trans (hb.mono B1.out.size))
  clear hb
  go_wp2_with fail
  go_ret
  exact ⟨rfl, B2.out⟩
set_option maxRecDepth 100000 in
set_option maxHeartbeats 1000000 in
theorem lasts_long (s : Nat) (t : ByteArray) (A : Option Addr) (len cap : Nat) (f : Nat → OpD) (hl : len ≤ cap) (hm : cap ≤ 9223372036854775807) (A2 : Option Addr) (l : List Int) (cS : Nat) (w : World) (hO : OpsAt w A len f) (hS : SurAt w A2 l cS) (hf : fewO f len 15) (hl40 : ¬ l.length ≤ 40) :
    Calls Try.prog 6 #[.int .u8 s, .string t, .slice A len cap, .slice A2 l.length cS] w fun e w' => e = .returned (.bool true) ∧ Below w.heap.size w w' := by
  have HO := hid hO
  have HF := hid hf
  have hcl := hS.cap
  clear hO hf hS
  go_enter Try.func6, Try.ntmps6
  go_wp2_with fail
  refine (awake_dev _).mono ?_
  rintro e w1 ⟨rfl, hb⟩
  have B1 := hid hb
  have HO1 := hid (HO.out.below hb)
  clear hb
  go_wp2_with fail
  refine (fewO_yes A len cap f hl hm 15 (by omega) HF.out w1 HO1.out).mono ?_
  rintro e w' ⟨rfl, rfl⟩
  go_wp2_with fail
  refine (awake_dev _).mono ?_
  rintro e w2 ⟨rfl, hb⟩
  have B2 := hid (B1.out.trans (hb.mono B1.out.size))
  clear hb
  go_wp2_with fail
  go_ret
  exact ⟨rfl, B2.out⟩
theorem sur_of {w : World} {A : Option Addr} {len cap : Nat} {C : Nat → Nat → Value} (hl : len ≤ cap) (hm : cap ≤ maxLen) (hE : Elems w A len 1 C) (hs : ∀ i, i < len → ∃ n : Int, C i 0 = .int .i64 n ∧ -9223372036854775808 ≤ n ∧ n ≤ 9223372036854775807) :
    ∃ l : List Int, l.length = len ∧ SurAt w A l cap := by
  have key : ∀ i, ∃ n : Int, i < len → C i 0 = .int .i64 n ∧ b64 n := fun i => by
    by_cases hi : i < len
    · obtain ⟨n, h1⟩ := hs i hi
      exact ⟨n, fun _ => h1⟩
    · exact ⟨0, fun h => absurd h hi⟩
  unfold maxLen at hm
  refine ⟨(List.range len).map fun i => Classical.choose (key i), by simp, ⟨fun h0 => ?_, fun y e h0 => ?_, fun y hy => ?_, by simpa using ⟨hl, hm⟩⟩⟩
  · simp only [List.length_map, List.length_range] at h0 ⊢
    obtain ⟨b, off, e, hlt, hc⟩ := hE h0
    refine ⟨b, off, e, fun i hi => ?_⟩
    have := hc i 0 hi (by omega)
    simp only [Nat.mul_one, Nat.add_zero] at this
    rw [this, (Classical.choose_spec (key i) hi).1]
    simp
  · simp only [List.length_map, List.length_range] at h0
    obtain ⟨b, off, e', hlt, hc⟩ := hE h0
    rw [e] at e'
    cases e'
    exact hlt
  · obtain ⟨i, hi, rfl⟩ := List.mem_map.1 hy
    exact (Classical.choose_spec (key i) (List.mem_range.1 hi)).2
theorem walk_DeviceLasts (s : Int) (t : ByteArray) (A : Option Addr) (len cap : Nat) (f : Nat → OpD) (A2 : Option Addr) (len2 cap2 : Nat) (C2 : Nat → Nat → Value) {w : World} (hs : 0 ≤ s ∧ s ≤ 255) (ht : t.size ≤ maxLen) (hl : len ≤ cap) (hm : cap ≤ 9223372036854775807) (hO : OpsAt w A len f)
    (hl2 : len2 ≤ cap2) (hm2 : cap2 ≤ maxLen) (hE2 : Elems w A2 len2 1 C2) (hS2 : ∀ i, i < len2 → ∃ n : Int, C2 i 0 = .int .i64 n ∧ -9223372036854775808 ≤ n ∧ n ≤ 9223372036854775807) :
    Calls Try.prog 6 #[.int .u8 s, .string t, .slice A len cap, .slice A2 len2 cap2] w fun e w' => e = .returned (.bool true) ∧ Below w.heap.size w w' := by
  obtain ⟨n, rfl⟩ := Int.eq_ofNat_of_zero_le hs.1
  obtain ⟨l, hll, hS⟩ := sur_of hl2 hm2 hE2 hS2
  subst hll
  unfold maxLen at ht
  by_cases hf : fewO f len 15
  · by_cases h40 : l.length ≤ 40
    · exact lasts_main n (by omega) t ht A len cap f hl hm A2 l cap2 w hO hS hf h40
    · exact lasts_long n t A len cap f hl hm A2 l cap2 w hO hS hf h40
  · exact lasts_many n t A len cap f hl hm A2 l cap2 w hO hf
namespace deviceLasts
theorem own : ownKnob Try.prog.godebug = none := by kernel_rfl
theorem laidOut : laidOutB Try.prog = true := by kernel_rfl
set_option linter.unusedVariables false
set_option maxRecDepth 100000 in
theorem lifted (os : Os) (started : os.Started) (H : Type) (enc : TypeId × Value → H) :
    ReturnsInHanded {} Try.checked os 6 .any (Rows.deviceLastsSpec.pre6 enc Try.prog Try.f6 Rows.deviceLastsRow.domain false) (Rows.deviceLastsSpec.post enc Try.prog Try.f6 false true false false) := by
  refine returnsInHanded_of_change (C := Try.checked) own started (by kernel_rfl) Try.func6
    (ChangeSpec.witness6 (enc := enc) (C := Try.checked) false ⟨#[], #[.int .u8 0, .string ByteArray.empty, .slice none 0 0, .slice none 0 0], []⟩ 8 (by kernel_rfl) (by kernel_rfl) (by kernel_rfl) (by kernel_rfl)) ?_
  intro W base args ds gs before hval0 hW hcnd _
  have hval : ∀ (j : Nat) t v, Try.f6.params[j]? = some t → args[j]? = some v → Value.okWide Try.prog W .any base t v := hval0
  have hW' := hW
  obtain ⟨p, q, hA0, hV, rfl, hfz, hnd⟩ := hW
  have hA : DataW.TrodAll enc Try.prog W 0 (fun _ => true) true Try.f6.params.toList args.toList ds p := hA0
  rw [Try.params6] at hA hval
  obtain ⟨v0, vs0, d0, ds0, p0, q0, hargs, rfl, rfl, h0, r0⟩ := trodAll_cons hA
  obtain ⟨v1, vs1, d1, ds1, p1, q1, rfl, rfl, rfl, h1, r1⟩ := trodAll_cons r0
  obtain ⟨v2, vs2, d2, ds2, p2, q2, rfl, rfl, rfl, h2, r2⟩ := trodAll_cons r1
  obtain ⟨v3, vs3, d3, ds3, p3, q3, rfl, rfl, rfl, h3, r3⟩ := trodAll_cons r2
  obtain ⟨rfl, rfl, rfl⟩ := trodAll_nil r3
  obtain rfl : args = #[v0, v1, v2, v3] := by cases args; simp_all
  obtain ⟨rfl, rfl⟩ := trodVars_none hV
  obtain ⟨a0, rfl, rfl, rfl, w0⟩ := open_int Try.underlying5 (hval 0 5 v0 rfl rfl) h0
  obtain ⟨a1, rfl, rfl, rfl, w1⟩ := open_string Try.underlying9 (hval 1 9 v1 rfl rfl) h1
  obtain ⟨a2, len2, cap2, rfl⟩ := okWide_slice Try.underlying37 (hval 2 37 v2 rfl rfl)
  have k2 := h2
  have lt2 : ∀ x ∈ p2, x.block < W.heap.size := by obtain ⟨m, hm⟩ := k2; exact DataW.trod_lt m _ _ _ hm
  obtain ⟨fuel2, hf2⟩ := h2
  obtain ⟨A2, l2, c2, f2, hcs2, hl2, hm2, hO2⟩ := ops_open hf2
  simp only [Value.cells, List.cons.injEq, Value.slice.injEq, and_true] at hcs2
  obtain ⟨rfl, rfl, rfl⟩ := hcs2
  obtain ⟨a3, len3, cap3, rfl⟩ := okWide_slice Try.underlying30 (hval 3 30 v3 rfl rfl)
  have k3 := h3
  have lt3 : ∀ x ∈ p3, x.block < W.heap.size := by obtain ⟨m, hm⟩ := k3; exact DataW.trod_lt m _ _ _ hm
  obtain ⟨fuel3, hf3⟩ := h3
  obtain ⟨A3, l3, c3, C3, hcs3, hl3, hm3, hE3, hF3⟩ := open_cells Try.underlying30 (by kernel_rfl) hf3
  simp only [Value.cells, List.cons.injEq, Value.slice.injEq, and_true] at hcs3
  obtain ⟨rfl, rfl, rfl⟩ := hcs3
  have s3_0 : ∀ i, i < len3 → ∃ n : Int, C3 i 0 = .int .i64 n ∧ -9223372036854775808 ≤ n ∧ n ≤ 9223372036854775807 := fun i hi => by obtain ⟨y, n, hy⟩ := hF3 i hi; obtain ⟨n, e, _, hw⟩ := DataW.trod_int Try.underlying3 hy; exact ⟨n, List.head_eq_of_cons_eq e, bounds_i64 hw⟩
  clear hA0 hval0
  refine (walk_DeviceLasts a0 a1 a2 len2 cap2 f2 a3 len3 cap3 C3 (bounds_u8 w0) w1 hl2 hm2 hO2 hl3 hm3 hE3 s3_0 (w := W)).mono fun e W' ⟨he, bel⟩ => ?_
  subst he
  exact ⟨_, rfl, _, _, _, [], _, [], hW', trodAll_mk1 (shut_bool Try.underlying4 _), (trodAll_cons_mk (shut_int Try.underlying5 w0) (trodAll_cons_mk (shut_string Try.underlying9 w1) (trodAll_cons_mk (Below.trod laidOut (by kernel_rfl) (of_decide_eq_true (by kernel_rfl)) k2 bel lt2) (trodAll_cons_mk (Below.trod laidOut (by kernel_rfl) (of_decide_eq_true (by kernel_rfl)) k3 bel lt3) trodAll_mk0)))), rfl, bel.frame _, fun h => by cases h⟩
theorem over : Rows.deviceLastsRow.holds Try.pinned (OpenSpec.ofChange Rows.deviceLastsSpec) :=
  OpenClaim.holds_of_wide 6 Try.f6 rfl rfl rfl rfl rfl rfl rfl ⟨rfl, rfl, rfl, rfl, rfl⟩ rfl rfl rfl rfl rfl (by kernel_rfl) Try.func6 (by kernel_rfl)
    (of_decide_eq_true (by kernel_rfl)) (by unfold Func.isWrapper; first | (rw [if_pos (by decide +kernel)]; kernel_rfl) | (rw [if_neg (by decide +kernel)]; exact ⟨rfl, rfl⟩))
    (fun os started H enc _ => lifted os started H enc)
theorem proved : Rows.DeviceLastsSaid := over
end deviceLasts

end Go.Proofs.Ytiehchbaiikjiaa
