/- Statement DeviceCrashes: after a crash each sector that a system has written once has the first bytes of the write and the rest of its former content, and the writes of other systems are still pending; for every list of texts and every list of numbers, within the statement's own bounds. -/
import Derived.Test.YtpiiidiifnefcaaRows
import Derived.WalkKit
import Derived.ProofKit
import Derived.OpenShut
import Derived.ShutString
import Derived.ChangeOld
import Derived.Below
import Derived.Test.YtpiiidiifnefcaaCrashM
import Derived.Test.YtpiiidiifnefcaaBegin
import Derived.Test.YtpiiidiifnefcaaOpen
namespace Go.Proofs.Ytpiiidiifnefcaa
open Go.Lib Go.ChangeShapes Go.WideShapes Go.ChangeAt Go.RowKit
open Go.ChangeMaps (open_string shut_string)

set_option maxRecDepth 100000 in
set_option maxHeartbeats 4000000 in
theorem crashes_few (A : Option Addr) (len cap : Nat) (T : Nat → ByteArray) (A2 : Option Addr) (l : List Int) (cap2 : Nat) (hn : len ≤ 6) (hn2 : l.length ≤ 6) (w : World) (hE : Elems w A len 1 (fun i _ => .string (T i))) (hS : ∀ i, i < len → (T i).size ≤ 9223372036854775807) (hI : IntsAt w A2 l) (hl : ∀ i, -9223372036854775808 ≤ svOf l i ∧ svOf l i ≤ 9223372036854775807) :
    Calls Try.prog 7 #[.slice A len cap, .slice A2 l.length cap2] w fun e w' => e = .returned (.bool true) ∧ Below w.heap.size w w' := by
  have HE := hid hE
  have HS := hid hS
  have HI := hid hI
  have HL := hid hl
  clear hE hS hI hl
  obtain ⟨len2, hlen2⟩ : ∃ m, m = l.length := ⟨_, rfl⟩
  rw [← hlen2] at hn2 ⊢
  have HLEN := hid hlen2
  clear hlen2
  go_enter Try.func7, Try.ntmps7
  go_wp2_with fail
  refine (awake_dev _).mono ?_
  rintro e w1 ⟨rfl, hb1⟩
  have HB1 := hid hb1
  clear hb1
  go_wp2_with fail
  refine (begin_any 5 (by omega) w1).mono ?_
  intro e w2 hx
  rw [show 1 + 5 % 6 = 6 from rfl] at hx
  obtain ⟨L, R, rfl, hd, _, hu⟩ := hx
  have HD := hid hd
  have HU := hid hu
  clear hd hu
  rw [show R.agg (DS.fresh 6) = .agg #[.slice (some ⟨R.sg, 0, none⟩) 6 R.scap, .slice (some ⟨R.og, 0, none⟩) 6 R.ocap, .slice R.pa 0 R.pc, .slice (some ⟨R.fg, 0, none⟩) 5 R.fcap, .bool false, .int .i64 (-1), .slice R.va R.vn R.vc] from rfl]
  go_wp2_with fail
  obtain ⟨w3, hw3⟩ : ∃ w3, w3 = ((w2.alloc (.cells #[.slice (some ⟨R.sg, 0, none⟩) 6 R.scap, .slice (some ⟨R.og, 0, none⟩) 6 R.ocap, .slice R.pa 0 R.pc, .slice (some ⟨R.fg, 0, none⟩) 5 R.fcap, .bool false, .int .i64 (-1), .slice R.va R.vn R.vc] 32)).alloc (.cells #[.int .i64 1, .int .i64 0] 42)).alloc (.cells #[.int .i64 2, .int .i64 0] 42) := ⟨_, rfl⟩
  obtain ⟨b1, hb1⟩ : ∃ b, b = w2.heap.size + 1 := ⟨_, rfl⟩
  obtain ⟨b2, hb2⟩ : ∃ b, b = w2.heap.size + 1 + 1 := ⟨_, rfl⟩
  have hu3 : Upds (fun _ => False) w2 w3 := by rw [hw3]; exact ((Upds.alloc _ _).trans (Upds.alloc _ _)).trans (Upds.alloc _ _)
  have hr1 : Row w3 b1 42 [.int .i64 1, .int .i64 0] := by
    rw [hw3, hb1]
    have := Row.new (w2.alloc (.cells #[.slice (some ⟨R.sg, 0, none⟩) 6 R.scap, .slice (some ⟨R.og, 0, none⟩) 6 R.ocap, .slice R.pa 0 R.pc, .slice (some ⟨R.fg, 0, none⟩) 5 R.fcap, .bool false, .int .i64 (-1), .slice R.va R.vn R.vc] 32)) [.int .i64 1, .int .i64 0] 42
    rw [World.size_alloc] at this; exact this.alloc _
  have hr2 : Row w3 b2 42 [.int .i64 2, .int .i64 0] := by
    rw [hw3, hb2]
    have := Row.new ((w2.alloc (.cells #[.slice (some ⟨R.sg, 0, none⟩) 6 R.scap, .slice (some ⟨R.og, 0, none⟩) 6 R.ocap, .slice R.pa 0 R.pc, .slice (some ⟨R.fg, 0, none⟩) 5 R.fcap, .bool false, .int .i64 (-1), .slice R.va R.vn R.vc] 32)).alloc (.cells #[.int .i64 1, .int .i64 0] 42)) [.int .i64 2, .int .i64 0] 42
    rwa [World.size_alloc, World.size_alloc] at this
  rw [← hw3, ← hb2, ← hb1]
  have HD3 := hid (HD.out.calm hu3)
  have HU3 := hid (HU.out.trans hu3)
  have HR1 := hid hr1
  have HR2 := hid hr2
  clear hw3 hr1 hr2 hu3 HD HU hb1 hb2
  refine (full_any ⟨#[111, 108, 100]⟩ (by decide) w3).mono ?_
  rintro e w4 ⟨rfl, rfl⟩
  obtain ⟨o, ho⟩ : ∃ o, o = fullS ⟨#[111, 108, 100]⟩ := ⟨_, rfl⟩
  have HO : Hid (o.size = 140) := by show o.size = 140; rw [ho]; exact fullS_size _
  rw [← ho]
  clear ho
  obtain ⟨tw, htw⟩ : ∃ t, t = fullS ⟨#[116, 119, 111]⟩ := ⟨_, rfl⟩
  have HTS : Hid (tw.size = 140) := by show tw.size = 140; rw [htw]; exact fullS_size _
  have HTW := hid htw
  clear htw
  go_wp2_with fail
  go_loopw [44] (fun s44 wr => ∃ (k : Nat) (L' : Lay), k ≤ 6 ∧ s44 = .int .i64 k ∧ Dev wr w1.heap.size L' (cD (DS.fresh 6).sec (rowP 2 (fun _ => o) k)) ∧ L'.b = L.b ∧ Row wr b1 42 [.int .i64 1, .int .i64 0] ∧ Row wr b2 42 [.int .i64 2, .int .i64 0] ∧ Upds (fun _ => False) w1 wr) (fun s44 _ => 6 - (RowKit.intOf s44).toNat)
  case atStart => exact ⟨0, L, by omega, rfl, HD3.out, rfl, HR1.out, HR2.out, HU3.out⟩
  case round =>
    obtain ⟨k, L', hk, rfl, hd, hb, hr1, hr2, hu⟩ := hrel
    have HD := hid hd
    have HB := hid hb
    have HR1' := hid hr1
    have HR2' := hid hr2
    have HU := hid hu
    clear hd hb hr1 hr2 hu HD3 HR1 HR2 HU3
    by_cases hlt : k < 6
    · have c0 := HR2'.out.cell (i := 0) rfl
      have c1 := HR2'.out.cell (i := 1) rfl
      go_wp2_with fail
      rw [← HB.out]
      refine (write_any w1.heap.size L' _ 2 0 k o wr HD.out HU.out.size (by show (rowP 2 (fun _ => o) k).length + 1 ≤ 100000; rw [rowP_len]; omega)).mono ?_
      intro e w5 hx
      rw [cD_write _ _ 2 (by omega) k hlt o HO.out, show rowP 2 (fun _ => o) k ++ [⟨2, k, o⟩] = rowP 2 (fun _ => o) (k + 1) from rowP_succ 2 (fun _ => o) k] at hx
      obtain ⟨rfl, ht⟩ := hx
      obtain ⟨L5, hd5, hb5, hu5, ho5⟩ := DevTo.next HU.out HD.out ht
      have HR15 := hid (HR1'.out.upd ho5 (HD.out.not_own HR1'.out (by decide) (by decide) (by decide)))
      have HR25 := hid (HR2'.out.upd ho5 (HD.out.not_own HR2'.out (by decide) (by decide) (by decide)))
      have HD5 := hid hd5
      have HB5 := hid (hb5.trans HB.out)
      have HU5 := hid hu5
      rw [HB.out]
      clear ht hd5 hb5 hu5 ho5 c0 c1
      go_wp2_with fail
      go_roundw
      case rel => exact ⟨k + 1, L5, by omega, by go_num, HD5.out, HB5.out, HR15.out, HR25.out, HU5.out⟩
      case measure => simp [RowKit.intOf]; omega
    · obtain rfl : k = 6 := by omega
      obtain ⟨f1, hf1, hsy⟩ := old_synced o HO.out
      have HF1 := hid hf1
      have HSY := hid hsy
      have HD0 := hid (HD.out.calm (Upds.drew wr))
      have HU0 := hid (HU.out.trans (Upds.drew wr))
      have HR10 := hid (HR1'.out.upd (F := fun _ => False) (Upds.drew wr) (fun h => h))
      have HR20 := hid (HR2'.out.upd (F := fun _ => False) (Upds.drew wr) (fun h => h))
      have c0 := HR2'.out.cell (i := 0) rfl
      have c1 := HR2'.out.cell (i := 1) rfl
      clear hf1 hsy HD HU HR1' HR2'
      go_upto_region 14 with fail
      go_cut [64] (fun s64 wx => ∃ L' : Lay, s64 = .bool false ∧ Dev wx w1.heap.size L' (cD f1 [⟨2, 5, tw⟩]) ∧ L'.b = L.b ∧ Row wx b1 42 [.int .i64 1, .int .i64 0] ∧ Row wx b2 42 [.int .i64 2, .int .i64 0] ∧ Upds (fun _ => False) w1 wx)
      case first =>
        go_region_law (first
          | (go_simp; go_at_call 22; rw [← HB.out]; refine (sync_any w1.heap.size L' _ 2 0 wr.drew HD0.out HU0.out.size).mono ?_; intro e w5 hx; rw [HSY.out] at hx; obtain ⟨rfl, ht⟩ := hx
             obtain ⟨L5, hd5, hb5, hu5, ho5⟩ := DevTo.next HU0.out HD0.out ht
             have HR15 := hid (HR10.out.upd ho5 (HD0.out.not_own HR10.out (by decide) (by decide) (by decide)))
             have hr25 := HR20.out.upd ho5 (HD0.out.not_own HR20.out (by decide) (by decide) (by decide))
             have d0 := hr25.cell (i := 0) rfl
             have d1 := hr25.cell (i := 1) rfl
             have HR25 := hid hr25
             have HD5 := hid hd5
             have HB5 := hid (hb5.trans HB.out)
             have HU5 := hid hu5
             rw [HB.out]
             clear ht hd5 hb5 hu5 ho5 hr25
             dsimp only)
          | (go_simp; go_at_call 19; refine (full_any ⟨#[116, 119, 111]⟩ (by decide) _).mono ?_; rintro e w' ⟨rfl, rfl⟩; rw [← HTW.out]; dsimp only)
          | (go_simp; go_at_call 21; rw [← HB5.out]; refine (write_any w1.heap.size L5 _ 2 0 5 tw w5 HD5.out HU5.out.size (by show 0 + 1 ≤ 100000; omega)).mono ?_; intro e w6 hx
             rw [show (5 : Int) = ((5 : Nat) : Int) from rfl, cD_write f1 [] 2 (by omega) 5 (by omega) tw HTS.out] at hx; obtain ⟨rfl, ht⟩ := hx
             obtain ⟨L6, hd6, hb6, hu6, ho6⟩ := DevTo.next HU5.out HD5.out ht
             have HR16 := hid (HR15.out.upd ho6 (HD5.out.not_own HR15.out (by decide) (by decide) (by decide)))
             have HR26 := hid (HR25.out.upd ho6 (HD5.out.not_own HR25.out (by decide) (by decide) (by decide)))
             have HD6 := hid hd6
             have HB6 := hid (hb6.trans HB5.out)
             have HU6 := hid hu6
             rw [HB5.out]
             clear ht hd6 hb6 hu6 ho6
             dsimp only))
        all_goals
          go_wp2_with fail
          go_meet
          exact ⟨_, rfl, HD6.out, HB6.out, HR16.out, HR26.out, HU6.out⟩
      case rest =>
        obtain ⟨L6, rfl, hd, hb, hr1, hr2, hu⟩ := hcut
        have HD6 := hid hd
        have HB6 := hid hb
        have HR16 := hid hr1
        have HU6 := hid hu
        clear hd hb hr1 hr2 hu HD0 HU0 HR10 HR20 c0 c1
        obtain ⟨d, hd⟩ : ∃ d : Nat → ByteArray, d = fun i => fullS (T i) := ⟨_, rfl⟩
        have HDD : Hid (∀ i, d i = fullS (T i)) := fun i => by rw [hd]
        clear hd
        go_wp2_with fail
        go_loopw [67] (fun s67 wr => ∃ (k : Nat) (L' : Lay), k ≤ len ∧ s67 = .int .i64 k ∧ Dev wr w1.heap.size L' (cD f1 (⟨2, 5, tw⟩ :: rowP 1 d (min k 5))) ∧ L'.b = L.b ∧ Row wr b1 42 [.int .i64 1, .int .i64 0] ∧ Upds (fun _ => False) w1 wr) (fun s67 _ => len - (RowKit.intOf s67).toNat)
        case atStart => exact ⟨0, L6, by omega, rfl, HD6.out, HB6.out, HR16.out, HU6.out⟩
        case round =>
          rename World => wr
          obtain ⟨k, L', hk, rfl, hd, hb, hr1, hu⟩ := hrel
          have HD := hid hd
          have HB := hid hb
          have HR1' := hid hr1
          have HU := hid hu
          clear hd hb hr1 hu HD6 HB6 HR16 HU6
          by_cases hlt : k < len
          · obtain ⟨ba, off, rfl, hba, hcs⟩ := HE.out (by omega)
            have hc : wr.cell? ⟨ba, off + k, none⟩ = some (.string (T k)) := by
              have h1 := hcs k 0 hlt (by omega)
              have h2 : w1.cell? ⟨ba, off + (k * 1 + 0), none⟩ = some (.string (T k)) := (HB1.out.cell (p := ⟨ba, off + (k * 1 + 0), none⟩) hba).trans h1
              have h3 := HU.out.cell (fun h => h) h2
              simpa using h3
            clear hcs
            have hts := HS.out k hlt
            have HX := hid (HDD.out k)
            have hxs : (d k).size = 140 := by rw [HDD.out k]; exact fullS_size _
            have HXS := hid hxs
            have HD0 := hid (HD.out.calm (Upds.drew wr))
            have HU0 := hid (HU.out.trans (Upds.drew wr))
            have HR10 := hid (HR1'.out.upd (F := fun _ => False) (Upds.drew wr) (fun h => h))
            have c0 := HR1'.out.cell (i := 0) rfl
            have c1 := HR1'.out.cell (i := 1) rfl
            clear hxs
            go_upto_region 19 with fail
            clear hc
            go_cut [67, 82] (fun s67 s82 wx => s67 = .int .i64 k ∧ s82 = .bool false ∧ ∃ L' : Lay, Dev wx w1.heap.size L' (cD f1 (⟨2, 5, tw⟩ :: rowP 1 d (min (k + 1) 5))) ∧ L'.b = L.b ∧ Row wx b1 42 [.int .i64 1, .int .i64 0] ∧ Upds (fun _ => False) w1 wx)
            case first =>
              by_cases h5 : k < 5
              · have hg : decide ((k : Int) < 5) = true := decide_eq_true (by omega)
                have HM := hid (show min k 5 = k by omega)
                go_region_law (first
                  | (go_simp; go_at_call 19; refine (full_any (T k) hts _).mono ?_; rintro e w' ⟨rfl, rfl⟩; rw [← HX.out]; dsimp only)
                  | (go_simp; go_at_call 21; rw [← HB.out]; refine (write_any w1.heap.size L' _ 1 0 k (d k) wr.drew HD0.out HU0.out.size (by show (⟨2, 5, tw⟩ :: rowP 1 d (min k 5)).length + 1 ≤ 100000; rw [List.length_cons, rowP_len]; omega)).mono ?_; intro e w6 hx
                     rw [cD_write _ _ 1 (by omega) k (by omega) (d k) HXS.out, HM.out, List.cons_append, rowP_succ] at hx; obtain ⟨rfl, ht⟩ := hx
                     obtain ⟨L6, hd6, hb6, hu6, ho6⟩ := DevTo.next HU0.out HD0.out ht
                     have HR16 := hid (HR10.out.upd ho6 (HD0.out.not_own HR10.out (by decide) (by decide) (by decide)))
                     have HD6 := hid hd6
                     have HB6 := hid (hb6.trans HB.out)
                     have HU6 := hid hu6
                     rw [HB.out]
                     clear ht hd6 hb6 hu6 ho6
                     dsimp only))
                all_goals
                  go_wp2_with fail
                  go_meet
                  refine ⟨rfl, rfl, L6, ?_, HB6.out, HR16.out, HU6.out⟩
                  rw [show min (k + 1) 5 = k + 1 by omega]
                  exact HD6.out
              · have hg : decide ((k : Int) < 5) = false := decide_eq_false (by omega)
                go_region
                all_goals
                  go_wp2_with fail
                  go_meet
                  refine ⟨rfl, rfl, L', ?_, HB.out, HR10.out, HU0.out⟩
                  rw [show min (k + 1) 5 = min k 5 by omega]
                  exact HD0.out
            case rest =>
              obtain ⟨rfl, rfl, L6, hd, hb, hr1, hu⟩ := hcut
              have HD6 := hid hd
              have HB6 := hid hb
              have HR16 := hid hr1
              have HU6 := hid hu
              clear hd hb hr1 hu c0 c1 HD0 HU0 HR10 HD HU HB HR1'
              go_wp2_with fail
              go_roundw
              case rel => exact ⟨k + 1, L6, by omega, by go_num, HD6.out, HB6.out, HR16.out, HU6.out⟩
              case measure => simp [RowKit.intOf]; omega
          · obtain rfl : k = len := by omega
            obtain ⟨g, hcr, hg⟩ := crashed o f1 HF1.out tw d (min k 5) l
            have HCR := hid hcr
            have HG := hid hg
            clear hcr hg
            have hiw : IntsAt wr A2 l := fun h0 => by
              obtain ⟨b, off, e, hc⟩ := HI.out h0
              refine ⟨b, off, e, fun i hi => HU.out.cell (fun h => h) ((HB1.out.cell (p := ⟨b, off + i, none⟩) (cell_lt (hc i hi))).trans (hc i hi))⟩
            have hao : ∀ x, A2 = some x → 0 < l.length → ¬ L'.own x.block := fun x hx h0 ho => by
              obtain ⟨b, off, e, hc⟩ := HI.out h0
              have h1 := cell_lt (hc 0 h0)
              rw [hx] at e
              injection e with e
              have h2 := HD.out.below _ ho
              have h3 := HB1.out.size
              rw [e] at h2
              show False
              have : b < w.heap.size := h1
              have h4 : w1.heap.size ≤ b := h2
              omega
            have HIW := hid hiw
            have HAO := hid hao
            clear hiw hao
            go_wp2_with fail
            rw [HLEN.out, ← HB.out]
            refine (crash_any w1.heap.size L' _ 1 A2 cap2 l (by have := HLEN.out; omega) wr HD.out HU.out.size HIW.out HAO.out).mono ?_
            intro e w5 hx
            rw [HCR.out] at hx
            obtain ⟨rfl, ht⟩ := hx
            obtain ⟨L5, hd5, hb5, hu5, ho5⟩ := DevTo.next HU.out HD.out ht
            have HD5 := hid hd5
            have HB5 := hid (hb5.trans HB.out)
            have HU5 := hid hu5
            rw [HB.out, ← HLEN.out]
            clear ht hd5 hb5 hu5 ho5 HIW HAO HD HU HB HR1' HCR
            have hk6 : k ≤ 6 := by omega
            clear hk hlt
            go_wp2_with fail
            go_loopw [87] (fun s87 wq => ∃ j : Nat, j ≤ 5 ∧ s87 = .int .i64 j ∧ Dev wq w1.heap.size L5 (cD g [⟨2, 5, tw⟩]) ∧ Upds (fun _ => False) w1 wq) (fun s87 _ => 5 - (RowKit.intOf s87).toNat)
            case atStart => exact ⟨0, by omega, rfl, HD5.out, HU5.out⟩
            case round =>
              obtain ⟨j, hj, rfl, hd, hu⟩ := hrel
              have HD := hid hd
              have HU := hid hu
              clear hd hu HD5 HU5
              by_cases hlt : j < 5
              · obtain ⟨N, hN⟩ : ∃ N : Nat, N = if j < k then clampN (svOf l j) else 0 := ⟨_, rfl⟩
                obtain ⟨x, hx⟩ : ∃ x, x = (g j).st := ⟨_, rfl⟩
                have HX0 : Hid (N = 0 → x = o) := fun h => by
                  rw [hx, HG.out j hlt]
                  by_cases hjk : j < k
                  · rw [if_pos hjk] at hN; rw [if_pos (by omega), ← hN, h, joinN_zero]
                  · rw [if_neg (by omega)]
                have HX1 : Hid (0 < N → j < k ∧ x = (d j).extract 0 N ++ o.extract N 140) := fun h => by
                  by_cases hjk : j < k
                  · rw [if_pos hjk] at hN
                    refine ⟨hjk, ?_⟩
                    rw [hx, HG.out j hlt, if_pos (by omega), ← hN]; unfold joinN; rw [HO.out]
                  · rw [if_neg hjk] at hN; omega
                have hN140 : N ≤ 140 := by rw [hN]; split; exact clampN_le _; omega
                have HNA : Hid (∀ h : j < l.length, j < k → N = clampN l[j]) := fun h h2 => by
                  rw [hN, if_pos h2]; unfold svOf; rw [List.getD_eq_getElem?_getD, List.getElem?_eq_getElem h]; rfl
                have HNB : Hid (¬ (j < len2 ∧ j < k) → N = 0) := fun h => by
                  rw [hN]
                  by_cases h2 : j < k
                  · have := HLEN.out
                    rw [if_pos h2]; unfold svOf; rw [List.getD_eq_getElem?_getD, List.getElem?_eq_none (by omega)]; decide
                  · rw [if_neg h2]
                have HXE := hid hx
                clear hN hx
                obtain ⟨cc, hcc⟩ : ∃ cc : Bool, cc = decide (j < len2 ∧ j < k) := ⟨_, rfl⟩
                go_upto_region 27 with fail
                go_cut [14, 15, 87, 99] (fun s14 s15 s87 s99 wx => s14 = .int .i64 j ∧ s15 = .int .i64 0 ∧ s87 = .int .i64 j ∧ s99 = .bool cc ∧ wr = wx)
                case first =>
                  by_cases h1 : j < len2
                  · by_cases h2 : j < k
                    · have HC : Hid (cc = true) := by show cc = true; rw [hcc]; simp [h1, h2]
                      clear hcc
                      go_wp2_with fail
                      go_meet
                      exact ⟨rfl, rfl, rfl, by rw [HC.out], rfl⟩
                    · have HC : Hid (cc = false) := by show cc = false; rw [hcc]; simp [h1, h2]
                      clear hcc
                      go_wp2_with fail
                      go_meet
                      exact ⟨rfl, rfl, rfl, by rw [HC.out], rfl⟩
                  · have HC : Hid (cc = false) := by show cc = false; rw [hcc]; simp [h1]
                    clear hcc
                    go_wp2_with fail
                    go_meet
                    exact ⟨rfl, rfl, rfl, by rw [HC.out], rfl⟩
                case rest =>
                  obtain ⟨rfl, rfl, rfl, rfl, rfl⟩ := hcut
                  go_upto_if 99 with fail
                  go_cut [14, 15, 87] (fun s14 s15 s87 wx => s14 = .int .i64 j ∧ s15 = .int .i64 (N : Nat) ∧ s87 = .int .i64 j ∧ wr = wx)
                  case first =>
                    by_cases hA : j < len2 ∧ j < k
                    · obtain rfl : cc = true := by rw [hcc]; simp [hA]
                      clear hcc
                      have hjl : j < l.length := by have := HLEN.out; omega
                      obtain ⟨b, off, rfl, hc⟩ := HI.out (by omega)
                      have hcl := hc j hjl
                      have hNA := HNA.out hjl hA.2
                      have hlb := HL.out j
                      have hsv : svOf l j = l[j] := by unfold svOf; rw [List.getD_eq_getElem?_getD, List.getElem?_eq_getElem hjl]; rfl
                      rw [hsv] at hlb
                      obtain ⟨v, hv⟩ : ∃ v, v = l[j] := ⟨_, rfl⟩
                      rw [← hv] at hcl hNA hlb
                      have hcell : wr.cell? ⟨b, off + j, none⟩ = some (.int .i64 v) := HU.out.cell (fun h => h) ((HB1.out.cell (p := ⟨b, off + j, none⟩) (cell_lt hcl)).trans hcl)
                      have hA1 := hA.1
                      clear hc hcl hv hsv hA
                      have E : Hid ((N : Int) = max 0 (min v 140)) := by show (N : Int) = _; rw [hNA]; unfold clampN; omega
                      clear hNA
                      go_wp2_with fail
                      go_meet
                      exact ⟨rfl, by rw [E.out], rfl, rfl⟩
                    · obtain rfl : cc = false := by rw [hcc]; simp [hA]
                      have hN0 := HNB.out hA
                      clear hcc hA
                      go_wp2_with fail
                      go_meet
                      exact ⟨rfl, by rw [hN0]; rfl, rfl, rfl⟩
                  case rest =>
                    obtain ⟨rfl, rfl, rfl, rfl⟩ := hcut
                    clear hcc HNA HNB
                    go_upto_region 30 with fail
                    go_cut [14, 15, 16, 87, 108] (fun s14 s15 s16 s87 s108 wx => s14 = .int .i64 j ∧ s15 = .int .i64 (N : Nat) ∧ s16 = .string o ∧ s87 = .int .i64 j ∧ s108 = .bool (decide (0 < N)) ∧ wr = wx)
                    case first =>
                      go_wp2_with fail
                      go_meet
                      refine ⟨rfl, rfl, rfl, rfl, ?_, rfl⟩
                      congr 1
                    case rest =>
                      obtain ⟨rfl, rfl, rfl, rfl, rfl, rfl⟩ := hcut
                      go_upto_if 108 with fail
                      go_cut [14, 16, 87] (fun s14 s16 s87 wx => s14 = .int .i64 j ∧ s16 = .string x ∧ s87 = .int .i64 j ∧ Dev wx w1.heap.size L5 (cD g [⟨2, 5, tw⟩]) ∧ Upds (fun _ => False) w1 wx)
                      case first =>
                        by_cases h0 : 0 < N
                        · rw [decide_eq_true h0]
                          obtain ⟨hjk, hxe⟩ := HX1.out h0
                          obtain ⟨ba, off, rfl, hba, hcs⟩ := HE.out (by omega)
                          have hc : wr.cell? ⟨ba, off + j, none⟩ = some (.string (T j)) := by
                            have h1 := hcs j 0 hjk (by omega)
                            have h2 : w1.cell? ⟨ba, off + (j * 1 + 0), none⟩ = some (.string (T j)) := (HB1.out.cell (p := ⟨ba, off + (j * 1 + 0), none⟩) hba).trans h1
                            have h3 := HU.out.cell (fun h => h) h2
                            simpa using h3
                          have hts := HS.out j hjk
                          have HXF := hid (HDD.out j)
                          have hxs : (d j).size = 140 := by rw [HDD.out j]; exact fullS_size _
                          have hos := HO.out
                          have hNi : (N : Int) ≤ 140 := by omega
                          have hNz : 0 ≤ (N : Int) := by omega
                          have HXQ := hid hxe
                          clear hxe hcs
                          go_upto_region 31 with fail
                          go_region_law (go_simp; go_at_call 19; refine (full_any (T j) hts _).mono ?_; rintro e w' ⟨rfl, rfl⟩; rw [← HXF.out]; dsimp only)
                          all_goals
                            go_wp2_with fail
                            go_meet
                            refine ⟨rfl, ?_, rfl, HD.out.calm (Upds.drew wr), HU.out.trans (Upds.drew wr)⟩
                            first | (rw [HXQ.out]; done) | (rw [HXQ.out, ← HO.out]; done) | trace_state
                        · rw [decide_eq_false h0]
                          have hx0 := HX0.out (by omega)
                          clear h0
                          go_wp2_with fail
                          go_meet
                          exact ⟨rfl, by rw [hx0], rfl, HD.out, HU.out⟩
                      case rest =>
                        obtain ⟨rfl, rfl, rfl, hd, hu⟩ := hcut
                        have HD7 := hid hd
                        have HU7 := hid hu
                        clear hd hu HX0 HX1 HD HU
                        have hq : (x.toList != x.toList) = false := by simp
                        go_wp2_with fail
                        rw [← HB5.out]
                        refine (read_any w1.heap.size L5 _ j _ HD7.out).mono ?_
                        intro e w8 hx
                        rw [cD_read g _ j (by omega), one_content g tw j hlt, ← HXE.out] at hx
                        obtain ⟨rfl, hu8⟩ := hx
                        have HD8 := hid (HD7.out.calm hu8)
                        have HU8 := hid (HU7.out.trans hu8)
                        clear hu8
                        rw [HB5.out]
                        go_wp2_with fail
                        go_roundw
                        case rel => exact ⟨j + 1, by omega, by go_num, HD8.out, HU8.out⟩
                        case measure => simp [RowKit.intOf]; omega
              · obtain rfl : j = 5 := by omega
                have hq : (tw.toList == tw.toList) = true := beq_self_eq_true _
                go_wp2_with fail
                rw [← HB5.out]
                refine (read_any w1.heap.size L5 _ 5 _ HD.out).mono ?_
                intro e w8 hx
                rw [show (5 : Int) = ((5 : Nat) : Int) from rfl, cD_read g _ 5 (by omega), five_content] at hx
                obtain ⟨rfl, hu8⟩ := hx
                have HD8 := hid (HD.out.calm hu8)
                have HU8 := hid (HU.out.trans hu8)
                clear hu8
                rw [HB5.out]
                go_wp2_with fail
                refine (full_any ⟨#[116, 119, 111]⟩ (by decide) _).mono ?_
                rintro e w9 ⟨rfl, rfl⟩
                rw [← HTW.out]
                go_wp2_with fail
                rw [← HB5.out]
                refine (pending_any w1.heap.size L5 _ 2 _ HD8.out).mono ?_
                rintro e w9 ⟨rfl, hu9⟩
                rw [show (cD g [⟨2, 5, tw⟩]).count 2 = 1 by simp [DS.count, cD]]
                have HD9 := hid (HD8.out.calm hu9)
                have HU9 := hid (HU8.out.trans hu9)
                clear hu9
                rw [HB5.out]
                go_wp2_with fail
                rw [← HB5.out]
                refine (pending_any w1.heap.size L5 _ 1 _ HD9.out).mono ?_
                rintro e w10 ⟨rfl, hu10⟩
                rw [show (cD g [⟨2, 5, tw⟩]).count 1 = 0 by simp [DS.count, cD]]
                have HU10 := hid (HU9.out.trans hu10)
                clear hu10
                rw [HB5.out]
                go_wp2_with fail
                go_ret
                exact ⟨rfl, HB1.out.trans (HU10.out.below HB1.out.size (fun k h => h.elim))⟩
theorem crashes_many (A : Option Addr) (len cap : Nat) (A2 : Option Addr) (len2 cap2 : Nat) (hn : 6 < len ∨ 6 < len2) (hm : len ≤ 9223372036854775807) (hm2 : len2 ≤ 9223372036854775807) (w : World) :
    Calls Try.prog 7 #[.slice A len cap, .slice A2 len2 cap2] w fun e w' => e = .returned (.bool true) ∧ Below w.heap.size w w' := by
  by_cases h1 : 6 < len
  · clear hn
    go_enter Try.func7, Try.ntmps7
    go_wp2_with fail
    refine (awake_dev _).mono ?_
    rintro e w1 ⟨rfl, hb1⟩
    go_wp2_with fail
    refine (awake_dev _).mono ?_
    rintro e w2 ⟨rfl, hb2⟩
    go_wp2_with fail
    go_ret
    exact ⟨rfl, hb1.trans (hb2.mono hb1.size)⟩
  · have h2 : 6 < len2 := by omega
    clear hn
    go_enter Try.func7, Try.ntmps7
    go_wp2_with fail
    refine (awake_dev _).mono ?_
    rintro e w1 ⟨rfl, hb1⟩
    go_wp2_with fail
    refine (awake_dev _).mono ?_
    rintro e w2 ⟨rfl, hb2⟩
    go_wp2_with fail
    go_ret
    exact ⟨rfl, hb1.trans (hb2.mono hb1.size)⟩
def strOf : Value → ByteArray | .string s => s | _ => ⟨#[]⟩
def intV : Value → Int | .int _ n => n | _ => 0
theorem walk_DeviceCrashes {w : World} (A : Option Addr) (len cap : Nat) (C : Nat → Nat → Value) (A2 : Option Addr) (len2 cap2 : Nat) (C2 : Nat → Nat → Value) (hl : len ≤ cap) (hm : cap ≤ maxLen) (hE : Elems w A len 1 C) (hS : ∀ i, i < len → ∃ n : ByteArray, C i 0 = .string n ∧ n.size ≤ maxLen)
    (hl2 : len2 ≤ cap2) (hm2 : cap2 ≤ maxLen) (hE2 : Elems w A2 len2 1 C2) (hS2 : ∀ i, i < len2 → ∃ n : Int, C2 i 0 = .int .i64 n ∧ -9223372036854775808 ≤ n ∧ n ≤ 9223372036854775807) :
    Calls Try.prog 7 #[.slice A len cap, .slice A2 len2 cap2] w fun e w' => e = .returned (.bool true) ∧ Below w.heap.size w w' := by
  unfold maxLen at hm hm2 hS
  by_cases hn : len ≤ 6 ∧ len2 ≤ 6
  · have hll : ((List.range len2).map fun i => intV (C2 i 0)).length = len2 := by simp
    have := crashes_few A len cap (fun i => strOf (C i 0)) A2 ((List.range len2).map fun i => intV (C2 i 0)) cap2 hn.1 (by rw [hll]; exact hn.2) w
      (fun h0 => by
        obtain ⟨b, off, e, hb, hc⟩ := hE h0
        refine ⟨b, off, e, hb, fun i j hi hj => ?_⟩
        obtain rfl : j = 0 := by omega
        obtain ⟨n, hn1, _⟩ := hS i hi
        rw [hc i 0 hi hj]; show some (C i 0) = some (Value.string (strOf (C i 0))); rw [hn1]; rfl)
      (fun i hi => by obtain ⟨n, hn1, hn2⟩ := hS i hi; show (strOf (C i 0)).size ≤ _; rw [hn1]; exact hn2)
      (fun h0 => by
        rw [hll] at h0
        obtain ⟨b, off, e, hb, hc⟩ := hE2 h0
        refine ⟨b, off, e, fun i hi => ?_⟩
        rw [hll] at hi
        obtain ⟨n, hn1, _⟩ := hS2 i hi
        have h2 := hc i 0 hi (by omega)
        rw [show off + (i * 1 + 0) = off + i by omega, hn1] at h2
        rw [h2, List.getElem_map, List.getElem_range, hn1]; rfl)
      (fun i => by
        unfold svOf
        rw [List.getD_eq_getElem?_getD]
        by_cases hi : i < len2
        · obtain ⟨n, hn1, hn2⟩ := hS2 i hi
          rw [List.getElem?_eq_getElem (by rw [hll]; exact hi), List.getElem_map, List.getElem_range, hn1]; exact hn2
        · rw [List.getElem?_eq_none (by rw [hll]; omega)]; decide)
    rw [hll] at this
    exact this
  · exact crashes_many A len cap A2 len2 cap2 (by omega) (by omega) (by omega) w

namespace deviceCrashes
theorem own : ownKnob Try.prog.godebug = none := by kernel_rfl
theorem laidOut : laidOutB Try.prog = true := by kernel_rfl
set_option linter.unusedVariables false
set_option maxRecDepth 100000 in
theorem lifted (os : Os) (started : os.Started) (H : Type) (enc : TypeId × Value → H) :
    ReturnsInHanded {} Try.checked os 7 .any (Rows.deviceCrashesSpec.pre6 enc Try.prog Try.f7 Rows.deviceCrashesRow.domain false) (Rows.deviceCrashesSpec.post enc Try.prog Try.f7 false true false false) := by
  refine returnsInHanded_of_change (C := Try.checked) own started (by kernel_rfl) Try.func7
    (ChangeSpec.witness6 (enc := enc) (C := Try.checked) false ⟨#[], #[.slice none 0 0, .slice none 0 0], []⟩ 8 (by kernel_rfl) (by kernel_rfl) (by kernel_rfl) (by kernel_rfl)) ?_
  intro W base args ds gs before hval0 hW hcnd _
  have hval : ∀ (j : Nat) t v, Try.f7.params[j]? = some t → args[j]? = some v → Value.okWide Try.prog W .any base t v := hval0
  have hW' := hW
  obtain ⟨p, q, hA0, hV, rfl, hfz, hnd⟩ := hW
  have hA : DataW.TrodAll enc Try.prog W 0 (fun _ => true) true Try.f7.params.toList args.toList ds p := hA0
  rw [Try.params7] at hA hval
  obtain ⟨v0, vs0, d0, ds0, p0, q0, hargs, rfl, rfl, h0, r0⟩ := trodAll_cons hA
  obtain ⟨v1, vs1, d1, ds1, p1, q1, rfl, rfl, rfl, h1, r1⟩ := trodAll_cons r0
  obtain ⟨rfl, rfl, rfl⟩ := trodAll_nil r1
  obtain rfl : args = #[v0, v1] := by cases args; simp_all
  obtain ⟨rfl, rfl⟩ := trodVars_none hV
  obtain ⟨a0, len0, cap0, rfl⟩ := okWide_slice Try.underlying27 (hval 0 27 v0 rfl rfl)
  have k0 := h0
  have lt0 : ∀ x ∈ p0, x.block < W.heap.size := by obtain ⟨m, hm⟩ := k0; exact DataW.trod_lt m _ _ _ hm
  obtain ⟨fuel0, hf0⟩ := h0
  obtain ⟨A0, l0, c0, C0, hcs0, hl0, hm0, hE0, hF0⟩ := open_cells Try.underlying27 (by kernel_rfl) hf0
  simp only [Value.cells, List.cons.injEq, Value.slice.injEq, and_true] at hcs0
  obtain ⟨rfl, rfl, rfl⟩ := hcs0
  have s0_0 : ∀ i, i < len0 → ∃ n : ByteArray, C0 i 0 = .string n ∧ n.size ≤ maxLen := fun i hi => by obtain ⟨y, n, hy⟩ := hF0 i hi; obtain ⟨n, e, _, hw⟩ := DataW.trod_string Try.underlying9 hy; exact ⟨n, List.head_eq_of_cons_eq e, hw⟩
  obtain ⟨a1, len1, cap1, rfl⟩ := okWide_slice Try.underlying30 (hval 1 30 v1 rfl rfl)
  have k1 := h1
  have lt1 : ∀ x ∈ p1, x.block < W.heap.size := by obtain ⟨m, hm⟩ := k1; exact DataW.trod_lt m _ _ _ hm
  obtain ⟨fuel1, hf1⟩ := h1
  obtain ⟨A1, l1, c1, C1, hcs1, hl1, hm1, hE1, hF1⟩ := open_cells Try.underlying30 (by kernel_rfl) hf1
  simp only [Value.cells, List.cons.injEq, Value.slice.injEq, and_true] at hcs1
  obtain ⟨rfl, rfl, rfl⟩ := hcs1
  have s1_0 : ∀ i, i < len1 → ∃ n : Int, C1 i 0 = .int .i64 n ∧ -9223372036854775808 ≤ n ∧ n ≤ 9223372036854775807 := fun i hi => by obtain ⟨y, n, hy⟩ := hF1 i hi; obtain ⟨n, e, _, hw⟩ := DataW.trod_int Try.underlying3 hy; exact ⟨n, List.head_eq_of_cons_eq e, bounds_i64 hw⟩
  clear hA0 hval0
  refine (walk_DeviceCrashes a0 len0 cap0 C0 a1 len1 cap1 C1 hl0 hm0 hE0 s0_0 hl1 hm1 hE1 s1_0 (w := W)).mono fun e W' ⟨he, bel⟩ => ?_
  subst he
  exact ⟨_, rfl, _, _, _, [], _, [], hW', trodAll_mk1 (shut_bool Try.underlying4 _), (trodAll_cons_mk (Below.trod laidOut (by kernel_rfl) (of_decide_eq_true (by kernel_rfl)) k0 bel lt0) (trodAll_cons_mk (Below.trod laidOut (by kernel_rfl) (of_decide_eq_true (by kernel_rfl)) k1 bel lt1) trodAll_mk0)), rfl, bel.frame _, fun h => by cases h⟩
theorem over : Rows.deviceCrashesRow.holds Try.pinned (OpenSpec.ofChange Rows.deviceCrashesSpec) :=
  OpenClaim.holds_of_wide 7 Try.f7 rfl rfl rfl rfl rfl rfl rfl ⟨rfl, rfl, rfl, rfl, rfl⟩ rfl rfl rfl rfl rfl (by kernel_rfl) Try.func7 (by kernel_rfl)
    (of_decide_eq_true (by kernel_rfl)) (by unfold Func.isWrapper; first | (rw [if_pos (by decide +kernel)]; kernel_rfl) | (rw [if_neg (by decide +kernel)]; exact ⟨rfl, rfl⟩))
    (fun os started H enc _ => lifted os started H enc)
theorem proved : Rows.DeviceCrashesSaid := over
end deviceCrashes

end Go.Proofs.Ytpiiidiifnefcaa
