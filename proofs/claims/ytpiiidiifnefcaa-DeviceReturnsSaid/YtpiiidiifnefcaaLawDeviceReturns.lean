/- Statement DeviceReturns: an earlier content that is returned is one that the sector had, and the contents that it had before are kept in order; for every list of texts and every number, within the statement's own bound. -/
import Derived.Test.YtpiiidiifnefcaaRows
import Derived.WalkKit
import Derived.ProofKit
import Derived.OpenShut
import Derived.ShutString
import Derived.ChangeOld
import Derived.Below
import Derived.Test.YtpiiidiifnefcaaDevC
import Derived.Test.YtpiiidiifnefcaaOpen
namespace Go.Proofs.Ytpiiidiifnefcaa
open Go.Lib Go.ChangeShapes Go.WideShapes Go.ChangeAt Go.RowKit
open Go.ChangeMaps (open_string shut_string)

/-- a device of one sector, at rest -/
def one (f : Nat → Sec) : DS := { (DS.fresh 1) with sec := f }
def oneP (f : Nat → Sec) (x : ByteArray) : DS := { (DS.fresh 1) with sec := f, pend := [⟨1, 0, x⟩] }
theorem one_admit (f : Nat → Sec) : (one f).admit 1 0 = (0, one f) := DS.admit_calm _ 1 0 rfl rfl (by show (-1 : Int) < 0; omega)
theorem oneP_admit (f : Nat → Sec) (x : ByteArray) : (oneP f x).admit 1 0 = (0, oneP f x) := DS.admit_calm _ 1 0 rfl rfl (by show (-1 : Int) < 0; omega)
theorem one_has (f : Nat → Sec) : (one f).has 0 := by unfold DS.has; exact ⟨by omega, by show (0 : Int) < (1 : Nat); omega⟩
theorem one_write (f : Nat → Sec) (x : ByteArray) (hx : x.size = 140) : (one f).write 1 0 0 x = (0, oneP f x) := by
  rw [DS.write_yes ⟨vW10, hx⟩ (one_has f) (by rw [one_admit]), one_admit]; rfl
theorem clamp140 : clampN 140 = 140 := by decide
theorem one_sync (f : Nat → Sec) (x : ByteArray) (hx : x.size = 140) (hf : (f 0).st.size = 140) : (oneP f x).sync 1 0 = (0, one (upS f 0 ((f 0).change x))) := by
  rw [DS.sync_yes vW10 (by rw [oneP_admit]), oneP_admit]
  have h : (f 0).take x 140 = (f 0).change x := by unfold Sec.take; rw [clamp140, joinN_full x _ hx hf]
  unfold DS.done endAll
  have hp : (DS.fresh 1).pend = [] := rfl
  simp [oneP, endStep, one, h, hp]
/-- the sector that has had a list of contents -/
def hadSec (l : List ByteArray) (s : Sec) : Prop := ∃ (p : List ByteArray) (x : ByteArray), l = p ++ [x] ∧ s = ⟨x, p.reverse.take 8⟩
theorem hadSec.step {l : List ByteArray} {s : Sec} (h : hadSec l s) (c : ByteArray) : hadSec (if c = s.st then l else l ++ [c]) (s.change c) := by
  obtain ⟨p, x, rfl, rfl⟩ := h
  unfold Sec.change
  by_cases hc : c = x
  · rw [if_pos hc, if_pos hc]; exact ⟨p, x, rfl, rfl⟩
  · rw [if_neg hc, if_neg hc]
    refine ⟨p ++ [x], c, rfl, ?_⟩
    rw [List.reverse_append]
    show Sec.mk c ((x :: p.reverse.take 8).take 8) = Sec.mk c ((x :: p.reverse).take 8)
    simp [List.take_take]
theorem one_old (f : Nat → Sec) : (one f).old 0 = ((f 0).er.length : Int) := by unfold DS.old; rw [if_pos (one_has f)]; rfl
theorem one_read (f : Nat → Sec) : (one f).read 0 = ((f 0).st, 0) := by
  unfold DS.read; rw [if_pos (one_has f), if_neg (by show ¬ (false = true); decide)]; rfl
theorem one_ret_bad (f : Nat → Sec) (b : Int) (h : ((f 0).er.length : Int) < b) : (one f).ret 0 b = (2, one f) := by
  unfold DS.ret
  rw [if_neg (fun hh => by have h2 := hh.2.2; have h3 : (((one f).sec (0 : Int).toNat).er.length : Int) = ((f 0).er.length : Int) := rfl; omega)]
theorem one_ret (f : Nat → Sec) (r : Nat) (b : Int) (hb : b = (r : Int) + 1) (h : r < (f 0).er.length) : (one f).ret 0 b = (0, one (upS f 0 ⟨(f 0).er[r], (f 0).er⟩)) := by
  subst hb
  have h3 : ((one f).sec (0 : Int).toNat) = f 0 := rfl
  unfold DS.ret
  rw [h3, if_pos ⟨one_has f, by omega, by omega⟩, show ((r : Int) + 1).toNat - 1 = r by omega, List.getD_eq_getElem?_getD, List.getElem?_eq_getElem h]
  rfl
theorem upS_at (f : Nat → Sec) (s : Sec) : upS f 0 s 0 = s := by unfold upS; rw [if_pos rfl]

set_option maxRecDepth 100000 in
set_option maxHeartbeats 4000000 in
theorem returns_few (A : Option Addr) (len cap : Nat) (C : Nat → Nat → Value) (b : Nat) (hn : len ≤ 20) (hb : b ≤ 255) (w : World) (hE : Elems w A len 1 C) (hS : ∀ i, i < len → ∃ n : ByteArray, C i 0 = .string n ∧ n.size ≤ maxLen) :
    Calls Try.prog 9 #[.slice A len cap, .int .u8 b] w fun e w' => e = .returned (.bool true) ∧ Below w.heap.size w w' := by
  have HE := hid hE
  have HS := hid hS
  clear hE hS
  go_enter Try.func9, Try.ntmps9
  go_wp2_with fail
  refine (awake_dev _).mono ?_
  rintro e w1 ⟨rfl, hb1⟩
  have HB1 := hid hb1
  clear hb1
  go_wp2_with fail
  refine (new_any 1 (by omega) (by omega) w1).mono ?_
  intro e w2 hx
  obtain ⟨L, rfl, hd, hu⟩ := hx
  have HD := hid hd
  have HU := hid hu
  clear hd hu
  go_wp2_with fail
  obtain ⟨w3, hw3⟩ : ∃ w3, w3 = w2.alloc (.cells #[.int .i64 1, .int .i64 0] 42) := ⟨_, rfl⟩
  obtain ⟨bw, hbw⟩ : ∃ bw, bw = w2.heap.size := ⟨_, rfl⟩
  have hr3 : Row w3 bw 42 [.int .i64 1, .int .i64 0] := by rw [hw3, hbw]; exact Row.new w2 [.int .i64 1, .int .i64 0] _
  have hu3 : Upds (fun _ => False) w2 w3 := by rw [hw3]; exact Upds.alloc _ _
  rw [← hw3, ← hbw]
  have HD3 := hid (HD.out.calm hu3)
  have HU3 := hid (HU.out.trans hu3)
  have HR3 := hid hr3
  clear hw3 hr3 hu3 HD HU hbw
  refine (full_any ⟨#[]⟩ (by decide) w3).mono ?_
  rintro e w4 ⟨rfl, rfl⟩
  rw [show fullS ⟨#[]⟩ = Z140 by kernel_rfl]
  go_wp2_with fail
  obtain ⟨w4, hw4⟩ : ∃ w4, w4 = w3.alloc (.cells #[.string Z140] 9) := ⟨_, rfl⟩
  have hr4 : Row w4 w3.heap.size 9 [.string Z140] := by rw [hw4]; exact Row.new w3 [.string Z140] _
  have hu4 : Upds (fun _ => False) w3 w4 := by rw [hw4]; exact Upds.alloc _ _
  rw [← hw4]
  have HD4 := hid (HD3.out.calm hu4)
  have HU4 := hid (HU3.out.trans hu4)
  have HR4 := hid (HR3.out.upd hu4 (fun h => h))
  have HS4 : Hid (SliceIs w4 9 1 (.slice (some ⟨w3.heap.size, 0, none⟩) 1 1) 1 ([Z140].map Value.string)) := .inr ⟨w3.heap.size, 1, [.string Z140], rfl, hr4, rfl, rfl, Nat.le_refl _, by omega, by omega⟩
  clear hw4 hr4 hu4 HD3 HR3
  go_loopw [8, 39] (fun s8 s39 wr => ∃ (k m g cap' : Nat) (had : List ByteArray) (f : Nat → Sec) (L' : Lay), k ≤ len ∧ s39 = .int .i64 k ∧ s8 = .slice (some ⟨g, 0, none⟩) (m + 1) cap' ∧ had.length = m + 1 ∧ m ≤ k ∧ w1.heap.size ≤ g ∧ SliceIs wr 9 1 (.slice (some ⟨g, 0, none⟩) (m + 1) cap') (m + 1) (had.map Value.string) ∧
      hadSec had (f 0) ∧ Dev wr w1.heap.size L' (one f) ∧ L'.b = L.b ∧ Row wr bw 42 [.int .i64 1, .int .i64 0] ∧ Upds (fun _ => False) w1 wr) (fun _ s39 _ => len - (RowKit.intOf s39).toNat)
  case atStart => exact ⟨0, 0, w3.heap.size, 1, [Z140], fun _ => ⟨Z140, []⟩, L, Nat.zero_le _, rfl, rfl, rfl, Nat.le_refl _, HU3.out.size, HS4.out, ⟨[], Z140, rfl, rfl⟩, HD4.out, rfl, HR4.out, HU4.out⟩
  case round =>
    obtain ⟨k, m, g, cap', had, f, L', hk, rfl, rfl, hhl, hmk, hg, hsl, hhs, hd, hb, hr, hu⟩ := hrel
    have HHL := hid hhl
    have HSL := hid hsl
    have HHS := hid hhs
    have HD := hid hd
    have HB := hid hb
    have HR := hid hr
    have HU := hid hu
    clear hhl hsl hhs hd hb hr hu HS4 HD4 HU4 HR4 HU3
    by_cases hlt : k < len
    · obtain ⟨ba, off, rfl, hba, hcs⟩ := HE.out (by omega)
      obtain ⟨t, ht1, ht2⟩ := HS.out k hlt
      have hc : wr.cell? ⟨ba, off + k, none⟩ = some (.string t) := by
        have h1 := hcs k 0 hlt (by omega)
        rw [ht1] at h1
        have h2 : w1.cell? ⟨ba, off + (k * 1 + 0), none⟩ = some (.string t) := (HB1.out.cell (p := ⟨ba, off + (k * 1 + 0), none⟩) hba).trans h1
        have h3 := HU.out.cell (fun h => h) h2
        simpa using h3
      unfold maxLen at ht2
      clear hcs ht1
      go_wp2_with fail
      refine (full_any t (by omega) wr).mono ?_
      rintro e w5 ⟨rfl, rfl⟩
      obtain ⟨x, hx⟩ : ∃ x, x = fullS t := ⟨_, rfl⟩
      have hxs : x.size = 140 := by rw [hx]; exact fullS_size t
      rw [← hx]
      have HXS := hid hxs
      clear hx hxs
      have b0 : wr.cell? ⟨bw, 0, none⟩ = some (.int .i64 1) := HR.out.cell rfl
      have b1 : wr.cell? ⟨bw, 1, none⟩ = some (.int .i64 0) := HR.out.cell rfl
      go_wp2_with fail
      rw [← HB.out]
      refine (write_any w1.heap.size L' (one f) 1 0 0 x wr HD.out HU.out.size (by show 0 + 1 ≤ 100000; omega)).mono ?_
      intro e w5 hx
      rw [one_write f x HXS.out] at hx
      obtain ⟨rfl, ht⟩ := hx
      obtain ⟨L5, hd5, hb5, hu5, ho5⟩ := DevTo.next HU.out HD.out ht
      have HR5 := hid (HR.out.upd ho5 (HD.out.not_own HR.out (by decide) (by decide) (by decide)))
      have HSL5 := hid (HSL.out.upd ho5 (fun b hb => by obtain ⟨cur, hrb⟩ := HSL.out.row b hb; exact HD.out.not_own hrb (by decide) (by decide) (by decide)))
      have HD5 := hid hd5
      have HB5 := hid (hb5.trans HB.out)
      have HU5 := hid hu5
      rw [HB.out]
      clear ht hd5 hb5 hu5 ho5 hc b0 b1 HR HSL HU
      have c0 : w5.cell? ⟨bw, 0, none⟩ = some (.int .i64 1) := HR5.out.cell rfl
      have c1 : w5.cell? ⟨bw, 1, none⟩ = some (.int .i64 0) := HR5.out.cell rfl
      go_wp2_with fail
      rw [← HB5.out]
      have hst : (f 0).st.size = 140 := HD.out.ok.st 0 (by show 0 < 1; omega)
      refine (sync_any w1.heap.size L5 (oneP f x) 1 0 w5 HD5.out HU5.out.size).mono ?_
      intro e w6 hx
      rw [one_sync f x HXS.out hst] at hx
      obtain ⟨rfl, ht⟩ := hx
      obtain ⟨L6, hd6, hb6, hu6, ho6⟩ := DevTo.next HU5.out HD5.out ht
      have HR6 := hid (HR5.out.upd ho6 (HD5.out.not_own HR5.out (by decide) (by decide) (by decide)))
      have hsl6 := HSL5.out.upd ho6 (fun b hb => by obtain ⟨cur, hrb⟩ := HSL5.out.row b hb; exact HD5.out.not_own hrb (by decide) (by decide) (by decide))
      have HD6 := hid hd6
      have HB6 := hid (hb6.trans HB5.out)
      have HU6 := hid hu6
      rw [HB5.out]
      clear ht hd6 hb6 hu6 ho6 c0 c1 HR5 HSL5 HU5 HD5 HD hst
      have hstep := HHS.out.step x
      obtain ⟨p, y, hpy, hsy⟩ := HHS.out
      have hys : (f 0).st = y := by rw [hsy]
      have hpl : p.length = m := by have := HHL.out; rw [hpy, List.length_append] at this; simp at this; omega
      have hcl : w6.cell? ⟨g, m, none⟩ = some (.string y) := hsl6.cell m _ (by rw [hpy, List.getElem?_map, List.getElem?_append_right (by omega), hpl, Nat.sub_self]; rfl) (by omega)
      have HSL6 := hid hsl6
      rw [hys] at hstep
      have HST := hid hstep
      clear hstep hsl6 hpy hsy hys hpl
      by_cases hxy : x = y
      · have hq : (x.toList != y.toList) = false := by rw [hxy]; simp
        have hq2 : (x.toList == y.toList) = true := by rw [hxy]; exact beq_self_eq_true _
        rw [if_pos hxy] at HST
        clear hxy
        go_wp2_with fail
        go_roundw
        case rel => exact ⟨k + 1, m, g, cap', had, _, L6, by omega, by go_num, rfl, HHL.out, by omega, hg, HSL6.out, by rw [upS_at]; exact HST.out, HD6.out, HB6.out, HR6.out, HU6.out⟩
        case measure => simp [RowKit.intOf]; omega
      · have hq : (x.toList != y.toList) = true := by
          have := toList_ne hxy
          simpa [bne] using this
        have hq2 : (x.toList == y.toList) = false := toList_ne hxy
        rw [if_neg hxy] at HST
        clear hxy
        have hmm : m ≤ 20 := by omega
        obtain ⟨w7, hw7⟩ : ∃ w7, w7 = w6.alloc (.cells #[.string x] 9) := ⟨_, rfl⟩
        have hu7 : Upds (fun _ => False) w6 w7 := by rw [hw7]; exact Upds.alloc _ _
        have hr7 : Row w7 w6.heap.size 9 [.string x] := by rw [hw7]; exact Row.new w6 [.string x] _
        have hnews : Hid (∀ j u, [Value.string x][j]? = some u → w7.cell? ((⟨w6.heap.size, 0, none⟩ : Addr).add j) = some u) := fun j u hu => by
          rw [Go.WideShapes.add_plain, Nat.zero_add]; exact hr7.cell hu
        have hone : Hid (∀ u ∈ [Value.string x], u.oneCell' = true) := fun u hu => by rw [List.mem_singleton.1 hu]; rfl
        have HSL7 := hid (HSL6.out.upd hu7 (fun _ _ h => h))
        have HU7 := hid hu7
        have HW7 := hid hw7
        clear hu7 hr7 hw7
        go_wp2_with (at_builtin; rw [← HW7.out]; refine wpList_append_slice rfl (.tmp 64) (.tmp 66) 27 rfl 9 (.string ⟨#[]⟩) 1 16 Try.underlying27 (by kernel_rfl) rfl _ (m + 1) (had.map Value.string) rfl HSL7.out ⟨w6.heap.size, 0, none⟩ 1 1 [.string x] rfl rfl hnews.out hone.out (by omega) (by omega) (by omega) ?_; intro g8 cap8 w8 hs8 hu8 hh8)
        have hg8 : w1.heap.size ≤ g8 := by
          have := HU6.out.size
          have h1 := hs8.out
          rcases h1 with ⟨a, e, _⟩ | ⟨g', cap2, cur, e, _, _, _, _, _, hpos⟩
          · simp only [Value.slice.injEq] at e; omega
          · simp only [Value.slice.injEq, Option.some.injEq, Addr.mk.injEq, and_true, true_and] at e
            obtain ⟨rfl, rfl⟩ := e
            rcases hh8.out g8 ⟨_, _, _, rfl, hpos, rfl⟩ with h | h
            · obtain ⟨a2, n2, c2, e2, _, e3⟩ := h
              injection e2 with e4
              injection e4 with e5
              rw [e3, ← e5]
              exact hg
            · have := HU7.out.size; omega
        have hno : ∀ b, Value.home (.slice (some ⟨g, 0, none⟩) (m + 1) cap') b → w1.heap.size ≤ b := fun b hb => by
          obtain ⟨_, _, _, e2, _, rfl⟩ := hb
          simp only [Value.slice.injEq, Option.some.injEq] at e2
          obtain ⟨rfl, _⟩ := e2
          exact hg
        have hd7 := HD6.out.calm HU7.out
        have hrow7 := HSL7.out.row
        go_wp2_with fail
        go_roundw
        case rel =>
          refine ⟨k + 1, m + 1, g8, cap8, had ++ [x], _, L6, by omega, by go_num, rfl, by rw [List.length_append, HHL.out]; rfl, by omega, hg8, by rw [List.map_append]; exact hs8.out, by rw [upS_at]; exact HST.out,
            hd7.upd hu8.out (fun b hb h => ?_) (fun b cur hb _ h => ?_), HB6.out, (HR6.out.upd HU7.out (fun h => h)).upd hu8.out (fun h => ?_), (HU6.out.trans HU7.out).trans' hu8.out (fun b hb h => by have := hno b h; omega)⟩
          · obtain ⟨cur, hrb⟩ := hrow7 b h
            exact hd7.not_own hrb (by decide) (by decide) (by decide) hb
          · obtain ⟨cur', hrb⟩ := hrow7 b h
            have h9 : Row w7 b 3 cur.toList := by unfold Row; rw [hb]
            exact hrb.ne h9 (by decide) rfl
          · obtain ⟨cur', hrb⟩ := hrow7 bw h
            exact (HR6.out.upd HU7.out (fun h => h)).ne hrb (by decide) rfl
        case measure => simp [RowKit.intOf]; omega
    · obtain rfl : k = len := by omega
      obtain ⟨p, y, hpy, hsy⟩ := HHS.out
      have hpl : p.length = m := by have := HHL.out; rw [hpy, List.length_append] at this; simp at this; omega
      obtain ⟨nn, hnn⟩ : ∃ nn, nn = min m 8 := ⟨_, rfl⟩
      have hel : (f 0).er.length = nn := by rw [hsy]; show (p.reverse.take 8).length = nn; rw [List.length_take, List.length_reverse, hpl, hnn]; omega
      have hnle : nn ≤ m := by omega
      have hn8 : nn ≤ 8 := by omega
      have HOLD : Hid ((one f).old 0 = (nn : Int)) := by show (one f).old 0 = (nn : Int); rw [one_old, hel]
      have hmm : m ≤ 20 := by omega
      have HNN := hid hnn
      have HEL := hid hel
      have HPY := hid hpy
      have HSY := hid hsy
      have HPL := hid hpl
      clear hnn hel hpy hsy hpl HHS
      by_cases hm0 : nn = 0
      · subst hm0
        have hm : m = 0 := by have := HNN.out; omega
        subst hm
        go_wp2_with fail
        rw [← HB.out]
        refine (old_any w1.heap.size L' (one f) 0 wr HD.out).mono ?_
        rintro e w5 ⟨rfl, rfl⟩
        rw [HOLD.out, HB.out]
        go_wp2_with fail
        rw [← HB.out]
        refine (return_any w1.heap.size L' (one f) 0 1 wr HD.out).mono ?_
        intro e w5 hx
        rw [one_ret_bad f 1 (by rw [HEL.out]; omega)] at hx
        obtain ⟨rfl, ht⟩ := hx
        obtain ⟨L5, _, _, hu5, _⟩ := DevTo.next HU.out HD.out ht
        have HU5 := hid hu5
        rw [HB.out]
        clear ht hu5
        go_wp2_with fail
        go_ret
        exact ⟨rfl, HB1.out.trans (HU5.out.below HB1.out.size (fun k h => h.elim))⟩
      · have hpos : 1 ≤ nn := by omega
        obtain ⟨r, hr⟩ : ∃ r, r = b % nn := ⟨_, rfl⟩
        have hrn : r < nn := by rw [hr]; exact Nat.mod_lt _ (by omega)
        have hri : (b : Int) % (nn : Int) = (r : Int) := by rw [hr]; omega
        have hid0 : Hid (0 ≤ (m : Int) - (1 + (b : Int) % (nn : Int)) ∧ (m : Int) - (1 + (b : Int) % (nn : Int)) < (m : Int) + 1) := by show _ ∧ _; omega
        have hidx : Hid (((m : Int) - (1 + (b : Int) % (nn : Int))).toNat = m - 1 - r) := by show _ = _; omega
        have HRI := hid hri
        have hb0 : 0 ≤ (b : Int) % (nn : Int) := by omega
        have hb1 : (b : Int) % (nn : Int) ≤ 8 := by omega
        have hold1 : ((nn : Int) == 0) = false := beq_eq_false_iff_ne.2 (by omega)
        clear hr hri
        have hmin : Hid (min (m : Int) 8 = (nn : Int)) := by show _ = _; rw [HNN.out]; omega
        clear hm0
        rcases Nat.lt_or_ge 8 m with h8 | h8
        · obtain rfl : nn = 8 := by have := HNN.out; omega
          go_wp2_with fail
          rw [← HB.out]
          refine (old_any w1.heap.size L' (one f) 0 wr HD.out).mono ?_
          rintro e w5 ⟨rfl, rfl⟩
          rw [HOLD.out, HB.out]
          go_wp2_with fail
          rw [← HB.out]
          refine (return_any w1.heap.size L' (one f) 0 (1 + (b : Int) % 8) wr HD.out).mono ?_
          intro e w5 hx
          rw [one_ret f r _ (by have := HRI.out; omega) (by rw [HEL.out]; exact hrn)] at hx
          obtain ⟨rfl, ht⟩ := hx
          obtain ⟨L5, hd5, hb5, hu5, ho5⟩ := DevTo.next HU.out HD.out ht
          have HD5 := hid hd5
          have HB5 := hid (hb5.trans HB.out)
          have HU5 := hid hu5
          have HSL5 := hid (HSL.out.upd ho5 (fun b hb => by obtain ⟨cur, hrb⟩ := HSL.out.row b hb; exact HD.out.not_own hrb (by decide) (by decide) (by decide)))
          have hold5 : Hid ((one (upS f 0 ⟨(f 0).er[r]'(by rw [HEL.out]; exact hrn), (f 0).er⟩)).old 0 = 8) := by show (one _).old 0 = _; rw [one_old, upS_at]; show ((f 0).er.length : Int) = _; rw [HEL.out]; rfl
          rw [HB.out]
          clear ht hd5 hb5 hu5 ho5
          go_wp2_with fail
          rw [← HB5.out]
          refine (old_any w1.heap.size L5 _ 0 w5 HD5.out).mono ?_
          rintro e w6 ⟨rfl, rfl⟩
          rw [hold5.out, HB5.out]
          go_wp2_with fail
          rw [← HB5.out]
          refine (read_any w1.heap.size L5 _ 0 w5 HD5.out).mono ?_
          intro e w6 hx
          rw [one_read, upS_at] at hx
          obtain ⟨rfl, hu6⟩ := hx
          have HU6 := hid (HU5.out.trans hu6)
          have hsl6 := HSL5.out.upd hu6 (fun _ _ h => h)
          rw [HB5.out]
          have hee : (f 0).er[r]'(by rw [HEL.out]; exact hrn) = p[m - 1 - r]'(by have := HPL.out; omega) := by
            have h1 : (f 0).er = p.reverse.take 8 := by rw [HSY.out]
            have h2 : (f 0).er[r]? = (p.reverse.take 8)[r]? := by rw [h1]
            rw [List.getElem?_eq_getElem (by rw [HEL.out]; exact hrn), List.getElem?_take, if_pos (by omega), List.getElem?_reverse (by have := HPL.out; omega), HPL.out, List.getElem?_eq_getElem (by have := HPL.out; omega)] at h2
            exact Option.some.inj h2
          obtain ⟨z, hz⟩ : ∃ z, z = (f 0).er[r]'(by rw [HEL.out]; exact hrn) := ⟨_, rfl⟩
          rw [← hz] at hee ⊢
          have hcl : w6.cell? ⟨g, m - (1 + b % 8), none⟩ = some (.string z) := by
            rw [show m - (1 + b % 8) = m - 1 - r from by have := HRI.out; omega]
            refine hsl6.cell _ _ ?_ (by omega)
            rw [HPY.out, List.getElem?_map, List.getElem?_append_left (by have := HPL.out; omega), List.getElem?_eq_getElem (by have := HPL.out; omega), hee]; rfl
          have hi0 := hid0.out.1
          have hi1 := hid0.out.2
          have hq : (z.toList == z.toList) = true := beq_self_eq_true _
          clear hu6 hsl6 hee hz
          go_wp2_with fail
          go_ret
          exact ⟨rfl, HB1.out.trans (HU6.out.below HB1.out.size (fun k h => h.elim))⟩
        · obtain rfl : nn = m := by have := HNN.out; omega
          go_wp2_with fail
          rw [← HB.out]
          refine (old_any w1.heap.size L' (one f) 0 wr HD.out).mono ?_
          rintro e w5 ⟨rfl, rfl⟩
          rw [HOLD.out, HB.out]
          go_wp2_with fail
          rw [← HB.out]
          refine (return_any w1.heap.size L' (one f) 0 (1 + (b : Int) % (nn : Int)) wr HD.out).mono ?_
          intro e w5 hx
          rw [one_ret f r _ (by have := HRI.out; omega) (by rw [HEL.out]; exact hrn)] at hx
          obtain ⟨rfl, ht⟩ := hx
          obtain ⟨L5, hd5, hb5, hu5, ho5⟩ := DevTo.next HU.out HD.out ht
          have HD5 := hid hd5
          have HB5 := hid (hb5.trans HB.out)
          have HU5 := hid hu5
          have HSL5 := hid (HSL.out.upd ho5 (fun b hb => by obtain ⟨cur, hrb⟩ := HSL.out.row b hb; exact HD.out.not_own hrb (by decide) (by decide) (by decide)))
          have hold5 : Hid ((one (upS f 0 ⟨(f 0).er[r]'(by rw [HEL.out]; exact hrn), (f 0).er⟩)).old 0 = (nn : Int)) := by show (one _).old 0 = _; rw [one_old, upS_at]; show ((f 0).er.length : Int) = _; rw [HEL.out]
          rw [HB.out]
          clear ht hd5 hb5 hu5 ho5
          go_wp2_with fail
          rw [← HB5.out]
          refine (old_any w1.heap.size L5 _ 0 w5 HD5.out).mono ?_
          rintro e w6 ⟨rfl, rfl⟩
          rw [hold5.out, HB5.out]
          go_wp2_with fail
          rw [← HB5.out]
          refine (read_any w1.heap.size L5 _ 0 w5 HD5.out).mono ?_
          intro e w6 hx
          rw [one_read, upS_at] at hx
          obtain ⟨rfl, hu6⟩ := hx
          have HU6 := hid (HU5.out.trans hu6)
          have hsl6 := HSL5.out.upd hu6 (fun _ _ h => h)
          rw [HB5.out]
          have hee : (f 0).er[r]'(by rw [HEL.out]; exact hrn) = p[nn - 1 - r]'(by have := HPL.out; omega) := by
            have h1 : (f 0).er = p.reverse.take 8 := by rw [HSY.out]
            have h2 : (f 0).er[r]? = (p.reverse.take 8)[r]? := by rw [h1]
            rw [List.getElem?_eq_getElem (by rw [HEL.out]; exact hrn), List.getElem?_take, if_pos (by omega), List.getElem?_reverse (by have := HPL.out; omega), HPL.out, List.getElem?_eq_getElem (by have := HPL.out; omega)] at h2
            exact Option.some.inj h2
          obtain ⟨z, hz⟩ : ∃ z, z = (f 0).er[r]'(by rw [HEL.out]; exact hrn) := ⟨_, rfl⟩
          rw [← hz] at hee ⊢
          have hcl : w6.cell? ⟨g, nn - (1 + b % nn), none⟩ = some (.string z) := by
            rw [show nn - (1 + b % nn) = nn - 1 - r from by have := HRI.out; omega]
            refine hsl6.cell _ _ ?_ (by omega)
            rw [HPY.out, List.getElem?_map, List.getElem?_append_left (by have := HPL.out; omega), List.getElem?_eq_getElem (by have := HPL.out; omega), hee]; rfl
          have hi0 := hid0.out.1
          have hi1 := hid0.out.2
          have hq : (z.toList == z.toList) = true := beq_self_eq_true _
          clear hu6 hsl6 hee hz
          go_wp2_with fail
          go_ret
          exact ⟨rfl, HB1.out.trans (HU6.out.below HB1.out.size (fun k h => h.elim))⟩
set_option maxRecDepth 100000 in
theorem returns_many (A : Option Addr) (len cap : Nat) (b : Nat) (hn : 20 < len) (hm : len ≤ 9223372036854775807) (w : World) :
    Calls Try.prog 9 #[.slice A len cap, .int .u8 b] w fun e w' => e = .returned (.bool true) ∧ Below w.heap.size w w' := by
  go_enter Try.func9, Try.ntmps9
  go_wp2_with fail
  refine (awake_dev _).mono ?_
  rintro e w1 ⟨rfl, hb1⟩
  go_wp2_with fail
  refine (awake_dev _).mono ?_
  rintro e w2 ⟨rfl, hb2⟩
  go_wp2_with fail
  go_ret
  exact ⟨rfl, hb1.trans (hb2.mono hb1.size)⟩
theorem walk_DeviceReturns {w : World} (A : Option Addr) (len cap : Nat) (C : Nat → Nat → Value) (b : Int) (hl : len ≤ cap) (hm : cap ≤ maxLen) (hE : Elems w A len 1 C) (hS : ∀ i, i < len → ∃ n : ByteArray, C i 0 = .string n ∧ n.size ≤ maxLen) (hb : 0 ≤ b ∧ b ≤ 255) :
    Calls Try.prog 9 #[.slice A len cap, .int .u8 b] w fun e w' => e = .returned (.bool true) ∧ Below w.heap.size w w' := by
  obtain ⟨n, rfl⟩ := Int.eq_ofNat_of_zero_le hb.1
  unfold maxLen at hm
  by_cases hn : len ≤ 20
  · exact returns_few A len cap C n hn (by omega) w hE hS
  · exact returns_many A len cap n (by omega) (by omega) w

namespace deviceReturns
theorem own : ownKnob Try.prog.godebug = none := by kernel_rfl
theorem laidOut : laidOutB Try.prog = true := by kernel_rfl
set_option linter.unusedVariables false
set_option maxRecDepth 100000 in
theorem lifted (os : Os) (started : os.Started) (H : Type) (enc : TypeId × Value → H) :
    ReturnsInHanded {} Try.checked os 9 .any (Rows.deviceReturnsSpec.pre6 enc Try.prog Try.f9 Rows.deviceReturnsRow.domain false) (Rows.deviceReturnsSpec.post enc Try.prog Try.f9 false true false false) := by
  refine returnsInHanded_of_change (C := Try.checked) own started (by kernel_rfl) Try.func9
    (ChangeSpec.witness6 (enc := enc) (C := Try.checked) false ⟨#[], #[.slice none 0 0, .int .u8 0], []⟩ 8 (by kernel_rfl) (by kernel_rfl) (by kernel_rfl) (by kernel_rfl)) ?_
  intro W base args ds gs before hval0 hW hcnd _
  have hval : ∀ (j : Nat) t v, Try.f9.params[j]? = some t → args[j]? = some v → Value.okWide Try.prog W .any base t v := hval0
  have hW' := hW
  obtain ⟨p, q, hA0, hV, rfl, hfz, hnd⟩ := hW
  have hA : DataW.TrodAll enc Try.prog W 0 (fun _ => true) true Try.f9.params.toList args.toList ds p := hA0
  rw [Try.params9] at hA hval
  obtain ⟨v0, vs0, d0, ds0, p0, q0, hargs, rfl, rfl, h0, r0⟩ := trodAll_cons hA
  obtain ⟨v1, vs1, d1, ds1, p1, q1, rfl, rfl, rfl, h1, r1⟩ := trodAll_cons r0
  obtain ⟨rfl, rfl, rfl⟩ := trodAll_nil r1
  obtain rfl : args = #[v0, v1] := by cases args; simp_all
  obtain ⟨rfl, rfl⟩ := trodVars_none hV
  obtain ⟨a0, len0, cap0, rfl⟩ := okWide_slice Try.underlying27 (hval 0 27 v0 rfl rfl)
  have k0 := h0
  have lt0 : ∀ x ∈ p0, x.block < W.heap.size := by obtain ⟨m, hm⟩ := k0; exact DataW.trod_lt m _ _ _ hm
  obtain ⟨fuel0, hf0⟩ := h0
  obtain ⟨A0, l0, c0, C0, hcs0, hl0, hm0, hE0, hF0⟩ := open_cells Try.underlying27 (by kernel_rfl) hf0
  simp only [Value.cells, List.cons.injEq, Value.slice.injEq, and_true] at hcs0
  obtain ⟨rfl, rfl, rfl⟩ := hcs0
  have s0_0 : ∀ i, i < len0 → ∃ n : ByteArray, C0 i 0 = .string n ∧ n.size ≤ maxLen := fun i hi => by obtain ⟨y, n, hy⟩ := hF0 i hi; obtain ⟨n, e, _, hw⟩ := DataW.trod_string Try.underlying9 hy; exact ⟨n, List.head_eq_of_cons_eq e, hw⟩
  obtain ⟨a1, rfl, rfl, rfl, w1⟩ := open_int Try.underlying5 (hval 1 5 v1 rfl rfl) h1
  clear hA0 hval0
  refine (walk_DeviceReturns a0 len0 cap0 C0 a1 hl0 hm0 hE0 s0_0 (bounds_u8 w1) (w := W)).mono fun e W' ⟨he, bel⟩ => ?_
  subst he
  exact ⟨_, rfl, _, _, _, [], _, [], hW', trodAll_mk1 (shut_bool Try.underlying4 _), (trodAll_cons_mk (Below.trod laidOut (by kernel_rfl) (of_decide_eq_true (by kernel_rfl)) k0 bel lt0) (trodAll_cons_mk (shut_int Try.underlying5 w1) trodAll_mk0)), rfl, bel.frame _, fun h => by cases h⟩
theorem over : Rows.deviceReturnsRow.holds Try.pinned (OpenSpec.ofChange Rows.deviceReturnsSpec) :=
  OpenClaim.holds_of_wide 9 Try.f9 rfl rfl rfl rfl rfl rfl rfl ⟨rfl, rfl, rfl, rfl, rfl⟩ rfl rfl rfl rfl rfl (by kernel_rfl) Try.func9 (by kernel_rfl)
    (of_decide_eq_true (by kernel_rfl)) (by unfold Func.isWrapper; first | (rw [if_pos (by decide +kernel)]; kernel_rfl) | (rw [if_neg (by decide +kernel)]; exact ⟨rfl, rfl⟩))
    (fun os started H enc _ => lifted os started H enc)
theorem proved : Rows.DeviceReturnsSaid := over
end deviceReturns

end Go.Proofs.Ytpiiidiifnefcaa
