import Derived.RangeFuncNested
import Derived.RangeFuncBound
import Derived.RangeFuncCalls
import Derived.RangeFuncLeaves
import Derived.Shelf.Abstract
import Derived.WalkKit
import Derived.OwnWalkIn
import Derived.TacticsInMore
import Derived.LoopNIn
import Derived.LoopIn
import Derived.Test.YtfcaodaaklngmaaDevT5
/-! Reading a sector: a range over the pending writes, backward. -/
namespace Go.Proofs.Ytfcaodaaklngmaa
open Go.Lib Go.ChangeShapes Go.WideShapes Go.ChangeAt Go.RowKit Go.Shelf
attribute [local go_sem] Oper.semAt_some

/-- what comes: the pending writes, the last one first, with their places -/
def back (l : List PW) (k : Nat) : List (Nat × PW) := (List.range k).map fun j => (l.length - 1 - j, (l[l.length - 1 - j]?).getD ⟨0, 0, ⟨#[]⟩⟩)
theorem back_succ (l : List PW) (k : Nat) : back l (k + 1) = back l k ++ [(l.length - 1 - k, (l[l.length - 1 - k]?).getD ⟨0, 0, ⟨#[]⟩⟩)] := by simp [back, List.range_succ]
theorem back_length (l : List PW) (k : Nat) : (back l k).length = k := by simp [back]
def encB (x : Nat × PW) : Array Value := #[.int .i64 x.1, .agg #[.int .i64 x.2.sys, .int .i64 x.2.sec, .string x.2.dat]]

set_option maxRecDepth 100000 in
set_option maxHeartbeats 2000000 in
theorem back1_in (F : Fence) (n : Nat) (hf : F.fn 74) (hro : F.round = none) (hn : 1 ≤ n) (lo Bs n₀ pb cap : Nat) (l : List PW) (hl : l.length ≤ 1000000) (cur : List Value) (hb : pb < n₀) (hbs : Bs < n₀) (J Jx : List (Nat × PW) → World → Prop)
    (hY : ∀ pre x W, J pre W → pre.length < l.length → YieldAt F (n - 1) Try.prog lo (encB x) W fun e W' =>
      (e = .returned (.bool true) ∧ J (pre ++ [x]) W' ∧ Below n₀ W W') ∨ (e = .returned (.bool false) ∧ Jx (pre ++ [x]) W'))
    (W : World) (hBs : W.cell? ⟨Bs, 0, none⟩ = some (.slice (some ⟨pb, 0, none⟩) l.length cap)) (hr : Row W pb 90 cur) (ht : cur.take (l.length * 3) = pwCells l) (h0 : J [] W) :
    CallsIn F n Try.prog 74 #[.func (.yield lo) #[] #[], .pointer (some ⟨Bs, 0, none⟩)] W fun e W' => (∃ v, e = .returned v) ∧
      ((J (back l l.length) W') ∨ (∃ k, k < l.length ∧ Jx (back l (k + 1)) W')) := by
  have HR := hid hr
  have HT := hid ht
  clear hr ht
  refine callsIn_of_wp Try.func74 rfl hf ?_ hro
  simp only [Try.ntmps74, List.size_toArray, List.length_cons, List.length_nil, Nat.reduceAdd, Nat.reduceSub, Array.replicate_succ, Array.replicate_zero, List.push_toArray, List.append_toArray, List.nil_append, List.cons_append]
  gi_wp2
  gi_loopw [3] (fun s3 wr => ∃ (k : Nat) (x : Int), s3 = .int .i64 x ∧ Hid (x + 1 + k = l.length) ∧ -1 ≤ x ∧ x ≤ 1000000 ∧ J (back l k) wr ∧ Below n₀ W wr) (fun s3 _ => (intOf s3 + 1).toNat)
  case atStart => exact ⟨0, (l.length : Int) - 1, by go_num, show _ = _ by simp, by omega, by omega, h0, Below.refl _ _⟩
  case round =>
    obtain ⟨k, x, rfl, hx, hx0, hx1, hJs, hnx⟩ := hrel
    have HNX := hid hnx
    have hbox : wr.cell? ⟨Bs, 0, none⟩ = some (.slice (some ⟨pb, 0, none⟩) l.length cap) := (hnx.cell (p := ⟨Bs, 0, none⟩) hbs).trans hBs
    by_cases hlt : 0 ≤ x
    · obtain ⟨i, rfl⟩ := Int.eq_ofNat_of_zero_le hlt
      have hi : i < l.length := by have := hx.out; omega
      have hki : l.length - 1 - k = i := by have := hx.out; omega
      have hkl : k < l.length := by have := hx.out; omega
      have hp := PwAt.of_take HT.out i hi
      have hrw : Row wr pb 90 cur := (hnx.block pb hb).trans HR.out
      have c0 : wr.cell? ⟨pb, i * 3, none⟩ = some (.int .i64 l[i].sys) := hrw.cell hp.sys
      have c1 : wr.cell? ⟨pb, i * 3 + 1, none⟩ = some (.int .i64 l[i].sec) := hrw.cell hp.sec
      have c2 : wr.cell? ⟨pb, i * 3 + 2, none⟩ = some (.string l[i].dat) := hrw.cell hp.dat
      have hbs' := back_succ l k
      rw [hki, List.getElem?_eq_getElem hi] at hbs'
      simp only [Option.getD_some] at hbs'
      obtain ⟨p, hpe⟩ : ∃ p, p = l[i] := ⟨_, rfl⟩
      rw [← hpe] at c0 c1 c2 hbs'
      have HBS := hid hbs'
      obtain ⟨fn, tmps, assign, body, hy, hR⟩ := hY _ (i, p) wr hJs (by rw [back_length]; exact hkl)
      dsimp only [encB] at hy
      have HRR := hid hR
      have HKL := hid hkl
      clear hp hrw hbs' hnx hki hkl hpe hR hJs
      gi_wp2
      refine HRR.out.mono ?_
      rintro e W3 (⟨rfl, hJ3, hk3⟩ | ⟨rfl, hJx3⟩)
      · gi_wp2
        go_roundw
        case rel => exact ⟨k + 1, (i : Int) - 1, by go_num, show _ = _ by have := hx.out; omega, by omega, by omega, by rw [HBS.out]; exact hJ3, HNX.out.trans hk3⟩
        case measure => simp [intOf]
      · gi_wp2
        refine bodyPost_ret (results_none rfl _ _ _) rfl ?_
        exact ⟨⟨_, rfl⟩, .inr ⟨k, HKL.out, by rw [HBS.out]; exact hJx3⟩⟩
    · obtain rfl : x = -1 := by omega
      obtain rfl : k = l.length := by have := hx.out; omega
      clear hbox
      gi_wp2
      go_end0
      exact ⟨⟨_, rfl⟩, .inl hJs⟩

set_option maxRecDepth 100000 in
set_option maxHeartbeats 1000000 in
theorem back0_in (F : Fence) (n : Nat) (hf : F.fn 74) (hro : F.round = none) (lo Bs : Nat) (a : Option Addr) (J : World → Prop) (W : World) (hBs : W.cell? ⟨Bs, 0, none⟩ = some (.slice a 0 0)) (h0 : J W) :
    CallsIn F n Try.prog 74 #[.func (.yield lo) #[] #[], .pointer (some ⟨Bs, 0, none⟩)] W fun e W' => (∃ v, e = .returned v) ∧ J W' := by
  refine callsIn_of_wp Try.func74 rfl hf ?_ hro
  simp only [Try.ntmps74, List.size_toArray, List.length_cons, List.length_nil, Nat.reduceAdd, Nat.reduceSub, Array.replicate_succ, Array.replicate_zero, List.push_toArray, List.append_toArray, List.nil_append, List.cons_append]
  gi_wp2
  gi_loopw [3] (fun s3 wr => s3 = .int .i64 (-1) ∧ J wr) (fun _ _ => 0)
  case atStart => exact ⟨rfl, h0⟩
  case round =>
    obtain ⟨rfl, hJs⟩ := hrel
    gi_wp2
    go_end0
    exact ⟨⟨_, rfl⟩, hJs⟩
set_option maxRecDepth 100000 in
set_option maxHeartbeats 1000000 in
theorem back_in (F : Fence) (n : Nat) (hf : F.fn 56) (hro : F.round = none) (v : Value) (hv : ∃ a m c, v = .slice a m c) (w : World) :
    CallsIn F n Try.prog 56 #[v] w fun e w' => e = .returned (.func (.func 74) #[] #[.pointer (some ⟨w.heap.size, 0, none⟩)]) ∧ w' = w.alloc (.cells #[v] 65) := by
  obtain ⟨a, m, c, rfl⟩ := hv
  refine callsIn_of_wp Try.func56 rfl hf ?_ hro
  simp only [Try.ntmps56, List.size_toArray, List.length_cons, List.length_nil, Nat.reduceAdd, Nat.reduceSub, Array.replicate_succ, Array.replicate_zero, List.push_toArray, List.append_toArray, List.nil_append, List.cons_append]
  gi_wp2
  go_ret
  exact ⟨rfl, rfl⟩
theorem back_stops (F : Fence) (n : Nat) (hf : F.fn 74) (hro : F.round = none) (hn : 1 ≤ n) (Bs n₀ : Nat) (v : Value) (l : List PW) (hl : l.length ≤ 1000000) (w : World) (hBs : Bs < n₀) (hn₀ : n₀ ≤ w.heap.size) (hc : w.cell? ⟨Bs, 0, none⟩ = some v) (hI : PendIs w v l) (hh : ∀ k, Value.home v k → k < n₀) :
    SeqStopsK F n Try.prog 74 #[.pointer (some ⟨Bs, 0, none⟩)] encB (Below n₀) (fun ys => ys = back l l.length) (fun pre => ∃ k, k < l.length ∧ pre = back l (k + 1)) l.length w := fun lo J Jx W hW _ _ hY h0 => by
  have hc' := (hW.cell (p := ⟨Bs, 0, none⟩) (by show Bs < _; omega)).trans hc
  rcases hI with ⟨a, rfl, rfl⟩ | ⟨pb, cap, cur, rfl, hr, ht, hcl, hcap, hmax, hpos⟩
  · exact (back0_in F n hf hro lo Bs a (J []) W hc' h0).mono fun e W' ⟨he, hj⟩ => ⟨he, .inl ⟨_, rfl, hj⟩⟩
  · have hpb := hh pb ⟨_, _, _, rfl, hpos, rfl⟩
    refine (back1_in F n hf hro hn lo Bs n₀ pb cap l hl cur hpb hBs J Jx hY W hc' ((hW.block pb (by omega)).trans hr) ht h0).mono ?_
    rintro e W' ⟨he, hj | ⟨k, hk, hj⟩⟩
    · exact ⟨he, .inl ⟨_, rfl, hj⟩⟩
    · exact ⟨he, .inr ⟨_, ⟨k, hk, rfl⟩, hj⟩⟩

theorem back_map (l : List PW) (k : Nat) (hk : k ≤ l.length) : (back l k).map Prod.snd = l.reverse.take k := by
  apply List.ext_getElem
  · simp [back]; omega
  · intro i h1 h2
    have hi : i < k := by simpa [back] using h1
    simp only [back, List.map_map, List.getElem_map, List.getElem_range, List.getElem_take, List.getElem_reverse, Function.comp]
    rw [List.getElem?_eq_getElem (by omega)]; rfl
theorem lastOf_none (l : List PW) (s : Nat) (h : ∀ x ∈ back l l.length, x.2.sec ≠ s) : lastOf l s = none := by
  unfold lastOf
  rw [Option.map_eq_none_iff, List.find?_eq_none]
  intro p hp
  have : p ∈ (back l l.length).map Prod.snd := by rw [back_map l _ (Nat.le_refl _), List.take_of_length_le (by simp)]; exact hp
  obtain ⟨x, hx, rfl⟩ := List.mem_map.1 this
  simpa using h x hx
theorem lastOf_some (l : List PW) (s k : Nat) (hk : k < l.length) (pre0 : List (Nat × PW)) (q : Nat × PW) (he : back l (k + 1) = pre0 ++ [q]) (hne : ∀ x ∈ pre0, x.2.sec ≠ s) (hq : q.2.sec = s) : lastOf l s = some q.2.dat := by
  unfold lastOf
  have h1 : l.reverse = ((pre0.map Prod.snd) ++ [q.2]) ++ l.reverse.drop (k + 1) := by
    have := back_map l (k + 1) hk
    rw [he, List.map_append] at this
    have h2 : List.map Prod.snd pre0 ++ [q.2] = l.reverse.take (k + 1) := this
    rw [h2, List.take_append_drop]
  rw [h1, List.find?_append, List.find?_append]
  have h2 : (pre0.map Prod.snd).find? (fun p => p.sec == s) = none := by
    rw [List.find?_eq_none]
    intro p hp
    obtain ⟨x, hx, rfl⟩ := List.mem_map.1 hp
    simpa using hne x hx
  rw [h2]
  simp [hq]
open Classical in
/-- what a read answers -/
noncomputable def DS.read (D : DS) (s : Int) : ByteArray × Int := if D.has s then (if D.failed then (⟨#[]⟩, 10) else (D.content s.toNat, 0)) else (⟨#[]⟩, 2)

set_option maxRecDepth 100000 in
set_option maxHeartbeats 4000000 in
theorem read_in (base : Nat) (L : Lay) (D : DS) (i : Nat) (w : World) (hD : Dev w base L D) (hs : D.has (i : Int)) (hf : D.failed = false) :
    CallsIn Fence.wide 3 Try.prog 24 #[.pointer (some ⟨L.b, 0, none⟩), .int .i64 (i : Int)] w fun e w' => e = .returned (.tuple #[.string (D.content i), .int .i64 0]) ∧ Upds (fun _ => False) w w' := by
  have c6 := hD.c6
  have c1 := hD.c1
  have c0 := hD.c0
  rw [hf] at c6
  have HD := hid hD
  have HF := hid hf
  have HS := hid hs
  have hlt := hD.blk.lt
  have hpv : ∃ a m c, L.pv = .slice a m c := by
    rcases hD.pend with ⟨a, e, _⟩ | ⟨pb, cap, cur, e, _⟩
    · exact ⟨_, _, _, e⟩
    · exact ⟨_, _, _, e⟩
  have HPV := hid hpv
  clear hD hs hf hpv
  have hro : Fence.wide.round = none := rfl
  refine callsIn_of_wp_marks Try.func24 rfl trivial ?_ hro
  simp only [Try.ntmps24, List.size_toArray, List.length_cons, List.length_nil, Nat.reduceAdd, Nat.reduceSub, Array.replicate_succ, Array.replicate_zero, List.push_toArray, List.append_toArray, List.nil_append, List.cons_append]
  gi_wp2_with fail
  obtain ⟨w1, hw1⟩ : ∃ w1, w1 = ((w.alloc (.cells #[.int .i64 (i : Int)] 3)).alloc (.cells #[.string ⟨#[]⟩] 9)).alloc (.cells #[.int .i64 0] 24) := ⟨_, rfl⟩
  have hu : Upds (fun _ => False) w w1 := by rw [hw1]; exact ((Upds.alloc _ _).trans (Upds.alloc _ _)).trans (Upds.alloc _ _)
  have hz : w1.heap.size = w.heap.size + 3 := by rw [hw1]; simp
  have bS : Boxed w1 w.heap.size 3 (.int .i64 (i : Int)) := by rw [hw1]; exact ((Boxed.new w 3 (.int .i64 (i : Int))).alloc _).alloc _
  have b4 : Boxed w1 (w.heap.size + 1) 9 (.string ⟨#[]⟩) := by rw [hw1]; have := (Boxed.new (w.alloc (.cells #[.int .i64 (i : Int)] 3)) 9 (.string ⟨#[]⟩)).alloc (.cells #[.int .i64 0] 24); rwa [World.size_alloc] at this
  have b5 : Boxed w1 (w.heap.size + 1 + 1) 24 (.int .i64 0) := by rw [hw1]; have := Boxed.new ((w.alloc (.cells #[.int .i64 (i : Int)] 3)).alloc (.cells #[.string ⟨#[]⟩] 9)) 24 (.int .i64 0); rwa [World.size_alloc, World.size_alloc] at this
  rw [← hw1]
  clear hw1
  have HU := hid hu
  have HZ := hid hz
  have BS := hid bS
  have B4 := hid b4
  have B5 := hid b5
  have g6 : w1.cell? ⟨L.b, 6, none⟩ = some (.bool false) := hu.cell (fun h => h) c6
  have g1 : w1.cell? ⟨L.b, 1, none⟩ = some L.pv := hu.cell (fun h => h) c1
  have HD1 := hid (HD.out.calm hu)
  clear hu hz bS b4 b5 c6 c1 c0
  refine ⟨trivial, (callsIn_wide.2 (has_true base L D (i : Int) HS.out w1 HD1.out)).mono ?_⟩
  rintro e w2 ⟨rfl, rfl⟩
  gi_wp2_with fail
  refine ⟨trivial, (back_in Fence.wide _ trivial hro L.pv HPV.out w1).mono ?_⟩
  rintro e w2 ⟨rfl, rfl⟩
  obtain ⟨w2, hw2⟩ : ∃ w2, w2 = w1.alloc (.cells #[L.pv] 65) := ⟨_, rfl⟩
  have hu2 : Upds (fun _ => False) w1 w2 := by rw [hw2]; exact Upds.alloc _ _
  have hz2 : w2.heap.size = w.heap.size + 4 := by rw [hw2, World.size_alloc, HZ.out]
  have bB : Boxed w2 (w.heap.size + 3) 65 L.pv := by rw [hw2, ← HZ.out]; exact Boxed.new w1 65 L.pv
  have bS : Boxed w2 w.heap.size 3 (.int .i64 (i : Int)) := by rw [hw2]; exact BS.out.alloc _
  have b4 : Boxed w2 (w.heap.size + 1) 9 (.string ⟨#[]⟩) := by rw [hw2]; exact B4.out.alloc _
  have b5 : Boxed w2 (w.heap.size + 1 + 1) 24 (.int .i64 0) := by rw [hw2]; exact B5.out.alloc _
  rw [← hw2, HZ.out]
  clear hw2
  have HU2 := hid hu2
  have HZ2 := hid hz2
  have hB0 : Below w.heap.size w w2 := ⟨hu2.os.trans HU.out.os, hu2.tape.trans HU.out.tape, hu2.output.trans HU.out.output, by rw [hz2]; omega, fun k hk => (hu2.block k (by rw [HZ.out]; omega) (fun h => h)).trans (HU.out.block k hk (fun h => h))⟩
  have HB0 := hid hB0
  have HBB := hid bB
  have HBS := hid bS
  have HB4 := hid b4
  have HB5 := hid b5
  clear hu2 hz2 hB0 bB bS b4 b5 BS B4 B5 g1 g6
  gi_wp2_with fail
  have hfew : D.pend.length ≤ 1000000 := by have := HD.out.few.1; omega
  have hpend : PendIs w2 L.pv D.pend := (HD1.out.calm HU2.out).pend
  have hhome : ∀ k, Value.home L.pv k → k < w.heap.size + 4 := fun k hk => by have := HD.out.lt k (.inr (.inr hk)); omega
  refine wpIn_rangeFunc_ownH hro (by omega) (gf := 74) (lb := #[.pointer (some ⟨w.heap.size + 3, 0, none⟩)]) rfl trivial (enters_of Try.func74 (by kernel_rfl) rfl)
    (back_stops Fence.wide (3 - 1) trivial hro (by omega) (w.heap.size + 3) (w.heap.size + 4) L.pv D.pend hfew w2 (by omega) (by rw [HZ2.out]; omega) HBB.out.cell hpend hhome) belowK_t (belowK_b (by rw [HZ2.out]; omega)) (Below.refl _ _) (fun _ => rfl)
    (fun pre W => ((∀ q ∈ pre, (q.2.sec : Int) ≠ (i : Int)) ∧ Boxed W w.heap.size 3 (.int .i64 (i : Int)) ∧ Boxed W (w.heap.size + 1) 9 (.string ⟨#[]⟩) ∧ Boxed W (w.heap.size + 1 + 1) 24 (.int .i64 0) ∧ Boxed W (w.heap.size + 3) 65 L.pv) ∧ Below w.heap.size w W)
    (fun c pre W => (c = .ret ∧ ∃ (pre0 : List (Nat × PW)) (q : Nat × PW), pre = pre0 ++ [q] ∧ (∀ x ∈ pre0, (x.2.sec : Int) ≠ (i : Int)) ∧ (q.2.sec : Int) = (i : Int) ∧ Boxed W (w.heap.size + 1) 9 (.string q.2.dat) ∧ Boxed W (w.heap.size + 1 + 1) 24 (.int .i64 0)) ∧ Below w.heap.size w W)
    (OwnFrom.and (Own.from (fun _ A B row hs hg hr => ⟨hs.1, boxed_own _ _ (fun (_ : Unit) => Value.int .i64 (i : Int)) () A B row hs.2.1 hg hr, boxed_own _ _ (fun (_ : Unit) => Value.string ⟨#[]⟩) () A B row hs.2.2.1 hg hr, boxed_own _ _ (fun (_ : Unit) => Value.int .i64 0) () A B row hs.2.2.2.1 hg hr, boxed_own _ _ (fun (_ : Unit) => L.pv) () A B row hs.2.2.2.2 hg hr⟩) _) (ownFrom_below (Nat.le_refl _) (by rw [HZ2.out]; omega)))
    (fun c => OwnFrom.and (Own.from (fun _ A B row hs hg hr => by
      obtain ⟨h1, pre0, q, h2, h3, h4, h5, h6⟩ := hs
      exact ⟨h1, pre0, q, h2, h3, h4, boxed_own _ _ (fun (_ : Unit) => Value.string q.2.dat) () A B row h5 hg hr, boxed_own _ _ (fun (_ : Unit) => Value.int .i64 0) () A B row h6 hg hr⟩) _) (ownFrom_below (Nat.le_refl _) (by rw [HZ2.out]; omega)))
    ⟨⟨by simp, HBS.out, HB4.out, HB5.out, HBB.out⟩, HB0.out⟩
    (fun x a' W => ∃ Bx, w.heap.size + 3 < Bx ∧ Row W Bx 90 [.int .i64 x.2.sys, .int .i64 x.2.sec, .string x.2.dat] ∧ a' = { tmps := #[Value.pointer (some ⟨L.b, 0, none⟩), Value.int IntKind.i64 (i : Int), undef, Value.pointer (some ⟨w.heap.size, 0, none⟩), Value.pointer (some ⟨w.heap.size + 1, 0, none⟩), Value.pointer (some ⟨w.heap.size + 1 + 1, 0, none⟩), undef, Value.pointer (some ⟨Bx, 0, none⟩), Value.pointer (some ⟨L.b, 0, none⟩), Value.int IntKind.i64 (i : Int), Value.bool true, Value.bool false, Value.pointer (some ⟨L.b, 0, none⟩), Value.pointer (some ⟨L.b, 0, none⟩), Value.pointer (some ⟨L.b, 6, none⟩), Value.pointer (some ⟨L.b, 6, none⟩), Value.bool false, Value.pointer (some ⟨L.b, 0, none⟩), Value.pointer (some ⟨L.b, 0, none⟩), Value.pointer (some ⟨L.b, 1, none⟩), L.pv, Value.func (Fn.func 74) #[] #[Value.pointer (some ⟨w.heap.size + 3, 0, none⟩)], .int .i64 x.1, .agg #[.int .i64 x.2.sys, .int .i64 x.2.sec, .string x.2.dat], undef, undef, undef, undef, undef, undef, undef, undef, undef, undef, undef, undef, undef, undef], defers := [] })
    (fun x a' _ X Y row hs hg hr => by
      obtain ⟨Bx, h1, h2, h3⟩ := hs
      refine ⟨Bx, h1, ?_, h3⟩
      have hlt := h2.lt
      refine (hg.block Bx hlt (fun e => ?_)).trans h2
      obtain ⟨_, o, ho, hc⟩ := hr Bx e.symm
      rw [show X.heap[Bx]? = _ from h2] at ho
      cases ho
      simp [Obj.isCells] at hc)
    ?assign ?body ?done ?stop
  case assign =>
    rintro l pre x W K ⟨⟨hne, bS1, b41, b51, bB1⟩, hB1⟩ hK
    have hsz := bB1.lt
    simp only [encB]
    gi_wp2
    exact hK _ _ ((KeepsOthers.alloc _ _).from _) ((Below.refl _ W).alloc (by omega) _) ⟨⟨hne, bS1.alloc _, b41.alloc _, b51.alloc _, bB1.alloc _⟩, hB1.alloc hB1.size _⟩ ⟨W.heap.size, by omega, Row.new W [.int .i64 x.2.sys, .int .i64 x.2.sec, .string x.2.dat] _, rfl⟩
  case body =>
    rintro l pre x a' W hl ⟨r, hr⟩ ⟨⟨hne, bS1, b41, b51, bB1⟩, hB1⟩ ⟨Bx, hBx, hX, rfl⟩ hlen
    have cS := bS1.cell
    have c4 := b41.cell
    have c5 := b51.cell
    have f4 := b41.frozen
    have f5 := b51.frozen
    have x0 : W.cell? ⟨Bx, 1, none⟩ = some (.int .i64 x.2.sec) := hX.cell rfl
    have x1 : W.cell? ⟨Bx, 2, none⟩ = some (.string x.2.dat) := hX.cell rfl
    by_cases hxs : (x.2.sec : Int) = (i : Int)
    · have hb1 : ((x.2.sec : Int) == (i : Int)) = true := beq_iff_eq.2 hxs
      have HX := hid hxs
      have HNE := hid hne
      have B41 := hid b41
      have B51 := hid b51
      have HB1 := hid hB1
      clear hxs hne b41 b51 bS1 bB1 hB1 hX
      gi_wp2
      exact ⟨((KeepsOthers.setCell _ _ _).trans (KeepsOthers.setCell _ _ _)).from _, ⟨rfl, pre, x, rfl, HNE.out, HX.out, (B41.out.set _).other (by omega) _, (B51.out.other (by omega) _).set _⟩, (HB1.out.setCell (p := ⟨w.heap.size + 1, 0, none⟩) (by simp) _).setCell (p := ⟨w.heap.size + 1 + 1, 0, none⟩) (by simp; omega) _⟩
    · have hb1 : ((x.2.sec : Int) == (i : Int)) = false := beq_eq_false_iff_ne.2 hxs
      have HX : Hid (¬ (x.2.sec : Int) = (i : Int)) := hxs
      clear hxs
      gi_wp2
      exact ⟨KeepsFrom.refl _ _, Below.refl _ _, ⟨fun q hq => (List.mem_append.1 hq).elim (hne q) (fun e => by rw [List.mem_singleton.1 e]; exact HX.out), bS1, b41, b51, bB1⟩, hB1⟩
  case done =>
    rintro D0 ys W hD0 rfl ⟨⟨hne, bS1, b41, b51, bB1⟩, hB1⟩ hK
    have hS := trivial
    have hsn : i < D.n := by have := HS.out.2; omega
    have hd1 : Dev W base L D := HD.out.calm (Upds.of_below hB1 (Nat.le_refl _))
    obtain ⟨cur, hrw, hsec⟩ := hd1.secs
    have e0 := hd1.c0
    have e1 : W.cell? ⟨L.sb, i * 10, none⟩ = some (.string (D.sec i).st) := hrw.cell (hsec.sec _ hsn).st
    have cS := bS1.cell
    have c4 := b41.cell
    have c5 := b51.cell
    have f4 := b41.frozen
    have f5 := b51.frozen
    have hs0 := HS.out.1
    have hs1 := HS.out.2
    have HNE := hid hne
    have B41 := hid b41
    have B51 := hid b51
    have HB1 := hid hB1
    have HK := hid hK
    clear hne b41 b51 bS1 bB1 hB1 hd1 hrw hsec hK hS
    gi_wp2
    gi_region
    all_goals
      obtain ⟨W2, hW2⟩ : ∃ W2, W2 = ((W.setCell ⟨w.heap.size + 1, 0, none⟩ (.string (D.sec i).st)).setCell ⟨w.heap.size + 1 + 1, 0, none⟩ (.int .i64 0)).drew := ⟨_, rfl⟩
      have hK2 : W2.heap[D0]? = some (.deferred (some [])) := by rw [hW2]; exact ((KeepsOthers.setCell _ _ _).trans (KeepsOthers.setCell _ _ _)).same D0 _ HK.out rfl
      have b42 : Boxed W2 (w.heap.size + 1) 9 (.string (D.sec i).st) := by rw [hW2]; exact (B41.out.set _).other (by omega) _
      have b52 : Boxed W2 (w.heap.size + 1 + 1) 24 (.int .i64 0) := by rw [hW2]; exact (B51.out.other (by omega) _).set _
      have hB2 : Below w.heap.size w W2 := by rw [hW2]; exact ((HB1.out.setCell (p := ⟨w.heap.size + 1, 0, none⟩) (by simp) _).setCell (p := ⟨w.heap.size + 1 + 1, 0, none⟩) (by simp; omega) _).drew
      rw [← hW2]
      clear hW2 cS c4 c5 f4 f5
      have K2 := hid hK2
      have B42 := hid b42
      have B52 := hid b52
      have HB2 := hid hB2
      clear hK2 b42 b52 hB2
      gi_wp2
      refine ⟨by simp, .inl ⟨_, _, rfl, run_takeDeferred K2.out, ?_⟩⟩
      have hc4 := cell_kept B42.out.cell (grownBy_putObj' _ D0 (.deferred none)) (fun r e => by cases e; exact ⟨_, K2.out, rfl⟩)
      have hc5 := cell_kept B52.out.cell (grownBy_putObj' _ D0 (.deferred none)) (fun r e => by cases e; exact ⟨_, K2.out, rfl⟩)
      have hcon : D.content i = (D.sec i).st := by
        unfold DS.content
        rw [lastOf_none D.pend i (fun x hx e => HNE.out x hx (by rw [e]))]
        rfl
      have hbb := HB2.out.trans (belowK_b (w := w) (Nat.le_refl _) W2 D0 _ (.deferred none) (by rw [HZ2.out] at hD0; omega) K2.out rfl rfl)
      refine ⟨.tuple #[.string (D.sec i).st, .int .i64 0], ?_, by rw [hcon], Upds.of_below hbb (Nat.le_refl _)⟩
      simp [results, Try.f24, go_sem, hc4, hc5]
  case stop =>
    rintro D0 c pre W hD0 ⟨k, hk, hpre⟩ ⟨⟨rfl, pre0, q, hpq, hne, hq, b41, b51⟩, hB1⟩ hK
    gi_wp2
    refine ⟨by simp, .inl ⟨_, _, rfl, run_takeDeferred hK, ?_⟩⟩
    have hc4 := cell_kept b41.cell (grownBy_putObj' _ D0 (.deferred none)) (fun r e => by cases e; exact ⟨_, hK, rfl⟩)
    have hc5 := cell_kept b51.cell (grownBy_putObj' _ D0 (.deferred none)) (fun r e => by cases e; exact ⟨_, hK, rfl⟩)
    have hcon : D.content i = q.2.dat := by
      unfold DS.content
      rw [lastOf_some D.pend i k hk pre0 q (hpre.symm.trans hpq) (fun x hx e => hne x hx (by rw [e])) (by omega)]
      rfl
    have hbb := hB1.trans (belowK_b (w := w) (Nat.le_refl _) W D0 _ (.deferred none) (by rw [HZ2.out] at hD0; omega) hK rfl rfl)
    refine ⟨.tuple #[.string q.2.dat, .int .i64 0], ?_, by rw [hcon], Upds.of_below hbb (Nat.le_refl _)⟩
    simp [results, Try.f24, go_sem, hc4, hc5]

def ReadPost (r : ByteArray × Int) (w : World) (x : Ending) (w' : World) : Prop := x = .returned (.tuple #[.string r.1, .int .i64 r.2]) ∧ Upds (fun _ => False) w w'
set_option maxRecDepth 100000 in
set_option maxHeartbeats 2000000 in
theorem read_any (base : Nat) (L : Lay) (D : DS) (s : Int) (w : World) (hD : Dev w base L D) :
    Calls Try.prog 24 #[.pointer (some ⟨L.b, 0, none⟩), .int .i64 s] w (ReadPost (D.read s) w) := by
  by_cases hs : D.has s
  · by_cases hf : D.failed = true
    · have hr : D.read s = (⟨#[]⟩, 10) := by unfold DS.read; rw [if_pos hs, if_pos hf]
      rw [hr]
      have c6 := hD.c6
      rw [hf] at c6
      have HD := hid hD
      have HS := hid hs
      have hlt := hD.blk.lt
      clear hD hs hf hr
      go_enter Try.func24, Try.ntmps24
      go_wp2_with fail
      obtain ⟨w1, hw1⟩ : ∃ w1, w1 = ((w.alloc (.cells #[.int .i64 s] 3)).alloc (.cells #[.string ⟨#[]⟩] 9)).alloc (.cells #[.int .i64 0] 24) := ⟨_, rfl⟩
      have hu : Upds (fun _ => False) w w1 := by rw [hw1]; exact ((Upds.alloc _ _).trans (Upds.alloc _ _)).trans (Upds.alloc _ _)
      have b4 : Boxed w1 (w.heap.size + 1) 9 (.string ⟨#[]⟩) := by rw [hw1]; have := (Boxed.new (w.alloc (.cells #[.int .i64 s] 3)) 9 (.string ⟨#[]⟩)).alloc (.cells #[.int .i64 0] 24); rwa [World.size_alloc] at this
      have b5 : Boxed w1 (w.heap.size + 1 + 1) 24 (.int .i64 0) := by rw [hw1]; have := Boxed.new ((w.alloc (.cells #[.int .i64 s] 3)).alloc (.cells #[.string ⟨#[]⟩] 9)) 24 (.int .i64 0); rwa [World.size_alloc, World.size_alloc] at this
      rw [← hw1]
      clear hw1
      have g6 : w1.cell? ⟨L.b, 6, none⟩ = some (.bool true) := hu.cell (fun h => h) c6
      have x4 := b4.cell
      have x5 := b5.cell
      have f4 := b4.frozen
      have f5 := b5.frozen
      have HU := hid hu
      have B4 := hid b4
      have B5 := hid b5
      clear hu b4 b5 c6
      refine (has_true base L D s HS.out w1 (HD.out.calm HU.out)).mono ?_
      rintro e w2 ⟨rfl, rfl⟩
      go_wp2_with fail
      have y4 := ((B4.out.set (.string ⟨#[]⟩)).other (show w.heap.size + 1 ≠ w.heap.size + 1 + 1 by omega) (.int .i64 10)).cell
      have y5 := ((B5.out.other (show w.heap.size + 1 + 1 ≠ w.heap.size + 1 by omega) (.string ⟨#[]⟩)).set (.int .i64 10)).cell
      exact bodyPost_ret (v := .tuple #[.string ⟨#[]⟩, .int .i64 10]) (by simp [results, Try.f24, go_sem, y4, y5]) rfl ⟨rfl, (HU.out.setNew _ _ (by show w.heap.size ≤ w.heap.size + 1; omega)).setNew _ _ (by show w.heap.size ≤ w.heap.size + 1 + 1; omega)⟩
    · have hf' : D.failed = false := by simpa using hf
      have hr : D.read s = (D.content s.toNat, 0) := by unfold DS.read; rw [if_pos hs, if_neg hf]
      rw [hr]
      obtain ⟨i, rfl⟩ := Int.eq_ofNat_of_zero_le hs.1
      exact callsIn_wide.1 (read_in base L D i w hD hs hf')
  · have hr : D.read s = (⟨#[]⟩, 2) := by unfold DS.read; rw [if_neg hs]
    rw [hr]
    have HD := hid hD
    have HS : Hid (¬ D.has s) := hs
    clear hD hs hr
    go_enter Try.func24, Try.ntmps24
    go_wp2_with fail
    obtain ⟨w1, hw1⟩ : ∃ w1, w1 = ((w.alloc (.cells #[.int .i64 s] 3)).alloc (.cells #[.string ⟨#[]⟩] 9)).alloc (.cells #[.int .i64 0] 24) := ⟨_, rfl⟩
    have hu : Upds (fun _ => False) w w1 := by rw [hw1]; exact ((Upds.alloc _ _).trans (Upds.alloc _ _)).trans (Upds.alloc _ _)
    have b4 : Boxed w1 (w.heap.size + 1) 9 (.string ⟨#[]⟩) := by rw [hw1]; have := (Boxed.new (w.alloc (.cells #[.int .i64 s] 3)) 9 (.string ⟨#[]⟩)).alloc (.cells #[.int .i64 0] 24); rwa [World.size_alloc] at this
    have b5 : Boxed w1 (w.heap.size + 1 + 1) 24 (.int .i64 0) := by rw [hw1]; have := Boxed.new ((w.alloc (.cells #[.int .i64 s] 3)).alloc (.cells #[.string ⟨#[]⟩] 9)) 24 (.int .i64 0); rwa [World.size_alloc, World.size_alloc] at this
    rw [← hw1]
    clear hw1
    have x4 := b4.cell
    have x5 := b5.cell
    have f4 := b4.frozen
    have f5 := b5.frozen
    have HU := hid hu
    have B4 := hid b4
    have B5 := hid b5
    clear hu b4 b5
    refine (has_false base L D s HS.out w1 (HD.out.calm HU.out)).mono ?_
    rintro e w2 ⟨rfl, rfl⟩
    go_wp2_with fail
    have y4 := ((B4.out.set (.string ⟨#[]⟩)).other (show w.heap.size + 1 ≠ w.heap.size + 1 + 1 by omega) (.int .i64 2)).cell
    have y5 := ((B5.out.other (show w.heap.size + 1 + 1 ≠ w.heap.size + 1 by omega) (.string ⟨#[]⟩)).set (.int .i64 2)).cell
    exact bodyPost_ret (v := .tuple #[.string ⟨#[]⟩, .int .i64 2]) (by simp [results, Try.f24, go_sem, y4, y5]) rfl ⟨rfl, (HU.out.setNew _ _ (by show w.heap.size ≤ w.heap.size + 1; omega)).setNew _ _ (by show w.heap.size ≤ w.heap.size + 1 + 1; omega)⟩
end Go.Proofs.Ytfcaodaaklngmaa
