import Derived.RangeFuncNested
import Derived.RangeFuncBound
import Derived.RangeFuncCalls
import Derived.RangeFuncLeaves
import Derived.Shelf.Abstract
import Derived.OwnWalkIn
import Derived.TacticsInMore
import Derived.LoopNIn
import Derived.LoopIn
import Derived.Sort.QuietIn
import Derived.Sort.CutIn
import Derived.Test.YtllbjabnoicdfaaFixT3
/-! The parts of a slice, by the library's function over them. -/
namespace Go.Proofs.Ytllbjabnoicdfaa
open Go.Lib Go.ChangeShapes Go.WideShapes Go.ChangeAt Go.RowKit Go.Shelf
set_option linter.unusedVariables false
attribute [local go_sem] Oper.semAt_some

/-- a part's number -/
abbrev PartNo (m n : Nat) := { k : Nat // k * m < n }
def encP (pb off m n : Nat) (x : PartNo m n) : Array Value := #[.slice (some ⟨pb, off + x.1 * m, none⟩) (min m (n - x.1 * m)) (min m (n - x.1 * m))]

/-- what the iterator reads is kept -/
def Kept (Bs Bm : Nat) (W W' : World) : Prop := W'.cell? ⟨Bs, 0, none⟩ = W.cell? ⟨Bs, 0, none⟩ ∧ W'.cell? ⟨Bm, 0, none⟩ = W.cell? ⟨Bm, 0, none⟩
theorem Kept.trans {Bs Bm : Nat} {A B C : World} (h : Kept Bs Bm A B) (k : Kept Bs Bm B C) : Kept Bs Bm A C := ⟨k.1.trans h.1, k.2.trans h.2⟩

set_option maxRecDepth 100000 in
set_option maxHeartbeats 2000000 in
theorem chunk1_in (n : Nat) (hn : 1 ≤ n) (lo Bs Bm pb off cap m len : Nat) (hm : 1 ≤ m) (hm2 : m ≤ 1024) (hl : len ≤ 100000) (hc : len ≤ cap) (hc2 : cap ≤ 9223372036854775807) (J Jx : List (PartNo m len) → World → Prop) (hJ : ∀ xs W n, J xs W → J xs (W.drewN n))
    (hY : ∀ pre x W, J pre W → pre.length < nb m len → YieldAt Fence.wide (n - 1) Try.prog lo (encP pb off m len x) W fun e W' =>
      (e = .returned (.bool true) ∧ J (pre ++ [x]) W' ∧ Kept Bs Bm W W') ∨ (e = .returned (.bool false) ∧ Jx (pre ++ [x]) W'))
    (W : World) (hBs : W.cell? ⟨Bs, 0, none⟩ = some (.slice (some ⟨pb, off, none⟩) len cap)) (hBm : W.cell? ⟨Bm, 0, none⟩ = some (.int .i64 m)) (h0 : J [] W) :
    CallsIn Fence.wide n Try.prog 32 #[.func (.yield lo) #[] #[], .pointer (some ⟨Bs, 0, none⟩), .pointer (some ⟨Bm, 0, none⟩)] W fun e W' => (∃ v, e = .returned v) ∧
      ((∃ ys : List (PartNo m len), ys.map Subtype.val = List.range (nb m len) ∧ J ys W') ∨ (∃ pre, Jx pre W')) := by
  have HBS := hid hBs
  have HBM := hid hBm
  clear hBs hBm
  refine callsIn_of_wp Try.func32 rfl trivial ?_ rfl
  simp only [Try.ntmps32, List.size_toArray, List.length_cons, List.length_nil, Nat.reduceAdd, Nat.reduceSub, Array.replicate_succ, Array.replicate_zero, List.push_toArray, List.append_toArray, List.nil_append, List.cons_append]
  gi_wp2
  gi_loopw [4] (fun s4 wr => ∃ (k i : Nat) (pre : List (PartNo m len)), s4 = .int .i64 i ∧ i = k * m ∧ pre.map Subtype.val = List.range k ∧ (k ≤ nb m len) ∧ J pre wr ∧ wr.cell? ⟨Bs, 0, none⟩ = some (.slice (some ⟨pb, off, none⟩) len cap) ∧ wr.cell? ⟨Bm, 0, none⟩ = some (.int .i64 m)) (fun s4 _ => len + 2000 - (intOf s4).toNat)
  case atStart => exact ⟨0, 0, [], by go_num, by simp, rfl, Nat.zero_le _, h0, HBS.out, HBM.out⟩
  case round =>
    obtain ⟨k, i, pre, rfl, hi, hpre, hkn, hJs, cS, cM⟩ := hrel
    by_cases hlt : i < len
    · have hx : k * m < len := by omega
      have hpl : pre.length = k := by have := congrArg List.length hpre; simpa using this
      have hk1 : k < nb m len := by
        rcases Nat.lt_or_ge k (nb m len) with h | h
        · exact h
        · have := (nb_le (m := m) (n := len) (k := k) hm).1 h; omega
      have HPRE := hid hpre
      have HI := hid hi
      obtain ⟨q, hq⟩ : ∃ q, q = min m (len - i) := ⟨_, rfl⟩
      have hq2 : (if len - i < m then ((len - i : Nat) : Int) else (m : Int)) = (q : Int) := by split <;> omega
      have HQ := hid hq2
      have HQ1 := hid hq
      have hq3 : i + q ≤ len := by omega
      have hq4 : i + q ≤ cap := by omega
      have hq0 : ¬ q = 0 := by omega
      have HJS := hid hJs
      clear hpre hi hq hq2 hJs
      gi_wp2
      gi_quiet (fail)
      rw [HQ.out]
      obtain ⟨wd, hwd⟩ : ∃ q, q = wr.drewN nq := ⟨_, rfl⟩
      have cS2 : wd.cell? ⟨Bs, 0, none⟩ = some (.slice (some ⟨pb, off, none⟩) len cap) := by rw [hwd]; exact cS
      have HBS2 := hid cS2
      have HBM2 : Hid (wd.cell? ⟨Bm, 0, none⟩ = some (.int .i64 m)) := hid (by rw [hwd]; exact cM)
      obtain ⟨fn, tmps, assign, body, hy, hR⟩ := hY pre ⟨k, hx⟩ wd (by rw [hwd]; exact hJ _ _ _ HJS.out) (by rw [hpl]; exact hk1)
      have HRR := hid hR
      dsimp only [encP] at hy
      rw [← HI.out, ← HQ1.out] at hy
      rw [← hwd]
      have hq5 : i ≤ i + q := by omega
      have hq6 : i + q - i = q := by omega
      clear cS cM hwd hR HJS
      gi_wp2
      refine HRR.out.mono ?_
      rintro e W3 (⟨rfl, hJ3, hk3⟩ | ⟨rfl, hJx3⟩)
      · have cM3 : W3.cell? ⟨Bm, 0, none⟩ = some (.int .i64 m) := hk3.2.trans HBM2.out
        have HCS3 := hid (hk3.1.trans HBS2.out)
        have HCM3 := hid cM3
        clear hk3 hJ
        gi_wp2
        go_roundw
        case rel => exact ⟨k + 1, i + m, pre ++ [⟨k, hx⟩], by go_num, by rw [HI.out, Nat.succ_mul], by rw [List.map_append, HPRE.out, List.range_succ]; rfl, by omega, hJ3, HCS3.out, HCM3.out⟩
        case measure => simp [intOf]; omega
      · gi_wp2
        refine bodyPost_ret (results_none rfl _ _ _) rfl ?_
        exact ⟨⟨_, rfl⟩, .inr ⟨_, hJx3⟩⟩
    · have hk : nb m len = k := by
        have := (nb_le (m := m) (n := len) (k := k) hm).2 (by omega); omega
      have HPRE := hid hpre
      have HK := hid hk
      clear hpre hk hi
      gi_wp2
      go_end0
      exact ⟨⟨_, rfl⟩, .inl ⟨pre, by rw [HK.out]; exact HPRE.out, hJs⟩⟩
set_option maxRecDepth 100000 in
set_option maxHeartbeats 2000000 in
theorem chunk0_in (n : Nat) (lo Bs Bm : Nat) (A : Option Addr) (cap : Nat) (J : World → Prop)
    (W : World) (hBs : W.cell? ⟨Bs, 0, none⟩ = some (.slice A 0 cap)) (h0 : J W) :
    CallsIn Fence.wide n Try.prog 32 #[.func (.yield lo) #[] #[], .pointer (some ⟨Bs, 0, none⟩), .pointer (some ⟨Bm, 0, none⟩)] W fun e W' => (∃ v, e = .returned v) ∧ J W' := by
  refine callsIn_of_wp Try.func32 rfl trivial ?_ rfl
  simp only [Try.ntmps32, List.size_toArray, List.length_cons, List.length_nil, Nat.reduceAdd, Nat.reduceSub, Array.replicate_succ, Array.replicate_zero, List.push_toArray, List.append_toArray, List.nil_append, List.cons_append]
  gi_wp2
  gi_loopw [4] (fun s4 wr => s4 = .int .i64 0 ∧ J wr ∧ wr.cell? ⟨Bs, 0, none⟩ = some (.slice A 0 cap)) (fun _ _ => 0)
  case atStart => exact ⟨by go_num, h0, hBs⟩
  case round =>
    obtain ⟨rfl, hJs, cS⟩ := hrel
    gi_wp2
    go_end0
    exact ⟨⟨_, rfl⟩, hJs⟩
set_option maxRecDepth 100000 in
set_option maxHeartbeats 1000000 in
theorem chunk_in (n m : Nat) (hm : 1 ≤ m) (hm2 : m ≤ 1024) (A : Option Addr) (len cap : Nat) (w : World) :
    CallsIn Fence.wide n Try.prog 28 #[.slice A len cap, .int .i64 m] w fun e w' => e = .returned (.func (.func 32) #[] #[.pointer (some ⟨w.heap.size, 0, none⟩), .pointer (some ⟨w.heap.size + 1, 0, none⟩)]) ∧
      w' = (w.alloc (.cells #[.slice A len cap] 22)).alloc (.cells #[.int .i64 m] 3) := by
  refine callsIn_of_wp Try.func28 rfl trivial ?_ rfl
  simp only [Try.ntmps28, List.size_toArray, List.length_cons, List.length_nil, Nat.reduceAdd, Nat.reduceSub, Array.replicate_succ, Array.replicate_zero, List.push_toArray, List.append_toArray, List.nil_append, List.cons_append]
  gi_wp2
  go_ret
  exact ⟨rfl, rfl⟩
theorem abides_drewN {β : Type} {B : Nat} {J : β → World → Prop} (h : AbidesFrom B J) (s : β) (W : World) (n : Nat) (hJ : J s W) : J s (W.drewN n) :=
  h s W (W.drewN n) none hJ ⟨rfl, rfl, rfl, Nat.le_refl _, fun _ _ _ => rfl⟩ (fun r e => by cases e)
theorem chunk_stops (n : Nat) (hn : 1 ≤ n) (Bs Bm m pb off : Nat) (hm : 1 ≤ m) (hm2 : m ≤ 1024) (A : Option Addr) (len cap : Nat) (hA : 0 < len → A = some ⟨pb, off, none⟩) (hl : len ≤ 100000) (hc : len ≤ cap) (hc2 : cap ≤ 9223372036854775807) (w : World) (hBs : Bs < w.heap.size) (hBm : Bm < w.heap.size)
    (h1 : w.cell? ⟨Bs, 0, none⟩ = some (.slice A len cap)) (h2 : w.cell? ⟨Bm, 0, none⟩ = some (.int .i64 m)) :
    SeqStopsK Fence.wide n Try.prog 32 #[.pointer (some ⟨Bs, 0, none⟩), .pointer (some ⟨Bm, 0, none⟩)] (encP pb off m len) (Kept Bs Bm) (fun ys : List (PartNo m len) => ys.map Subtype.val = List.range (nb m len)) (fun _ => True) (nb m len) w := fun lo J Jx W hW hJ _ hY h0 => by
  have c1 := (hW.cell (p := ⟨Bs, 0, none⟩) hBs).trans h1
  have c2 := (hW.cell (p := ⟨Bm, 0, none⟩) hBm).trans h2
  rcases Nat.eq_zero_or_pos len with e | e
  · subst e
    refine (chunk0_in n lo Bs Bm A cap (J []) W c1 h0).mono fun e W' ⟨he, hj⟩ => ⟨he, .inl ⟨[], ?_, hj⟩⟩
    rw [nb_zero hm]; rfl
  · rw [hA e] at c1
    refine (chunk1_in n hn lo Bs Bm pb off cap m len hm hm2 hl hc hc2 J Jx (fun xs W' k h => abides_drewN hJ xs W' k h) hY W c1 c2 h0).mono ?_
    rintro e W' ⟨he, hj | ⟨pre, hj⟩⟩
    · exact ⟨he, .inl hj⟩
    · exact ⟨he, .inr ⟨pre, trivial, hj⟩⟩
end Go.Proofs.Ytllbjabnoicdfaa
