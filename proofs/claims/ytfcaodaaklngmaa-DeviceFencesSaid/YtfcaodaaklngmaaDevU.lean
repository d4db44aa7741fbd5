import Derived.Test.YtfcaodaaklngmaaDevS
import Derived.Test.YtfcaodaaklngmaaDevT9
import Derived.Test.YtfcaodaaklngmaaApp
import Derived.Lib.SliceRun
/-! Clone. -/
namespace Go.Proofs.Ytfcaodaaklngmaa
open Go.Lib Go.ChangeShapes Go.WideShapes Go.ChangeAt Go.RowKit
set_option linter.unusedVariables false

theorem secs_one {cur : List Value} {n : Nat} {f : Nat → Sec} (h : SecsIs cur n f) : ∀ u ∈ cur.take (n * 10), u.oneCell' = true := fun u hu => by
  obtain ⟨j, hj, rfl⟩ := List.mem_take_iff_getElem.1 hu
  have hl := h.len
  have hi : j / 10 < n := by omega
  have hs := h.sec (j / 10) hi
  have e := Nat.div_add_mod j 10
  obtain ⟨r, hr⟩ : ∃ r, r = j % 10 := ⟨_, rfl⟩
  rw [← hr] at e
  have hr2 : r < 10 := by rw [hr]; omega
  have key : ∃ v, cur[j]? = some v ∧ v.oneCell' = true := by
    rcases Nat.eq_zero_or_pos r with h0 | h0
    · exact ⟨_, by rw [show j = j / 10 * 10 by omega]; exact hs.st, rfl⟩
    · by_cases h9 : r = 9
      · exact ⟨_, by rw [show j = j / 10 * 10 + 9 by omega]; exact hs.kept, rfl⟩
      · obtain ⟨t, ht, _⟩ := hs.er (r - 1) (by omega)
        exact ⟨_, by rw [show j = j / 10 * 10 + 1 + (r - 1) by omega]; exact ht, rfl⟩
  obtain ⟨v, hv, hv1⟩ := key
  have : cur[j]? = some cur[j] := List.getElem?_eq_getElem (by omega)
  rw [this] at hv
  cases hv
  exact hv1
theorem ownsRow_slice {w : World} {B k n : Nat} {e : TypeId} {v : Value} {xs : List Value} (h : w.ownsRow B e k v n xs) : SliceIs w e k v n xs ∧ ∀ b, Value.home v b → B ≤ b := by
  obtain ⟨hl, h | ⟨g, cap, cur, rfl, hb, hg, hn, hm, hs, ht⟩⟩ := h
  · obtain ⟨rfl, rfl⟩ := h
    have : xs = [] := List.eq_nil_of_length_eq_zero (by simpa using hl)
    subst this
    exact ⟨SliceIs.nil _ _ _, fun b ⟨a, n, c, e, _⟩ => by simp at e⟩
  · unfold maxLen at hm
    refine ⟨?_, fun b ⟨a, n', c, e, _, h⟩ => by simp only [Value.slice.injEq, Option.some.injEq] at e; obtain ⟨rfl, _⟩ := e; rw [h]; exact hb⟩
    by_cases h0 : cap = 0
    · subst h0
      obtain rfl : n = 0 := by omega
      have : xs = [] := List.eq_nil_of_length_eq_zero (by simpa using hl)
      exact .inl ⟨_, rfl, rfl, this⟩
    · refine .inr ⟨g, cap, cur.toList, rfl, ?_, ht, by rw [Array.length_toList, hs], hn, by omega, by omega⟩
      show w.heap[g]? = _
      rw [Array.toArray_toList]; exact hg
theorem clone_upds {w w' : World} {e : TypeId} (hg : (w.alloc (.cells #[] e)).grownBy w' (Value.ownBlock (.slice (some ⟨w.heap.size, 0, none⟩) 0 0))) : Upds (fun _ => False) w w' := by
  have hs := hg.size
  have ha : (w.alloc (.cells #[] e)).heap.size = w.heap.size + 1 := by simp
  refine ⟨hg.os, hg.tape, hg.output, by omega, fun k hk _ => ?_⟩
  rw [hg.block k (by omega) (by simp [Value.ownBlock]; omega)]
  exact (Upds.alloc (F := fun _ => False) w (.cells #[] e)).block k hk (fun h => h)
set_option maxRecDepth 100000 in
set_option maxHeartbeats 1000000 in
theorem cloneS_any (a : Option Addr) (n c : Nat) (news : List Value) (w : World) (hl : news.length = n * 10) (hn : n ≤ 100000) (ha : a = none → n = 0) (hc : ∀ x, a = some x → ∀ j u, news[j]? = some u → w.cell? (x.add j) = some u) (h1 : ∀ u ∈ news, u.oneCell' = true) :
    Calls Try.prog 46 #[.slice a n c] w fun e w' => ∃ v', e = .returned v' ∧ SliceIs w' 74 10 v' n news ∧ (∀ k, Value.home v' k → w.heap.size ≤ k) ∧ Upds (fun _ => False) w w' := by
  have q : ∀ (w : World) (a : Option Addr) (n c n' c' : Nat), (binOp .eql 64 (.slice a n c) (.slice none n' c')).run Try.prog w = .ok (.bool a.isNone) w := fun w a n c n' c' => Lib.run_eql_slice_nil w _ _ a n c n' c' Try.underlying64
  cases a with
  | none =>
    obtain rfl := ha rfl
    obtain rfl : news = [] := List.eq_nil_of_length_eq_zero (by omega)
    go_enter Try.func46, Try.ntmps46
    go_wp2_with fail
    go_ret
    exact ⟨_, rfl, SliceIs.nil _ _ _, fun k ⟨a, n, c, e, _⟩ => by simp at e, Upds.refl _ _⟩
  | some ad =>
    have HL := hid hl
    have HC := hid (hc ad rfl)
    have H1 := hid h1
    clear hl hc h1 ha
    obtain ⟨i0, hi0, hz0, hz1, hz2⟩ := info_parts (P := Try.prog) (e := 74) (z := zsec) (size := 10) (bytes := 152) (by kernel_rfl)
    go_enter Try.func46, Try.ntmps46
    go_wp2_with (at_builtin; refine wpList_append_own _ rfl (.tmp 5) (.tmp 6) 64 rfl w.heap.size 74 i0 zsec 10 152 Try.underlying64 hi0 hz0 hz1 hz2 rfl (by decide) _ 0 [] rfl (World.ownsRow_made w #[] 0 (Nat.le_refl _) (Nat.zero_le _) rfl) ad n c news rfl HL.out (fun j u hu => Lib.cell?_alloc_some _ (HC.out j u hu)) H1.out (by unfold maxLen; omega) (by omega) (by simp) ?_; intro v8 w8 hown hgrow _)
    have HO := hid hown
    have HG := hid hgrow
    clear hown hgrow
    go_ret
    have hs := ownsRow_slice HO.out
    rw [Nat.zero_add, List.nil_append] at hs
    exact ⟨_, rfl, hs.1, hs.2, clone_upds HG.out⟩
set_option maxRecDepth 100000 in
set_option maxHeartbeats 1000000 in
theorem cloneW_any (a : Option Addr) (n c : Nat) (news : List Value) (w : World) (hl : news.length = n * 3) (hn : n ≤ 100000) (ha : a = none → n = 0) (hc : ∀ x, a = some x → ∀ j u, news[j]? = some u → w.cell? (x.add j) = some u) (h1 : ∀ u ∈ news, u.oneCell' = true) :
    Calls Try.prog 47 #[.slice a n c] w fun e w' => ∃ v', e = .returned v' ∧ SliceIs w' 90 3 v' n news ∧ (∀ k, Value.home v' k → w.heap.size ≤ k) ∧ Upds (fun _ => False) w w' := by
  have q : ∀ (w : World) (a : Option Addr) (n c n' c' : Nat), (binOp .eql 65 (.slice a n c) (.slice none n' c')).run Try.prog w = .ok (.bool a.isNone) w := fun w a n c n' c' => Lib.run_eql_slice_nil w _ _ a n c n' c' Try.underlying65
  cases a with
  | none =>
    obtain rfl := ha rfl
    obtain rfl : news = [] := List.eq_nil_of_length_eq_zero (by omega)
    go_enter Try.func47, Try.ntmps47
    go_wp2_with fail
    go_ret
    exact ⟨_, rfl, SliceIs.nil _ _ _, fun k ⟨a, n, c, e, _⟩ => by simp at e, Upds.refl _ _⟩
  | some ad =>
    have HL := hid hl
    have HC := hid (hc ad rfl)
    have H1 := hid h1
    clear hl hc h1 ha
    obtain ⟨i0, hi0, hz0, hz1, hz2⟩ := info_parts (P := Try.prog) (e := 90) (z := (.agg #[.int .i64 0, .int .i64 0, .string ⟨#[]⟩])) (size := 3) (bytes := 32) (by kernel_rfl)
    go_enter Try.func47, Try.ntmps47
    go_wp2_with (at_builtin; refine wpList_append_own _ rfl (.tmp 5) (.tmp 6) 65 rfl w.heap.size 90 i0 (.agg #[.int .i64 0, .int .i64 0, .string ⟨#[]⟩]) 3 32 Try.underlying65 hi0 hz0 hz1 hz2 rfl (by decide) _ 0 [] rfl (World.ownsRow_made w #[] 0 (Nat.le_refl _) (Nat.zero_le _) rfl) ad n c news rfl HL.out (fun j u hu => Lib.cell?_alloc_some _ (HC.out j u hu)) H1.out (by unfold maxLen; omega) (by omega) (by simp) ?_; intro v8 w8 hown hgrow _)
    have HO := hid hown
    have HG := hid hgrow
    clear hown hgrow
    go_ret
    have hs := ownsRow_slice HO.out
    rw [Nat.zero_add, List.nil_append] at hs
    exact ⟨_, rfl, hs.1, hs.2, clone_upds HG.out⟩
set_option maxRecDepth 100000 in
set_option maxHeartbeats 1000000 in
theorem cloneI_any (a : Option Addr) (n c : Nat) (news : List Value) (w : World) (hl : news.length = n * 1) (hn : n ≤ 100000) (ha : a = none → n = 0) (hc : ∀ x, a = some x → ∀ j u, news[j]? = some u → w.cell? (x.add j) = some u) (h1 : ∀ u ∈ news, u.oneCell' = true) :
    Calls Try.prog 48 #[.slice a n c] w fun e w' => ∃ v', e = .returned v' ∧ SliceIs w' 3 1 v' n news ∧ (∀ k, Value.home v' k → w.heap.size ≤ k) ∧ Upds (fun _ => False) w w' := by
  have q : ∀ (w : World) (a : Option Addr) (n c n' c' : Nat), (binOp .eql 30 (.slice a n c) (.slice none n' c')).run Try.prog w = .ok (.bool a.isNone) w := fun w a n c n' c' => Lib.run_eql_slice_nil w _ _ a n c n' c' Try.underlying30
  cases a with
  | none =>
    obtain rfl := ha rfl
    obtain rfl : news = [] := List.eq_nil_of_length_eq_zero (by omega)
    go_enter Try.func48, Try.ntmps48
    go_wp2_with fail
    go_ret
    exact ⟨_, rfl, SliceIs.nil _ _ _, fun k ⟨a, n, c, e, _⟩ => by simp at e, Upds.refl _ _⟩
  | some ad =>
    have HL := hid hl
    have HC := hid (hc ad rfl)
    have H1 := hid h1
    clear hl hc h1 ha
    obtain ⟨i0, hi0, hz0, hz1, hz2⟩ := info_parts (P := Try.prog) (e := 3) (z := (.int .i64 0)) (size := 1) (bytes := 8) (by kernel_rfl)
    go_enter Try.func48, Try.ntmps48
    go_wp2_with (at_builtin; refine wpList_append_own _ rfl (.tmp 5) (.tmp 6) 30 rfl w.heap.size 3 i0 (.int .i64 0) 1 8 Try.underlying30 hi0 hz0 hz1 hz2 rfl (by decide) _ 0 [] rfl (World.ownsRow_made w #[] 0 (Nat.le_refl _) (Nat.zero_le _) rfl) ad n c news rfl HL.out (fun j u hu => Lib.cell?_alloc_some _ (HC.out j u hu)) H1.out (by unfold maxLen; omega) (by omega) (by simp) ?_; intro v8 w8 hown hgrow _)
    have HO := hid hown
    have HG := hid hgrow
    clear hown hgrow
    go_ret
    have hs := ownsRow_slice HO.out
    rw [Nat.zero_add, List.nil_append] at hs
    exact ⟨_, rfl, hs.1, hs.2, clone_upds HG.out⟩
theorem PendIs.shape {w : World} {pv : Value} {l : List PW} (h : PendIs w pv l) : ∃ a c, pv = .slice a l.length c ∧ (a = none → l.length = 0) ∧ ∀ x, a = some x → ∀ j u, (pwCells l)[j]? = some u → w.cell? (x.add j) = some u := by
  rcases h with ⟨a, rfl, rfl⟩ | ⟨pb, cap, cur, rfl, hr, ht, hl, hn, _⟩
  · exact ⟨a, 0, rfl, fun _ => rfl, fun x _ j u hu => by simp [pwCells] at hu⟩
  · refine ⟨some ⟨pb, 0, none⟩, cap, rfl, (fun e => by cases e), fun x hx j u hu => ?_⟩
    cases hx
    rw [Go.WideShapes.add_plain, Nat.zero_add]
    refine hr.cell ?_
    rw [← ht, List.getElem?_take] at hu
    split at hu
    · exact hu
    · cases hu
theorem clone_pend (a : Option Addr) (c : Nat) (l : List PW) (w : World) (h : PendIs w (.slice a l.length c) l) (hn : l.length ≤ 100000) :
    Calls Try.prog 47 #[.slice a l.length c] w fun e w' => ∃ v', e = .returned v' ∧ PendIs w' v' l ∧ (∀ k, Value.home v' k → w.heap.size ≤ k) ∧ Upds (fun _ => False) w w' := by
  obtain ⟨a', c', e, h1, h2⟩ := h.shape
  simp only [Value.slice.injEq, true_and] at e
  obtain ⟨rfl, rfl⟩ := e
  refine (cloneW_any a l.length c (pwCells l) w (pwCells_len l) hn h1 h2 (pwCells_one l)).mono ?_
  rintro e w' ⟨v', rfl, hs, hh, hu⟩
  exact ⟨v', rfl, PendIs.ofSlice hs, hh, hu⟩
theorem clone_ints (a : Option Addr) (c : Nat) (l : List Int) (w : World) (h : IntsAt w a l) (hn : l.length ≤ 100000) :
    Calls Try.prog 48 #[.slice a l.length c] w fun e w' => ∃ va vc, e = .returned (.slice va l.length vc) ∧ IntsAt w' va l ∧ (∀ x, 0 < l.length → va = some x → w.heap.size ≤ x.block ∧ ∃ cur, w'.heap[x.block]? = some (.cells cur 3 (0, 0))) ∧ Upds (fun _ => False) w w' := by
  refine (cloneI_any a l.length c (l.map (Value.int .i64)) w (by rw [List.length_map, Nat.mul_one]) hn ?_ ?_ ?_).mono ?_
  · intro e
    rcases Nat.eq_zero_or_pos l.length with h0 | h0
    · exact h0
    · obtain ⟨b, off, e2, _⟩ := h h0
      rw [e] at e2; cases e2
  · intro x hx j u hu
    rw [List.getElem?_map] at hu
    obtain ⟨y, hy, rfl⟩ := Option.map_eq_some_iff.1 hu
    obtain ⟨hj, rfl⟩ := List.getElem?_eq_some_iff.1 hy
    obtain ⟨b, off, e2, hc⟩ := h (by omega)
    rw [hx] at e2; cases e2
    rw [Go.WideShapes.add_plain]
    exact hc j hj
  · intro u hu
    obtain ⟨y, _, rfl⟩ := List.mem_map.1 hu
    rfl
  · rintro e w' ⟨v', rfl, hs, hh, hu⟩
    rcases hs with ⟨a', rfl, h0, _⟩ | ⟨g, cap, cur, rfl, hr, ht, hl, hnc, hcm, hpos⟩
    · rw [h0]
      exact ⟨a', 0, rfl, fun hp => by omega, fun x hp => by omega, hu⟩
    · refine ⟨_, cap, rfl, fun _ => ⟨g, 0, rfl, fun i hi => ?_⟩, fun x _ hx => ?_, hu⟩
      · rw [Nat.zero_add]
        refine hr.cell ?_
        have : (cur.take (l.length * 1))[i]? = some (.int .i64 l[i]) := by rw [ht]; simp [hi]
        rw [List.getElem?_take] at this
        split at this
        · exact this
        · cases this
      · cases hx
        exact ⟨hh g ⟨_, _, _, rfl, hpos, rfl⟩, _, hr⟩
theorem clone_secs (sb n sc : Nat) (f : Nat → Sec) (hn : 1 ≤ n) (hn2 : n ≤ 1155) (w : World) (hS : Secs w sb n f) :
    Calls Try.prog 46 #[.slice (some ⟨sb, 0, none⟩) n sc] w fun e w' => ∃ g cap, e = .returned (.slice (some ⟨g, 0, none⟩) n cap) ∧ w.heap.size ≤ g ∧ n ≤ cap ∧ cap ≤ 9223372036854775807 ∧ Secs w' g n f ∧ Upds (fun _ => False) w w' := by
  obtain ⟨cur, hr, hs⟩ := hS
  have hlen := hs.len
  refine (cloneS_any (some ⟨sb, 0, none⟩) n sc (cur.take (n * 10)) w (by rw [List.length_take]; omega) (by omega) (fun e => by cases e) ?_ (secs_one hs)).mono ?_
  · intro x hx j u hu
    cases hx
    rw [Go.WideShapes.add_plain, Nat.zero_add]
    refine hr.cell ?_
    rw [List.getElem?_take] at hu
    split at hu
    · exact hu
    · cases hu
  · rintro e w' ⟨v', rfl, hs', hh, hu⟩
    rcases hs' with ⟨a', _, h0, _⟩ | ⟨g, cap, cur', rfl, hr', ht, hl, hnc, hcm, hpos⟩
    · omega
    · have hget : ∀ j, j < n * 10 → cur'[j]? = cur[j]? := fun j hj => by
        have e1 : (cur'.take (n * 10))[j]? = (cur.take (n * 10))[j]? := by rw [ht]
        rwa [List.getElem?_take, List.getElem?_take, if_pos hj, if_pos hj] at e1
      refine ⟨g, cap, rfl, hh g ⟨_, _, _, rfl, hpos, rfl⟩, hnc, hcm, ⟨cur', hr', ?_, fun i hi => (hs.sec i hi).congr fun j h1 h2 => hget j (by omega)⟩, hu⟩
      rw [hl]; exact Nat.mul_le_mul_right _ hnc
end Go.Proofs.Ytfcaodaaklngmaa
