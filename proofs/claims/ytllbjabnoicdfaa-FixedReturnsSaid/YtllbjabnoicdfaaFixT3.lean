import Derived.Test.YtllbjabnoicdfaaFixT2
/-! Is there a record of another length? -/
namespace Go.Proofs.Ytllbjabnoicdfaa
open Go.Lib Go.ChangeShapes Go.WideShapes Go.ChangeAt Go.RowKit
set_option linter.unusedVariables false

set_option maxRecDepth 100000 in
theorem other_any (L : Nat) (hL : L ≤ 1000) (x : ByteArray) (hx : x.size ≤ 9223372036854775807) (b : Nat) (w : World) (hc : w.cell? ⟨b, 0, none⟩ = some (.int .i64 L)) :
    Calls Try.prog 27 #[.string x, .pointer (some ⟨b, 0, none⟩)] w (Is (.bool ((x.size : Int) != (L : Int))) w) := by
  go_enter Try.func27, Try.ntmps27
  go_wp2_with fail
  go_ret
  exact ⟨rfl, rfl⟩
theorem first_other (L : Nat) (l : List ByteArray) : (∀ x ∈ l, x.size = L) ∨ ∃ m, ∃ hm : m < l.length, l[m].size ≠ L ∧ ∀ i (hi : i < m), l[i].size = L := by
  induction l with
  | nil => left; intro x hx; cases hx
  | cons a l ih =>
    by_cases h0 : a.size = L
    · rcases ih with h | ⟨m, hm, h1, h2⟩
      · left; intro x hx
        rcases List.mem_cons.1 hx with rfl | hx
        · exact h0
        · exact h x hx
      · right
        refine ⟨m + 1, by simp; omega, by simpa using h1, fun i hi => ?_⟩
        cases i with
        | zero => simpa using h0
        | succ i => simpa using h2 i (by omega)
    · right; exact ⟨0, by simp, by simpa using h0, fun i hi => absurd hi (Nat.not_lt_zero _)⟩
set_option maxRecDepth 100000 in
theorem idx_none (L : Nat) (hL : L ≤ 1000) (v : Value) (l : List ByteArray) (hl : l.length ≤ 100000) (ha : ∀ x ∈ l, x.size = L) (b : Nat) (w : World) (hc : w.cell? ⟨b, 0, none⟩ = some (.int .i64 L)) (hs : StrsAt w v l) :
    Calls Try.prog 31 #[v, .func (.func 27) #[] #[.pointer (some ⟨b, 0, none⟩)]] w (Is (.int .i64 (-1)) w) := by
  obtain ⟨A, cap, rfl, hcap, hcap2⟩ := hs.shape
  have HS := hid hs
  have HC := hid hc
  have HA := hid ha
  clear hs hc ha
  go_enter Try.func31, Try.ntmps31
  go_wp2_with fail
  go_loopw [8] (fun i wr => ∃ j : Nat, j ≤ l.length ∧ i = .int .i64 j ∧ wr = w) (fun i _ => l.length - (intOf i).toNat)
  case atStart => exact ⟨0, by omega, rfl, rfl⟩
  case round =>
    obtain ⟨j, hj, rfl, rfl⟩ := hrel
    by_cases hlt : j < l.length
    · obtain ⟨b1, off, rfl, hb, c0⟩ := HS.out.round hlt
      have hx := HA.out _ (List.getElem_mem hlt)
      obtain ⟨x, hxe⟩ : ∃ x, x = l[j] := ⟨_, rfl⟩
      rw [← hxe] at c0 hx
      have ho := other_any L hL x (by omega) b wr HC.out
      rw [show ((x.size : Int) != (L : Int)) = false by simp [hx]] at ho
      have HO := hid ho
      clear hxe hx ho
      go_wp2_with fail
      refine HO.out.mono ?_
      rintro e w' ⟨rfl, rfl⟩
      go_wp2_with fail
      go_roundw
      case rel => exact ⟨j + 1, by omega, by go_num, trivial⟩
      case measure => simp [intOf]; omega
    · obtain rfl : j = l.length := by omega
      go_wp2_with fail
      go_ret
      exact ⟨rfl, rfl⟩
set_option maxRecDepth 100000 in
theorem idx_some (L : Nat) (hL : L ≤ 1000) (v : Value) (l : List ByteArray) (hl : l.length ≤ 100000) (hz : ∀ x ∈ l, x.size ≤ 9223372036854775807) (m : Nat) (hm : m < l.length) (hne : l[m].size ≠ L) (ha : ∀ i (hi : i < m), l[i].size = L) (b : Nat) (w : World) (hc : w.cell? ⟨b, 0, none⟩ = some (.int .i64 L)) (hs : StrsAt w v l) :
    Calls Try.prog 31 #[v, .func (.func 27) #[] #[.pointer (some ⟨b, 0, none⟩)]] w (Is (.int .i64 m) w) := by
  obtain ⟨A, cap, rfl, hcap, hcap2⟩ := hs.shape
  have HS := hid hs
  have HC := hid hc
  have HA := hid ha
  have HN := hid hne
  have HZ := hid hz
  clear hs hc ha hne hz
  go_enter Try.func31, Try.ntmps31
  go_wp2_with fail
  go_loopw [8] (fun i wr => ∃ j : Nat, j ≤ m ∧ i = .int .i64 j ∧ wr = w) (fun i _ => l.length - (intOf i).toNat)
  case atStart => exact ⟨0, by omega, rfl, rfl⟩
  case round =>
    obtain ⟨j, hj, rfl, rfl⟩ := hrel
    have hlt : j < l.length := by omega
    obtain ⟨b1, off, rfl, hb, c0⟩ := HS.out.round hlt
    have hxz := HZ.out _ (List.getElem_mem hlt)
    by_cases hjm : j < m
    · have hx := HA.out j hjm
      obtain ⟨x, hxe⟩ : ∃ x, x = l[j] := ⟨_, rfl⟩
      rw [← hxe] at c0 hx hxz
      have ho := other_any L hL x hxz b wr HC.out
      rw [show ((x.size : Int) != (L : Int)) = false by simp [hx]] at ho
      have HO := hid ho
      clear hxe hx ho hxz
      go_wp2_with fail
      refine HO.out.mono ?_
      rintro e w' ⟨rfl, rfl⟩
      go_wp2_with fail
      go_roundw
      case rel => exact ⟨j + 1, by omega, by go_num, trivial⟩
      case measure => simp [intOf]; omega
    · obtain rfl : j = m := by omega
      have hx := HN.out
      obtain ⟨x, hxe⟩ : ∃ x, x = l[j] := ⟨_, rfl⟩
      rw [← hxe] at c0 hx hxz
      have ho := other_any L hL x hxz b wr HC.out
      rw [show ((x.size : Int) != (L : Int)) = true by simp; omega] at ho
      have HO := hid ho
      clear hxe hx ho hxz
      go_wp2_with fail
      refine HO.out.mono ?_
      rintro e w' ⟨rfl, rfl⟩
      go_wp2_with fail
      go_ret
      exact ⟨rfl, rfl⟩
set_option maxRecDepth 100000 in
theorem contains_no (L : Nat) (hL : L ≤ 1000) (v : Value) (l : List ByteArray) (hl : l.length ≤ 100000) (h : ∀ x ∈ l, x.size = L) (b : Nat) (w : World) (hc : w.cell? ⟨b, 0, none⟩ = some (.int .i64 L)) (hs : StrsAt w v l) :
    Calls Try.prog 26 #[v, .func (.func 27) #[] #[.pointer (some ⟨b, 0, none⟩)]] w (Is (.bool false) w) := by
  have HI := hid (idx_none L hL v l hl h b w hc hs)
  clear h hc hs
  go_enter Try.func26, Try.ntmps26
  go_wp2_with fail
  refine HI.out.mono ?_
  rintro e w' ⟨rfl, rfl⟩
  go_wp2_with fail
  go_ret
  exact ⟨rfl, rfl⟩
set_option maxRecDepth 100000 in
theorem contains_yes (L : Nat) (hL : L ≤ 1000) (v : Value) (l : List ByteArray) (hl : l.length ≤ 100000) (hz : ∀ x ∈ l, x.size ≤ 9223372036854775807) (hn : ¬ ∀ x ∈ l, x.size = L) (b : Nat) (w : World) (hc : w.cell? ⟨b, 0, none⟩ = some (.int .i64 L)) (hs : StrsAt w v l) :
    Calls Try.prog 26 #[v, .func (.func 27) #[] #[.pointer (some ⟨b, 0, none⟩)]] w (Is (.bool true) w) := by
  rcases first_other L l with h | ⟨m, hm, h1, h2⟩
  · exact absurd h hn
  · have HI := hid (idx_some L hL v l hl hz m hm h1 h2 b w hc hs)
    clear h1 h2 hc hs hz hn
    go_enter Try.func26, Try.ntmps26
    go_wp2_with fail
    refine HI.out.mono ?_
    rintro e w' ⟨rfl, rfl⟩
    have hd : decide ((0 : Int) ≤ (m : Int)) = true := by simp
    go_wp2_with fail
    go_ret
    first | exact ⟨rfl, rfl⟩ | exact ⟨by simp, rfl⟩
end Go.Proofs.Ytllbjabnoicdfaa
