import Derived.Test.YtklbckonlbpbgabFixT1
/-! Lists of texts in memory; Few and Same. -/
namespace Go.Proofs.Ytklbckonlbpbgab
open Go.Lib Go.ChangeShapes Go.WideShapes Go.ChangeAt Go.RowKit
set_option linter.unusedVariables false

/-- a slice that reads as a list of texts -/
def StrsAt (w : World) (v : Value) (l : List ByteArray) : Prop :=
  ∃ A cap, v = .slice A l.length cap ∧ l.length ≤ cap ∧ cap ≤ 9223372036854775807 ∧
    (0 < l.length → ∃ b off, A = some ⟨b, off, none⟩ ∧ b < w.heap.size ∧ ∀ i (h : i < l.length), w.cell? ⟨b, off + i, none⟩ = some (.string l[i]))
theorem StrsAt.below {w w' : World} {v : Value} {l : List ByteArray} (h : StrsAt w v l) {B : Nat} (hb : Below B w w') (hB : w.heap.size ≤ B) : StrsAt w' v l := by
  obtain ⟨A, cap, e, h1, h2, h4⟩ := h
  refine ⟨A, cap, e, h1, h2, fun h0 => ?_⟩
  obtain ⟨b, off, e, hlt, hc⟩ := h4 h0
  exact ⟨b, off, e, Nat.lt_of_lt_of_le hlt hb.size, fun i hi => (hb.cell (p := ⟨b, off + i, none⟩) (by simp; omega)).trans (hc i hi)⟩
theorem StrsAt.shape {w : World} {v : Value} {l : List ByteArray} (h : StrsAt w v l) : ∃ A cap, v = .slice A l.length cap ∧ l.length ≤ cap ∧ cap ≤ 9223372036854775807 := by
  obtain ⟨A', cap', e, h1, h2, _⟩ := h
  exact ⟨_, _, e, h1, h2⟩
theorem StrsAt.round {w : World} {A : Option Addr} {n cap : Nat} {l : List ByteArray} (h : StrsAt w (.slice A n cap) l) {k : Nat} (hk : k < l.length) :
    ∃ b off, A = some ⟨b, off, none⟩ ∧ b < w.heap.size ∧ w.cell? ⟨b, off + k, none⟩ = some (.string l[k]) := by
  obtain ⟨A', cap', e, h1, h2, h4⟩ := h
  simp only [Value.slice.injEq] at e
  obtain ⟨rfl, rfl, rfl⟩ := e
  obtain ⟨b, off, rfl, hlt, hc⟩ := h4 (by omega)
  exact ⟨b, off, rfl, hlt, hc k hk⟩
theorem StrsAt.nil (w : World) : StrsAt w (.slice none 0 0) [] := ⟨none, 0, rfl, by simp, by omega, fun h => by simp at h⟩
theorem strs_of {w : World} {A : Option Addr} {len cap : Nat} {C : Nat → Nat → Value} (hl : len ≤ cap) (hm : cap ≤ maxLen) (hE : Elems w A len 1 C) (hs : ∀ i, i < len → ∃ n : ByteArray, C i 0 = .string n ∧ n.size ≤ maxLen) :
    ∃ l : List ByteArray, l.length = len ∧ StrsAt w (.slice A len cap) l ∧ ∀ x ∈ l, x.size ≤ 9223372036854775807 := by
  have key : ∀ i, ∃ x : ByteArray, i < len → C i 0 = .string x ∧ x.size ≤ maxLen := fun i => by
    by_cases h : i < len
    · obtain ⟨n, h1, h2⟩ := hs i h
      exact ⟨n, fun _ => ⟨h1, h2⟩⟩
    · exact ⟨⟨#[]⟩, fun h' => absurd h' h⟩
  refine ⟨(List.range len).map fun i => Classical.choose (key i), by simp, ⟨A, cap, by simp, by simpa using hl, by unfold maxLen at hm; omega, fun h0 => ?_⟩, fun x hx => ?_⟩
  · simp only [List.length_map, List.length_range] at h0 ⊢
    obtain ⟨b, off, e, hlt, hc⟩ := hE h0
    refine ⟨b, off, e, hlt, fun i hi => ?_⟩
    have := hc i 0 hi (by omega)
    simp only [Nat.mul_one, Nat.add_zero] at this
    rw [this, (Classical.choose_spec (key i) hi).1]
    simp
  · obtain ⟨i, hi, rfl⟩ := List.mem_map.1 hx
    exact Nat.le_trans (Classical.choose_spec (key i) (List.mem_range.1 hi)).2 (by unfold maxLen; omega)

/-- few and short texts -/
def few (l : List ByteArray) (n k : Nat) : Prop := l.length ≤ n ∧ ∀ x ∈ l, x.size ≤ k
set_option maxRecDepth 100000 in
theorem few_yes (v : Value) (l : List ByteArray) (n k : Nat) (hn : n ≤ 1000) (hk : k ≤ 100000) (hf : few l n k) (w : World) (hs : StrsAt w v l) :
    Calls Try.prog 15 #[v, .int .i64 n, .int .i64 k] w (Is (.bool true) w) := by
  obtain ⟨A, cap, rfl, hcap, hcap2⟩ := hs.shape
  have HS := hid hs
  have HF := hid hf.2
  have hl := hf.1
  clear hs hf
  go_enter Try.func15, Try.ntmps15
  go_wp2_with fail
  go_loopw [7] (fun i wr => ∃ j : Nat, j ≤ l.length ∧ i = .int .i64 j ∧ wr = w) (fun i _ => l.length - (intOf i).toNat)
  case atStart => exact ⟨0, by omega, rfl, rfl⟩
  case round =>
    obtain ⟨j, hj, rfl, rfl⟩ := hrel
    by_cases hlt : j < l.length
    · obtain ⟨b, off, rfl, hb, c0⟩ := HS.out.round hlt
      have hx := HF.out _ (List.getElem_mem hlt)
      obtain ⟨x, hxe⟩ : ∃ x, x = l[j] := ⟨_, rfl⟩
      rw [← hxe] at c0 hx
      clear hxe
      go_wp2_with fail
      go_roundw
      case rel => exact ⟨j + 1, by omega, by go_num, trivial⟩
      case measure => simp [intOf]; omega
    · obtain rfl : j = l.length := by omega
      go_wp2_with fail
      go_ret
      exact ⟨rfl, rfl⟩
theorem not_few {l : List ByteArray} {n k : Nat} (h : ¬ few l n k) : (∃ j, ∃ hj : j < l.length, k < l[j].size ∧ ∀ i (hi : i < j), l[i].size ≤ k) ∨ ((∀ x ∈ l, x.size ≤ k) ∧ n < l.length) := by
  by_cases ha : ∀ x ∈ l, x.size ≤ k
  · right
    refine ⟨ha, ?_⟩
    rcases Nat.lt_or_ge n l.length with h' | h'
    · exact h'
    · exact absurd ⟨h', ha⟩ h
  · left
    clear h
    induction l with
    | nil => exact absurd (fun x hx => by cases hx) ha
    | cons a l ih =>
      by_cases h0 : a.size ≤ k
      · have ha' : ¬ ∀ x ∈ l, x.size ≤ k := fun h => ha (fun x hx => by
          rcases List.mem_cons.1 hx with rfl | hx
          · exact h0
          · exact h x hx)
        obtain ⟨j, hj, h1, h2⟩ := ih ha'
        refine ⟨j + 1, by simp; omega, by simpa using h1, fun i hi => ?_⟩
        cases i with
        | zero => simpa using h0
        | succ i => simpa using h2 i (by omega)
      · exact ⟨0, by simp, by simpa using h0, fun i hi => absurd hi (Nat.not_lt_zero _)⟩
set_option maxRecDepth 100000 in
theorem few_no (v : Value) (l : List ByteArray) (n k : Nat) (hn : n ≤ 1000) (hk : k ≤ 100000) (hz : ∀ x ∈ l, x.size ≤ 9223372036854775807) (hf : ¬ few l n k) (w : World) (hs : StrsAt w v l) :
    Calls Try.prog 15 #[v, .int .i64 n, .int .i64 k] w (Is (.bool false) w) := by
  obtain ⟨A, cap, rfl, hcap, hcap2⟩ := hs.shape
  have HS := hid hs
  have HZ := hid hz
  rcases not_few hf with ⟨m, hm, h1, h2⟩ | ⟨h1, h2⟩
  · have H1 := hid h1
    have H2 := hid h2
    clear hs hf hz h1 h2
    go_enter Try.func15, Try.ntmps15
    go_wp2_with fail
    go_loopw [7] (fun i wr => ∃ j : Nat, j ≤ m ∧ i = .int .i64 j ∧ wr = w) (fun i _ => l.length - (intOf i).toNat)
    case atStart => exact ⟨0, by omega, rfl, rfl⟩
    case round =>
      obtain ⟨j, hj, rfl, rfl⟩ := hrel
      have hlt : j < l.length := by omega
      obtain ⟨b, off, rfl, hb, c0⟩ := HS.out.round hlt
      by_cases hjm : j < m
      · have hx := H2.out j hjm
        obtain ⟨x, hxe⟩ : ∃ x, x = l[j] := ⟨_, rfl⟩
        rw [← hxe] at c0 hx
        clear hxe
        go_wp2_with fail
        go_roundw
        case rel => exact ⟨j + 1, by omega, by go_num, trivial⟩
        case measure => simp [intOf]; omega
      · obtain rfl : j = m := by omega
        have hx := H1.out
        have hy := HZ.out _ (List.getElem_mem hlt)
        obtain ⟨x, hxe⟩ : ∃ x, x = l[j] := ⟨_, rfl⟩
        rw [← hxe] at c0 hx hy
        clear hxe
        go_wp2_with fail
        go_ret
        exact ⟨rfl, rfl⟩
  · have HF := hid h1
    have hd : decide (l.length ≤ n) = false := by simp; omega
    clear hs hf hz h1
    go_enter Try.func15, Try.ntmps15
    go_wp2_with fail
    go_loopw [7] (fun i wr => ∃ j : Nat, j ≤ l.length ∧ i = .int .i64 j ∧ wr = w) (fun i _ => l.length - (intOf i).toNat)
    case atStart => exact ⟨0, by omega, rfl, rfl⟩
    case round =>
      obtain ⟨j, hj, rfl, rfl⟩ := hrel
      by_cases hlt : j < l.length
      · obtain ⟨b, off, rfl, hb, c0⟩ := HS.out.round hlt
        have hx := HF.out _ (List.getElem_mem hlt)
        obtain ⟨x, hxe⟩ : ∃ x, x = l[j] := ⟨_, rfl⟩
        rw [← hxe] at c0 hx
        clear hxe
        go_wp2_with fail
        go_roundw
        case rel => exact ⟨j + 1, by omega, by go_num, trivial⟩
        case measure => simp [intOf]; omega
      · obtain rfl : j = l.length := by omega
        go_wp2_with fail
        go_ret
        exact ⟨rfl, rfl⟩

set_option maxRecDepth 100000 in
/-- two slices with the same texts are the same -/
theorem same_yes (v1 v2 : Value) (l : List ByteArray) (w : World) (h1 : StrsAt w v1 l) (h2 : StrsAt w v2 l) : Calls Try.prog 20 #[v1, v2] w (Gives (.bool true) w) := by
  obtain ⟨A, cap, rfl, hcap, hcap2⟩ := h1.shape
  obtain ⟨A2, capB, rfl, hcapB, hcapB2⟩ := h2.shape
  have HS := hid h1
  have HT := hid h2
  have hq : ((l.length : Int) != (l.length : Int)) = false := by simp
  clear h1 h2
  go_enter Try.func20, Try.ntmps20
  go_wp2_with fail
  go_loopw [5] (fun i wr => ∃ j : Nat, j ≤ l.length ∧ i = .int .i64 j ∧ Below w.heap.size w wr) (fun i _ => l.length - (intOf i).toNat)
  case atStart => exact ⟨0, by omega, rfl, Below.refl _ _⟩
  case round =>
    obtain ⟨j, hj, rfl, hu⟩ := hrel
    have HU := hid hu
    by_cases hlt : j < l.length
    · obtain ⟨b, off, rfl, hb, c0⟩ := (HS.out.below hu (Nat.le_refl _)).round hlt
      obtain ⟨b2, off2, rfl, hb2, c2⟩ := (HT.out.below hu (Nat.le_refl _)).round hlt
      obtain ⟨x, hxe⟩ : ∃ x, x = l[j] := ⟨_, rfl⟩
      rw [← hxe] at c0 c2
      have hx : (x.toList != x.toList) = false := by simp
      clear hxe hu
      go_wp2_with fail
      go_quiet (fail)
      go_wp2_with fail
      go_roundw
      case rel => exact ⟨j + 1, by omega, by go_num, below_drewN HU.out _⟩
      case measure => simp [intOf]; omega
    · obtain rfl : j = l.length := by omega
      clear hu
      go_wp2_with fail
      go_ret
      exact ⟨rfl, HU.out⟩
end Go.Proofs.Ytklbckonlbpbgab
