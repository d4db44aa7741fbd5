import Derived.Test.YtfcaodaaklngmaaDevP
/-! Few of operations; do. -/
namespace Go.Proofs.Ytfcaodaaklngmaa
open Go.Lib Go.ChangeShapes Go.WideShapes Go.ChangeAt Go.RowKit
set_option linter.unusedVariables false

def fewO (f : Nat → OpD) (len most : Nat) : Prop := (∀ i, i < len → (f i).dat.size ≤ 300 ∧ (f i).sur.length ≤ 100) ∧ len ≤ most
theorem OpsAt.get {w : World} {A : Option Addr} {len : Nat} {f : Nat → OpD} (h : OpsAt w A len f) {i : Nat} (hi : i < len) : ∃ b off, A = some ⟨b, off, none⟩ ∧ b < w.heap.size ∧ ∀ j u, (f i).cells[j]? = some u → w.cell? ⟨b, off + i * 8 + j, none⟩ = some u := by
  obtain ⟨b, off, e, hb, hc⟩ := h.mem (by omega)
  exact ⟨b, off, e, hb, hc i hi⟩
set_option maxRecDepth 100000 in
set_option maxHeartbeats 1000000 in
theorem fewO_yes (A : Option Addr) (len cap : Nat) (f : Nat → OpD) (hl : len ≤ cap) (hm : cap ≤ 9223372036854775807) (most : Nat) (hmost : most ≤ 1000) (hf : fewO f len most) (w : World) (hO : OpsAt w A len f) :
    Calls Try.prog 14 #[.slice A len cap, .int .i64 most] w fun e w' => e = .returned (.bool true) ∧ w' = w := by
  have HO := hid hO
  have HF := hid hf.1
  have hlen := hf.2
  clear hO hf
  go_enter Try.func14, Try.ntmps14
  go_wp2_with fail
  go_loopw [5] (fun i wr => ∃ j : Nat, j ≤ len ∧ i = .int .i64 j ∧ wr = w) (fun i _ => len - (RowKit.intOf i).toNat)
  case atStart => exact ⟨0, by omega, rfl, rfl⟩
  case round =>
    obtain ⟨j, hj, rfl, rfl⟩ := hrel
    by_cases hlt : j < len
    · obtain ⟨b, off, rfl, hb, hc⟩ := HO.out.get hlt
      obtain ⟨h1, h2⟩ := HF.out j hlt
      have c3 := hc 4 _ rfl
      have c6 := hc 7 _ rfl
      clear hc
      obtain ⟨d, hd⟩ : ∃ d, d = (f j).dat := ⟨_, rfl⟩
      obtain ⟨s, hs⟩ : ∃ s, s = (f j).sur.length := ⟨_, rfl⟩
      rw [← hd] at c3 h1
      rw [← hs] at c6 h2
      clear hd hs
      go_wp2_with fail
      go_roundw
      case rel => exact ⟨j + 1, by omega, by go_num, trivial⟩
      case measure => simp [RowKit.intOf]; omega
    · obtain rfl : j = len := by omega
      go_wp2_with fail
      go_ret
      exact ⟨rfl, rfl⟩
theorem not_fewO {f : Nat → OpD} {len most : Nat} (h : ¬ fewO f len most) : (∃ m, m < len ∧ (300 < (f m).dat.size ∨ 100 < (f m).sur.length) ∧ ∀ i, i < m → (f i).dat.size ≤ 300 ∧ (f i).sur.length ≤ 100) ∨ ((∀ i, i < len → (f i).dat.size ≤ 300 ∧ (f i).sur.length ≤ 100) ∧ most < len) := by
  by_cases ha : ∀ i, i < len → (f i).dat.size ≤ 300 ∧ (f i).sur.length ≤ 100
  · right
    refine ⟨ha, ?_⟩
    rcases Nat.lt_or_ge most len with h' | h'
    · exact h'
    · exact absurd ⟨ha, h'⟩ h
  · left
    clear h
    have key : ∀ k, k ≤ len → (∀ i, i < k → (f i).dat.size ≤ 300 ∧ (f i).sur.length ≤ 100) ∨ ∃ m, m < k ∧ (300 < (f m).dat.size ∨ 100 < (f m).sur.length) ∧ ∀ i, i < m → (f i).dat.size ≤ 300 ∧ (f i).sur.length ≤ 100 := by
      intro k
      induction k with
      | zero => intro _; exact .inl (fun i hi => absurd hi (Nat.not_lt_zero _))
      | succ k ih =>
        intro hk
        rcases ih (by omega) with h1 | ⟨m, h1, h2, h3⟩
        · by_cases h4 : (f k).dat.size ≤ 300 ∧ (f k).sur.length ≤ 100
          · refine .inl (fun i hi => ?_)
            by_cases e : i = k
            · subst e; exact h4
            · exact h1 i (by omega)
          · exact .inr ⟨k, by omega, by omega, h1⟩
        · exact .inr ⟨m, by omega, h2, h3⟩
    rcases key len (Nat.le_refl _) with h1 | ⟨m, h1, h2, h3⟩
    · exact absurd h1 ha
    · exact ⟨m, h1, h2, h3⟩
set_option maxRecDepth 100000 in
set_option maxHeartbeats 1000000 in
theorem fewO_no (A : Option Addr) (len cap : Nat) (f : Nat → OpD) (hl : len ≤ cap) (hm : cap ≤ 9223372036854775807) (most : Nat) (hmost : most ≤ 1000) (hf : ¬ fewO f len most) (w : World) (hO : OpsAt w A len f) :
    Calls Try.prog 14 #[.slice A len cap, .int .i64 most] w fun e w' => e = .returned (.bool false) ∧ w' = w := by
  have HO := hid hO
  have main : ∀ stop, stop ≤ len → (∀ i, i < stop → (f i).dat.size ≤ 300 ∧ (f i).sur.length ≤ 100) → (stop < len → (300 < (f stop).dat.size ∨ 100 < (f stop).sur.length)) → (stop = len → most < len) → Calls Try.prog 14 #[.slice A len cap, .int .i64 most] w fun e w' => e = .returned (.bool false) ∧ w' = w := by
    intro stop hs1 hs2 hs3 hs4
    have H2 := hid hs2
    have H3 := hid hs3
    have H4 := hid hs4
    clear hO hf hs2 hs3 hs4
    go_enter Try.func14, Try.ntmps14
    go_wp2_with fail
    go_loopw [5] (fun i wr => ∃ j : Nat, j ≤ stop ∧ i = .int .i64 j ∧ wr = w) (fun i _ => len - (RowKit.intOf i).toNat)
    case atStart => exact ⟨0, by omega, rfl, rfl⟩
    case round =>
      obtain ⟨j, hj, rfl, rfl⟩ := hrel
      by_cases hlt : j < len
      · obtain ⟨b, off, rfl, hb, hc⟩ := HO.out.get hlt
        have hok := HO.out.ok j hlt
        have hdz := hok.dat
        have hsz := hok.sur.cap
        have c3 := hc 4 _ rfl
        have c6 := hc 7 _ rfl
        clear hc hok
        by_cases hjs : j < stop
        · obtain ⟨h1, h2⟩ := H2.out j hjs
          obtain ⟨d, hd⟩ : ∃ d, d = (f j).dat := ⟨_, rfl⟩
          obtain ⟨s, hs⟩ : ∃ s, s = (f j).sur.length := ⟨_, rfl⟩
          rw [← hd] at c3 h1 hdz
          rw [← hs] at c6 h2 hsz
          clear hd hs
          go_wp2_with fail
          go_roundw
          case rel => exact ⟨j + 1, by omega, by go_num, trivial⟩
          case measure => simp [RowKit.intOf]; omega
        · obtain rfl : j = stop := by omega
          have h3 := H3.out hlt
          obtain ⟨d, hd⟩ : ∃ d, d = (f j).dat := ⟨_, rfl⟩
          obtain ⟨s, hs⟩ : ∃ s, s = (f j).sur.length := ⟨_, rfl⟩
          rw [← hd] at c3 h3 hdz
          rw [← hs] at c6 h3 hsz
          clear hd hs
          by_cases h5 : d.size ≤ 300
          · have h6 : 100 < s := by omega
            clear h3
            go_wp2_with fail
            go_ret
            exact ⟨rfl, rfl⟩
          · clear h3
            go_wp2_with fail
            go_ret
            exact ⟨rfl, rfl⟩
      · have hst : stop = len := by omega
        have h4 := H4.out hst
        obtain rfl : j = len := by omega
        have hd : decide (j ≤ most) = false := by simp; omega
        go_wp2_with fail
        go_ret
        exact ⟨rfl, rfl⟩
  rcases not_fewO hf with ⟨m, h1, h2, h3⟩ | ⟨h1, h2⟩
  · exact main m (by omega) h3 (fun _ => h2) (fun e => by omega)
  · exact main len (Nat.le_refl _) h1 (fun h => absurd h (Nat.lt_irrefl _)) (fun _ => h2)
end Go.Proofs.Ytfcaodaaklngmaa
