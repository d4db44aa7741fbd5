import Derived.Test.YtlmhlinjlneagaaWireT5
import Derived.Deep.QuietTactic
namespace Go.Proofs.Ytlmhlinjlneagaa
open Go.Lib Go.ChangeShapes Go.WideShapes Go.ChangeAt Go.RowKit

/-- what 'limited' does -/
def LimPost (b : Nat) (s : ByteArray) (most : Int) (w : World) (e : Ending) (w' : World) : Prop :=
  match dec s.data.toList 0 0 with
  | none => e = .returned (.tuple #[.int .u64 0, .int .i64 11]) ∧ w' = w
  | some (n, c) => c ≤ s.size ∧ e = .returned (.tuple #[.int .u64 (if most < (n : Int) then 0 else n : Nat), .int .i64 (if most < (n : Int) then 8 else 0 : Nat)]) ∧ w' = w.setCell ⟨b, 0, none⟩ (.string (s.extract c s.size))

set_option maxRecDepth 100000 in
theorem limited_any (b : Nat) (s : ByteArray) (hs : s.size ≤ 9223372036854775807) (most : Int) (m0 : -9223372036854775808 ≤ most) (m1 : most ≤ 9223372036854775807) (w : World) (h : Rd w b s 0) :
    Calls Try.prog 58 #[.pointer (some ⟨b, 0, none⟩), .int .i64 most] w (LimPost b s most w) := by
  have h0 := h.left
  have hf := h.frozen 0
  have HN := hid (rnumber_any b s hs w h0 hf)
  clear h hs
  go_enter Try.func58, Try.ntmps58
  go_wp2_with fail
  refine HN.out.mono ?_
  intro x w' hx
  unfold NumPost at hx
  cases hd : dec s.data.toList 0 0 with
  | none =>
    rw [hd] at hx
    obtain ⟨rfl, rfl⟩ := hx
    have HD := hid hd
    clear hd
    go_wp2_with fail
    go_ret2
    unfold LimPost; rw [HD.out]; exact ⟨rfl, rfl⟩
  | some p =>
    obtain ⟨n, c⟩ := p
    rw [hd] at hx
    obtain ⟨hc, rfl, rfl⟩ := hx
    have HD := hid hd
    clear hd
    by_cases hm : most < 0
    · go_wp2_with fail
      go_ret2
      unfold LimPost; rw [HD.out]; exact ⟨hc, by rw [if_pos (by omega), if_pos (by omega)]; rfl, rfl⟩
    · obtain ⟨m, rfl⟩ := Int.eq_ofNat_of_zero_le (show 0 ≤ most by omega)
      have hw : IntKind.u64.wrap (m : Int) = m := IntWalk.u64_in _ (by omega)
      by_cases hmn : m < n
      · have hmn' : (m : Int) < n := by omega
        go_wp2_with fail
        go_ret2
        unfold LimPost; rw [HD.out]; exact ⟨hc, by rw [if_pos (by omega), if_pos (by omega)]; rfl, rfl⟩
      · have hmn' : ¬ (m : Int) < n := by omega
        go_wp2_with fail
        go_ret2
        unfold LimPost; rw [HD.out]; exact ⟨hc, by rw [if_neg (by omega), if_neg (by omega)]; rfl, rfl⟩

set_option maxRecDepth 100000 in
theorem countTake_any (b p q : Nat) (s : ByteArray) (hs : s.size ≤ 9223372036854775807) (most : Int) (m0 : -9223372036854775808 ≤ most) (m1 : most ≤ 9223372036854775807) (w : World) (h : Rd w b s 0)
    (hp : w.cell? ⟨p, 0, none⟩ = some (.pointer (some ⟨b, 0, none⟩))) (hq : w.cell? ⟨q, 0, none⟩ = some (.int .i64 most)) :
    Calls Try.prog 59 #[.pointer (some ⟨p, 0, none⟩), .pointer (some ⟨q, 0, none⟩)] w (LimPost b s most w) := by
  have HL := hid (limited_any b s hs most m0 m1 w h)
  clear h hs
  go_enter Try.func59, Try.ntmps59
  go_wp2_with fail
  refine HL.out.mono ?_
  intro x w' hx
  have HX := hid hx
  obtain ⟨n, f, rfl⟩ : ∃ n f : Nat, x = .returned (.tuple #[.int .u64 n, .int .i64 f]) := by
    unfold LimPost at hx
    cases hd : dec s.data.toList 0 0 with
    | none => rw [hd] at hx; exact ⟨0, 11, hx.1⟩
    | some p => rw [hd] at hx; exact ⟨_, _, hx.2.1⟩
  clear hx
  go_wp2_with fail
  go_ret2
  exact HX.out

/-- what Count does to a reader without an error -/
def CntRead (b : Nat) (s : ByteArray) (most : Int) (w : World) (e : Ending) (w' : World) : Prop :=
  match dec s.data.toList 0 0 with
  | none => e = .returned (.int .u64 0) ∧ Rd w' b ByteArray.empty 11 ∧ Upd b w w'
  | some (n, c) => c ≤ s.size ∧ Upd b w w' ∧ if most < (n : Int) then e = .returned (.int .u64 0) ∧ Rd w' b ByteArray.empty 8 else e = .returned (.int .u64 n) ∧ Rd w' b (s.extract c s.size) 0

set_option maxRecDepth 100000 in
theorem read_count (b p q : Nat) (s : ByteArray) (hs : s.size ≤ 9223372036854775807) (most : Int) (m0 : -9223372036854775808 ≤ most) (m1 : most ≤ 9223372036854775807) (w : World) (h : Rd w b s 0)
    (hp : w.cell? ⟨p, 0, none⟩ = some (.pointer (some ⟨b, 0, none⟩))) (hq : w.cell? ⟨q, 0, none⟩ = some (.int .i64 most)) :
    Calls Try.prog 54 #[.pointer (some ⟨b, 0, none⟩), .func (.func 59) #[] #[.pointer (some ⟨p, 0, none⟩), .pointer (some ⟨q, 0, none⟩)]] w (CntRead b s most w) := by
  have h0 := h.left
  have h1 := h.err
  have hf := h.frozen 0
  have HR := hid h
  have HN := hid (countTake_any b p q s hs most m0 m1 w h hp hq)
  clear h hs hp hq
  go_enter Try.func54, Try.ntmps54
  go_wp2_with fail
  refine HN.out.mono ?_
  intro x w' hx
  unfold LimPost at hx
  cases hd : dec s.data.toList 0 0 with
  | none =>
    rw [hd] at hx
    obtain ⟨rfl, rfl⟩ := hx
    have HD := hid hd
    clear hd
    have hf0 := HR.out.frozen 0
    have hf1 := HR.out.frozen 1
    go_wp2_with fail
    go_ret
    unfold CntRead
    rw [HD.out]
    exact ⟨rfl, (HR.out.set0 _).set1 11, (Upd.set _ _ _).trans (Upd.set _ _ _)⟩
  | some p =>
    obtain ⟨n, c⟩ := p
    rw [hd] at hx
    obtain ⟨hc, rfl, rfl⟩ := hx
    have HD := hid hd
    clear hd
    have hf1 := HR.out.frozen 1
    by_cases hm : most < (n : Int)
    · rw [if_pos hm, if_pos hm]
      go_wp2_with fail
      go_ret
      unfold CntRead
      rw [HD.out]
      refine ⟨hc, ((Upd.set _ _ _).trans (Upd.set _ _ _)).trans (Upd.set _ _ _), ?_⟩
      rw [if_pos hm]
      exact ⟨rfl, ((HR.out.set0 _).set0 _).set1 8⟩
    · rw [if_neg (by omega), if_neg (by omega)]
      go_wp2_with fail
      go_ret
      unfold CntRead
      rw [HD.out]
      refine ⟨hc, Upd.set _ _ _, ?_⟩
      rw [if_neg (by omega)]
      exact ⟨rfl, HR.out.set0 _⟩
end Go.Proofs.Ytlmhlinjlneagaa
