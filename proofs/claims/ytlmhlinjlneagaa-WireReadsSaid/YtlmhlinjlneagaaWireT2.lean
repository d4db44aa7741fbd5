import Derived.Test.YtlmhlinjlneagaaWireT1
import Derived.Deep.RegionWith
import Derived.BigQuiet
namespace Go.Proofs.Ytlmhlinjlneagaa
open Go.Lib Go.ChangeShapes Go.WideShapes Go.ChangeAt Go.RowKit

theorem conv_one {b : Nat} (c : Nat) (w : World) (hc : w.cell? ⟨b, 0, none⟩ = some (.int .u8 c)) : (convert 75 9 (.slice (some ⟨b, 0, none⟩) 1 1)).run Try.prog w = .ok (.string ⟨#[UInt8.ofNat c]⟩) w := by
  have h := run_convert_bytes_arg (P := Try.prog) (w := w) 75 5 Try.underlying75 Try.underlying5 b 0 1 1 [(c : Int)] rfl (fun i hi => by
    obtain rfl : i = 0 := by omega
    simpa using hc) 9 Try.underlying9
  rw [h]; rfl

set_option maxRecDepth 100000 in
set_option maxHeartbeats 400000 in
theorem number_small (n : Nat) (hn : n < 128) (w : World) :
    Calls Try.prog 17 #[.int .u64 n] w fun e w' => e = .returned (.string ⟨#[UInt8.ofNat n]⟩) ∧ Below w.heap.size w w' := by
  have hc := conv_one (b := w.heap.size) n (w.alloc (.cells #[.int .u8 n] 5)) (by simp)
  go_enter Try.func17, Try.ntmps17
  go_wp2
  go_ret
  exact ⟨rfl, (Below.refl _ _).alloc (Nat.le_refl _) _⟩

theorem enc_len (k n : Nat) : (enc k n).length ≤ k + 1 := by
  induction k generalizing n with
  | zero => simp [enc]
  | succ k ih => rw [enc]; split <;> simp; have := ih (n / 128); omega
theorem _root_.Go.RowKit.Below.drew_left {B : Nat} {a w : World} (h : Below B a.drew w) : Below B a w := ⟨h.os, h.tape, h.output, h.size, h.block⟩
theorem conv_two {c : Nat} {w w' : World} (hg : Below (w.alloc (.cells #[.int .u8 c] 5)).drew.heap.size (w.alloc (.cells #[.int .u8 c] 5)).drew w') : (convert 75 9 (.slice (some ⟨w.heap.size, 0, none⟩) 1 1)).run Try.prog w' = .ok (.string ⟨#[UInt8.ofNat c]⟩) w' :=
  conv_one (b := w.heap.size) c w' ((hg.cell (p := ⟨w.heap.size, 0, none⟩) (by simp)).trans (by simp))
set_option maxRecDepth 100000 in
set_option maxHeartbeats 1000000 in
theorem number_step (k n : Nat) (hn : 128 ≤ n) (h64 : n < 18446744073709551616) (hk : k ≤ 9) (w : World) (H : Hid (∀ w, Calls Try.prog 17 #[.int .u64 (n / 128 : Nat)] w fun e w' => e = .returned (.string ⟨(enc k (n / 128)).toArray⟩) ∧ Below w.heap.size w w')) :
    Calls Try.prog 17 #[.int .u64 n] w fun e w' => e = .returned (.string ⟨(UInt8.ofNat (n % 128 + 128) :: enc k (n / 128)).toArray⟩) ∧ Below w.heap.size w w' := by
  obtain ⟨c, hc⟩ : ∃ c, c = n % 128 + 128 := ⟨_, rfl⟩
  obtain ⟨q, hq⟩ : ∃ q, q = n / 128 := ⟨_, rfl⟩
  have e1 : IntKind.u8.wrap (IntKind.u64.wrap ((n : Int).tmod 128 + 128)) = (c : Int) := by
    have e : ((n : Int).tmod 128 + 128) = (c : Int) := by rw [Int.tmod_eq_emod_of_nonneg (by omega)]; omega
    rw [e, IntWalk.u64_in _ (by omega), IntWalk.u8_in _ (by omega)]
  have e2 : IntKind.u64.wrap ((n : Int) / 128) = (q : Int) := by
    rw [IntWalk.u64_in _ (by omega)]; omega
  rw [← hc]
  rw [← hq] at H ⊢
  have hn' := hid hn
  clear hc hq hn h64
  have hb : decide ((n : Int) < 128) = false := by have := hn'.out; simp; omega
  go_enter Try.func17, Try.ntmps17
  go_wp2_with fail
  have hadd : ∀ w, (Op.stringOp .add ⟨#[UInt8.ofNat c]⟩ ⟨(enc k q).toArray⟩).run Try.prog w = .ok (.string ⟨(UInt8.ofNat c :: enc k q).toArray⟩) w := by
    intro w
    have h := run_string_add_lists (P := Try.prog) w [UInt8.ofNat c] (enc k q) (by simp) (by have := enc_len k q; omega)
    simpa using h
  have hc1 := conv_one (b := w.heap.size) c (w.alloc (.cells #[.int .u8 c] 5)).drew (by simp)
  go_region_with (go_at_call 17; refine (H.out _).mono ?_; rintro e w' ⟨rfl, hg⟩; (try have hc2 := conv_two hg); have hc3 := conv_one (b := w'.heap.size) c (w'.alloc (.cells #[.int .u8 c] 5)) (by simp))
  all_goals
    go_wp2
    go_ret
  · exact ⟨rfl, (((Below.refl _ w).alloc (Nat.le_refl _) _).drew).trans (hg.mono (by simp))⟩
  · exact ⟨rfl, (((Below.refl _ w).alloc (Nat.le_refl _) _).drew).trans (hg.mono (by simp))⟩
  · exact ⟨rfl, (hg.drew_left).alloc hg.size _⟩
theorem number_k (k : Nat) : ∀ (n : Nat) (w : World), k ≤ 9 → n < 128 ^ (k + 1) → n < 18446744073709551616 → Calls Try.prog 17 #[.int .u64 n] w fun e w' => e = .returned (.string ⟨(enc k n).toArray⟩) ∧ Below w.heap.size w w' := by
  induction k with
  | zero =>
    intro n w _ h _
    simpa [enc] using number_small n (by omega) w
  | succ k ih =>
    intro n w hk h h64
    rw [enc]
    split
    · exact number_small n ‹_› w
    · exact number_step k n (by omega) h64 (by omega) w (fun w => ih (n / 128) w (by omega) (by rw [Nat.div_lt_iff_lt_mul (by decide)]; rw [Nat.pow_succ] at h; exact h) (by omega))
theorem number_any (n : Nat) (h : n < 18446744073709551616) (w : World) : Calls Try.prog 17 #[.int .u64 n] w fun e w' => e = .returned (.string ⟨(enc 9 n).toArray⟩) ∧ Below w.heap.size w w' :=
  number_k 9 n w (by omega) (by omega) h
end Go.Proofs.Ytlmhlinjlneagaa
