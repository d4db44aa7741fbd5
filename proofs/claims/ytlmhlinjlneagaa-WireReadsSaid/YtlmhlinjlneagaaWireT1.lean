import Derived.Test.YtlmhlinjlneagaaRows
import Derived.WalkKit
import Derived.ProofKit
import Derived.OpenShut
import Derived.ShutString
import Derived.WalkLawsBesides
import Derived.WalkSpells
import Derived.Outline
import Derived.LoopTactic
import Derived.Lib.Hide
import Derived.Laws.BytesArg
import Derived.Test.YtlmhlinjlneagaaWireM1
namespace Go.Proofs.Ytlmhlinjlneagaa
open Go.Lib Go.ChangeShapes Go.WideShapes Go.ChangeAt Go.RowKit

def grp (n : Nat) (k : Nat) : Array Value := ((List.range 10).map fun j => Value.int .u8 (if j < k then (n / 128^j % 128 + 128 : Nat) else 0)).toArray
theorem grp_size (n k : Nat) : (grp n k).size = 10 := by simp [grp]
theorem or128 : ∀ b : Fin 256, bits BinOp.or IntKind.u8 ((b.val : Nat) : Int) 128 = ((b.val % 128 + 128 : Nat) : Int) := by decide +kernel
theorem grp_get (n k i : Nat) (hi : i < 10) : (grp n k)[i]? = some (.int .u8 (if i < k then (n / 128^i % 128 + 128 : Nat) else 0)) := by
  simp [grp, hi]
theorem grp_set (n k m : Nat) (_hk : k ≤ 9) (hm : m = n / 128 ^ k) : (grp n k).setIfInBounds k (.int .u8 (bits BinOp.or IntKind.u8 ((m : Int) % 256) 128)) = grp n (k + 1) := by
  have hb := or128 ⟨m % 256, by omega⟩
  have e : ((m : Int) % 256) = ((m % 256 : Nat) : Int) := by omega
  rw [e, hb]
  apply Array.ext_getElem?
  intro i
  by_cases hi : i < 10
  · rw [Array.getElem?_setIfInBounds, grp_get _ _ _ hi, grp_get _ _ _ hi]
    by_cases h : k = i
    · subst h; simp [grp_size, hi, ← hm]
    · simp only [h, if_false]
      by_cases h2 : i < k
      · simp [h2, Nat.lt_succ_of_lt h2]
      · have h3 : ¬ i < k + 1 := by omega
        rw [if_neg h2, if_neg h3]
  · rw [Array.getElem?_eq_none (by simp [grp_size]; omega), Array.getElem?_eq_none (by simp [grp_size]; omega)]

def grpL (n k : Nat) : Array Value := (grp n k).setIfInBounds k (.int .u8 (n / 128 ^ k : Nat))
theorem grp_last (n k m : Nat) (hm : m = n / 128 ^ k) : (grp n k).setIfInBounds k (.int .u8 m) = grpL n k := by
  unfold grpL; rw [← hm]
theorem conv_last (n k : Nat) (w : World) (hk : k ≤ 9) (h1 : k = 0 ∨ 128 ≤ n / 128 ^ (k - 1)) (h2 : n / 128 ^ k < 128) : (convert 75 9 (.slice (some ⟨w.heap.size, 0, none⟩) (k + 1) 10)).run Try.prog (w.alloc (.cells (grpL n k) 90)) = .ok (.string ⟨(enc 9 n).toArray⟩) (w.alloc (.cells (grpL n k) 90)) := by
  have h := run_convert_bytes_arg (P := Try.prog) (w := w.alloc (.cells (grpL n k) 90)) 75 5 Try.underlying75 Try.underlying5 w.heap.size 0 (k + 1) 10 (encI n k) (encI_len n k) (fun i hi => by
    rw [World.cell?_alloc_new, Nat.zero_add, grpL, Array.getElem?_setIfInBounds, grp_get _ _ _ (by omega), grp_size]
    by_cases h : k = i
    · subst h; rw [if_pos rfl, if_pos (by omega)]; simp [encI, encN]
    · rw [if_neg h, if_pos (by omega)]; simp [encI, encN, hi, (by omega : i < k)]) 9 Try.underlying9
  rw [h, enc_str n k hk h1 h2]
theorem slice_groups (k : Nat) (hk : k ≤ 9) (wx : World) (b : Nat) : (Instr.sliceAt 90 (.pointer (some ⟨b, 0, none⟩)) none (some (.int .i64 ((k : Int) + 1))) none).run Try.prog wx = .ok (.slice (some ⟨b, 0, none⟩) (k + 1) 10) wx := by
  have h := run_sliceAt_array_h (P := Try.prog) wx 90 ⟨b, 0, none⟩ Try.underlying90 .i64 ((k : Int) + 1) (by omega) (by show (k : Int) + 1 ≤ 10; omega)
  rw [h]
  have hs : (sizeOf (Try.prog.elem 90)).run Try.prog wx = .ok 1 wx := by kernel_rfl
  rw [hs]
  have e : ((k : Int) + 1).toNat = k + 1 := by omega
  simp [Result.andThen, slicedAt, e, Addr.add]
  show Try.prog.arrayLen 90 = 10
  kernel_rfl
set_option maxRecDepth 100000 in
set_option maxHeartbeats 400000 in
theorem encode_any (n : Nat) (h1 : Hid (n < 18446744073709551616)) (w : World) :
    Calls Try.prog 51 #[.int .u64 n] w fun e w' => e = .returned (.string ⟨(enc 9 n).toArray⟩) ∧ Below w.heap.size w w' := by
  go_enter Try.func51, Try.ntmps51
  go_wp2
  go_loopw [0, 4] (fun v i wr => ∃ k m : Nat, k ≤ 9 ∧ i = .int .i64 k ∧ v = .int .u64 m ∧ m = n / 128 ^ k ∧ (k = 0 ∨ 128 ≤ n / 128 ^ (k - 1)) ∧ wr = w.alloc (.cells (grp n k) 90)) (fun _ i _ => 10 - (intOf i).toNat)
  case atStart => exact ⟨0, n, by omega, rfl, rfl, by simp, .inl rfl, by rfl⟩
  case round =>
    obtain ⟨k, m, hk, rfl, rfl, hm, hp, rfl⟩ := hrel
    have hsz := grp_size n k
    have hset := grp_set n k m hk hm
    have HM := hid hm
    have HP := hid hp
    clear hm hp
    by_cases hlt : 128 ≤ m
    · have hk8 : k ≤ 8 := last_digit n k m h1.out hk HM.out hlt
      obtain ⟨v, hv⟩ : ∃ v, (grp n k)[k]? = some v := ⟨_, Array.getElem?_eq_getElem (by omega)⟩
      go_wp2
      go_roundw
      case rel => exact ⟨k + 1, m / 128, by omega, by go_num, by go_num, by rw [HM.out, Nat.pow_succ, Nat.div_div_eq_div_mul], .inr (by rw [Nat.add_sub_cancel, ← HM.out]; exact hlt), rfl⟩
      case measure => simp [intOf]; omega
    · have hset2 := grp_last n k m HM.out
      clear hset
      have hconv := conv_last n k w hk HP.out (by rw [← HM.out]; omega)
      have hsl := slice_groups k hk (w.alloc (.cells (grpL n k) 90)) w.heap.size
      obtain ⟨v, hv⟩ : ∃ v, (grp n k)[k]? = some v := ⟨_, Array.getElem?_eq_getElem (by omega)⟩
      go_wp2
      go_ret
      exact ⟨rfl, (Below.refl _ _).alloc (Nat.le_refl _) _⟩
end Go.Proofs.Ytlmhlinjlneagaa
