import Derived.Test.YtfcaodaaklngmaaRows
import Derived.WalkKit
import Derived.ProofKit
import Derived.OpenShut
import Derived.ShutString
import Derived.WalkLawsBesides
import Derived.WalkSpells
import Derived.Outline
import Derived.LoopTactic
import Derived.Lib.Hide
import Derived.Laws.BytesArg
import Derived.BigQuiet
/-! Texts with zeros behind them. -/
namespace Go.Proofs.Ytfcaodaaklngmaa
open Go.Lib Go.ChangeShapes Go.WideShapes Go.ChangeAt Go.RowKit

def zerosB (n : Nat) : ByteArray := ⟨(List.replicate n (0 : UInt8)).toArray⟩
theorem zerosB_size (n : Nat) : (zerosB n).size = n := by show (List.replicate n (0 : UInt8)).toArray.size = n; simp
theorem zerosB_succ (n : Nat) : zerosB n ++ ⟨#[0]⟩ = zerosB (n + 1) := by
  apply ByteArray.ext
  rw [ByteArray.data_append]
  show (List.replicate n (0 : UInt8)).toArray ++ #[0] = (List.replicate (n + 1) (0 : UInt8)).toArray
  apply Array.toList_inj.1
  rw [Array.toList_append, List.replicate_succ']
theorem zerosB_zero (s : ByteArray) : s ++ zerosB 0 = s := by
  apply ByteArray.ext
  rw [ByteArray.data_append]
  show s.data ++ (List.replicate 0 (0 : UInt8)).toArray = s.data
  simp
/-- a text continued with zeros up to a length -/
def padS (s : ByteArray) (n : Nat) : ByteArray := s ++ zerosB (n - s.size)
theorem padS_size (s : ByteArray) (n : Nat) (h : s.size ≤ n) : (padS s n).size = n := by unfold padS; rw [ByteArray.size_append, zerosB_size]; omega
/-- the content of a sector that begins with a text -/
def fullS (s : ByteArray) : ByteArray := if 140 < s.size then s.extract 0 140 else padS s 140
theorem fullS_size (s : ByteArray) : (fullS s).size = 140 := by
  unfold fullS
  split
  · rw [ByteArray.size_extract]; omega
  · exact padS_size s 140 (by omega)
theorem str_add1 (a : ByteArray) (ha : a.size ≤ 1000000) (w : World) : (Op.stringOp .add a ⟨#[0]⟩).run Try.prog w = .ok (.string (a ++ ⟨#[0]⟩)) w :=
  run_string_add_sum w _ _ (by show a.size + 1 ≤ _; omega)
set_option maxRecDepth 100000 in
theorem padded_any (s : ByteArray) (n : Nat) (hs : s.size ≤ 900000) (hn : n ≤ 900000) (w : World) :
    Calls Try.prog 29 #[.string s, .int .i64 n] w fun e w' => e = .returned (.string (padS s n)) ∧ w = w' := by
  go_enter Try.func29, Try.ntmps29
  go_wp2_with fail
  go_loop [0] (fun t => ∃ k : Nat, k ≤ n - s.size ∧ t = .string (s ++ zerosB k)) (fun t => match t with | .string x => n - x.size | _ => 0)
  case atStart => exact ⟨0, Nat.zero_le _, by rw [zerosB_zero]⟩
  case round =>
    obtain ⟨k, hk, rfl⟩ := hrel
    obtain ⟨t, ht⟩ : ∃ t, t = s ++ zerosB k := ⟨_, rfl⟩
    have hts : t.size = s.size + k := by rw [ht, ByteArray.size_append, zerosB_size]
    have hta := str_add1 t (by omega)
    have hnext : Hid (t ++ ⟨#[0]⟩ = s ++ zerosB (k + 1)) := by show _ = _; rw [ht, ByteArray.append_assoc, zerosB_succ]
    have hsz1 : Hid ((t ++ ⟨#[0]⟩).size = t.size + 1) := by show _ = _; rw [ByteArray.size_append]; rfl
    rw [← ht]
    have HT := hid ht
    have HTS := hid hts
    clear ht hts
    by_cases hlt : t.size < n
    · go_wp2_with fail
      go_round
      case rel => exact ⟨k + 1, by have := HTS.out; omega, by rw [hnext.out]⟩
      case measure =>
        show n - (t ++ ⟨#[0]⟩).size < n - t.size
        rw [hsz1.out]; omega
    · have hge : n ≤ t.size := by omega
      go_wp2_with fail
      go_ret
      have hk' : k = n - s.size := by have := HTS.out; omega
      exact ⟨by unfold padS; rw [← hk', ← HT.out]; rfl, rfl⟩
set_option maxRecDepth 100000 in
theorem full_any (s : ByteArray) (hs : s.size ≤ 9223372036854775807) (w : World) :
    Calls Try.prog 19 #[.string s] w fun e w' => e = .returned (.string (fullS s)) ∧ w = w' := by
  by_cases h : 140 < s.size
  · have he : (s.extract 0 140).size = 140 := by rw [ByteArray.size_extract]; omega
    have hz : padS (s.extract 0 140) 140 = s.extract 0 140 := by unfold padS; rw [he]; exact zerosB_zero _
    have hp := hid (padded_any (s.extract 0 140) 140 (by omega) (by omega) w)
    have HZ := hid hz
    have hf : Hid (fullS s = s.extract 0 140) := by show fullS s = _; unfold fullS; rw [if_pos h]
    have h3 : (140 : Int) < s.size := by omega
    clear he hz
    go_enter Try.func19, Try.ntmps19
    go_wp2_with fail
    refine hp.out.mono ?_
    rintro e w' ⟨rfl, rfl⟩
    rw [HZ.out]
    go_wp2_with fail
    go_ret
    rw [hf.out]
    exact ⟨rfl, rfl⟩
  · have hp := hid (padded_any s 140 (by omega) (by omega) w)
    have hf : Hid (fullS s = padS s 140) := by show fullS s = _; unfold fullS; rw [if_neg h]
    go_enter Try.func19, Try.ntmps19
    go_wp2_with fail
    refine hp.out.mono ?_
    rintro e w' ⟨rfl, rfl⟩
    go_wp2_with fail
    go_ret
    rw [hf.out]
    exact ⟨rfl, rfl⟩
end Go.Proofs.Ytfcaodaaklngmaa
