import Derived.Test.YtabbkgbgldgfeaaLabT6
import Derived.Test.YtabbkgbgldgfeaaLabR1
/-! ValidName of both sides. -/
namespace Go.Proofs.Ytabbkgbgldgfeaa
open Go.Lib Go.ChangeShapes Go.WideShapes Go.ChangeAt Go.RowKit

def isLet (c : Nat) : Prop := 65 ≤ c ∧ c ≤ 90
def isDig (c : Nat) : Prop := 48 ≤ c ∧ c ≤ 57
instance (c : Nat) : Decidable (isLet c) := inferInstanceAs (Decidable (_ ∧ _))
instance (c : Nat) : Decidable (isDig c) := inferInstanceAs (Decidable (_ ∧ _))
def byteOk (s : ByteArray) (i : Nat) : Prop := ∀ h : i < s.size, isLet s[i].toNat ∨ (0 < i ∧ isDig s[i].toNat)
instance (s : ByteArray) (i : Nat) : Decidable (byteOk s i) := inferInstanceAs (Decidable (∀ _ : _, _))
def nameOk (s : ByteArray) : Prop := 1 ≤ s.size ∧ s.size ≤ 8 ∧ ∀ i, i < s.size → byteOk s i
instance (s : ByteArray) : Decidable (nameOk s) := inferInstanceAs (Decidable (_ ∧ _ ∧ _))
set_option maxRecDepth 100000 in
theorem letter_any (c : Nat) (w : World) : Calls Try.prog 64 #[.int .u8 c] w fun e w' => e = .returned (.bool (decide (isLet c))) ∧ w = w' := by
  by_cases h : 65 ≤ c
  · have hd : decide (isLet c) = decide ((c : Int) ≤ 90) := decide_eq_decide.2 ⟨fun g => by have := g.2; omega, fun g => ⟨h, by omega⟩⟩
    have h2 : (65 : Int) ≤ c := by omega
    rw [hd]
    clear hd
    go_enter Try.func64, Try.ntmps64
    go_wp2_with fail
    go_ret
    exact ⟨rfl, rfl⟩
  · have hd : decide (isLet c) = false := decide_eq_false fun g => h g.1
    have h2 : (c : Int) < 65 := by omega
    rw [hd]
    clear hd
    go_enter Try.func64, Try.ntmps64
    go_wp2_with fail
    go_ret
    exact ⟨rfl, rfl⟩
set_option maxRecDepth 100000 in
theorem digit_any (c : Nat) (w : World) : Calls Try.prog 65 #[.int .u8 c] w fun e w' => e = .returned (.bool (decide (isDig c))) ∧ w = w' := by
  by_cases h : 48 ≤ c
  · have hd : decide (isDig c) = decide ((c : Int) ≤ 57) := decide_eq_decide.2 ⟨fun g => by have := g.2; omega, fun g => ⟨h, by omega⟩⟩
    have h2 : (48 : Int) ≤ c := by omega
    rw [hd]
    clear hd
    go_enter Try.func65, Try.ntmps65
    go_wp2_with fail
    go_ret
    exact ⟨rfl, rfl⟩
  · have hd : decide (isDig c) = false := decide_eq_false fun g => h g.1
    have h2 : (c : Int) < 48 := by omega
    rw [hd]
    clear hd
    go_enter Try.func65, Try.ntmps65
    go_wp2_with fail
    go_ret
    exact ⟨rfl, rfl⟩
theorem nameOk_no (s : ByteArray) (k : Nat) (hk : k < s.size) (h : ¬ isLet s[k].toNat) (h2 : k = 0 ∨ ¬ isDig s[k].toNat) : decide (nameOk s) = false :=
  decide_eq_false fun g => (g.2.2 k hk hk).elim h fun ⟨g1, g2⟩ => h2.elim (fun e => by omega) (fun e => e g2)
set_option maxRecDepth 100000 in
set_option maxHeartbeats 1000000 in
theorem validName_any (s : ByteArray) (hs : s.size ≤ 1000000) (w : World) :
    Calls Try.prog 22 #[.string s] w fun e w' => e = .returned (.bool (decide (nameOk s))) ∧ w = w' := by
  by_cases h8 : 8 < s.size
  · rw [show decide (nameOk s) = false from decide_eq_false fun g => by have := g.2.1; omega]
    go_enter Try.func22, Try.ntmps22
    go_wp2_with fail
    go_ret
    exact ⟨rfl, rfl⟩
  go_enter Try.func22, Try.ntmps22
  go_wp2_with fail
  go_loopw [9] (fun i wr => ∃ k : Nat, k ≤ s.size ∧ i = .int .i64 k ∧ (∀ j, j < k → byteOk s j) ∧ w = wr) (fun i _ => s.size - (RowKit.intOf i).toNat)
  case atStart => exact ⟨0, Nat.zero_le _, rfl, fun j hj => absurd hj (Nat.not_lt_zero _), rfl⟩
  case round =>
    obtain ⟨k, hk, rfl, hall, rfl⟩ := hrel
    have HALL := hid hall
    clear hall
    by_cases hlt : k < s.size
    · have hnx : (isLet s[k].toNat ∨ (0 < k ∧ isDig s[k].toNat)) → ∀ j, j < k + 1 → byteOk s j := by
        intro h j hj
        by_cases e : j = k
        · subst e; exact fun _ => h
        · exact HALL.out j (by omega)
      have hno := nameOk_no s k hlt
      have HNX := hid hnx
      have HNO := hid hno
      have LT := fun W => hid (letter_any s[k].toNat W)
      have DG := fun W => hid (digit_any s[k].toNat W)
      clear hnx hno
      by_cases hl : isLet s[k].toNat
      · rw [decide_eq_true hl] at LT
        have HQ := hid (HNX.out (.inl hl))
        clear hl HNX HNO
        go_wp2_with fail
        refine (LT _).out.mono ?_
        rintro e w' ⟨rfl, rfl⟩
        go_wp2_with fail
        go_roundw
        case rel => exact ⟨k + 1, by omega, by go_num, HQ.out, trivial⟩
        case measure => simp [RowKit.intOf]; omega
      · rw [decide_eq_false hl] at LT
        by_cases h0 : k = 0
        · have HQ := hid (HNO.out hl (.inl h0))
          clear hl HNX HNO
          subst h0
          go_wp2_with fail
          refine (LT _).out.mono ?_
          rintro e w' ⟨rfl, rfl⟩
          go_wp2_with fail
          go_ret
          rw [HQ.out]
          exact ⟨rfl, rfl⟩
        · have hk0 : ((k : Int) == 0) = false := by simp; omega
          by_cases hd : isDig s[k].toNat
          · rw [decide_eq_true hd] at DG
            have HQ := hid (HNX.out (.inr ⟨by omega, hd⟩))
            clear hl HNX HNO hd
            go_wp2_with fail
            refine (LT _).out.mono ?_
            rintro e w' ⟨rfl, rfl⟩
            go_wp2_with fail
            refine (DG _).out.mono ?_
            rintro e w' ⟨rfl, rfl⟩
            go_wp2_with fail
            go_roundw
            case rel => exact ⟨k + 1, by omega, by go_num, HQ.out, trivial⟩
            case measure => simp [RowKit.intOf]; omega
          · rw [decide_eq_false hd] at DG
            have HQ := hid (HNO.out hl (.inr hd))
            clear hl HNX HNO hd
            go_wp2_with fail
            refine (LT _).out.mono ?_
            rintro e w' ⟨rfl, rfl⟩
            go_wp2_with fail
            refine (DG _).out.mono ?_
            rintro e w' ⟨rfl, rfl⟩
            go_wp2_with fail
            go_ret
            rw [HQ.out]
            exact ⟨rfl, rfl⟩
    · have hfin : decide (nameOk s) = !(s.toList.isEmpty) := by
        rw [isEmpty_size, Bool.eq_iff_iff, decide_eq_true_iff, Bool.not_eq_true', decide_eq_false_iff_not]
        constructor
        · intro g; have := g.1; omega
        · intro g; exact ⟨by omega, by omega, fun i hi => HALL.out i (by omega)⟩
      have HF := hid hfin
      clear hfin
      go_wp2_with fail
      go_ret
      rw [HF.out]
      exact ⟨rfl, rfl⟩
set_option maxRecDepth 100000 in
set_option maxHeartbeats 2000000 in
theorem refValidName_any (s : ByteArray) (hs : s.size ≤ 1000000) (w : World) :
    Calls Try.prog 23 #[.string s] w fun e w' => e = .returned (.bool (decide (nameOk s))) ∧ w = w' := by
  go_enter Try.func23, Try.ntmps23
  go_wp2_with fail
  go_loopw [3] (fun i wr => ∃ k : Nat, k ≤ s.size ∧ i = .int .i64 k ∧ (∀ j, j < k → byteOk s j) ∧ w = wr) (fun i _ => s.size - (RowKit.intOf i).toNat)
  case atStart => exact ⟨0, Nat.zero_le _, rfl, fun j hj => absurd hj (Nat.not_lt_zero _), rfl⟩
  case round =>
    obtain ⟨k, hk, rfl, hall, rfl⟩ := hrel
    have HALL := hid hall
    clear hall
    by_cases hlt : k < s.size
    · have hnx : (isLet s[k].toNat ∨ (0 < k ∧ isDig s[k].toNat)) → ∀ j, j < k + 1 → byteOk s j := by
        intro h j hj
        by_cases e : j = k
        · subst e; exact fun _ => h
        · exact HALL.out j (by omega)
      have hno := nameOk_no s k hlt
      obtain ⟨c, hc⟩ : ∃ c, c = s[k].toNat := ⟨_, rfl⟩
      rw [← hc] at hnx hno
      have HNX := hid hnx
      have HNO := hid hno
      have HC := hid hc.symm
      clear hnx hno hc
      unfold isLet isDig at HNX HNO
      have hidx := HC.out
      by_cases a1 : 65 ≤ c
      · have b1 : decide ((65 : Int) ≤ c) = true := by simp; omega
        by_cases a2 : c ≤ 90
        · have b2 : decide ((c : Int) ≤ 90) = true := by simp; omega
          have HQ := hid (HNX.out (.inl ⟨a1, a2⟩))
          clear HNX HNO HC
          go_wp2_with fail
          go_roundw
          case rel => exact ⟨k + 1, by omega, by go_num, HQ.out, trivial⟩
          case measure => simp [RowKit.intOf]; omega
        · have b2 : decide ((c : Int) ≤ 90) = false := by simp; omega
          have HQ := hid (HNO.out (by omega) (by omega))
          by_cases a3 : k = 0
          · subst a3
            clear HNX HNO HC
            go_wp2_with fail
            go_ret
            rw [HQ.out]
            exact ⟨rfl, rfl⟩
          · have b3 : decide ((0 : Int) < k) = true := by simp; omega
            have b4 : decide ((48 : Int) ≤ c) = true := by simp; omega
            have b5 : decide ((c : Int) ≤ 57) = false := by simp; omega
            clear HNX HNO HC
            go_wp2_with fail
            go_ret
            rw [HQ.out]
            exact ⟨rfl, rfl⟩
      · have b1 : decide ((65 : Int) ≤ c) = false := by simp; omega
        by_cases a3 : k = 0
        · have HQ := hid (HNO.out (by omega) (.inl a3))
          subst a3
          clear HNX HNO HC
          go_wp2_with fail
          go_ret
          rw [HQ.out]
          exact ⟨rfl, rfl⟩
        · have b3 : decide ((0 : Int) < k) = true := by simp; omega
          by_cases a4 : 48 ≤ c
          · have b4 : decide ((48 : Int) ≤ c) = true := by simp; omega
            by_cases a5 : c ≤ 57
            · have b5 : decide ((c : Int) ≤ 57) = true := by simp; omega
              have HQ := hid (HNX.out (.inr ⟨by omega, a4, a5⟩))
              clear HNX HNO HC
              go_wp2_with fail
              go_roundw
              case rel => exact ⟨k + 1, by omega, by go_num, HQ.out, trivial⟩
              case measure => simp [RowKit.intOf]; omega
            · have b5 : decide ((c : Int) ≤ 57) = false := by simp; omega
              have HQ := hid (HNO.out (by omega) (by omega))
              clear HNX HNO HC
              go_wp2_with fail
              go_ret
              rw [HQ.out]
              exact ⟨rfl, rfl⟩
          · have b4 : decide ((48 : Int) ≤ c) = false := by simp; omega
            have HQ := hid (HNO.out (by omega) (by omega))
            clear HNX HNO HC
            go_wp2_with fail
            go_ret
            rw [HQ.out]
            exact ⟨rfl, rfl⟩
    · obtain ⟨n, hn⟩ : ∃ n, n = s.size := ⟨_, rfl⟩
      have hfin : decide (nameOk s) = (decide (1 ≤ (s.size : Int) ∧ (s.size : Int) ≤ 8)) := by
        rw [Bool.eq_iff_iff, decide_eq_true_iff, decide_eq_true_iff]
        constructor
        · intro g; have h1 := g.1; have h2 := g.2.1; omega
        · intro g; exact ⟨by omega, by omega, fun i hi => HALL.out i (by omega)⟩
      have HF := hid hfin
      clear hfin hn
      by_cases h1 : 1 ≤ (s.size : Int)
      · rw [dec_and _ _ h1] at HF
        go_wp2_with fail
        go_ret
        rw [HF.out]
        exact ⟨rfl, rfl⟩
      · rw [dec_and_no _ _ h1] at HF
        go_wp2_with fail
        go_ret
        rw [HF.out]
        exact ⟨rfl, rfl⟩
end Go.Proofs.Ytabbkgbgldgfeaa
