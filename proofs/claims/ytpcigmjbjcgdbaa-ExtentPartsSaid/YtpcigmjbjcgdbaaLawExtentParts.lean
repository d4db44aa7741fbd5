/- Statement ExtentParts: A list that is cut and joined again is the joined list, the first part has the size that was asked for, and indices lead to tracks and back. For all lists of at most 12 runs, which is the statement's own bound. -/
import Derived.Test.YtpcigmjbjcgdbaaRows
import Derived.WalkKit
import Derived.ProofKit
import Derived.OpenShut
import Derived.ShutString
import Derived.ChangeOld
import Derived.Below
import Derived.Test.YtpcigmjbjcgdbaaExtM5
import Derived.Test.YtpcigmjbjcgdbaaSlices
import Derived.Test.YtpcigmjbjcgdbaaOpen
namespace Go.Proofs.Ytpcigmjbjcgdbaa
open Go.Lib Go.ChangeShapes Go.WideShapes Go.ChangeAt Go.RowKit
open Go.ChangeMaps (open_string shut_string)
set_option linter.unusedVariables false
set_option maxRecDepth 100000 in
set_option maxHeartbeats 4000000 in
theorem zero_ExtentParts (l : List (Int × Int)) (Al : Option Addr) (capl : Nat) (n : Int) {w : World} (hcl : l.length ≤ capl) (hdl : capl ≤ 9223372036854775807) (hrl : RunsAt w (.slice Al l.length capl) l) (hn : -9223372036854775808 ≤ n ∧ n ≤ 9223372036854775807) (hsl : l.length ≤ 12) (hz : seqI l = []) :
    Calls Try.prog 9 #[.slice Al l.length capl, .int .i64 n] w (Answers true w) := by
  have Hl := hid hrl
  have Kl : Hid (l.length ≤ 4000) := by show _ ≤ _; omega
  have HNIL := hid hz
  have HMZ : Hid (((seqI l).length : Int) = 0) := by show _ = _; rw [hz]; rfl
  have HT := hid hn
  have hcase : n ≤ 0 ∨ 0 < n := by omega
  clear hrl hz hn
  rcases hcase with hn3 | hn3
  all_goals
    have HPV : Hid ((((seqI l).take n.toNat).length : Int) = 0) := by show _ = _; rw [HNIL.out]; simp
    have HQV : Hid ((((seqI l).drop n.toNat).length : Int) = 0) := by show _ = _; rw [HNIL.out]; simp
    go_enter Try.func9, Try.ntmps9
    go_wp2_with fail
    refine (awake_any _).mono ?_
    rintro e w1 ⟨rfl, hb⟩
    replace Hl := hid (Hl.out.below hb (Nat.le_refl _))
    have B1 := hid (hb)
    clear hb
    go_wp2_with fail
    refine (size_any _ l Kl.out _ Hl.out).mono ?_
    rintro e w2 ⟨rfl, hb⟩
    rw [HMZ.out]
    replace Hl := hid (Hl.out.below hb (Nat.le_refl _))
    have B2 := hid (B1.out.trans (hb.mono B1.out.size))
    clear hb
    go_wp2_with fail
    refine (cut_any _ l Kl.out n HT.out _ Hl.out).mono ?_
    rintro e w3 ⟨a, b, rfl, h1, h2, h3, h4, h5, hb⟩
    replace Hl := hid (Hl.out.below hb (Nat.le_refl _))
    have B3 := hid (B2.out.trans (hb.mono B2.out.size))
    have Ha := hid (OwnRuns.at h1 (seq_bd _ (take_lt _ _)))
    have Hb := hid (OwnRuns.at h2 (seq_bd _ (drop_lt _ _)))
    clear h1 h2 h3 h4 h5 hb
    go_wp2_with fail
    refine (size_any _ (up (canon ((seqI l).take n.toNat))) (Nat.le_trans (cut_len _ _).1 Kl.out) _ Ha.out).mono ?_
    rintro e w4 ⟨rfl, hb⟩
    rw [seqI_canon _ (take_lt _ _)]
    rw [HPV.out]
    replace Hl := hid (Hl.out.below hb (Nat.le_refl _))
    replace Ha := hid (Ha.out.below hb (Nat.le_refl _))
    replace Hb := hid (Hb.out.below hb (Nat.le_refl _))
    have B4 := hid (B3.out.trans (hb.mono B3.out.size))
    clear hb
    go_wp2_with fail
    refine (size_any _ (up (canon ((seqI l).take n.toNat))) (Nat.le_trans (cut_len _ _).1 Kl.out) _ Ha.out).mono ?_
    rintro e w5 ⟨rfl, hb⟩
    rw [seqI_canon _ (take_lt _ _)]
    rw [HPV.out]
    replace Hl := hid (Hl.out.below hb (Nat.le_refl _))
    replace Ha := hid (Ha.out.below hb (Nat.le_refl _))
    replace Hb := hid (Hb.out.below hb (Nat.le_refl _))
    have B5 := hid (B4.out.trans (hb.mono B4.out.size))
    clear hb
    go_wp2_with fail
    refine (size_any _ (up (canon ((seqI l).drop n.toNat))) (Nat.le_trans (cut_len _ _).2 Kl.out) _ Hb.out).mono ?_
    rintro e w6 ⟨rfl, hb⟩
    rw [seqI_canon _ (drop_lt _ _)]
    rw [HQV.out]
    replace Hl := hid (Hl.out.below hb (Nat.le_refl _))
    replace Ha := hid (Ha.out.below hb (Nat.le_refl _))
    replace Hb := hid (Hb.out.below hb (Nat.le_refl _))
    have B6 := hid (B5.out.trans (hb.mono B5.out.size))
    clear hb
    have HSa := hid (Nat.le_trans (cut_len l n.toNat).1 (Nat.le_trans hsl (by omega : 12 ≤ 100000)))
    have HSb := hid (Nat.le_trans (cut_len l n.toNat).2 (Nat.le_trans hsl (by omega : 12 ≤ 100000)))
    go_wp2_with (at_builtin; refine wpList_append_runs (by rfl) (.tmp 50) (.tmp 51) rfl (.slice (some ⟨w6.heap.size, 0, none⟩) 0 0) [] rfl (.inl ⟨_, rfl, rfl, rfl⟩) a (up (canon ((seqI l).take n.toNat))) rfl (Ha.out.below ((Below.refl _ _).alloc (Nat.le_refl _) _) (Nat.le_refl _)) (by simp) HSa.out ?_; intro v1 x1 h1 h2 h3; have F1 : Hid (∀ b, Value.home v1 b → w6.heap.size ≤ b) := fun b hb => (h3.out b hb).elim (fun h => by obtain ⟨_, _, _, e, h0, _⟩ := h; simp only [Value.slice.injEq] at e; omega) (fun h => by simp only [World.size_alloc] at h; omega); have D1 := hid (((Below.refl w6.heap.size w6).alloc (Nat.le_refl _) (.cells #[] 47)).trans (h2.out.below (by simp) (fun b hb => by obtain ⟨_, _, _, e, h0, _⟩ := hb; simp only [Value.slice.injEq] at e; omega))); have O1 : Hid (OwnRuns x1 v1 (up (canon ((seqI l).take n.toNat)))) := (by have := h1.out; rw [List.nil_append] at this; exact this); clear h1 h2 h3; go_wp2_with (at_builtin; refine wpList_append_runs (by rfl) (.tmp 52) (.tmp 53) rfl v1 (up (canon ((seqI l).take n.toNat))) rfl O1.out b (up (canon ((seqI l).drop n.toNat))) rfl (Hb.out.below D1.out (Nat.le_refl _)) HSa.out HSb.out ?_; intro v2 x2 h1 h2 h3))
    have D2 := hid (D1.out.trans (h2.out.below D1.out.size (fun b hb => F1.out b hb)))
    have HP2 : Hid (RunsAt x2 v2 (parts2 l n.toNat)) := OwnRuns.at h1.out (parts2_bd l n.toNat)
    clear h1 h2 h3
    refine (join_any _ (parts2 l n.toNat) (parts2_len l n.toNat hsl) _ HP2.out).mono ?_
    rintro e x3 ⟨p, rfl, h1, h2, hb⟩
    rw [parts2_seq] at h1
    have D3 := hid (D2.out.trans (hb.mono D2.out.size))
    have Hp := hid (OwnRuns.at h1 (seq_bd _ (seqI_lt _)))
    clear h1 h2 hb
    go_wp2_with fail
    refine (join_any _ l Kl.out _ (Hl.out.below D3.out (Nat.le_refl _))).mono ?_
    rintro e x4 ⟨q, rfl, h1, h2, hb⟩
    have D4 := hid (D3.out.trans (hb.mono D3.out.size))
    have Hq := hid (OwnRuns.at h1 (seq_bd _ (seqI_lt _)))
    replace Hp := hid (Hp.out.below hb (Nat.le_refl _))
    clear h1 h2 hb
    go_wp2_with fail
    refine (same_any _ _ (up (canon (seqI l))) (up (canon (seqI l))) (Nat.le_trans (join_len _) Kl.out) (Nat.le_trans (join_len _) Kl.out) _ Hp.out Hq.out).mono ?_
    rintro e x5 ⟨rfl, hb⟩
    rw [decide_eq_true (rfl : (up (canon (seqI l))) = (up (canon (seqI l))))]
    have D5 := hid (D4.out.trans (hb.mono D4.out.size))
    clear hb Hp Hq HP2 O1 F1 D1 D2 D3 D4 Ha Hb
    go_wp2_with fail
    go_loopw [8] (fun i wr => i = .int .i64 0 ∧ Below w6.heap.size w6 wr) (fun i _ => 0)
    case atStart => exact ⟨rfl, D5.out⟩
    case round =>
      obtain ⟨rfl, hb⟩ := hrel
      have HB := hid hb
      clear hb D5
      have hat : AtSeq (seqI l) 0 = (0, false) := by rw [HNIL.out]; rfl
      have G2 := hid hat
      clear hat
      go_wp2_with fail
      refine (at_any _ l Kl.out 0 (by omega) _ (Hl.out.below HB.out (Nat.le_refl _))).mono ?_
      rintro e y1 ⟨rfl, hb⟩
      rw [G2.out]
      have E1 := hid (HB.out.trans (hb.mono HB.out.size))
      clear hb
      go_wp2_with fail
      go_ret
      exact ⟨rfl, B6.out.trans (E1.out.mono B6.out.size)⟩
set_option maxRecDepth 100000 in
theorem long_ExtentParts (l : List (Int × Int)) (Al : Option Addr) (capl : Nat) (n : Int) {w : World} (hcl : l.length ≤ capl) (hdl : capl ≤ 9223372036854775807) (hrl : RunsAt w (.slice Al l.length capl) l) (hn : -9223372036854775808 ≤ n ∧ n ≤ 9223372036854775807) (hlong : ¬ (l.length ≤ 12)) :
    Calls Try.prog 9 #[.slice Al l.length capl, .int .i64 n] w (Answers true w) := by
  clear hrl
  have h1 : ¬ (l.length : Int) ≤ 12 := by omega
  go_enter Try.func9, Try.ntmps9
  go_wp2_with fail
  refine (awake_any _).mono ?_
  rintro e w1 ⟨rfl, hb⟩
  have B1 := hid (hb)
  clear hb
  go_wp2_with fail
  refine (awake_any _).mono ?_
  rintro e w2 ⟨rfl, hb⟩
  have B2 := hid (B1.out.trans (hb.mono B1.out.size))
  clear hb
  go_wp2_with fail
  go_ret
  exact ⟨rfl, B2.out⟩
set_option maxRecDepth 100000 in
set_option maxHeartbeats 4000000 in
theorem short_ExtentParts (l : List (Int × Int)) (Al : Option Addr) (capl : Nat) (n : Int) {w : World} (hcl : l.length ≤ capl) (hdl : capl ≤ 9223372036854775807) (hrl : RunsAt w (.slice Al l.length capl) l) (hn : -9223372036854775808 ≤ n ∧ n ≤ 9223372036854775807) (hsl : l.length ≤ 12) :
    Calls Try.prog 9 #[.slice Al l.length capl, .int .i64 n] w (Answers true w) := by
  by_cases hz : seqI l = []
  · exact zero_ExtentParts l Al capl n hcl hdl hrl hn hsl hz
  have hmpos : 0 < (seqI l).length := List.length_pos_iff.2 hz
  clear hz
  have Hl := hid hrl
  have Kl : Hid (l.length ≤ 4000) := by show _ ≤ _; omega
  clear hrl
  obtain ⟨m, hM⟩ : ∃ m, m = (seqI l).length := ⟨_, rfl⟩
  obtain ⟨p, hP⟩ : ∃ p, p = ((seqI l).take n.toNat).length := ⟨_, rfl⟩
  obtain ⟨q, hQ⟩ : ∃ q, q = ((seqI l).drop n.toNat).length := ⟨_, rfl⟩
  have hm5 : m ≤ 512000 := by have := seqI_len_le l; omega
  have hp2 : p = min n.toNat m := by rw [hP, hM, List.length_take]
  have hq2 : q = m - n.toNat := by rw [hQ, hM, List.length_drop]
  have hp3 : p ≤ m := by omega
  have hq3 : q ≤ m := by omega
  have hs1 : ((p : Int) + q == m) = true := by simp; omega
  have hs2 : ((p : Int) + q != m) = false := by simp; omega
  have hm0 : 0 < m := by omega
  have hcase : n ≤ 0 ∨ (0 < n ∧ n ≤ m) ∨ (m : Int) < n := by omega
  have hv1 : ((p : Int) != max 0 (min n m)) = false := by simp; omega
  have hw1 : n ≤ 0 → (p : Int) = 0 := fun h => by omega
  have hw2 : 0 < n → n ≤ m → (p : Int) = n := fun h h2 => by omega
  have hw3 : (m : Int) < n → (p : Int) = m := fun h => by omega
  have HM := hid hM
  have HP := hid hP
  have HQ := hid hQ
  have HT := hid hn
  have HW1 := hid hw1
  have HW2 := hid hw2
  have HW3 := hid hw3
  have HY1 : Hid (n ≤ 0 → (q : Int) = m) := fun h => by omega
  have HY2 : Hid (0 < n → n ≤ m → n + (q : Int) = m) := fun h h2 => by omega
  have HY3 : Hid ((m : Int) < n → (q : Int) = 0) := fun h => by omega
  clear hM hP hQ hp2 hq2 hn hv1 hw1 hw2 hw3 hmpos
  rcases hcase with hn3 | ⟨hn3, hn4⟩ | hn3
  all_goals
    first
    | (have HPV : Hid ((((seqI l).take n.toNat).length : Int) = 0) := by show _ = _; rw [← HP.out]; exact HW1.out hn3)
    | (have HPV : Hid ((((seqI l).take n.toNat).length : Int) = n) := by show _ = _; rw [← HP.out]; exact HW2.out hn3 hn4)
    | (have HPV : Hid ((((seqI l).take n.toNat).length : Int) = m) := by show _ = _; rw [← HP.out]; exact HW3.out hn3)
    first
    | (have HQV : Hid ((((seqI l).drop n.toNat).length : Int) = m) := by show _ = _; rw [← HQ.out]; exact HY1.out hn3)
    | (have hd : (n + (q : Int) != m) = false := (by rw [bne_eq_false_iff_eq]; exact HY2.out hn3 hn4); have HQV : Hid ((((seqI l).drop n.toNat).length : Int) = q) := (by show _ = _; rw [← HQ.out]))
    | (have HQV : Hid ((((seqI l).drop n.toNat).length : Int) = 0) := by show _ = _; rw [← HQ.out]; exact HY3.out hn3)
    go_enter Try.func9, Try.ntmps9
    go_wp2_with fail
    refine (awake_any _).mono ?_
    rintro e w1 ⟨rfl, hb⟩
    replace Hl := hid (Hl.out.below hb (Nat.le_refl _))
    have B1 := hid (hb)
    clear hb
    go_wp2_with fail
    refine (size_any _ l Kl.out _ Hl.out).mono ?_
    rintro e w2 ⟨rfl, hb⟩
    rw [← HM.out]
    replace Hl := hid (Hl.out.below hb (Nat.le_refl _))
    have B2 := hid (B1.out.trans (hb.mono B1.out.size))
    clear hb
    go_wp2_with fail
    refine (cut_any _ l Kl.out n HT.out _ Hl.out).mono ?_
    rintro e w3 ⟨a, b, rfl, h1, h2, h3, h4, h5, hb⟩
    replace Hl := hid (Hl.out.below hb (Nat.le_refl _))
    have B3 := hid (B2.out.trans (hb.mono B2.out.size))
    have Ha := hid (OwnRuns.at h1 (seq_bd _ (take_lt _ _)))
    have Hb := hid (OwnRuns.at h2 (seq_bd _ (drop_lt _ _)))
    clear h1 h2 h3 h4 h5 hb
    go_wp2_with fail
    refine (size_any _ (up (canon ((seqI l).take n.toNat))) (Nat.le_trans (cut_len _ _).1 Kl.out) _ Ha.out).mono ?_
    rintro e w4 ⟨rfl, hb⟩
    rw [seqI_canon _ (take_lt _ _)]
    rw [HPV.out]
    replace Hl := hid (Hl.out.below hb (Nat.le_refl _))
    replace Ha := hid (Ha.out.below hb (Nat.le_refl _))
    replace Hb := hid (Hb.out.below hb (Nat.le_refl _))
    have B4 := hid (B3.out.trans (hb.mono B3.out.size))
    clear hb
    go_wp2_with fail
    refine (size_any _ (up (canon ((seqI l).take n.toNat))) (Nat.le_trans (cut_len _ _).1 Kl.out) _ Ha.out).mono ?_
    rintro e w5 ⟨rfl, hb⟩
    rw [seqI_canon _ (take_lt _ _)]
    rw [HPV.out]
    replace Hl := hid (Hl.out.below hb (Nat.le_refl _))
    replace Ha := hid (Ha.out.below hb (Nat.le_refl _))
    replace Hb := hid (Hb.out.below hb (Nat.le_refl _))
    have B5 := hid (B4.out.trans (hb.mono B4.out.size))
    clear hb
    go_wp2_with fail
    refine (size_any _ (up (canon ((seqI l).drop n.toNat))) (Nat.le_trans (cut_len _ _).2 Kl.out) _ Hb.out).mono ?_
    rintro e w6 ⟨rfl, hb⟩
    rw [seqI_canon _ (drop_lt _ _)]
    rw [HQV.out]
    replace Hl := hid (Hl.out.below hb (Nat.le_refl _))
    replace Ha := hid (Ha.out.below hb (Nat.le_refl _))
    replace Hb := hid (Hb.out.below hb (Nat.le_refl _))
    have B6 := hid (B5.out.trans (hb.mono B5.out.size))
    clear hb
    have HSa := hid (Nat.le_trans (cut_len l n.toNat).1 (Nat.le_trans hsl (by omega : 12 ≤ 100000)))
    have HSb := hid (Nat.le_trans (cut_len l n.toNat).2 (Nat.le_trans hsl (by omega : 12 ≤ 100000)))
    go_wp2_with (at_builtin; refine wpList_append_runs (by rfl) (.tmp 50) (.tmp 51) rfl (.slice (some ⟨w6.heap.size, 0, none⟩) 0 0) [] rfl (.inl ⟨_, rfl, rfl, rfl⟩) a (up (canon ((seqI l).take n.toNat))) rfl (Ha.out.below ((Below.refl _ _).alloc (Nat.le_refl _) _) (Nat.le_refl _)) (by simp) HSa.out ?_; intro v1 x1 h1 h2 h3; have F1 : Hid (∀ b, Value.home v1 b → w6.heap.size ≤ b) := fun b hb => (h3.out b hb).elim (fun h => by obtain ⟨_, _, _, e, h0, _⟩ := h; simp only [Value.slice.injEq] at e; omega) (fun h => by simp only [World.size_alloc] at h; omega); have D1 := hid (((Below.refl w6.heap.size w6).alloc (Nat.le_refl _) (.cells #[] 47)).trans (h2.out.below (by simp) (fun b hb => by obtain ⟨_, _, _, e, h0, _⟩ := hb; simp only [Value.slice.injEq] at e; omega))); have O1 : Hid (OwnRuns x1 v1 (up (canon ((seqI l).take n.toNat)))) := (by have := h1.out; rw [List.nil_append] at this; exact this); clear h1 h2 h3; go_wp2_with (at_builtin; refine wpList_append_runs (by rfl) (.tmp 52) (.tmp 53) rfl v1 (up (canon ((seqI l).take n.toNat))) rfl O1.out b (up (canon ((seqI l).drop n.toNat))) rfl (Hb.out.below D1.out (Nat.le_refl _)) HSa.out HSb.out ?_; intro v2 x2 h1 h2 h3))
    have D2 := hid (D1.out.trans (h2.out.below D1.out.size (fun b hb => F1.out b hb)))
    have HP2 : Hid (RunsAt x2 v2 (parts2 l n.toNat)) := OwnRuns.at h1.out (parts2_bd l n.toNat)
    clear h1 h2 h3
    refine (join_any _ (parts2 l n.toNat) (parts2_len l n.toNat hsl) _ HP2.out).mono ?_
    rintro e x3 ⟨p, rfl, h1, h2, hb⟩
    rw [parts2_seq] at h1
    have D3 := hid (D2.out.trans (hb.mono D2.out.size))
    have Hp := hid (OwnRuns.at h1 (seq_bd _ (seqI_lt _)))
    clear h1 h2 hb
    go_wp2_with fail
    refine (join_any _ l Kl.out _ (Hl.out.below D3.out (Nat.le_refl _))).mono ?_
    rintro e x4 ⟨q, rfl, h1, h2, hb⟩
    have D4 := hid (D3.out.trans (hb.mono D3.out.size))
    have Hq := hid (OwnRuns.at h1 (seq_bd _ (seqI_lt _)))
    replace Hp := hid (Hp.out.below hb (Nat.le_refl _))
    clear h1 h2 hb
    go_wp2_with fail
    refine (same_any _ _ (up (canon (seqI l))) (up (canon (seqI l))) (Nat.le_trans (join_len _) Kl.out) (Nat.le_trans (join_len _) Kl.out) _ Hp.out Hq.out).mono ?_
    rintro e x5 ⟨rfl, hb⟩
    rw [decide_eq_true (rfl : (up (canon (seqI l))) = (up (canon (seqI l))))]
    have D5 := hid (D4.out.trans (hb.mono D4.out.size))
    clear hb Hp Hq HP2 O1 F1 D1 D2 D3 D4 Ha Hb
    go_wp2_with fail
    go_loopw [8] (fun i wr => ∃ j : Nat, j ≤ m ∧ i = .int .i64 j ∧ Below w6.heap.size w6 wr) (fun i _ => m - (intOf i).toNat)
    case atStart => exact ⟨0, by omega, rfl, D5.out⟩
    case round =>
      obtain ⟨j, hj, rfl, hb⟩ := hrel
      have HB := hid hb
      clear hb D5
      by_cases hlt : j < m
      · have hj2 : j < (seqI l).length := by rw [← HM.out]; exact hlt
        obtain ⟨q, hq1, hq2, hq3, hq4⟩ := firstAt_mem (seqI l) j hj2
        have hat := atSeq_get (seqI l) j hj2
        have hdis := not_disjoint l q j hq3 hj2
        have hlt2 := seqI_lt l _ (List.getElem_mem hj2)
        have hat2 : AtSeq (seqI (up (canon (seqI l)))) j = AtSeq (seqI l) j := by rw [seqI_canon _ (seqI_lt l)]
        obtain ⟨t, ht⟩ : ∃ t, t = (seqI l)[j] := ⟨_, rfl⟩
        rw [← ht] at hq2 hat hlt2
        rw [hat] at hat2
        have G1 := hid hq2
        have G2 := hid hat
        have G3 := hid hat2
        have G4 : Hid (q < j → decide ((seqI l).length = (ofB (inB l)).length) = false) := fun h => hdis h hq4
        have GJ : Hid (-9223372036854775808 ≤ (j : Int) ∧ (j : Int) ≤ 9223372036854775807) := hid (by omega)
        have GT : Hid (-9223372036854775808 ≤ (t : Int) ∧ (t : Int) ≤ 9223372036854775807) := hid (by omega)
        have GL : Hid ((up (canon (seqI l))).length ≤ 4000) := Nat.le_trans (join_len l) Kl.out
        clear hq2 hat hat2 hdis ht hq4
        by_cases hqj : q < j
        · have G5 := hid (G4.out hqj)
          clear G4
          go_wp2_with fail
          refine (at_any _ l Kl.out j GJ.out _ (Hl.out.below HB.out (Nat.le_refl _))).mono ?_
          rintro e y1 ⟨rfl, hb⟩
          rw [G2.out]
          have E1 := hid (HB.out.trans (hb.mono HB.out.size))
          clear hb
          go_wp2_with fail
          refine (index_any _ l Kl.out t GT.out _ (Hl.out.below E1.out (Nat.le_refl _))).mono ?_
          rintro e y2 ⟨rfl, hb⟩
          rw [G1.out]
          have E2 := hid (E1.out.trans (hb.mono E1.out.size))
          clear hb
          go_wp2_with fail
          refine (join_any _ l Kl.out _ (Hl.out.below E2.out (Nat.le_refl _))).mono ?_
          rintro e y3 ⟨v, rfl, h1, h2, hb⟩
          have Hv := hid (OwnRuns.at h1 (seq_bd _ (seqI_lt _)))
          clear h1 h2
          have E3 := hid (E2.out.trans (hb.mono E2.out.size))
          clear hb
          go_wp2_with fail
          refine (at_any _ (up (canon (seqI l))) GL.out j GJ.out _ Hv.out).mono ?_
          rintro e y4 ⟨rfl, hb⟩
          rw [G3.out]
          have E4 := hid (E3.out.trans (hb.mono E3.out.size))
          clear hb
          go_wp2_with fail
          refine (contains_any _ l Kl.out t GT.out _ (Hl.out.below E4.out (Nat.le_refl _))).mono ?_
          rintro e y5 ⟨rfl, hb⟩
          rw [G1.out]
          have E5 := hid (E4.out.trans (hb.mono E4.out.size))
          clear hb
          go_wp2_with fail
          refine (disjoint_any _ l Kl.out _ (Hl.out.below E5.out (Nat.le_refl _))).mono ?_
          rintro e y6 ⟨rfl, hb⟩
          rw [G5.out]
          have E6 := hid (E5.out.trans (hb.mono E5.out.size))
          clear hb
          go_wp2_with fail
          go_roundw
          case rel => exact ⟨j + 1, by omega, by go_num, E6.out⟩
          case measure => simp [intOf]; omega
        · obtain rfl : q = j := by omega
          clear G4
          go_wp2_with fail
          refine (at_any _ l Kl.out q GJ.out _ (Hl.out.below HB.out (Nat.le_refl _))).mono ?_
          rintro e y1 ⟨rfl, hb⟩
          rw [G2.out]
          have E1 := hid (HB.out.trans (hb.mono HB.out.size))
          clear hb
          go_wp2_with fail
          refine (index_any _ l Kl.out t GT.out _ (Hl.out.below E1.out (Nat.le_refl _))).mono ?_
          rintro e y2 ⟨rfl, hb⟩
          rw [G1.out]
          have E2 := hid (E1.out.trans (hb.mono E1.out.size))
          clear hb
          go_wp2_with fail
          refine (join_any _ l Kl.out _ (Hl.out.below E2.out (Nat.le_refl _))).mono ?_
          rintro e y3 ⟨v, rfl, h1, h2, hb⟩
          have Hv := hid (OwnRuns.at h1 (seq_bd _ (seqI_lt _)))
          clear h1 h2
          have E3 := hid (E2.out.trans (hb.mono E2.out.size))
          clear hb
          go_wp2_with fail
          refine (at_any _ (up (canon (seqI l))) GL.out q GJ.out _ Hv.out).mono ?_
          rintro e y4 ⟨rfl, hb⟩
          rw [G3.out]
          have E4 := hid (E3.out.trans (hb.mono E3.out.size))
          clear hb
          go_wp2_with fail
          refine (contains_any _ l Kl.out t GT.out _ (Hl.out.below E4.out (Nat.le_refl _))).mono ?_
          rintro e y5 ⟨rfl, hb⟩
          rw [G1.out]
          have E5 := hid (E4.out.trans (hb.mono E4.out.size))
          clear hb
          go_wp2_with fail
          go_roundw
          case rel => exact ⟨q + 1, by omega, by go_num, E5.out⟩
          case measure => simp [intOf]; omega
      · obtain rfl : j = m := by omega
        have hat : AtSeq (seqI l) j = (0, false) := atSeq_no _ _ (by rw [← HM.out]; omega)
        have G2 := hid hat
        have GJ : Hid (-9223372036854775808 ≤ (j : Int) ∧ (j : Int) ≤ 9223372036854775807) := hid (by omega)
        clear hat
        go_wp2_with fail
        refine (at_any _ l Kl.out j GJ.out _ (Hl.out.below HB.out (Nat.le_refl _))).mono ?_
        rintro e y1 ⟨rfl, hb⟩
        rw [G2.out]
        have E1 := hid (HB.out.trans (hb.mono HB.out.size))
        clear hb
        go_wp2_with fail
        go_ret
        exact ⟨rfl, B6.out.trans (E1.out.mono B6.out.size)⟩
theorem main_ExtentParts (l : List (Int × Int)) (Al : Option Addr) (capl : Nat) (n : Int) {w : World} (hcl : l.length ≤ capl) (hdl : capl ≤ 9223372036854775807) (hrl : RunsAt w (.slice Al l.length capl) l) (hn : -9223372036854775808 ≤ n ∧ n ≤ 9223372036854775807) :
    Calls Try.prog 9 #[.slice Al l.length capl, .int .i64 n] w (Answers true w) := by
  by_cases h : l.length ≤ 12
  · exact short_ExtentParts l Al capl n hcl hdl hrl hn  h
  · exact long_ExtentParts l Al capl n hcl hdl hrl hn h
theorem walk_ExtentParts (Al : Option Addr) (lenl capl : Nat) (Cl : Nat → Nat → Value) (n : Int) (w : World) (hll : lenl ≤ capl) (hml : capl ≤ maxLen) (hEl : Elems w Al lenl 2 Cl) (hl0 : ∀ i, i < lenl → ∃ n : Int, Cl i 0 = .int .i64 n ∧ -9223372036854775808 ≤ n ∧ n ≤ 9223372036854775807) (hl1 : ∀ i, i < lenl → ∃ n : Int, Cl i 1 = .int .i64 n ∧ -9223372036854775808 ≤ n ∧ n ≤ 9223372036854775807) (hn : -9223372036854775808 ≤ n ∧ n ≤ 9223372036854775807) :
    Calls Try.prog 9 #[.slice Al lenl capl, .int .i64 n] w fun e w' => e = .returned (.bool true) ∧ Below w.heap.size w w' := by
  obtain ⟨l, hnl, hrl⟩ := runs_of hll hml hEl hl0 hl1
  subst hnl
  unfold maxLen at hml
  exact main_ExtentParts l _ capl n hll (by omega) hrl hn
namespace extentParts
theorem own : ownKnob Try.prog.godebug = none := by kernel_rfl
theorem laidOut : laidOutB Try.prog = true := by kernel_rfl
set_option linter.unusedVariables false
set_option maxRecDepth 100000 in
theorem lifted (os : Os) (started : os.Started) (H : Type) (enc : TypeId × Value → H) :
    ReturnsInHanded {} Try.checked os 9 .any (Rows.extentPartsSpec.pre6 enc Try.prog Try.f9 Rows.extentPartsRow.domain false) (Rows.extentPartsSpec.post enc Try.prog Try.f9 false true false false) := by
  refine returnsInHanded_of_change (C := Try.checked) own started (by kernel_rfl) Try.func9
    (ChangeSpec.witness6 (enc := enc) (C := Try.checked) false ⟨#[], #[.slice none 0 0, .int .i64 0], []⟩ 8 (by kernel_rfl) (by kernel_rfl) (by kernel_rfl) (by kernel_rfl)) ?_
  intro W base args ds gs before hval0 hW hcnd _
  have hval : ∀ (j : Nat) t v, Try.f9.params[j]? = some t → args[j]? = some v → Value.okWide Try.prog W .any base t v := hval0
  have hW' := hW
  obtain ⟨p, q, hA0, hV, rfl, hfz, hnd⟩ := hW
  have hA : DataW.TrodAll enc Try.prog W 0 (fun _ => true) true Try.f9.params.toList args.toList ds p := hA0
  rw [Try.params9] at hA hval
  obtain ⟨v0, vs0, d0, ds0, p0, q0, hargs, rfl, rfl, h0, r0⟩ := trodAll_cons hA
  obtain ⟨v1, vs1, d1, ds1, p1, q1, rfl, rfl, rfl, h1, r1⟩ := trodAll_cons r0
  obtain ⟨rfl, rfl, rfl⟩ := trodAll_nil r1
  obtain rfl : args = #[v0, v1] := by cases args; simp_all
  obtain ⟨rfl, rfl⟩ := trodVars_none hV
  obtain ⟨a0, len0, cap0, rfl⟩ := okWide_slice Try.underlying22 (hval 0 22 v0 rfl rfl)
  have k0 := h0
  have lt0 : ∀ x ∈ p0, x.block < W.heap.size := by obtain ⟨m, hm⟩ := k0; exact DataW.trod_lt m _ _ _ hm
  obtain ⟨fuel0, hf0⟩ := h0
  obtain ⟨A0, l0, c0, C0, hcs0, hl0, hm0, hE0, hF0⟩ := open_elems Try.underlying22 Try.underlying47 (by kernel_rfl) (by kernel_rfl) (by decide) hf0
  simp only [Value.cells, List.cons.injEq, Value.slice.injEq, and_true] at hcs0
  obtain ⟨rfl, rfl, rfl⟩ := hcs0
  have s0_0 : ∀ i, i < len0 → ∃ n : Int, C0 i 0 = .int .i64 n ∧ -9223372036854775808 ≤ n ∧ n ≤ 9223372036854775807 := fun i hi => by obtain ⟨y, n, hy⟩ := hF0 i 0 _ hi rfl; obtain ⟨n, e, _, hw⟩ := DataW.trod_int Try.underlying3 hy; exact ⟨n, List.head_eq_of_cons_eq e, bounds_i64 hw⟩
  have s0_1 : ∀ i, i < len0 → ∃ n : Int, C0 i 1 = .int .i64 n ∧ -9223372036854775808 ≤ n ∧ n ≤ 9223372036854775807 := fun i hi => by obtain ⟨y, n, hy⟩ := hF0 i 1 _ hi rfl; obtain ⟨n, e, _, hw⟩ := DataW.trod_int Try.underlying3 hy; exact ⟨n, List.head_eq_of_cons_eq e, bounds_i64 hw⟩
  obtain ⟨a1, rfl, rfl, rfl, w1⟩ := open_int Try.underlying3 (hval 1 3 v1 rfl rfl) h1
  clear hA0 hval0
  refine (walk_ExtentParts a0 len0 cap0 C0 a1 hl0 hm0 hE0 s0_0 s0_1 (bounds_i64 w1) (w := W)).mono fun e W' ⟨he, bel⟩ => ?_
  subst he
  exact ⟨_, rfl, _, _, _, [], _, [], hW', trodAll_mk1 (shut_bool Try.underlying4 _), (trodAll_cons_mk (Below.trod laidOut (by kernel_rfl) (of_decide_eq_true (by kernel_rfl)) k0 bel lt0) (trodAll_cons_mk (shut_int Try.underlying3 w1) trodAll_mk0)), rfl, bel.frame _, fun h => by cases h⟩
theorem over : Rows.extentPartsRow.holds Try.pinned (OpenSpec.ofChange Rows.extentPartsSpec) :=
  OpenClaim.holds_of_wide 9 Try.f9 rfl rfl rfl rfl rfl rfl rfl ⟨rfl, rfl, rfl, rfl, rfl⟩ rfl rfl rfl rfl rfl (by kernel_rfl) Try.func9 (by kernel_rfl)
    (of_decide_eq_true (by kernel_rfl)) (by unfold Func.isWrapper; first | (rw [if_pos (by decide +kernel)]; kernel_rfl) | (rw [if_neg (by decide +kernel)]; exact ⟨rfl, rfl⟩))
    (fun os started H enc _ => lifted os started H enc)
theorem proved : Rows.ExtentPartsSaid := over
end extentParts

end Go.Proofs.Ytpcigmjbjcgdbaa
