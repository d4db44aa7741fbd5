import Derived.Test.YtpcigmjbjcgdbaaExtR8
import Derived.Test.YtpcigmjbjcgdbaaExtM3
/-! The specification: Disjoint. -/
namespace Go.Proofs.Ytpcigmjbjcgdbaa
open Go.Lib Go.ChangeShapes Go.WideShapes Go.ChangeAt Go.RowKit

theorem nodup_get (s : List Nat) : s.Nodup ↔ ∀ i j (hi : i < s.length) (hj : j < s.length), i < j → s[i] ≠ s[j] := by
  unfold List.Nodup; exact List.pairwise_iff_getElem
set_option maxRecDepth 100000 in
theorem refDisjoint_any (v : Value) (l : List (Int × Int)) (hl : l.length ≤ 4000) (w : World) (hs : RunsAt w v l) :
    Calls Try.prog 36 #[v] w (Answers (decide (seqI l).Nodup) w) := by
  have HS := hid hs
  have hle := seqI_len_le l
  clear hs
  obtain ⟨R, hR⟩ : ∃ R, R = decide (seqI l).Nodup := ⟨_, rfl⟩
  rw [← hR]
  have HR := hid hR
  go_enter Try.func36, Try.ntmps36
  go_wp2_with fail
  refine (sequence_any v l hl _ HS.out).mono ?_
  rintro e w2 ⟨u, rfl, h1, h2⟩
  have HO := hid h1
  obtain ⟨A, cap, rfl, _⟩ := h1.get
  have HB0 := hid h2
  obtain ⟨m, hm⟩ : ∃ m, m = (seqI l).length := ⟨_, rfl⟩
  have hm5 : m ≤ 512000 := by omega
  rw [← hm] at HO ⊢
  have HM := hid hm
  clear hR h1 h2 hm hle
  go_wp2_with fail
  go_loopw [4] (fun i wr => ∃ k : Nat, k ≤ m ∧ i = .int .i64 k ∧ (∀ a b (ha : a < (seqI l).length) (hb : b < (seqI l).length), b < k → a < b → (seqI l)[a] ≠ (seqI l)[b]) ∧ OwnInts wr (.slice A m cap) (seqI l) ∧ Below w.heap.size w wr) (fun i _ => m - (intOf i).toNat)
  case atStart => exact ⟨0, by omega, rfl, (fun a b _ _ h => by omega), HO.out, HB0.out⟩
  case round =>
    clear HO HB0
    obtain ⟨k, hk, rfl, hno, ho, hb⟩ := hrel
    have HNO := hid hno
    have HB := hid hb
    have HO := hid ho
    clear hno
    by_cases hlt : k < m
    · have hk2 : k < (seqI l).length := by rw [← HM.out]; exact hlt
      obtain ⟨z, hz⟩ : ∃ z, z = (seqI l)[k] := ⟨_, rfl⟩
      have HZ := hid hz
      clear hz ho hb
      go_wp2_with fail
      go_loopw [5] (fun i wq => ∃ j : Nat, j ≤ k ∧ i = .int .i64 j ∧ (∀ a (ha : a < (seqI l).length), a < j → (seqI l)[a] ≠ z) ∧ OwnInts wq (.slice A m cap) (seqI l) ∧ Below w.heap.size w wq) (fun i _ => k - (intOf i).toNat)
      case atStart => exact ⟨0, by omega, rfl, (fun a _ h => by omega), HO.out, HB.out⟩
      case round =>
        clear HO HB
        obtain ⟨j, hj, rfl, hin, ho, hb⟩ := hrel
        have HIN := hid hin
        have HB := hid hb
        have HO := hid ho
        clear hin
        by_cases hlj : j < k
        · have hj2 : j < (seqI l).length := by omega
          obtain ⟨A', cap', e, hc⟩ := ho.get
          simp only [Value.slice.injEq] at e
          obtain ⟨rfl, _, rfl⟩ := e
          obtain ⟨g, rfl, hg, d1⟩ := hc k hk2
          obtain ⟨_, e, _, d2⟩ := hc j hj2
          simp only [Option.some.injEq, Addr.mk.injEq, and_true] at e
          subst e
          obtain ⟨y, hy⟩ : ∃ y, y = (seqI l)[j] := ⟨_, rfl⟩
          rw [← HZ.out] at d1
          rw [← hy] at d2
          have HY := hid hy
          clear hy hc ho hb
          by_cases he : z = y
          · have hans : R = false := by
              rw [HR.out, decide_eq_false_iff_not, nodup_get]
              intro h
              exact h j k hj2 hk2 hlj (by rw [← HY.out, ← HZ.out, he])
            have HANS := hid hans
            have hd : ((z : Int) == y) = true := by simp; omega
            clear hans he
            go_wp2_with fail
            go_quiet (fail)
            go_wp2_with fail
            go_ret
            rw [HANS.out]
            exact ⟨rfl, below_drewN HB.out _⟩
          · have hd : ((z : Int) == y) = false := by simp; omega
            have hnew : ∀ a (ha : a < (seqI l).length), a < j + 1 → (seqI l)[a] ≠ z := by
              intro a ha h
              by_cases e : a = j
              · subst e; rw [← HY.out]; omega
              · exact HIN.out a ha (by omega)
            have HNEW := hid hnew
            clear hnew he
            go_wp2_with fail
            go_quiet (fail)
            go_wp2_with fail
            go_roundw
            case rel => exact ⟨j + 1, by omega, by go_num, HNEW.out, SliceIs.upd (F := fun _ => False) HO.out (Upds.drewN _ _) (fun _ _ h => h), below_drewN HB.out _⟩
            case measure => simp [intOf]; omega
        · obtain rfl : j = k := by omega
          have hnew : ∀ a b (ha : a < (seqI l).length) (hb : b < (seqI l).length), b < j + 1 → a < b → (seqI l)[a] ≠ (seqI l)[b] := by
            intro a b ha hb h h2
            by_cases e : b = j
            · subst e; rw [← HZ.out]; exact HIN.out a ha h2
            · exact HNO.out a b ha hb (by omega) h2
          have HNEW := hid hnew
          clear hnew ho hb
          go_wp2_with fail
          go_roundw
          case rel => exact ⟨j + 1, by omega, by go_num, HNEW.out, HO.out, HB.out⟩
          case measure => simp [intOf]; omega
    · obtain rfl : k = m := by omega
      have hans : R = true := by
        rw [HR.out, decide_eq_true_iff, nodup_get]
        intro i j hi hj h
        exact HNO.out i j hi hj (by rw [HM.out]; exact hj) h
      have HANS := hid hans
      clear hans ho hb
      go_wp2_with fail
      go_ret
      rw [HANS.out]
      exact ⟨rfl, HB.out⟩
end Go.Proofs.Ytpcigmjbjcgdbaa
