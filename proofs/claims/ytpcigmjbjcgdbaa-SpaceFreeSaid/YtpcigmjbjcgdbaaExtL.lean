import Derived.Test.YtpcigmjbjcgdbaaExtAw
import Derived.Test.YtpcigmjbjcgdbaaApp2
/-! What the laws share. -/
namespace Go.Proofs.Ytpcigmjbjcgdbaa
open Go.Lib Go.ChangeShapes Go.WideShapes Go.ChangeAt Go.RowKit

theorem runs_of {w : World} {A : Option Addr} {len cap : Nat} {C : Nat → Nat → Value} (hl : len ≤ cap) (hm : cap ≤ maxLen) (hE : Elems w A len 2 C)
    (h0 : ∀ i, i < len → ∃ n : Int, C i 0 = .int .i64 n ∧ -9223372036854775808 ≤ n ∧ n ≤ 9223372036854775807) (h1 : ∀ i, i < len → ∃ n : Int, C i 1 = .int .i64 n ∧ -9223372036854775808 ≤ n ∧ n ≤ 9223372036854775807) :
    ∃ l : List (Int × Int), l.length = len ∧ RunsAt w (.slice A len cap) l := by
  have hx : ∀ i, ∃ n : Int, i < len → (C i 0 = .int .i64 n ∧ -9223372036854775808 ≤ n ∧ n ≤ 9223372036854775807) := fun i => by
    by_cases h : i < len
    · obtain ⟨n, h⟩ := h0 i h; exact ⟨n, fun _ => h⟩
    · exact ⟨0, fun h2 => absurd h2 h⟩
  have hy : ∀ i, ∃ n : Int, i < len → (C i 1 = .int .i64 n ∧ -9223372036854775808 ≤ n ∧ n ≤ 9223372036854775807) := fun i => by
    by_cases h : i < len
    · obtain ⟨n, h⟩ := h1 i h; exact ⟨n, fun _ => h⟩
    · exact ⟨0, fun h2 => absurd h2 h⟩
  obtain ⟨f, hf⟩ := Classical.axiomOfChoice hx
  obtain ⟨g, hg⟩ := Classical.axiomOfChoice hy
  have hlen : ((List.range len).map fun i => (f i, g i)).length = len := by simp
  unfold maxLen at hm
  refine ⟨(List.range len).map fun i => (f i, g i), hlen, A, cap, by rw [hlen], by rw [hlen]; exact hl, by omega, ?_, fun h => ?_⟩
  · intro r hr
    rw [List.mem_map] at hr
    obtain ⟨i, hi, rfl⟩ := hr
    rw [List.mem_range] at hi
    have a := hf i hi
    have b := hg i hi
    simp only; omega
  · rw [hlen] at h
    obtain ⟨b, off, rfl, hlt, hc⟩ := hE h
    refine ⟨b, off, rfl, hlt, fun i hi => ?_⟩
    rw [hlen] at hi
    have c0 := hc i 0 hi (by omega)
    have c1 := hc i 1 hi (by omega)
    rw [(hf i hi).1] at c0
    rw [(hg i hi).1] at c1
    simp only [List.getElem_map, List.getElem_range]
    exact ⟨c0, by rw [Nat.add_assoc]; exact c1⟩
theorem norm_inB (B : Nat → Bool) : norm (inB (norm B)) = norm B := by
  unfold norm; rw [ofB_congr (fun t ht => inB_canon B t ht)]
theorem norm_eq {A B : Nat → Bool} : norm A = norm B ↔ ∀ t, t < 128 → A t = B t := by
  constructor
  · intro h t ht
    have h1 : ofB A = ofB B := by have := congrArg seqI h; rwa [norm_seq, norm_seq] at this
    exact ofB_inj h1 t ht
  · intro h; unfold norm; rw [ofB_congr h]
theorem wish_union (a b : List (Int × Int)) : norm (fun t => wish true true true (inB a t) (inB b t)) = norm fun t => inB a t || inB b t := by
  rw [norm_eq]; intro t _; cases inB a t <;> cases inB b t <;> rfl
theorem wish_common (a b : List (Int × Int)) : norm (fun t => wish false false true (inB a t) (inB b t)) = norm fun t => inB a t && inB b t := by
  rw [norm_eq]; intro t _; cases inB a t <;> cases inB b t <;> rfl
theorem wish_minus (a b : List (Int × Int)) : norm (fun t => wish true false false (inB a t) (inB b t)) = norm fun t => inB a t && !inB b t := by
  rw [norm_eq]; intro t _; cases inB a t <;> cases inB b t <;> rfl
theorem seq_bd (s : List Nat) (h : ∀ t ∈ s, t < 128) : Bd (up (canon s)) := Bd.up (fine_canon s h)
theorem cut_len (l : List (Int × Int)) (N : Nat) : (up (canon ((seqI l).take N))).length ≤ l.length ∧ (up (canon ((seqI l).drop N))).length ≤ l.length := by
  have := take_canon_len l N l.length (Nat.le_refl _)
  rw [List.take_length] at this
  rw [up_len, up_len]; exact this
theorem join_len (l : List (Int × Int)) : (up (canon (seqI l))).length ≤ l.length := by
  have := canon_seqI_len l l.length (Nat.le_refl _)
  rw [List.take_length] at this
  rw [up_len]; exact this
theorem take_lt (l : List (Int × Int)) (N : Nat) : ∀ t ∈ (seqI l).take N, t < 128 := fun t ht => seqI_lt l t (List.mem_of_mem_take ht)
theorem drop_lt (l : List (Int × Int)) (N : Nat) : ∀ t ∈ (seqI l).drop N, t < 128 := fun t ht => seqI_lt l t (List.mem_of_mem_drop ht)
theorem ofB_nodup (B : Nat → Bool) : (ofB B).Nodup := by unfold ofB; exact List.Pairwise.filter _ List.nodup_range
/-- the three parts of two sets -/
def parts3 (a b : List (Int × Int)) : List (Int × Int) := (norm fun t => inB a t && inB b t) ++ (norm fun t => inB a t && !inB b t) ++ (norm fun t => inB b t && !inB a t)
theorem parts3_seq (a b : List (Int × Int)) : seqI (parts3 a b) = ofB (fun t => inB a t && inB b t) ++ ofB (fun t => inB a t && !inB b t) ++ ofB (fun t => inB b t && !inB a t) := by
  unfold parts3; rw [seqI_append, seqI_append, norm_seq, norm_seq, norm_seq]
theorem parts3_disjoint (a b : List (Int × Int)) : decide ((seqI (parts3 a b)).length = (ofB (inB (parts3 a b))).length) = true := by
  rw [decide_eq_true_iff, disjoint_iff, parts3_seq, List.nodup_append, List.nodup_append]
  refine ⟨⟨ofB_nodup _, ofB_nodup _, ?_⟩, ofB_nodup _, ?_⟩
  · intro x hx y hy e
    subst e
    rw [mem_ofB] at hx hy
    cases h1 : inB a x <;> cases h2 : inB b x <;> simp [h1, h2] at hx hy
  · intro x hx y hy e
    subst e
    rw [List.mem_append, mem_ofB, mem_ofB] at hx
    rw [mem_ofB] at hy
    cases h1 : inB a x <;> cases h2 : inB b x <;> simp [h1, h2] at hx hy
theorem parts3_norm (a b : List (Int × Int)) : norm (inB (parts3 a b)) = norm fun t => inB a t || inB b t := by
  rw [norm_eq]
  intro t ht
  rw [Bool.eq_iff_iff]
  unfold inB
  rw [List.contains_iff_mem, parts3_seq, List.mem_append, List.mem_append, mem_ofB, mem_ofB, mem_ofB]
  show _ ↔ (inB a t || inB b t) = true
  cases inB a t <;> cases inB b t <;> simp [ht]
theorem parts3_len (a b : List (Int × Int)) : (parts3 a b).length ≤ 4000 := by
  have h : ∀ B : Nat → Bool, (norm B).length ≤ 128 := fun B => by
    have h1 := canon_len (ofB B)
    have h2 := ofB_len B
    unfold norm; rw [up_len]; omega
  unfold parts3
  rw [List.length_append, List.length_append]
  have := h (fun t => inB a t && inB b t)
  have := h (fun t => inB a t && !inB b t)
  have := h (fun t => inB b t && !inB a t)
  omega
theorem Bd.append {a b : List (Int × Int)} (ha : Bd a) (hb : Bd b) : Bd (a ++ b) := fun r hr => (List.mem_append.1 hr).elim (ha r) (hb r)
theorem parts3_bd (a b : List (Int × Int)) : Bd (parts3 a b) := Bd.append (Bd.append (norm_bd _) (norm_bd _)) (norm_bd _)
theorem minus_union (a b : List (Int × Int)) : norm (fun t => inB (norm fun t => inB a t || inB b t) t && !inB (norm (inB b)) t) = norm fun t => inB a t && !inB b t := by
  rw [norm_eq]
  intro t ht
  have e1 : inB (norm fun t => inB a t || inB b t) t = (inB a t || inB b t) := inB_canon _ t ht
  have e2 : inB (norm (inB b)) t = inB b t := inB_canon _ t ht
  rw [e1, e2]
  cases inB a t <;> cases inB b t <;> rfl
end Go.Proofs.Ytpcigmjbjcgdbaa
