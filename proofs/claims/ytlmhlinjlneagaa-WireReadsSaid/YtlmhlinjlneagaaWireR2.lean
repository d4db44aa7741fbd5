import Derived.Test.YtlmhlinjlneagaaWireR1
namespace Go.Proofs.Ytlmhlinjlneagaa
open Go.Lib Go.ChangeShapes Go.WideShapes Go.ChangeAt Go.RowKit

/-- a block behind something that only adds -/
theorem cells_kept {w w2 : World} {b : Nat} {x y : Value} {t : TypeId} (hb : Below w.heap.size w w2) (hh : w.heap[b]? = some (.cells #[x, y] t (0, 0))) :
    w2.cell? ⟨b, 0, none⟩ = some x ∧ w2.cell? ⟨b, 1, none⟩ = some y ∧ w2.frozen? ⟨b, 0, none⟩ = false ∧ w2.frozen? ⟨b, 1, none⟩ = false ∧ b < w2.heap.size := by
  have hlt : b < w.heap.size := by
    rcases Nat.lt_or_ge b w.heap.size with h | h
    · exact h
    · rw [Array.getElem?_eq_none h] at hh; cases hh
  have h2 : w2.heap[b]? = some (.cells #[x, y] t (0, 0)) := by rw [hb.block b hlt]; exact hh
  simp [World.cell?, World.frozen?, h2]
  exact Nat.lt_of_lt_of_le hlt hb.size

def RefInt (s : ByteArray) (w : World) (x : Ending) (w' : World) : Prop :=
  Below w.heap.size w w' ∧ match dec s.data.toList 0 0 with
  | none => x = .returned (.tuple #[.int .i64 0, rdr ⟨#[]⟩ 11])
  | some (n, c) => x = .returned (.tuple #[.int .i64 (zag n), rdr (s.extract c s.size) 0])
set_option maxRecDepth 100000 in
theorem refInt_run (a : Value) (s : ByteArray) (e n : Nat) (hn : n < 18446744073709551616) (w : World) (hc : ∀ w, Calls Try.prog 25 #[a] w fun x w' => x = .returned (.tuple #[.int .u64 n, rdr s e]) ∧ Below w.heap.size w w') (ha : ∃ s0 e0, a = rdr s0 e0) :
    Calls Try.prog 27 #[a] w fun x w' => x = .returned (.tuple #[.int .i64 (zag n), rdr s e]) ∧ Below w.heap.size w w' := by
  obtain ⟨s0, e0, rfl⟩ := ha
  have HC := hid hc
  clear hc
  unfold rdr at *
  rcases Nat.mod_two_eq_zero_or_one n with h2 | h2
  · have hm : (n : Int) % 2 = 0 := by omega
    have HZ : Hid (zag n = (n : Int) / 2) := by show _ = _; unfold zag; rw [if_pos h2]; omega
    have hb1 : (n : Int) / 2 ≤ 9223372036854775807 := by omega
    have hw : IntKind.i64.wrap ((n : Int) / 2) = (n : Int) / 2 := IntWalk.i64_in _ (by omega)
    clear h2 hn
    go_enter Try.func27, Try.ntmps27
    go_wp2_with fail
    refine (HC.out _).mono ?_
    rintro x w2 ⟨rfl, hb⟩
    obtain ⟨g0, g1, g2, g3⟩ := two_kept hb
    have hlt : w.heap.size + 1 < w2.heap.size := by have := hb.size; simp at this; omega
    have HB := hid (((((Below.refl _ w).alloc (Nat.le_refl _) (.cells #[.string s0, .int .i64 e0] 39)).alloc (by simp) (.cells #[.string ⟨#[]⟩, .int .i64 0] 39)).trans (hb.mono (by simp; omega))))
    clear hb
    go_wp2_with fail
    go_region
    go_wp2_with fail
    refine bodyPost_ret (v := .tuple #[.int .i64 ((n : Int) / 2), .agg #[.string s, .int .i64 e]]) (by simp [results, Try.results27, go_sem, g0, g1, hlt]) rfl ?_
    rw [HZ.out]
    refine ⟨rfl, ?_⟩
    exact (((HB.out.setCell (by simp) _).setCell (by simp) _).alloc (by have := HB.out.size; simpa [World.setCell] using this) _).drew
  · have hm : (n : Int) % 2 = 1 := by omega
    have HZ : Hid (zag n = -((n : Int) / 2) - 1) := by show _ = _; unfold zag; rw [if_neg (by omega)]; omega
    have hb1 : (n : Int) / 2 ≤ 9223372036854775807 := by omega
    have hw : IntKind.i64.wrap ((n : Int) / 2) = (n : Int) / 2 := IntWalk.i64_in _ (by omega)
    clear h2 hn
    go_enter Try.func27, Try.ntmps27
    go_wp2_with fail
    refine (HC.out _).mono ?_
    rintro x w2 ⟨rfl, hb⟩
    obtain ⟨g0, g1, g2, g3⟩ := two_kept hb
    have hlt : w.heap.size + 1 < w2.heap.size := by have := hb.size; simp at this; omega
    have HB := hid (((((Below.refl _ w).alloc (Nat.le_refl _) (.cells #[.string s0, .int .i64 e0] 39)).alloc (by simp) (.cells #[.string ⟨#[]⟩, .int .i64 0] 39)).trans (hb.mono (by simp; omega))))
    clear hb
    go_wp2_with fail
    go_region
    go_wp2_with fail
    refine bodyPost_ret (v := .tuple #[.int .i64 (-((n : Int) / 2) - 1), .agg #[.string s, .int .i64 e]]) (by simp [results, Try.results27, go_sem, g0, g1, hlt]) rfl ?_
    rw [HZ.out]
    refine ⟨rfl, ?_⟩
    exact (((HB.out.setCell (by simp) _).setCell (by simp) _).alloc (by have := HB.out.size; simpa [World.setCell] using this) _).drew

def RefBool (s : ByteArray) (w : World) (x : Ending) (w' : World) : Prop :=
  Below w.heap.size w w' ∧ match decB s.data.toList with
  | none => x = .returned (.tuple #[.bool false, rdr ⟨#[]⟩ 11])
  | some n => x = .returned (.tuple #[.bool (n == 1), rdr (s.extract 1 s.size) 0])
set_option maxRecDepth 100000 in
theorem refBool_stop (s : ByteArray) (e : Nat) (he : e ≠ 0) (w : World) : Calls Try.prog 29 #[rdr s e] w fun x w' => x = .returned (.tuple #[.bool false, rdr s e]) ∧ Below w.heap.size w w' := by
  have he2 : ((e : Int) == 0) = false := by simp [he]
  unfold rdr
  go_enter Try.func29, Try.ntmps29
  go_wp2_with fail
  go_region
  go_wp2_with fail
  refine bodyPost_ret (v := .tuple #[.bool false, .agg #[.string s, .int .i64 e]]) (by simp [results, Try.results29, go_sem]) rfl ⟨rfl, ?_⟩
  exact (((Below.refl _ w).alloc (Nat.le_refl _) _).alloc (by simp) _).drew
set_option maxRecDepth 100000 in
theorem refBool_any' (s : ByteArray) (hs : s.size ≤ 1000000) (w : World) : Calls Try.prog 29 #[rdr s 0] w (RefBool s w) := by
  have HB2 := hid (((Below.refl _ w).alloc (Nat.le_refl _) (.cells #[.string s, .int .i64 0] 39)).alloc (by simp) (.cells #[.string ⟨#[]⟩, .int .i64 0] 39))
  unfold rdr
  by_cases h0 : s.size = 0
  · have HD : Hid (decB s.data.toList = none) := by
      have : s.data.toList = [] := by rw [← List.length_eq_zero_iff]; exact h0
      show _ = _
      rw [this]; rfl
    have hz : ((s.size : Int) == 0) = true := by simp [h0]
    clear h0
    go_enter Try.func29, Try.ntmps29
    go_wp2_with fail
    refine (fail_any 11 _).mono ?_
    rintro x w2 ⟨rfl, hb⟩
    obtain ⟨g0, g1, g2, g3⟩ := two_kept hb
    have hzb := hid (HB2.out.trans (hb.mono HB2.out.size))
    clear hb
    unfold rdr
    go_wp2_with fail
    refine bodyPost_ret (v := .tuple #[.bool false, .agg #[.string ⟨#[]⟩, .int .i64 11]]) (by simp [results, Try.results29, go_sem, g0, g1]) rfl ?_
    unfold RefBool; rw [HD.out]
    exact ⟨(hzb.out.setCell (by simp) _).setCell (by simp) _, rfl⟩
  · have hp : 0 < s.size := by omega
    have hp' : (0 : Int) < s.size := by omega
    have hz : ((s.size : Int) == 0) = false := by simp only [beq_eq_false_iff_ne]; omega
    have HDB := hid (decB_at s hp)
    by_cases h1 : 1 < s[0].toNat
    · have h1' : 1 < (s[0].toNat : Int) := by omega
      have HD : Hid (decB s.data.toList = none) := by show _ = _; rw [HDB.out, if_pos h1]
      clear h0
      go_enter Try.func29, Try.ntmps29
      go_wp2_with fail
      refine (fail_any 11 _).mono ?_
      rintro x w2 ⟨rfl, hb⟩
      obtain ⟨g0, g1, g2, g3⟩ := two_kept hb
      have hzb := hid (HB2.out.trans (hb.mono HB2.out.size))
      clear hb
      unfold rdr
      go_wp2_with fail
      refine bodyPost_ret (v := .tuple #[.bool false, .agg #[.string ⟨#[]⟩, .int .i64 11]]) (by simp [results, Try.results29, go_sem, g0, g1]) rfl ?_
      unfold RefBool; rw [HD.out]
      exact ⟨(hzb.out.setCell (by simp) _).setCell (by simp) _, rfl⟩
    · have h1' : ¬ 1 < (s[0].toNat : Int) := by omega
      have HD : Hid (decB s.data.toList = some s[0].toNat) := by show _ = _; rw [HDB.out, if_neg h1]
      clear h0
      rcases (show s[0].toNat = 0 ∨ s[0].toNat = 1 by omega) with hv | hv
      · have hb : ((s[0].toNat : Int) == 1) = false := by simp [hv]
        have HV := hid hv
        clear hv
        go_enter Try.func29, Try.ntmps29
        go_wp2_with fail
        go_region
        go_wp2_with fail
        refine bodyPost_ret (v := .tuple #[.bool false, .agg #[.string (s.extract 1 s.size), .int .i64 0]]) (by simp [results, Try.results29, go_sem]) rfl ?_
        unfold RefBool; rw [HD.out, HV.out]
        exact ⟨(((Below.refl _ w).alloc (Nat.le_refl _) _).alloc (by simp) _).drew, rfl⟩
      · have hb : ((s[0].toNat : Int) == 1) = true := by simp [hv]
        have HV := hid hv
        clear hv
        go_enter Try.func29, Try.ntmps29
        go_wp2_with fail
        go_region
        go_wp2_with fail
        refine bodyPost_ret (v := .tuple #[.bool true, .agg #[.string (s.extract 1 s.size), .int .i64 0]]) (by simp [results, Try.results29, go_sem]) rfl ?_
        unfold RefBool; rw [HD.out, HV.out]
        exact ⟨(((Below.refl _ w).alloc (Nat.le_refl _) _).alloc (by simp) _).drew, rfl⟩

set_option maxRecDepth 100000 in
theorem refEnd_any (s : ByteArray) (e : Nat) (w : World) : Calls Try.prog 38 #[rdr s e] w fun x w' => x = .returned (.int .i64 (if e = 0 ∧ 0 < s.size then 11 else e : Nat)) ∧ Below w.heap.size w w' := by
  unfold rdr
  by_cases he : e = 0
  · subst he
    by_cases hs : 0 < s.size
    · have hs' : (0 : Int) < s.size := by omega
      rw [if_pos ⟨rfl, hs⟩]
      go_enter Try.func38, Try.ntmps38
      go_wp2_with fail
      go_ret
      exact ⟨rfl, (Below.refl _ w).alloc (Nat.le_refl _) _⟩
    · have hs' : ¬ (0 : Int) < s.size := by omega
      rw [if_neg (by omega)]
      go_enter Try.func38, Try.ntmps38
      go_wp2_with fail
      go_ret
      exact ⟨rfl, (Below.refl _ w).alloc (Nat.le_refl _) _⟩
  · have he2 : ((e : Int) == 0) = false := by simp [he]
    rw [if_neg (by omega)]
    clear he
    go_enter Try.func38, Try.ntmps38
    go_wp2_with fail
    go_ret
    exact ⟨rfl, (Below.refl _ w).alloc (Nat.le_refl _) _⟩
end Go.Proofs.Ytlmhlinjlneagaa
