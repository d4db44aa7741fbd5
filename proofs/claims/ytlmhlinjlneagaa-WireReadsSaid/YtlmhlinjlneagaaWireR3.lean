import Derived.Test.YtlmhlinjlneagaaWireR2
namespace Go.Proofs.Ytlmhlinjlneagaa
open Go.Lib Go.ChangeShapes Go.WideShapes Go.ChangeAt Go.RowKit

set_option maxRecDepth 100000 in
set_option maxHeartbeats 1000000 in
theorem refCount_err (s0 s : ByteArray) (e0 e : Nat) (he : e ≠ 0) (most : Int) (w : World) (hc : ∀ w, Calls Try.prog 25 #[rdr s0 e0] w fun x w' => x = .returned (.tuple #[.int .u64 0, rdr s e]) ∧ Below w.heap.size w w') :
    Calls Try.prog 33 #[rdr s0 e0, .int .i64 most] w fun x w' => x = .returned (.tuple #[.int .i64 0, rdr s e]) ∧ Below w.heap.size w w' := by
  have HC := hid hc
  have he2 : ((e : Int) == 0) = false := by simp [he]
  clear hc he
  unfold rdr at *
  go_enter Try.func33, Try.ntmps33
  go_wp2_with fail
  refine (HC.out _).mono ?_
  rintro x w2 ⟨rfl, hb⟩
  obtain ⟨g0, g1, g2, g3⟩ := two_kept hb
  have hlt : w.heap.size + 1 < w2.heap.size := by have := hb.size; simp at this; omega
  have HW := hid hb
  have HB := hid (((((Below.refl _ w).alloc (Nat.le_refl _) (.cells #[.string s0, .int .i64 e0] 39)).alloc (by simp) (.cells #[.string ⟨#[]⟩, .int .i64 0] 39)).trans (hb.mono (by simp; omega))))
  clear hb
  go_wp2_with fail
  go_region
  go_wp2_with fail
  refine bodyPost_ret (v := .tuple #[.int .i64 0, .agg #[.string s, .int .i64 e]]) (by simp [results, Try.results33, go_sem, g0, g1, hlt]) rfl ⟨rfl, ?_⟩
  exact (((HB.out.setCell (by simp) _).setCell (by simp) _).alloc (by have := HB.out.size; simpa [World.setCell] using this) _).drew

set_option maxRecDepth 100000 in
set_option maxHeartbeats 1000000 in
theorem refCount_more (s0 s : ByteArray) (e0 n : Nat) (most : Int) (m1 : most ≤ 9223372036854775807) (hm : most < (n : Int)) (w : World) (hc : ∀ w, Calls Try.prog 25 #[rdr s0 e0] w fun x w' => x = .returned (.tuple #[.int .u64 n, rdr s 0]) ∧ Below w.heap.size w w') :
    Calls Try.prog 33 #[rdr s0 e0, .int .i64 most] w fun x w' => x = .returned (.tuple #[.int .i64 0, rdr ⟨#[]⟩ 8]) ∧ Below w.heap.size w w' := by
  have HC := hid hc
  clear hc
  unfold rdr at *
  by_cases hneg : most < 0
  · clear hm
    go_enter Try.func33, Try.ntmps33
    go_wp2_with fail
    refine (HC.out _).mono ?_
    rintro x w2 ⟨rfl, hb⟩
    obtain ⟨g0, g1, g2, g3⟩ := two_kept hb
    have hlt : w.heap.size + 1 < w2.heap.size := by have := hb.size; simp at this; omega
    have HW := hid hb
    have HB := hid (((((Below.refl _ w).alloc (Nat.le_refl _) (.cells #[.string s0, .int .i64 e0] 39)).alloc (by simp) (.cells #[.string ⟨#[]⟩, .int .i64 0] 39)).trans (hb.mono (by simp; omega))))
    clear hb
    go_wp2_with fail
    refine (fail_any 8 _).mono ?_
    rintro x w3 ⟨rfl, hb3⟩
    obtain ⟨k0, k1, k2, k3⟩ := two_kept ((HW.out.alloc HW.out.size (.cells #[.string s, .int .i64 0] 39)).trans (hb3.mono (by have := HW.out.size; simp at this ⊢; omega)))
    have hlt3 : w.heap.size + 1 < w3.heap.size := by have := hb3.size; simp at this; omega
    have HB3 := hid ((HB.out.alloc HB.out.size (.cells #[.string s, .int .i64 0] 39)).trans (hb3.mono (by have := HB.out.size; simp; omega)))
    clear hb3
    unfold rdr
    go_wp2_with fail
    refine bodyPost_ret (v := .tuple #[.int .i64 0, .agg #[.string ⟨#[]⟩, .int .i64 8]]) (by simp [results, Try.results33, go_sem, k0, k1]) rfl ⟨rfl, ?_⟩
    exact (HB3.out.setCell (by simp) _).setCell (by simp) _
  · obtain ⟨m, rfl⟩ := Int.eq_ofNat_of_zero_le (show 0 ≤ most by omega)
    have hw : IntKind.u64.wrap (m : Int) = m := IntWalk.u64_in _ (by omega)
    go_enter Try.func33, Try.ntmps33
    go_wp2_with fail
    refine (HC.out _).mono ?_
    rintro x w2 ⟨rfl, hb⟩
    obtain ⟨g0, g1, g2, g3⟩ := two_kept hb
    have hlt : w.heap.size + 1 < w2.heap.size := by have := hb.size; simp at this; omega
    have HW := hid hb
    have HB := hid (((((Below.refl _ w).alloc (Nat.le_refl _) (.cells #[.string s0, .int .i64 e0] 39)).alloc (by simp) (.cells #[.string ⟨#[]⟩, .int .i64 0] 39)).trans (hb.mono (by simp; omega))))
    clear hb
    go_wp2_with fail
    refine (fail_any 8 _).mono ?_
    rintro x w3 ⟨rfl, hb3⟩
    obtain ⟨k0, k1, k2, k3⟩ := two_kept ((HW.out.alloc HW.out.size (.cells #[.string s, .int .i64 0] 39)).trans (hb3.mono (by have := HW.out.size; simp at this ⊢; omega)))
    have hlt3 : w.heap.size + 1 < w3.heap.size := by have := hb3.size; simp at this; omega
    have HB3 := hid ((HB.out.alloc HB.out.size (.cells #[.string s, .int .i64 0] 39)).trans (hb3.mono (by have := HB.out.size; simp; omega)))
    clear hb3
    unfold rdr
    go_wp2_with fail
    refine bodyPost_ret (v := .tuple #[.int .i64 0, .agg #[.string ⟨#[]⟩, .int .i64 8]]) (by simp [results, Try.results33, go_sem, k0, k1]) rfl ⟨rfl, ?_⟩
    exact (HB3.out.setCell (by simp) _).setCell (by simp) _

set_option maxRecDepth 100000 in
set_option maxHeartbeats 1000000 in
theorem refCount_ok (s0 s : ByteArray) (e0 n m : Nat) (m1 : m ≤ 9223372036854775807) (hm : n ≤ m) (w : World) (hc : ∀ w, Calls Try.prog 25 #[rdr s0 e0] w fun x w' => x = .returned (.tuple #[.int .u64 n, rdr s 0]) ∧ Below w.heap.size w w') :
    Calls Try.prog 33 #[rdr s0 e0, .int .i64 m] w fun x w' => x = .returned (.tuple #[.int .i64 n, rdr s 0]) ∧ Below w.heap.size w w' := by
  have HC := hid hc
  have hw : IntKind.u64.wrap (m : Int) = m := IntWalk.u64_in _ (by omega)
  have hw2 : IntKind.i64.wrap (n : Int) = n := IntWalk.i64_in _ (by omega)
  have hmn : ¬ (m : Int) < n := by omega
  have hm0 : ¬ (m : Int) < 0 := by omega
  clear hc hm
  unfold rdr at *
  go_enter Try.func33, Try.ntmps33
  go_wp2_with fail
  refine (HC.out _).mono ?_
  rintro x w2 ⟨rfl, hb⟩
  obtain ⟨g0, g1, g2, g3⟩ := two_kept hb
  have hlt : w.heap.size + 1 < w2.heap.size := by have := hb.size; simp at this; omega
  have HW := hid hb
  have HB := hid (((((Below.refl _ w).alloc (Nat.le_refl _) (.cells #[.string s0, .int .i64 e0] 39)).alloc (by simp) (.cells #[.string ⟨#[]⟩, .int .i64 0] 39)).trans (hb.mono (by simp; omega))))
  clear hb
  go_wp2_with fail
  go_region
  go_wp2_with fail
  refine bodyPost_ret (v := .tuple #[.int .i64 n, .agg #[.string s, .int .i64 0]]) (by simp [results, Try.results33, go_sem, g0, g1, hlt]) rfl ⟨rfl, ?_⟩
  exact (((HB.out.setCell (by simp) _).setCell (by simp) _).alloc (by have := HB.out.size; simpa [World.setCell] using this) _).drew

set_option maxRecDepth 100000 in
set_option maxHeartbeats 1000000 in
theorem refText_err (s0 s : ByteArray) (e0 e : Nat) (he : e ≠ 0) (n : Nat) (most : Int) (w : World) (hc : ∀ w, Calls Try.prog 33 #[rdr s0 e0, .int .i64 most] w fun x w' => x = .returned (.tuple #[.int .i64 n, rdr s e]) ∧ Below w.heap.size w w') :
    Calls Try.prog 31 #[rdr s0 e0, .int .i64 most] w fun x w' => x = .returned (.tuple #[.string ⟨#[]⟩, rdr s e]) ∧ Below w.heap.size w w' := by
  have HC := hid hc
  have he2 : ((e : Int) == 0) = false := by simp [he]
  clear hc he
  unfold rdr at *
  go_enter Try.func31, Try.ntmps31
  go_wp2_with fail
  refine (HC.out _).mono ?_
  rintro x w2 ⟨rfl, hb⟩
  obtain ⟨g0, g1, g2, g3⟩ := two_kept hb
  have hlt : w.heap.size + 1 < w2.heap.size := by have := hb.size; simp at this; omega
  have HW := hid hb
  have HB := hid (((((Below.refl _ w).alloc (Nat.le_refl _) (.cells #[.string s0, .int .i64 e0] 39)).alloc (by simp) (.cells #[.string ⟨#[]⟩, .int .i64 0] 39)).trans (hb.mono (by simp; omega))))
  clear hb
  go_wp2_with fail
  go_region
  go_wp2_with fail
  refine bodyPost_ret (v := .tuple #[.string ⟨#[]⟩, .agg #[.string s, .int .i64 e]]) (by simp [results, Try.results31, go_sem, g0, g1, hlt]) rfl ⟨rfl, ?_⟩
  exact (((HB.out.setCell (by simp) _).setCell (by simp) _).alloc (by have := HB.out.size; simpa [World.setCell] using this) _).drew

set_option maxRecDepth 100000 in
set_option maxHeartbeats 1000000 in
theorem refText_more (s0 s : ByteArray) (e0 n : Nat) (hn : s.size < n) (most : Int) (w : World) (hc : ∀ w, Calls Try.prog 33 #[rdr s0 e0, .int .i64 most] w fun x w' => x = .returned (.tuple #[.int .i64 n, rdr s 0]) ∧ Below w.heap.size w w') :
    Calls Try.prog 31 #[rdr s0 e0, .int .i64 most] w fun x w' => x = .returned (.tuple #[.string ⟨#[]⟩, rdr ⟨#[]⟩ 11]) ∧ Below w.heap.size w w' := by
  have HC := hid hc
  have hn' : (s.size : Int) < n := by omega
  clear hc
  unfold rdr at *
  go_enter Try.func31, Try.ntmps31
  go_wp2_with fail
  refine (HC.out _).mono ?_
  rintro x w2 ⟨rfl, hb⟩
  obtain ⟨g0, g1, g2, g3⟩ := two_kept hb
  have hlt : w.heap.size + 1 < w2.heap.size := by have := hb.size; simp at this; omega
  have HW := hid hb
  have HB := hid (((((Below.refl _ w).alloc (Nat.le_refl _) (.cells #[.string s0, .int .i64 e0] 39)).alloc (by simp) (.cells #[.string ⟨#[]⟩, .int .i64 0] 39)).trans (hb.mono (by simp; omega))))
  clear hb
  go_wp2_with fail
  refine (fail_any 11 _).mono ?_
  rintro x w3 ⟨rfl, hb3⟩
  obtain ⟨k0, k1, k2, k3⟩ := two_kept ((HW.out.alloc HW.out.size (.cells #[.string s, .int .i64 0] 39)).trans (hb3.mono (by have := HW.out.size; simp at this ⊢; omega)))
  have hlt3 : w.heap.size + 1 < w3.heap.size := by have := hb3.size; simp at this; omega
  have HB3 := hid ((HB.out.alloc HB.out.size (.cells #[.string s, .int .i64 0] 39)).trans (hb3.mono (by have := HB.out.size; simp; omega)))
  clear hb3
  unfold rdr
  go_wp2_with fail
  refine bodyPost_ret (v := .tuple #[.string ⟨#[]⟩, .agg #[.string ⟨#[]⟩, .int .i64 11]]) (by simp [results, Try.results31, go_sem, k0, k1]) rfl ⟨rfl, ?_⟩
  exact (HB3.out.setCell (by simp) _).setCell (by simp) _

set_option maxRecDepth 100000 in
set_option maxHeartbeats 1000000 in
theorem refText_ok (s0 s : ByteArray) (e0 n : Nat) (hn : n ≤ s.size) (_hs : s.size ≤ 1000000) (most : Int) (w : World) (hc : ∀ w, Calls Try.prog 33 #[rdr s0 e0, .int .i64 most] w fun x w' => x = .returned (.tuple #[.int .i64 n, rdr s 0]) ∧ Below w.heap.size w w') :
    Calls Try.prog 31 #[rdr s0 e0, .int .i64 most] w fun x w' => x = .returned (.tuple #[.string (s.extract 0 n), rdr (s.extract n s.size) 0]) ∧ Below w.heap.size w w' := by
  have HC := hid hc
  have hn' : ¬ (s.size : Int) < n := by omega
  have hn2 : (n : Int) ≤ s.size := by omega
  obtain ⟨t, ht⟩ : ∃ t, t = s.extract 0 n := ⟨_, rfl⟩
  obtain ⟨u, hu⟩ : ∃ u, u = s.extract n s.size := ⟨_, rfl⟩
  have ht' := ht.symm
  have hu' := hu.symm
  rw [← ht, ← hu]
  clear hc ht hu
  unfold rdr at *
  go_enter Try.func31, Try.ntmps31
  go_wp2_with fail
  refine (HC.out _).mono ?_
  rintro x w2 ⟨rfl, hb⟩
  obtain ⟨g0, g1, g2, g3⟩ := two_kept hb
  have hlt : w.heap.size + 1 < w2.heap.size := by have := hb.size; simp at this; omega
  have HW := hid hb
  have HB := hid (((((Below.refl _ w).alloc (Nat.le_refl _) (.cells #[.string s0, .int .i64 e0] 39)).alloc (by simp) (.cells #[.string ⟨#[]⟩, .int .i64 0] 39)).trans (hb.mono (by simp; omega))))
  clear hb
  go_wp2_with fail
  go_region
  go_wp2_with fail
  refine bodyPost_ret (v := .tuple #[.string t, .agg #[.string u, .int .i64 0]]) (by simp [results, Try.results31, go_sem, g0, g1, hlt]) rfl ⟨rfl, ?_⟩
  exact (((HB.out.setCell (by simp) _).setCell (by simp) _).alloc (by have := HB.out.size; simpa [World.setCell] using this) _).drew

end Go.Proofs.Ytlmhlinjlneagaa
