import Derived.Test.YtlmhlinjlneagaaWireT11
import Derived.RegionTactic
import Derived.BigRegion
import Derived.ChangeAlike
namespace Go.Proofs.Ytlmhlinjlneagaa
open Go.Lib Go.ChangeShapes Go.WideShapes Go.ChangeAt Go.RowKit

/-- a reader of the specification, as a value -/
def rdr (s : ByteArray) (e : Nat) : Value := .agg #[.string s, .int .i64 e]

theorem fail_any (e : Nat) (w : World) : Calls Try.prog 53 #[.int .i64 e] w fun x w' => x = .returned (rdr ⟨#[]⟩ e) ∧ Below w.heap.size w w' := by
  go_enter Try.func53, Try.ntmps53
  go_wp2_with fail
  refine bodyPost_ret (v := rdr ⟨#[]⟩ e) (by simp [results, Try.results53, go_sem, rdr]) rfl ⟨rfl, ?_⟩
  exact (Below.refl _ w).alloc (Nat.le_refl _) _

set_option maxRecDepth 100000 in
theorem refNumber_stop (s : ByteArray) (e : Nat) (he : e ≠ 0) (w : World) : Calls Try.prog 25 #[rdr s e] w fun x w' => x = .returned (.tuple #[.int .u64 0, rdr s e]) ∧ Below w.heap.size w w' := by
  have he2 : ((e : Int) == 0) = false := by simp [he]
  unfold rdr
  go_enter Try.func25, Try.ntmps25
  go_wp2_with fail
  go_region
  go_wp2_with fail
  refine bodyPost_ret (v := .tuple #[.int .u64 0, .agg #[.string s, .int .i64 e]]) (by simp [results, Try.results25, go_sem]) rfl ⟨rfl, ?_⟩
  exact (((Below.refl _ w).alloc (Nat.le_refl _) _).alloc (by simp) _).drew

theorem acc_add (k m x : Nat) (hk : k ≤ 9) (_hx : x < 256) (h9 : k = 9 → x ≤ 1) (hm : m < 128 ^ k) :
    IntKind.u64.wrap ((m : Int) + IntKind.u64.wrap ((x : Int) % 128 * 2 ^ (7 * k))) = ((m + x % 128 * 128 ^ k : Nat) : Int) := by
  have hd := digit_lt k x hk h9
  have hsum : m + x % 128 * 128 ^ k < 18446744073709551616 := by
    have h1 := digit_acc k m x hm
    rcases Nat.lt_or_ge k 9 with h | h
    · have h2 : 128 ^ (k + 1) ≤ 128 ^ 9 := Nat.pow_le_pow_right (by decide) (by omega)
      have h4 : 128 ^ 9 < 18446744073709551616 := by decide
      omega
    · obtain rfl : k = 9 := by omega
      have h2 : x % 128 ≤ 1 := Nat.le_trans (Nat.mod_le _ _) (h9 rfl)
      have h3 : x % 128 * 128 ^ 9 ≤ 1 * 128 ^ 9 := Nat.mul_le_mul_right _ h2
      have h4 : 128 ^ 9 + 128 ^ 9 = 18446744073709551616 := by decide
      omega
  have e2 : (x : Int) % 128 * 2 ^ (7 * k) = ((x % 128 * 128 ^ k : Nat) : Int) := by
    rw [← pow128]; simp
  rw [e2, IntWalk.u64_in ((x % 128 * 128 ^ k : Nat) : Int) (by omega), IntWalk.u64_in _ (by omega)]
  omega
/-- two blocks, the second of two cells, behind something that only adds -/
theorem two_kept {w w2 : World} {A : Array Value} {s t : TypeId} {x y : Value} (hb : Below ((w.alloc (.cells A s)).alloc (.cells #[x, y] t)).heap.size ((w.alloc (.cells A s)).alloc (.cells #[x, y] t)) w2) :
    w2.cell? ⟨w.heap.size + 1, 0, none⟩ = some x ∧ w2.cell? ⟨w.heap.size + 1, 1, none⟩ = some y ∧ w2.frozen? ⟨w.heap.size + 1, 0, none⟩ = false ∧ w2.frozen? ⟨w.heap.size + 1, 1, none⟩ = false := by
  have hh : w2.heap[w.heap.size + 1]? = some (.cells #[x, y] t (0, 0)) := by
    rw [hb.block (w.heap.size + 1) (by simp)]
    have h := (MapKept.heap_alloc (w.alloc (.cells A s)) (.cells #[x, y] t)).1
    simp only [World.size_alloc] at h
    exact h
  simp [World.cell?, World.frozen?, hh]

/-- what reading a number answers -/
def RefNum (s : ByteArray) (w : World) (x : Ending) (w' : World) : Prop :=
  Below w.heap.size w w' ∧ match dec s.data.toList 0 0 with
  | none => x = .returned (.tuple #[.int .u64 0, rdr ⟨#[]⟩ 11])
  | some (n, c) => x = .returned (.tuple #[.int .u64 n, rdr (s.extract c s.size) 0])

set_option maxRecDepth 100000 in
set_option maxHeartbeats 2000000 in
theorem refNumber_any (s : ByteArray) (hs : s.size ≤ 1000000) (w : World) : Calls Try.prog 25 #[rdr s 0] w (RefNum s w) := by
  have HB2 := hid (((Below.refl _ w).alloc (Nat.le_refl _) (.cells #[.string s, .int .i64 0] 39)).alloc (by simp) (.cells #[.string ⟨#[]⟩, .int .i64 0] 39))
  unfold rdr
  go_enter Try.func25, Try.ntmps25
  go_wp2_with fail
  go_loop [4, 5] (fun v i => ∃ k m : Nat, k ≤ s.size ∧ k ≤ 10 ∧ i = .int .i64 k ∧ v = .int .u64 m ∧ m < 128 ^ k ∧ dec s.data.toList 0 0 = dec (s.data.toList.drop k) k m) (fun _ i => 10 - (intOf i).toNat)
  case atStart => exact ⟨0, 0, by omega, by omega, rfl, rfl, by simp, rfl⟩
  case round =>
    obtain ⟨k, m, hk, hk10, rfl, rfl, hmb, hm⟩ := hrel
    have HM := hid hm
    have HB := hid hmb
    clear hm hmb
    by_cases hlt : k < s.size ∧ k < 10
    · obtain ⟨hlt, hk9⟩ := hlt
      have hlt' : (k : Int) < s.size := by omega
      have hk9' : (k : Int) < 10 := by omega
      have HA := hid (fun (h9 : k = 9 → s[k].toNat ≤ 1) => acc_add k m s[k].toNat (by omega) s[k].toNat_lt h9 HB.out)
      have HD := hid (dec_at s k m hlt)
      by_cases hbad : k = 9 ∧ 1 < s[k].toNat
      · have HK := hid hbad
        have hkb : ((k : Int) == 9) = true := by simp [hbad.1]
        have hb1 : 1 < (s[k].toNat : Int) := by have := hbad.2; omega
        clear hbad
        go_wp2_with fail
        refine (fail_any 11 _).mono ?_
        rintro x w2 ⟨rfl, hb⟩
        obtain ⟨g0, g1, g2, g3⟩ := two_kept hb
        have hz := hid (HB2.out.trans (hb.mono HB2.out.size))
        clear hb
        unfold rdr
        go_wp2_with fail
        refine bodyPost_ret (v := .tuple #[.int .u64 0, .agg #[.string ⟨#[]⟩, .int .i64 11]]) (by simp [results, Try.results25, go_sem, g0, g1]) rfl ?_
        unfold RefNum; rw [HM.out, HD.out, if_neg (by omega), if_pos HK.out]
        exact ⟨(hz.out.setCell (by simp) _).setCell (by simp) _, rfl⟩
      · have hx9 : k = 9 → s[k].toNat ≤ 1 := fun h => by
          rcases Nat.lt_or_ge 1 s[k].toNat with h1 | h1
          · exact absurd ⟨h, h1⟩ hbad
          · exact h1
        have HV := hid (HA.out hx9)
        have HG := hid hbad
        obtain ⟨y, hy⟩ : ∃ y, y = m + s[k].toNat % 128 * 128 ^ k := ⟨_, rfl⟩
        have hval := HV.out
        rw [← hy] at hval
        have HY := hid hy
        have HX9 := hid hx9
        clear hbad hx9 hy
        by_cases h128 : 128 ≤ s[k].toNat
        · have h9 : ((k : Int) == 9) = false := by
            have := HX9.out
            simp only [beq_eq_false_iff_ne]; omega
          have h1 : ¬ (s[k].toNat : Int) < 128 := by omega
          go_wp2_with fail
          go_round
          case rel => exact ⟨k + 1, y, by omega, by omega, by go_num, rfl, by rw [HY.out]; exact digit_acc _ _ _ HB.out, by rw [HM.out, HD.out, if_neg (by omega), if_neg HG.out, if_pos h128, ← HY.out]⟩
          case measure => simp [intOf]; omega
        · have h1 : (s[k].toNat : Int) < 128 := by omega
          have hgt : k = 9 → ¬ 1 < (s[k].toNat : Int) := fun h => by have := HX9.out h; omega
          have HGT := hid hgt
          clear hgt
          by_cases h0 : s[k].toNat = 0
          · have e0 : dec (s.data.toList.drop k) k m = if 0 < k then none else some (y, k + 1) := by
              rw [HD.out, if_neg (by omega), if_neg HG.out, if_neg h128, ← HY.out]
              by_cases hp : 0 < k
              · rw [if_pos ⟨h0, hp⟩, if_pos hp]
              · rw [if_neg (by omega), if_neg hp]
            have HE0 := hid e0
            have HZ := hid h0
            have hb0 : ((s[k].toNat : Int) == 0) = true := by simp [h0]
            clear e0 h0
            by_cases hp : 0 < k
            · have hp' : (0 : Int) < k := by omega
              by_cases h9 : k = 9
              · have h9b : ((k : Int) == 9) = true := by simp [h9]
                have hq : ¬ 1 < (s[k].toNat : Int) := HGT.out h9
                clear h9
                go_wp2_with fail
                refine (fail_any 11 _).mono ?_
                rintro x w2 ⟨rfl, hb⟩
                obtain ⟨g0, g1, g2, g3⟩ := two_kept hb
                have hz := hid (HB2.out.trans (hb.mono HB2.out.size))
                clear hb
                unfold rdr
                go_wp2_with fail
                refine bodyPost_ret (v := .tuple #[.int .u64 0, .agg #[.string ⟨#[]⟩, .int .i64 11]]) (by simp [results, Try.results25, go_sem, g0, g1]) rfl ?_
                unfold RefNum; rw [HM.out, HE0.out, if_pos hp]
                exact ⟨(hz.out.setCell (by simp) _).setCell (by simp) _, rfl⟩
              · have h9b : ((k : Int) == 9) = false := by simp only [beq_eq_false_iff_ne]; omega
                clear h9
                go_wp2_with fail
                refine (fail_any 11 _).mono ?_
                rintro x w2 ⟨rfl, hb⟩
                obtain ⟨g0, g1, g2, g3⟩ := two_kept hb
                have hz := hid (HB2.out.trans (hb.mono HB2.out.size))
                clear hb
                unfold rdr
                go_wp2_with fail
                refine bodyPost_ret (v := .tuple #[.int .u64 0, .agg #[.string ⟨#[]⟩, .int .i64 11]]) (by simp [results, Try.results25, go_sem, g0, g1]) rfl ?_
                unfold RefNum; rw [HM.out, HE0.out, if_pos hp]
                exact ⟨(hz.out.setCell (by simp) _).setCell (by simp) _, rfl⟩
            · have hk0 : k = 0 := by omega
              have h9b : ((k : Int) == 9) = false := by simp only [beq_eq_false_iff_ne]; omega
              have hp' : ¬ (0 : Int) < k := by omega
              have HK0 := hid hk0
              clear hk0
              go_wp2_with fail
              go_region
              go_wp2_with fail
              refine bodyPost_ret (v := .tuple #[.int .u64 y, .agg #[.string (s.extract (k + 1) s.size), .int .i64 0]]) (by simp [results, Try.results25, go_sem]) rfl ?_
              unfold RefNum; rw [HM.out, HE0.out, if_neg hp]
              exact ⟨(((Below.refl _ w).alloc (Nat.le_refl _) _).alloc (by simp) _).drew, rfl⟩
          · have HE0 : Hid (dec (s.data.toList.drop k) k m = some (y, k + 1)) := by
              show _ = _
              rw [HD.out, if_neg (by omega), if_neg HG.out, if_neg h128, if_neg (by omega), ← HY.out]
            have hb0 : ((s[k].toNat : Int) == 0) = false := by simp only [beq_eq_false_iff_ne]; omega
            clear h0
            by_cases h9 : k = 9
            · have h9b : ((k : Int) == 9) = true := by simp [h9]
              have hq : ¬ 1 < (s[k].toNat : Int) := HGT.out h9
              clear h9
              go_wp2_with fail
              go_region
              go_wp2_with fail
              refine bodyPost_ret (v := .tuple #[.int .u64 y, .agg #[.string (s.extract (k + 1) s.size), .int .i64 0]]) (by simp [results, Try.results25, go_sem]) rfl ?_
              unfold RefNum; rw [HM.out, HE0.out]
              exact ⟨(((Below.refl _ w).alloc (Nat.le_refl _) _).alloc (by simp) _).drew, rfl⟩
            · have h9b : ((k : Int) == 9) = false := by simp only [beq_eq_false_iff_ne]; omega
              clear h9
              go_wp2_with fail
              go_region
              go_wp2_with fail
              refine bodyPost_ret (v := .tuple #[.int .u64 y, .agg #[.string (s.extract (k + 1) s.size), .int .i64 0]]) (by simp [results, Try.results25, go_sem]) rfl ?_
              unfold RefNum; rw [HM.out, HE0.out]
              exact ⟨(((Below.refl _ w).alloc (Nat.le_refl _) _).alloc (by simp) _).drew, rfl⟩
    · have HE0 : Hid (dec (s.data.toList.drop k) k m = none) := by
        show _ = _
        rcases Nat.lt_or_ge k s.size with h | h
        · rw [dec_at s k m h, if_pos (by omega)]
        · rw [List.drop_eq_nil_of_le (by simpa using h)]; rfl
      by_cases hsz : k < s.size
      · have h1 : (k : Int) < s.size := by omega
        have h2 : ¬ (k : Int) < 10 := by omega
        clear hlt
        go_wp2_with fail
        refine (fail_any 11 _).mono ?_
        rintro x w2 ⟨rfl, hb⟩
        obtain ⟨g0, g1, g2, g3⟩ := two_kept hb
        have hz := hid (HB2.out.trans (hb.mono HB2.out.size))
        clear hb
        unfold rdr
        go_wp2_with fail
        refine bodyPost_ret (v := .tuple #[.int .u64 0, .agg #[.string ⟨#[]⟩, .int .i64 11]]) (by simp [results, Try.results25, go_sem, g0, g1]) rfl ?_
        unfold RefNum; rw [HM.out, HE0.out]
        exact ⟨(hz.out.setCell (by simp) _).setCell (by simp) _, rfl⟩
      · have h1 : ¬ (k : Int) < s.size := by omega
        clear hlt
        go_wp2_with fail
        refine (fail_any 11 _).mono ?_
        rintro x w2 ⟨rfl, hb⟩
        obtain ⟨g0, g1, g2, g3⟩ := two_kept hb
        have hz := hid (HB2.out.trans (hb.mono HB2.out.size))
        clear hb
        unfold rdr
        go_wp2_with fail
        refine bodyPost_ret (v := .tuple #[.int .u64 0, .agg #[.string ⟨#[]⟩, .int .i64 11]]) (by simp [results, Try.results25, go_sem, g0, g1]) rfl ?_
        unfold RefNum; rw [HM.out, HE0.out]
        exact ⟨(hz.out.setCell (by simp) _).setCell (by simp) _, rfl⟩
end Go.Proofs.Ytlmhlinjlneagaa
