import Derived.Test.YtlmhlinjlneagaaWireT4
namespace Go.Proofs.Ytlmhlinjlneagaa
open Go.Lib Go.ChangeShapes Go.WideShapes Go.ChangeAt Go.RowKit

set_option maxRecDepth 100000 in
theorem number_meth (b : Nat) (s : ByteArray) (hs : s.size ≤ 9223372036854775807) (w : World) (h : Rd w b s 0) :
    Calls Try.prog 26 #[.pointer (some ⟨b, 0, none⟩)] w (NumRead b s w) := by
  have HR := hid (read_number b s hs w h)
  clear h hs
  go_enter Try.func26, Try.ntmps26
  go_wp2_with fail
  refine HR.out.mono ?_
  intro x w' hx
  have HX := hid hx
  unfold NumRead at hx
  obtain ⟨n, rfl⟩ : ∃ n : Nat, x = .returned (.int .u64 n) := by
    cases hd : dec s.data.toList 0 0 with
    | none => rw [hd] at hx; exact ⟨0, hx.1⟩
    | some p => rw [hd] at hx; exact ⟨p.1, hx.2.1⟩
  clear hx
  go_wp2_with fail
  go_ret
  exact HX.out

theorem app_x0 (w : World) : Calls Try.prog 16 #[.string ⟨#[120]⟩, .int .u64 0] w fun e w' => e = .returned (.string ⟨#[120, 0]⟩) ∧ Below w.heap.size w w' :=
  (appendNumber_any ⟨#[120]⟩ (by decide) 0 (by show 0 < _; omega) w).mono fun e w' ⟨he, hb⟩ => ⟨he.trans (by kernel_rfl), hb⟩
theorem app_127 (w : World) : Calls Try.prog 16 #[.string ⟨#[]⟩, .int .u64 127] w fun e w' => e = .returned (.string ⟨#[127]⟩) ∧ Below w.heap.size w w' :=
  (appendNumber_any ⟨#[]⟩ (by decide) 127 (by show 127 < _; omega) w).mono fun e w' ⟨he, hb⟩ => ⟨he.trans (by kernel_rfl), hb⟩
theorem app_300 (w : World) : Calls Try.prog 16 #[.string ⟨#[]⟩, .int .u64 300] w fun e w' => e = .returned (.string ⟨#[172, 2]⟩) ∧ Below w.heap.size w w' :=
  (appendNumber_any ⟨#[]⟩ (by decide) 300 (by show 300 < _; omega) w).mono fun e w' ⟨he, hb⟩ => ⟨he.trans (by kernel_rfl), hb⟩
theorem app_m3 (w : World) : Calls Try.prog 18 #[.string ⟨#[]⟩, .int .i64 (-3)] w fun e w' => e = .returned (.string ⟨#[5]⟩) ∧ Below w.heap.size w w' :=
  (appendInt_any ⟨#[]⟩ (by decide) (-3) (by omega) (by omega) w).mono fun e w' ⟨he, hb⟩ => ⟨he.trans (by kernel_rfl), hb⟩

theorem app_empty (n : Nat) (h : Hid (n < 18446744073709551616)) (w : World) : Calls Try.prog 16 #[.string ⟨#[]⟩, .int .u64 n] w fun e w' => e = .returned (.string ⟨(enc 9 n).toArray⟩) ∧ Below w.heap.size w w' :=
  (appendNumber_any ⟨#[]⟩ (by decide) n h w).mono fun e w' ⟨he, hb⟩ => ⟨he.trans (by congr 2), hb⟩

set_option maxRecDepth 100000 in
theorem awake_any (w : World) : Calls Try.prog 15 #[] w fun e w' => e = .returned (.bool true) ∧ Below w.heap.size w w' := by
  go_enter Try.func15, Try.ntmps15
  go_wp2_with fail
  refine (app_x0 _).mono ?_
  rintro e w1 ⟨rfl, hb1⟩
  go_wp2_with fail
  refine (app_127 _).mono ?_
  rintro e w2 ⟨rfl, hb2⟩
  go_wp2_with fail
  refine (app_300 _).mono ?_
  rintro e w3 ⟨rfl, hb3⟩
  go_wp2_with fail
  refine (app_m3 _).mono ?_
  rintro e w4 ⟨rfl, hb4⟩
  go_wp2_with fail
  refine (newReader_any _ _).mono ?_
  rintro e w5 ⟨rfl, rfl⟩
  go_wp2_with fail
  have hr : Rd (w4.alloc (.cells #[.string ⟨#[128, 0]⟩, .int .i64 0] 79)) w4.heap.size ⟨#[128, 0]⟩ 0 := (MapKept.heap_alloc w4 _).1
  refine (number_meth w4.heap.size ⟨#[128, 0]⟩ (by decide) _ hr).mono ?_
  intro x w' hx
  have hd : dec (ByteArray.mk #[128, 0]).data.toList 0 0 = none := by decide
  unfold NumRead at hx
  rw [hd] at hx
  obtain ⟨rfl, hR, hU⟩ := hx
  have HU := hid hU
  have HR := hid hR
  clear hd hr hR hU
  go_wp2_with fail
  refine (end_any _ _ _ _ HR.out).mono ?_
  rintro e w6 ⟨rfl, rfl⟩
  go_wp2_with fail
  go_ret
  have hle : w.heap.size ≤ w4.heap.size := by have := hb1.size; have := hb2.size; have := hb3.size; have := hb4.size; omega
  refine ⟨rfl, ?_⟩
  have h4 : Below w.heap.size w w4 := ((hb1.trans (hb2.mono hb1.size)).trans (hb3.mono (by have := hb1.size; have := hb2.size; omega))).trans (hb4.mono (by have := hb1.size; have := hb2.size; have := hb3.size; omega))
  exact (h4.alloc hle _).trans (HU.out.below hle (by simp; omega))
end Go.Proofs.Ytlmhlinjlneagaa
