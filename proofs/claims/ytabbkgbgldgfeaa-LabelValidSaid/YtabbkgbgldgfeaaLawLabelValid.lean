/- For all labels and numbers of tracks, Valid, Equal and Encode answer what the specification answers; names of at most 100 bytes, notes of at most 500 bytes, 30 extents. -/
import Derived.Test.YtabbkgbgldgfeaaRows
import Derived.WalkKit
import Derived.ProofKit
import Derived.OpenShut
import Derived.ShutString
import Derived.ChangeOld
import Derived.Below
import Derived.Test.YtabbkgbgldgfeaaLabF
namespace Go.Proofs.Ytabbkgbgldgfeaa
open Go.Lib Go.ChangeShapes Go.WideShapes Go.ChangeAt Go.RowKit
open Go.ChangeMaps (open_string shut_string)
set_option linter.unusedVariables false
set_option maxRecDepth 100000 in
set_option maxHeartbeats 4000000 in
theorem walk_LabelValid (l : Lab) (v : Value) (k : Lab) (u : Value) (tr : Int) {w : World} (hl : LabAt w l v) (hk : LabAt w k u) (h : -9223372036854775808 ≤ tr ∧ tr ≤ 9223372036854775807) :
    Calls Try.prog 3 #[labV l v, labV k u, .int .i64 tr] w fun e w' => e = .returned (.bool true) ∧ Below w.heap.size w w' := by
  obtain ⟨hr, hi, hu, hn, ht⟩ := hl
  obtain ⟨hr2, hi2, hu2, hn2, ht2⟩ := hk
  have HR := hid hr
  have HR2 := hid hr2
  clear hi hu hn ht hi2 hu2 hn2 ht2 hr hr2
  have HT0 := hid (Two.boxes w l k v u)
  obtain ⟨w0, hw0⟩ : ∃ w0, w0 = (w.alloc (.cells #[.int .i64 l.id, .int .i64 l.unit, .string l.name, .string l.note, v] 24)).alloc (.cells #[.int .i64 k.id, .int .i64 k.unit, .string k.name, .string k.note, u] 24) := ⟨_, rfl⟩
  rw [← hw0] at HT0
  have HW0 := hid hw0
  obtain ⟨b, hb⟩ : ∃ b, b = w.heap.size := ⟨_, rfl⟩
  have HBE := hid hb
  rw [← hb] at HT0
  have F1 := fun W (hW : Below w.heap.size w W) => hid (few_lab l v W (HR.out.below hW (Nat.le_refl _)))
  have F2 := fun W (hW : Below w.heap.size w W) => hid (few_lab k u W (HR2.out.below hW (Nat.le_refl _)))
  clear hw0 hb
  by_cases g1 : fewL l
  rotate_left
  · rw [decide_eq_false g1] at F1
    go_enter Try.func3, Try.ntmps3
    go_upto_region 1 with fail
    rw [← HW0.out, ← HBE.out]
    go_wp2_with fail
    refine (labAwake_any _).mono ?_
    rintro e w1 ⟨rfl, hb⟩
    have HT1 := hid (HT0.out.below hb)
    clear hb
    have pl0 := HT1.out.1.1.cell (i := 0) rfl
    have pl1 := HT1.out.1.1.cell (i := 1) rfl
    have pl2 := HT1.out.1.1.cell (i := 2) rfl
    have pl3 := HT1.out.1.1.cell (i := 3) rfl
    have pl4 := HT1.out.1.1.cell (i := 4) rfl
    have pk0 := HT1.out.2.1.cell (i := 0) rfl
    have pk1 := HT1.out.2.1.cell (i := 1) rfl
    have pk2 := HT1.out.2.1.cell (i := 2) rfl
    have pk3 := HT1.out.2.1.cell (i := 3) rfl
    have pk4 := HT1.out.2.1.cell (i := 4) rfl
    have pl5 := HT1.out.1.1.lt
    have pk5 := HT1.out.2.1.lt
    go_wp2_with fail
    refine (F1 w1 HT1.out.1.2).out.mono ?_
    rintro e w2 ⟨rfl, hb⟩
    have HT2 := hid (HT1.out.below hb)
    clear hb
    clear pl0 pl1 pl2 pl3 pl4 pl5 pk0 pk1 pk2 pk3 pk4 pk5
    go_wp2_with fail
    refine (labAwake_any _).mono ?_
    rintro e w3 ⟨rfl, hb⟩
    have HT3 := hid (HT2.out.below hb)
    clear hb
    go_wp2_with fail
    go_ret
    exact ⟨rfl, HT3.out.1.2⟩
  rw [decide_eq_true g1] at F1
  by_cases g2 : fewL k
  rotate_left
  · rw [decide_eq_false g2] at F2
    go_enter Try.func3, Try.ntmps3
    go_upto_region 1 with fail
    rw [← HW0.out, ← HBE.out]
    go_wp2_with fail
    refine (labAwake_any _).mono ?_
    rintro e w1 ⟨rfl, hb⟩
    have HT1 := hid (HT0.out.below hb)
    clear hb
    have pl0 := HT1.out.1.1.cell (i := 0) rfl
    have pl1 := HT1.out.1.1.cell (i := 1) rfl
    have pl2 := HT1.out.1.1.cell (i := 2) rfl
    have pl3 := HT1.out.1.1.cell (i := 3) rfl
    have pl4 := HT1.out.1.1.cell (i := 4) rfl
    have pk0 := HT1.out.2.1.cell (i := 0) rfl
    have pk1 := HT1.out.2.1.cell (i := 1) rfl
    have pk2 := HT1.out.2.1.cell (i := 2) rfl
    have pk3 := HT1.out.2.1.cell (i := 3) rfl
    have pk4 := HT1.out.2.1.cell (i := 4) rfl
    have pl5 := HT1.out.1.1.lt
    have pk5 := HT1.out.2.1.lt
    go_wp2_with fail
    refine (F1 w1 HT1.out.1.2).out.mono ?_
    rintro e w2 ⟨rfl, hb⟩
    have HT2 := hid (HT1.out.below hb)
    clear hb
    clear pl0 pl1 pl2 pl3 pl4 pl5 pk0 pk1 pk2 pk3 pk4 pk5
    have pl0 := HT2.out.1.1.cell (i := 0) rfl
    have pl1 := HT2.out.1.1.cell (i := 1) rfl
    have pl2 := HT2.out.1.1.cell (i := 2) rfl
    have pl3 := HT2.out.1.1.cell (i := 3) rfl
    have pl4 := HT2.out.1.1.cell (i := 4) rfl
    have pk0 := HT2.out.2.1.cell (i := 0) rfl
    have pk1 := HT2.out.2.1.cell (i := 1) rfl
    have pk2 := HT2.out.2.1.cell (i := 2) rfl
    have pk3 := HT2.out.2.1.cell (i := 3) rfl
    have pk4 := HT2.out.2.1.cell (i := 4) rfl
    have pl5 := HT2.out.1.1.lt
    have pk5 := HT2.out.2.1.lt
    go_wp2_with fail
    refine (F2 w2 HT2.out.1.2).out.mono ?_
    rintro e w3 ⟨rfl, hb⟩
    have HT3 := hid (HT2.out.below hb)
    clear hb
    clear pl0 pl1 pl2 pl3 pl4 pl5 pk0 pk1 pk2 pk3 pk4 pk5
    go_wp2_with fail
    refine (labAwake_any _).mono ?_
    rintro e w4 ⟨rfl, hb⟩
    have HT4 := hid (HT3.out.below hb)
    clear hb
    go_wp2_with fail
    go_ret
    exact ⟨rfl, HT4.out.1.2⟩
  rw [decide_eq_true g2] at F2
  obtain ⟨e1, e2, e3⟩ := g1
  obtain ⟨e4, e5, e6⟩ := g2
  obtain ⟨R, hR⟩ : ∃ R, R = decide (okL l tr) := ⟨_, rfl⟩
  obtain ⟨Q, hQ⟩ : ∃ Q, Q = decide (eqL l k) := ⟨_, rfl⟩
  obtain ⟨E, hE⟩ : ∃ E, E = encL l tr := ⟨_, rfl⟩
  have D1 : ∀ W (h0 : RunsAt W v l.ext), Hid (Calls Try.prog 12 #[labV l v, .int .i64 tr] W (Answers R W)) := fun W h0 => by rw [hR]; exact valid_lab l v tr h (by omega) W h0
  have D2 : ∀ W (h0 : RunsAt W v l.ext), Hid (Calls Try.prog 13 #[labV l v, .int .i64 tr] W (Answers R W)) := fun W h0 => by rw [hR]; exact refValid_any l v tr (by omega) W h0
  have D3 : ∀ W (h0 : RunsAt W v l.ext) (h1 : RunsAt W u k.ext), Hid (Calls Try.prog 14 #[labV l v, labV k u] W (Answers Q W)) := fun W h0 h1 => by rw [hQ]; exact labEqual_any l k v u (by omega) (by omega) W h0 h1
  have D4 : ∀ W (h0 : RunsAt W v l.ext) (h1 : RunsAt W u k.ext), Hid (Calls Try.prog 15 #[labV l v, labV k u] W (Answers Q W)) := fun W h0 h1 => by rw [hQ]; exact refLabEqual_any l k v u (by omega) (by omega) W h0 h1
  have D5 : ∀ W (h0 : RunsAt W v l.ext), Hid (Calls Try.prog 14 #[labV l v, labV l v] W (Answers true W)) := fun W h0 => by
    have h2 := labEqual_any l l v v (by omega) (by omega) W h0 h0
    rw [decide_eq_true ((eqL_iff l l).2 rfl)] at h2
    exact h2
  have D6 : ∀ W (h0 : RunsAt W v l.ext), Hid (Calls Try.prog 16 #[labV l v, .int .i64 tr] W fun e w' => e = .returned (.string E) ∧ Below W.heap.size W w') := fun W h0 => by rw [hE]; exact encode_lab l v tr h (by omega) W h0
  have D7 : ∀ W (h0 : RunsAt W v l.ext), Hid (Calls Try.prog 17 #[labV l v, .int .i64 tr] W fun e w' => e = .returned (.string E) ∧ Below W.heap.size W w') := fun W h0 => by rw [hE]; exact refEncode_any l v tr (by omega) W h0
  have q1 : (R == R) = true := by simp
  have q2 : (Q == Q) = true := by simp
  have q3 : (E.toList == E.toList) = true := str_eq E
  clear hR hQ hE e1 e2 e3 e4 e5 e6
  go_enter Try.func3, Try.ntmps3
  go_upto_region 1 with fail
  rw [← HW0.out, ← HBE.out]
  go_wp2_with fail
  refine (labAwake_any _).mono ?_
  rintro e w1 ⟨rfl, hb⟩
  have HT1 := hid (HT0.out.below hb)
  clear hb
  have pl0 := HT1.out.1.1.cell (i := 0) rfl
  have pl1 := HT1.out.1.1.cell (i := 1) rfl
  have pl2 := HT1.out.1.1.cell (i := 2) rfl
  have pl3 := HT1.out.1.1.cell (i := 3) rfl
  have pl4 := HT1.out.1.1.cell (i := 4) rfl
  have pk0 := HT1.out.2.1.cell (i := 0) rfl
  have pk1 := HT1.out.2.1.cell (i := 1) rfl
  have pk2 := HT1.out.2.1.cell (i := 2) rfl
  have pk3 := HT1.out.2.1.cell (i := 3) rfl
  have pk4 := HT1.out.2.1.cell (i := 4) rfl
  have pl5 := HT1.out.1.1.lt
  have pk5 := HT1.out.2.1.lt
  go_wp2_with fail
  refine (F1 w1 HT1.out.1.2).out.mono ?_
  rintro e w2 ⟨rfl, hb⟩
  have HT2 := hid (HT1.out.below hb)
  clear hb
  clear pl0 pl1 pl2 pl3 pl4 pl5 pk0 pk1 pk2 pk3 pk4 pk5
  have pl0 := HT2.out.1.1.cell (i := 0) rfl
  have pl1 := HT2.out.1.1.cell (i := 1) rfl
  have pl2 := HT2.out.1.1.cell (i := 2) rfl
  have pl3 := HT2.out.1.1.cell (i := 3) rfl
  have pl4 := HT2.out.1.1.cell (i := 4) rfl
  have pk0 := HT2.out.2.1.cell (i := 0) rfl
  have pk1 := HT2.out.2.1.cell (i := 1) rfl
  have pk2 := HT2.out.2.1.cell (i := 2) rfl
  have pk3 := HT2.out.2.1.cell (i := 3) rfl
  have pk4 := HT2.out.2.1.cell (i := 4) rfl
  have pl5 := HT2.out.1.1.lt
  have pk5 := HT2.out.2.1.lt
  go_wp2_with fail
  refine (F2 w2 HT2.out.1.2).out.mono ?_
  rintro e w3 ⟨rfl, hb⟩
  have HT3 := hid (HT2.out.below hb)
  clear hb
  clear pl0 pl1 pl2 pl3 pl4 pl5 pk0 pk1 pk2 pk3 pk4 pk5
  have pl5 := HT3.out.1.1.lt
  have pk5 := HT3.out.2.1.lt
  go_upto_region 3 with fail
  go_region_held3 (fun W => W.cell? ⟨b, 0, none⟩ = some (.int .i64 l.id) ∧ W.cell? ⟨b, 1, none⟩ = some (.int .i64 l.unit) ∧ W.cell? ⟨b, 2, none⟩ = some (.string l.name) ∧ W.cell? ⟨b, 3, none⟩ = some (.string l.note) ∧ W.cell? ⟨b, 4, none⟩ = some (v) ∧ W.cell? ⟨(b + 1), 0, none⟩ = some (.int .i64 k.id) ∧ W.cell? ⟨(b + 1), 1, none⟩ = some (.int .i64 k.unit) ∧ W.cell? ⟨(b + 1), 2, none⟩ = some (.string k.name) ∧ W.cell? ⟨(b + 1), 3, none⟩ = some (.string k.note) ∧ W.cell? ⟨(b + 1), 4, none⟩ = some (u) ∧ Two w b l v (b + 1) k u W)
    (first | assumption | exact Two.cells (Two.drew HT3.out) | exact Two.step (w0 := w) (by assumption) hb6)
    (first
    | (go_at_call 12; refine (D1 _ ?_).out.mono ?_; exact Two.runs1 (b := b) (c := b + 1) HR.out (by assumption); rintro x w6 ⟨rfl, hb6⟩)
    | (go_at_call 13; refine (D2 _ ?_).out.mono ?_; exact Two.runs1 (b := b) (c := b + 1) HR.out (by assumption); rintro x w6 ⟨rfl, hb6⟩)
    | (go_at_call 15; refine (D4 _ ?_ ?_).out.mono ?_; exact Two.runs1 (b := b) (c := b + 1) HR.out (by assumption); exact Two.runs2 (b := b) (c := b + 1) HR2.out (by assumption); rintro x w6 ⟨rfl, hb6⟩)
    | (go_at_call 16; refine (D6 _ ?_).out.mono ?_; exact Two.runs1 (b := b) (c := b + 1) HR.out (by assumption); rintro x w6 ⟨rfl, hb6⟩)
    | (go_at_call 17; refine (D7 _ ?_).out.mono ?_; exact Two.runs1 (b := b) (c := b + 1) HR.out (by assumption); rintro x w6 ⟨rfl, hb6⟩)
    | (go_at_call_of 14 (Value.string k.name); refine (D3 _ ?_ ?_).out.mono ?_; exact Two.runs1 (b := b) (c := b + 1) HR.out (by assumption); exact Two.runs2 (b := b) (c := b + 1) HR2.out (by assumption); rintro x w6 ⟨rfl, hb6⟩)
    | (go_at_call 14; refine (D5 _ ?_).out.mono ?_; exact Two.runs1 (b := b) (c := b + 1) HR.out (by assumption); rintro x w6 ⟨rfl, hb6⟩))
  rename_i hh
  have H9 := hid (Two.of hh)
  clear hh
  go_wp2_with fail
  go_ret
  exact ⟨rfl, H9.out.1.2⟩
namespace labelValid
theorem own : ownKnob Try.prog.godebug = none := by kernel_rfl
theorem laidOut : laidOutB Try.prog = true := by kernel_rfl
set_option linter.unusedVariables false
set_option maxRecDepth 100000 in
theorem lifted (os : Os) (started : os.Started) (H : Type) (enc : TypeId × Value → H) :
    ReturnsInHanded {} Try.checked os 3 .any (Rows.labelValidSpec.pre6 enc Try.prog Try.f3 Rows.labelValidRow.domain false) (Rows.labelValidSpec.post enc Try.prog Try.f3 false true false false) := by
  refine returnsInHanded_of_change (C := Try.checked) own started (by kernel_rfl) Try.func3
    (ChangeSpec.witness6 (enc := enc) (C := Try.checked) false ⟨#[], #[.agg #[.int .i64 0, .int .i64 0, .string ByteArray.empty, .string ByteArray.empty, .slice none 0 0], .agg #[.int .i64 0, .int .i64 0, .string ByteArray.empty, .string ByteArray.empty, .slice none 0 0], .int .i64 0], []⟩ 8 (by kernel_rfl) (by kernel_rfl) (by kernel_rfl) (by kernel_rfl)) ?_
  intro W base args ds gs before hval0 hW hcnd _
  have hval : ∀ (j : Nat) t v, Try.f3.params[j]? = some t → args[j]? = some v → Value.okWide Try.prog W .any base t v := hval0
  have hW' := hW
  obtain ⟨p, q, hA0, hV, rfl, hfz, hnd⟩ := hW
  have hA : DataW.TrodAll enc Try.prog W 0 (fun _ => true) true Try.f3.params.toList args.toList ds p := hA0
  rw [Try.params3] at hA hval
  obtain ⟨v0, vs0, d0, ds0, p0, q0, hargs, rfl, rfl, h0, r0⟩ := trodAll_cons hA
  obtain ⟨v1, vs1, d1, ds1, p1, q1, rfl, rfl, rfl, h1, r1⟩ := trodAll_cons r0
  obtain ⟨v2, vs2, d2, ds2, p2, q2, rfl, rfl, rfl, h2, r2⟩ := trodAll_cons r1
  obtain ⟨rfl, rfl, rfl⟩ := trodAll_nil r2
  obtain rfl : args = #[v0, v1, v2] := by cases args; simp_all
  obtain ⟨rfl, rfl⟩ := trodVars_none hV
  obtain ⟨cs0, rfl, hz0⟩ := okWide_struct Try.underlying24 (hval 0 24 v0 rfl rfl)
  have k0 := h0
  have lt0 : ∀ x ∈ p0, x.block < W.heap.size := by obtain ⟨m, hm⟩ := k0; exact DataW.trod_lt m _ _ _ hm
  obtain ⟨fuel0, hf0⟩ := h0
  obtain ⟨L0, V0, hcs0, hat0⟩ := lab_open hf0
  obtain rfl : cs0 = #[.int .i64 L0.id, .int .i64 L0.unit, .string L0.name, .string L0.note, V0] := Array.toList_inj.1 hcs0
  obtain ⟨cs1, rfl, hz1⟩ := okWide_struct Try.underlying24 (hval 1 24 v1 rfl rfl)
  have k1 := h1
  have lt1 : ∀ x ∈ p1, x.block < W.heap.size := by obtain ⟨m, hm⟩ := k1; exact DataW.trod_lt m _ _ _ hm
  obtain ⟨fuel1, hf1⟩ := h1
  obtain ⟨L1, V1, hcs1, hat1⟩ := lab_open hf1
  obtain rfl : cs1 = #[.int .i64 L1.id, .int .i64 L1.unit, .string L1.name, .string L1.note, V1] := Array.toList_inj.1 hcs1
  obtain ⟨a2, rfl, rfl, rfl, w2⟩ := open_int Try.underlying3 (hval 2 3 v2 rfl rfl) h2
  clear hA0 hval0
  refine (walk_LabelValid L0 V0 L1 V1 a2 hat0 hat1 (bounds_i64 w2) (w := W)).mono fun e W' ⟨he, bel⟩ => ?_
  subst he
  exact ⟨_, rfl, _, _, _, [], _, [], hW', trodAll_mk1 (shut_bool Try.underlying4 _), (trodAll_cons_mk (Below.trod laidOut (by kernel_rfl) (of_decide_eq_true (by kernel_rfl)) k0 bel lt0) (trodAll_cons_mk (Below.trod laidOut (by kernel_rfl) (of_decide_eq_true (by kernel_rfl)) k1 bel lt1) (trodAll_cons_mk (shut_int Try.underlying3 w2) trodAll_mk0))), rfl, bel.frame _, fun h => by cases h⟩
theorem over : Rows.labelValidRow.holds Try.pinned (OpenSpec.ofChange Rows.labelValidSpec) :=
  OpenClaim.holds_of_wide 3 Try.f3 rfl rfl rfl rfl rfl rfl rfl ⟨rfl, rfl, rfl, rfl, rfl⟩ rfl rfl rfl rfl rfl (by kernel_rfl) Try.func3 (by kernel_rfl)
    (of_decide_eq_true (by kernel_rfl)) (by unfold Func.isWrapper; first | (rw [if_pos (by decide +kernel)]; kernel_rfl) | (rw [if_neg (by decide +kernel)]; exact ⟨rfl, rfl⟩))
    (fun os started H enc _ => lifted os started H enc)
theorem proved : Rows.LabelValidSaid := over
end labelValid

end Go.Proofs.Ytabbkgbgldgfeaa
