import Derived.Test.YtpcigmjbjcgdbaaExtT3
import Derived.WalkSmall
namespace Go.Proofs.Ytpcigmjbjcgdbaa
open Go.Lib Go.ChangeShapes Go.WideShapes Go.ChangeAt Go.RowKit
attribute [local irreducible] bits
theorem bits_sz (B : Nat → Bool) : (Try.prog.info? 61).map (·.size) = some (bits B).toArray.size := by rw [zeroSet.2, List.size_toArray, bits_len]
theorem bits_eq (A B : Nat → Bool) : (bits A).toArray.size = (bits B).toArray.size := by rw [List.size_toArray, List.size_toArray, bits_len, bits_len]
theorem Made.below {w w2 : World} {l : List (Int × Int)} {e : Ending} {w' : World} (hb : Below w.heap.size w w2) (h : Made w2 l e w') : Made w l e w' := by
  obtain ⟨v, h1, h2, h3, h4⟩ := h
  exact ⟨v, h1, h2, fun k hk => Nat.le_trans hb.size (h3 k hk), hb.trans (h4.mono hb.size)⟩

theorem add_one (W : World) (v : Value) (s : List Nat) (f : Nat) (w : World) (hs : OwnRuns w v (up (canon s))) (hfr : Fresh W v) (h : ∀ t ∈ s, t < 128) (hr : f + 1 ≤ 128) (hl : s.length ≤ 4000) (hW : W.heap.size ≤ w.heap.size) :
    Calls Try.prog 70 #[v, .agg #[.int .i64 f, .int .i64 1]] w (AddMade W (s ++ [f]) w) := add_made W v s f 1 w hs hfr h hr (Nat.le_trans (canon_len s) hl) hW
theorem upto_lt (B : Nat → Bool) (k : Nat) (hk : k ≤ 128) : ∀ t ∈ upto B k, t < 128 := fun t ht => by unfold upto at ht; rw [List.mem_filter, List.mem_range] at ht; omega
theorem upto_len (B : Nat → Bool) (k : Nat) : (upto B k).length ≤ k := by unfold upto; exact Nat.le_trans (List.length_filter_le _ _) (by simp)
set_option maxRecDepth 100000 in
theorem runs_any (b : Nat) (B : Nat → Bool) (w : World) (hr : Row w b 61 (bits B)) :
    Calls Try.prog 62 #[.pointer (some ⟨b, 0, none⟩)] w (Made w (norm B)) := by
  have HR := hid hr
  clear hr
  go_enter Try.func62, Try.ntmps62
  go_wp2_with fail
  go_loopw [3, 7] (fun o i wr => ∃ (k : Nat) (v : Value), k ≤ 128 ∧ i = .int .i64 k ∧ o = v ∧ OwnRuns wr v (up (canon (upto B k))) ∧ Fresh w v ∧ Below w.heap.size w wr) (fun _ i _ => 128 - (intOf i).toNat)
  case atStart => exact ⟨0, _, by omega, rfl, rfl, OwnRuns.nil w, Fresh.nil w, Below.refl _ _⟩
  case round =>
    obtain ⟨k, v, hk, rfl, rfl, ho, hf, hb⟩ := hrel
    have HO := hid ho
    have HF := hid hf
    have HB := hid hb
    have hrow := HR.out.upd (F := fun _ => False) (Upds.of_below hb (Nat.le_refl _)) (fun h => h)
    clear ho hf hb
    by_cases hlt : k < 128
    · have hc := hrow.cell (bits_get B k hlt)
      have hus := upto_succ B k
      cases hB : B k with
      | true =>
        rw [hB] at hc hus
        rw [if_pos rfl] at hus
        have HU := hid hus
        clear hus hrow hB
        go_wp2_with fail
        go_quiet (fail)
        have HO2 := hid (HO.out.upd (F := fun _ => False) (Upds.drewN wr nq) (fun _ _ h => h))
        have hsz : w.heap.size ≤ (wr.drewN nq).heap.size := HB.out.size
        go_wp2_with (go_at_call 70; refine (add_one w _ (upto B k) k _ HO2.out HF.out (upto_lt B k (by omega)) (by omega) (by have := upto_len B k; omega) hsz).mono ?_; rintro e w2 ⟨v2, rfl, h1, h2, h3⟩; rw [← HU.out] at h1)
        go_roundw
        case rel => exact ⟨k + 1, v2, by omega, by go_num, rfl, h1, h2, (below_drewN HB.out nq).trans h3⟩
        case measure => simp [intOf]; omega
      | false =>
        rw [hB] at hc hus
        rw [if_neg (by simp)] at hus
        have HU := hid hus
        clear hus hrow hB
        go_wp2_with fail
        go_quiet (fail)
        have HO2 := hid (HO.out.upd (F := fun _ => False) (Upds.drewN wr nq) (fun _ _ h => h))
        go_wp2_with fail
        go_roundw
        case rel => exact ⟨k + 1, _, by omega, by go_num, rfl, by rw [HU.out]; exact HO2.out, HF.out, below_drewN HB.out nq⟩
        case measure => simp [intOf]; omega
    · obtain rfl : k = 128 := by omega
      clear hrow
      go_wp2_with fail
      go_ret
      exact ⟨_, rfl, HO.out, HF.out, HB.out⟩
theorem union_f (x y : Bool) (w : World) : Calls Try.prog 64 #[.bool x, .bool y] w fun e w' => e = .returned (.bool (x || y)) ∧ w = w' := by
  cases x <;> cases y
  all_goals
    go_enter Try.func64, Try.ntmps64
    go_wp2_with fail
    go_ret
    exact ⟨rfl, rfl⟩
theorem common_f (x y : Bool) (w : World) : Calls Try.prog 66 #[.bool x, .bool y] w fun e w' => e = .returned (.bool (x && y)) ∧ w = w' := by
  cases x <;> cases y
  all_goals
    go_enter Try.func66, Try.ntmps66
    go_wp2_with fail
    go_ret
    exact ⟨rfl, rfl⟩
theorem minus_f (x y : Bool) (w : World) : Calls Try.prog 67 #[.bool x, .bool y] w fun e w' => e = .returned (.bool (x && !y)) ∧ w = w' := by
  cases x <;> cases y
  all_goals
    go_enter Try.func67, Try.ntmps67
    go_wp2_with fail
    go_ret
    exact ⟨rfl, rfl⟩
set_option maxRecDepth 100000 in
theorem normal_any (v : Value) (l : List (Int × Int)) (hl : l.length ≤ 4000) (w : World) (hs : RunsAt w v l) :
    Calls Try.prog 22 #[v] w (Made w (norm (inB l))) := by
  have HS := hid hs
  clear hs
  have hz := zeroSet.1
  go_enter Try.func22, Try.ntmps22
  go_wp2_with fail
  refine (newSet_any v l hl _ HS.out).mono ?_
  rintro e w2 ⟨rfl, hb2⟩
  simp only []
  go_step
  go_step
  go_step
  go_step
  have hr0 := Row.new w2 (bits fun _ => false) 61
  have hr1 := hid (Row.setRow hr0 (bits (inB l)))
  have hbb : Below w.heap.size w ((w2.alloc (.cells (bits fun _ => false).toArray 61)).setRow w2.heap.size (bits (inB l)).toArray) :=
    (hb2.alloc hb2.size _).trans (Upds.below (Upds.row (F := fun k => k = w2.heap.size) _ w2.heap.size _ rfl) (by have := hb2.size; simp; omega) (fun k e => by have := hb2.size; omega))
  refine wpList_store_row rfl 61 (.tmp 3) (.tmp 5) rfl w2.heap.size (bits (inB l)).toArray rfl rfl 61 (bits fun _ => false).toArray hr0 (bits_sz _) (bits_eq _ _) (bits_one _) ?_
  have HBB := hid hbb
  clear hbb hr0 hz hb2
  obtain ⟨b, hb⟩ : ∃ b, b = w2.heap.size := ⟨_, rfl⟩
  rw [← hb] at HBB hr1 ⊢
  obtain ⟨w3, hw3⟩ : ∃ w3, w3 = (w2.alloc (.cells (bits fun _ => false).toArray 61)).setRow b (bits (inB l)).toArray := ⟨_, rfl⟩
  rw [← hw3] at HBB hr1 ⊢
  clear hw3 hb
  go_wp2_with (go_at_call 62; refine ((runs_any b (inB l) w3 hr1.out).mono fun e w' h => Made.below HBB.out h).mono ?_; rintro e w4 ⟨v4, rfl, h1, h2, h3⟩)
  go_ret
  exact ⟨v4, rfl, h1, h2, h3⟩
set_option maxRecDepth 100000 in
theorem combine_union (G : Bool → Bool → Bool) (hG : G = fun x y => x || y) (v v2 : Value) (l l2 : List (Int × Int)) (hl : l.length ≤ 4000) (hl2 : l2.length ≤ 4000) (w : World) (hs : RunsAt w v l) (hs2 : RunsAt w v2 l2) :
    Calls Try.prog 63 #[v, v2, .func (.func 64) #[] #[]] w (Made w (norm fun t => G (inB l t) (inB l2 t))) := by
  have HS := hid hs
  have HS2 := hid hs2
  have HG := hid hG
  clear hs hs2 hG
  have hz := zeroSet.1
  go_enter Try.func63, Try.ntmps63
  go_wp2_with fail
  refine (newSet_any v l hl _ HS.out).mono ?_
  rintro e w2 ⟨rfl, hb2⟩
  go_wp2_with fail
  refine (newSet_any v2 l2 hl2 w2 (HS2.out.below hb2 (Nat.le_refl _))).mono ?_
  rintro e w3 ⟨rfl, hb3⟩
  simp only []
  go_step
  go_step
  go_step
  go_step
  go_step
  go_step
  go_step
  have HBW := hid (hb2.trans (hb3.mono hb2.size))
  clear hb2 hb3
  have r7 := (Row.new w3 (bits fun _ => false) 61)
  have r8 := (Row.new (w3.alloc (.cells (bits fun _ => false).toArray 61)) (bits fun _ => false) 61)
  rw [World.size_alloc] at r8
  have r7' := r7.alloc (.cells (bits fun _ => false).toArray 61)
  have hbx := (HBW.out.alloc HBW.out.size (.cells (bits fun _ => false).toArray 61)).alloc (by have := HBW.out.size; simp; omega) (.cells (bits fun _ => false).toArray 61)
  have hb78 : w.heap.size ≤ w3.heap.size := HBW.out.size
  obtain ⟨W1, hW1⟩ : ∃ W1, W1 = (w3.alloc (.cells (bits fun _ => false).toArray 61)).alloc (.cells (bits fun _ => false).toArray 61) := ⟨_, rfl⟩
  obtain ⟨b7, hb7⟩ : ∃ b, b = w3.heap.size := ⟨_, rfl⟩
  obtain ⟨b8, hb8⟩ : ∃ b, b = b7 + 1 := ⟨_, rfl⟩
  have h78 : b7 ≠ b8 := by omega
  rw [← hW1] at r7' r8 hbx ⊢
  rw [← hb7, ← hb8] at r8
  rw [← hb7] at r7' hb78
  rw [← hb7, ← hb8]
  have hb88 : w.heap.size ≤ b8 := by omega
  clear hW1 hb7 hb8 r7
  refine wpList_store_row rfl 61 (.tmp 7) (.tmp 12) rfl b7 (bits (inB l)).toArray rfl rfl 61 (bits fun _ => false).toArray r7' (bits_sz _) (bits_eq _ _) (bits_one _) ?_
  have s7 := Row.setRow r7' (bits (inB l))
  have s8 := r8.upd (Upds.row (F := fun k => k = b7) W1 b7 (bits (inB l)).toArray rfl) (fun e => h78 e.symm)
  have hby := hbx.trans (Upds.below (Upds.row (F := fun k => k = b7) W1 b7 (bits (inB l)).toArray rfl) hbx.size (fun k e => by omega))
  obtain ⟨W2, hW2⟩ : ∃ W2, W2 = W1.setRow b7 (bits (inB l)).toArray := ⟨_, rfl⟩
  rw [← hW2] at s7 s8 hby ⊢
  clear hW2 r7' r8 hbx
  refine wpList_store_row rfl 61 (.tmp 8) (.tmp 14) rfl b8 (bits (inB l2)).toArray rfl rfl 61 (bits fun _ => false).toArray s8 (bits_sz _) (bits_eq _ _) (bits_one _) ?_
  have t8 := Row.setRow s8 (bits (inB l2))
  have t7 := s7.upd (Upds.row (F := fun k => k = b8) W2 b8 (bits (inB l2)).toArray rfl) h78
  have hbz := hby.trans (Upds.below (Upds.row (F := fun k => k = b8) W2 b8 (bits (inB l2)).toArray rfl) hby.size (fun k e => by omega))
  obtain ⟨W3, hW3⟩ : ∃ W3, W3 = W2.setRow b8 (bits (inB l2)).toArray := ⟨_, rfl⟩
  rw [← hW3] at t7 t8 hbz ⊢
  clear hW3 s7 s8 hby
  have t9 := Row.new W3 (bits fun _ => false) 61
  have T7 := hid (t7.alloc (.cells (bits fun _ => false).toArray 61))
  have T8 := hid (t8.alloc (.cells (bits fun _ => false).toArray 61))
  have HB0 := hid (hbz.alloc hbz.size (.cells (bits fun _ => false).toArray 61))
  have h79 : b7 ≠ W3.heap.size := by have := t7.lt; omega
  have h89 : b8 ≠ W3.heap.size := by have := t8.lt; omega
  have hb99 : w.heap.size ≤ W3.heap.size := hbz.size
  have T9 := hid t9
  clear t7 t8 t9 hbz HBW
  go_wp2_with fail
  obtain ⟨b9, hb9⟩ : ∃ b, b = W3.heap.size := ⟨_, rfl⟩
  rw [← hb9] at T9 h79 h89 hb99
  rw [← hb9]
  obtain ⟨W4, hW4⟩ : ∃ W4, W4 = W3.alloc (.cells (bits fun _ => false).toArray 61) := ⟨_, rfl⟩
  rw [← hW4] at T7 T8 T9 HB0 ⊢
  clear hW4 hb9 hz
  go_loopw [15] (fun i wr => ∃ k : Nat, k ≤ 128 ∧ i = .int .i64 k ∧ Row wr b7 61 (bits (inB l)) ∧ Row wr b8 61 (bits (inB l2)) ∧ Row wr b9 61 (bits fun t => decide (t < k) && G (inB l t) (inB l2 t)) ∧ Below w.heap.size w wr) (fun i _ => 128 - (intOf i).toNat)
  case atStart => exact ⟨0, by omega, rfl, T7.out, T8.out, by rw [bits_congr (B := fun _ => false) (fun t _ => by simp)]; exact T9.out, HB0.out⟩
  case round =>
    clear T7 T8 T9 HB0
    obtain ⟨k, hk, rfl, h7, h8, h9, hb⟩ := hrel
    have T7 := hid h7
    have T8 := hid h8
    have T9 := hid h9
    have HB := hid hb
    by_cases hlt : k < 128
    · have c7 := h7.cell (bits_get (inB l) k hlt)
      have c8 := h8.cell (bits_get (inB l2) k hlt)
      have c9 := h9.cell (bits_get (fun t => decide (t < k) && G (inB l t) (inB l2 t)) k hlt)
      have f9 := h9.frozen k
      clear h7 h8 h9 hb
      obtain ⟨x, hx⟩ : ∃ x, x = inB l k := ⟨_, rfl⟩
      obtain ⟨y, hy⟩ : ∃ y, y = inB l2 k := ⟨_, rfl⟩
      rw [← hx] at c7
      rw [← hy] at c8
      have HX := hid hx
      have HY := hid hy
      clear hx hy
      go_wp2_with fail
      go_region_with (go_at_call 64; refine (union_f _ _ _).mono ?_; rintro e w5 ⟨rfl, rfl⟩)
      all_goals
        go_wp2_with fail
        go_roundw
        case rel =>
          refine ⟨k + 1, by omega, by go_num, (T7.out.setOther (by simp; omega) _).upd (F := fun _ => False) (Upds.drew _) (fun h => h), (T8.out.setOther (by simp; omega) _).upd (F := fun _ => False) (Upds.drew _) (fun h => h), ?_, (HB.out.setCell (by simp; omega) _).drew⟩
          have h := (T9.out.set k (.bool (x || y))).upd (F := fun _ => False) (Upds.drew _) (fun h => h)
          rw [bits_set] at h
          rw [bits_congr (B := fun t => if t = k then (x || y) else (decide (t < k) && G (inB l t) (inB l2 t)))]
          · exact h
          · intro t _
            by_cases e : t = k
            · subst e; rw [if_pos rfl, HX.out, HY.out, HG.out]; simp
            · rw [if_neg e]
              have e2 : decide (t < k + 1) = decide (t < k) := by rw [decide_eq_decide]; omega
              rw [e2]
        case measure => simp [intOf]; omega
    · obtain rfl : k = 128 := by omega
      clear h7 h8 h9 hb
      go_wp2_with (go_at_call 62; refine ((runs_any b9 _ wr T9.out).mono fun e w' h => Made.below HB.out h).mono ?_; rintro e w4 ⟨v4, rfl, h1, h2, h3⟩)
      go_ret
      have hn : norm (fun t => decide (t < 128) && G (inB l t) (inB l2 t)) = norm fun t => G (inB l t) (inB l2 t) := by
        unfold norm; rw [ofB_congr (B := fun t => G (inB l t) (inB l2 t)) (fun t ht => by simp [ht])]
      rw [hn] at h1
      exact ⟨v4, rfl, h1, h2, h3⟩
set_option maxRecDepth 100000 in
theorem union_any (v v2 : Value) (l l2 : List (Int × Int)) (hl : l.length ≤ 4000) (hl2 : l2.length ≤ 4000) (w : World) (hs : RunsAt w v l) (hs2 : RunsAt w v2 l2) :
    Calls Try.prog 23 #[v, v2] w (Made w (norm fun t => inB l t || inB l2 t)) := by
  have HS := hid hs
  have HS2 := hid hs2
  clear hs hs2
  go_enter Try.func23, Try.ntmps23
  go_wp2_with (go_at_call 63; refine (combine_union (fun x y => x || y) rfl v v2 l l2 hl hl2 w HS.out HS2.out).mono ?_; rintro e w4 ⟨v4, rfl, h1, h2, h3⟩)
  go_ret
  exact ⟨v4, rfl, h1, h2, h3⟩
set_option maxRecDepth 100000 in
theorem combine_common (G : Bool → Bool → Bool) (hG : G = fun x y => x && y) (v v2 : Value) (l l2 : List (Int × Int)) (hl : l.length ≤ 4000) (hl2 : l2.length ≤ 4000) (w : World) (hs : RunsAt w v l) (hs2 : RunsAt w v2 l2) :
    Calls Try.prog 63 #[v, v2, .func (.func 66) #[] #[]] w (Made w (norm fun t => G (inB l t) (inB l2 t))) := by
  have HS := hid hs
  have HS2 := hid hs2
  have HG := hid hG
  clear hs hs2 hG
  have hz := zeroSet.1
  go_enter Try.func63, Try.ntmps63
  go_wp2_with fail
  refine (newSet_any v l hl _ HS.out).mono ?_
  rintro e w2 ⟨rfl, hb2⟩
  go_wp2_with fail
  refine (newSet_any v2 l2 hl2 w2 (HS2.out.below hb2 (Nat.le_refl _))).mono ?_
  rintro e w3 ⟨rfl, hb3⟩
  simp only []
  go_step
  go_step
  go_step
  go_step
  go_step
  go_step
  go_step
  have HBW := hid (hb2.trans (hb3.mono hb2.size))
  clear hb2 hb3
  have r7 := (Row.new w3 (bits fun _ => false) 61)
  have r8 := (Row.new (w3.alloc (.cells (bits fun _ => false).toArray 61)) (bits fun _ => false) 61)
  rw [World.size_alloc] at r8
  have r7' := r7.alloc (.cells (bits fun _ => false).toArray 61)
  have hbx := (HBW.out.alloc HBW.out.size (.cells (bits fun _ => false).toArray 61)).alloc (by have := HBW.out.size; simp; omega) (.cells (bits fun _ => false).toArray 61)
  have hb78 : w.heap.size ≤ w3.heap.size := HBW.out.size
  obtain ⟨W1, hW1⟩ : ∃ W1, W1 = (w3.alloc (.cells (bits fun _ => false).toArray 61)).alloc (.cells (bits fun _ => false).toArray 61) := ⟨_, rfl⟩
  obtain ⟨b7, hb7⟩ : ∃ b, b = w3.heap.size := ⟨_, rfl⟩
  obtain ⟨b8, hb8⟩ : ∃ b, b = b7 + 1 := ⟨_, rfl⟩
  have h78 : b7 ≠ b8 := by omega
  rw [← hW1] at r7' r8 hbx ⊢
  rw [← hb7, ← hb8] at r8
  rw [← hb7] at r7' hb78
  rw [← hb7, ← hb8]
  have hb88 : w.heap.size ≤ b8 := by omega
  clear hW1 hb7 hb8 r7
  refine wpList_store_row rfl 61 (.tmp 7) (.tmp 12) rfl b7 (bits (inB l)).toArray rfl rfl 61 (bits fun _ => false).toArray r7' (bits_sz _) (bits_eq _ _) (bits_one _) ?_
  have s7 := Row.setRow r7' (bits (inB l))
  have s8 := r8.upd (Upds.row (F := fun k => k = b7) W1 b7 (bits (inB l)).toArray rfl) (fun e => h78 e.symm)
  have hby := hbx.trans (Upds.below (Upds.row (F := fun k => k = b7) W1 b7 (bits (inB l)).toArray rfl) hbx.size (fun k e => by omega))
  obtain ⟨W2, hW2⟩ : ∃ W2, W2 = W1.setRow b7 (bits (inB l)).toArray := ⟨_, rfl⟩
  rw [← hW2] at s7 s8 hby ⊢
  clear hW2 r7' r8 hbx
  refine wpList_store_row rfl 61 (.tmp 8) (.tmp 14) rfl b8 (bits (inB l2)).toArray rfl rfl 61 (bits fun _ => false).toArray s8 (bits_sz _) (bits_eq _ _) (bits_one _) ?_
  have t8 := Row.setRow s8 (bits (inB l2))
  have t7 := s7.upd (Upds.row (F := fun k => k = b8) W2 b8 (bits (inB l2)).toArray rfl) h78
  have hbz := hby.trans (Upds.below (Upds.row (F := fun k => k = b8) W2 b8 (bits (inB l2)).toArray rfl) hby.size (fun k e => by omega))
  obtain ⟨W3, hW3⟩ : ∃ W3, W3 = W2.setRow b8 (bits (inB l2)).toArray := ⟨_, rfl⟩
  rw [← hW3] at t7 t8 hbz ⊢
  clear hW3 s7 s8 hby
  have t9 := Row.new W3 (bits fun _ => false) 61
  have T7 := hid (t7.alloc (.cells (bits fun _ => false).toArray 61))
  have T8 := hid (t8.alloc (.cells (bits fun _ => false).toArray 61))
  have HB0 := hid (hbz.alloc hbz.size (.cells (bits fun _ => false).toArray 61))
  have h79 : b7 ≠ W3.heap.size := by have := t7.lt; omega
  have h89 : b8 ≠ W3.heap.size := by have := t8.lt; omega
  have hb99 : w.heap.size ≤ W3.heap.size := hbz.size
  have T9 := hid t9
  clear t7 t8 t9 hbz HBW
  go_wp2_with fail
  obtain ⟨b9, hb9⟩ : ∃ b, b = W3.heap.size := ⟨_, rfl⟩
  rw [← hb9] at T9 h79 h89 hb99
  rw [← hb9]
  obtain ⟨W4, hW4⟩ : ∃ W4, W4 = W3.alloc (.cells (bits fun _ => false).toArray 61) := ⟨_, rfl⟩
  rw [← hW4] at T7 T8 T9 HB0 ⊢
  clear hW4 hb9 hz
  go_loopw [15] (fun i wr => ∃ k : Nat, k ≤ 128 ∧ i = .int .i64 k ∧ Row wr b7 61 (bits (inB l)) ∧ Row wr b8 61 (bits (inB l2)) ∧ Row wr b9 61 (bits fun t => decide (t < k) && G (inB l t) (inB l2 t)) ∧ Below w.heap.size w wr) (fun i _ => 128 - (intOf i).toNat)
  case atStart => exact ⟨0, by omega, rfl, T7.out, T8.out, by rw [bits_congr (B := fun _ => false) (fun t _ => by simp)]; exact T9.out, HB0.out⟩
  case round =>
    clear T7 T8 T9 HB0
    obtain ⟨k, hk, rfl, h7, h8, h9, hb⟩ := hrel
    have T7 := hid h7
    have T8 := hid h8
    have T9 := hid h9
    have HB := hid hb
    by_cases hlt : k < 128
    · have c7 := h7.cell (bits_get (inB l) k hlt)
      have c8 := h8.cell (bits_get (inB l2) k hlt)
      have c9 := h9.cell (bits_get (fun t => decide (t < k) && G (inB l t) (inB l2 t)) k hlt)
      have f9 := h9.frozen k
      clear h7 h8 h9 hb
      obtain ⟨x, hx⟩ : ∃ x, x = inB l k := ⟨_, rfl⟩
      obtain ⟨y, hy⟩ : ∃ y, y = inB l2 k := ⟨_, rfl⟩
      rw [← hx] at c7
      rw [← hy] at c8
      have HX := hid hx
      have HY := hid hy
      clear hx hy
      go_wp2_with fail
      go_region_with (go_at_call 66; refine (common_f _ _ _).mono ?_; rintro e w5 ⟨rfl, rfl⟩)
      all_goals
        go_wp2_with fail
        go_roundw
        case rel =>
          refine ⟨k + 1, by omega, by go_num, (T7.out.setOther (by simp; omega) _).upd (F := fun _ => False) (Upds.drew _) (fun h => h), (T8.out.setOther (by simp; omega) _).upd (F := fun _ => False) (Upds.drew _) (fun h => h), ?_, (HB.out.setCell (by simp; omega) _).drew⟩
          have h := (T9.out.set k (.bool (x && y))).upd (F := fun _ => False) (Upds.drew _) (fun h => h)
          rw [bits_set] at h
          rw [bits_congr (B := fun t => if t = k then (x && y) else (decide (t < k) && G (inB l t) (inB l2 t)))]
          · exact h
          · intro t _
            by_cases e : t = k
            · subst e; rw [if_pos rfl, HX.out, HY.out, HG.out]; simp
            · rw [if_neg e]
              have e2 : decide (t < k + 1) = decide (t < k) := by rw [decide_eq_decide]; omega
              rw [e2]
        case measure => simp [intOf]; omega
    · obtain rfl : k = 128 := by omega
      clear h7 h8 h9 hb
      go_wp2_with (go_at_call 62; refine ((runs_any b9 _ wr T9.out).mono fun e w' h => Made.below HB.out h).mono ?_; rintro e w4 ⟨v4, rfl, h1, h2, h3⟩)
      go_ret
      have hn : norm (fun t => decide (t < 128) && G (inB l t) (inB l2 t)) = norm fun t => G (inB l t) (inB l2 t) := by
        unfold norm; rw [ofB_congr (B := fun t => G (inB l t) (inB l2 t)) (fun t ht => by simp [ht])]
      rw [hn] at h1
      exact ⟨v4, rfl, h1, h2, h3⟩
set_option maxRecDepth 100000 in
theorem common_any (v v2 : Value) (l l2 : List (Int × Int)) (hl : l.length ≤ 4000) (hl2 : l2.length ≤ 4000) (w : World) (hs : RunsAt w v l) (hs2 : RunsAt w v2 l2) :
    Calls Try.prog 25 #[v, v2] w (Made w (norm fun t => inB l t && inB l2 t)) := by
  have HS := hid hs
  have HS2 := hid hs2
  clear hs hs2
  go_enter Try.func25, Try.ntmps25
  go_wp2_with (go_at_call 63; refine (combine_common (fun x y => x && y) rfl v v2 l l2 hl hl2 w HS.out HS2.out).mono ?_; rintro e w4 ⟨v4, rfl, h1, h2, h3⟩)
  go_ret
  exact ⟨v4, rfl, h1, h2, h3⟩
set_option maxRecDepth 100000 in
theorem combine_minus (G : Bool → Bool → Bool) (hG : G = fun x y => x && !y) (v v2 : Value) (l l2 : List (Int × Int)) (hl : l.length ≤ 4000) (hl2 : l2.length ≤ 4000) (w : World) (hs : RunsAt w v l) (hs2 : RunsAt w v2 l2) :
    Calls Try.prog 63 #[v, v2, .func (.func 67) #[] #[]] w (Made w (norm fun t => G (inB l t) (inB l2 t))) := by
  have HS := hid hs
  have HS2 := hid hs2
  have HG := hid hG
  clear hs hs2 hG
  have hz := zeroSet.1
  go_enter Try.func63, Try.ntmps63
  go_wp2_with fail
  refine (newSet_any v l hl _ HS.out).mono ?_
  rintro e w2 ⟨rfl, hb2⟩
  go_wp2_with fail
  refine (newSet_any v2 l2 hl2 w2 (HS2.out.below hb2 (Nat.le_refl _))).mono ?_
  rintro e w3 ⟨rfl, hb3⟩
  simp only []
  go_step
  go_step
  go_step
  go_step
  go_step
  go_step
  go_step
  have HBW := hid (hb2.trans (hb3.mono hb2.size))
  clear hb2 hb3
  have r7 := (Row.new w3 (bits fun _ => false) 61)
  have r8 := (Row.new (w3.alloc (.cells (bits fun _ => false).toArray 61)) (bits fun _ => false) 61)
  rw [World.size_alloc] at r8
  have r7' := r7.alloc (.cells (bits fun _ => false).toArray 61)
  have hbx := (HBW.out.alloc HBW.out.size (.cells (bits fun _ => false).toArray 61)).alloc (by have := HBW.out.size; simp; omega) (.cells (bits fun _ => false).toArray 61)
  have hb78 : w.heap.size ≤ w3.heap.size := HBW.out.size
  obtain ⟨W1, hW1⟩ : ∃ W1, W1 = (w3.alloc (.cells (bits fun _ => false).toArray 61)).alloc (.cells (bits fun _ => false).toArray 61) := ⟨_, rfl⟩
  obtain ⟨b7, hb7⟩ : ∃ b, b = w3.heap.size := ⟨_, rfl⟩
  obtain ⟨b8, hb8⟩ : ∃ b, b = b7 + 1 := ⟨_, rfl⟩
  have h78 : b7 ≠ b8 := by omega
  rw [← hW1] at r7' r8 hbx ⊢
  rw [← hb7, ← hb8] at r8
  rw [← hb7] at r7' hb78
  rw [← hb7, ← hb8]
  have hb88 : w.heap.size ≤ b8 := by omega
  clear hW1 hb7 hb8 r7
  refine wpList_store_row rfl 61 (.tmp 7) (.tmp 12) rfl b7 (bits (inB l)).toArray rfl rfl 61 (bits fun _ => false).toArray r7' (bits_sz _) (bits_eq _ _) (bits_one _) ?_
  have s7 := Row.setRow r7' (bits (inB l))
  have s8 := r8.upd (Upds.row (F := fun k => k = b7) W1 b7 (bits (inB l)).toArray rfl) (fun e => h78 e.symm)
  have hby := hbx.trans (Upds.below (Upds.row (F := fun k => k = b7) W1 b7 (bits (inB l)).toArray rfl) hbx.size (fun k e => by omega))
  obtain ⟨W2, hW2⟩ : ∃ W2, W2 = W1.setRow b7 (bits (inB l)).toArray := ⟨_, rfl⟩
  rw [← hW2] at s7 s8 hby ⊢
  clear hW2 r7' r8 hbx
  refine wpList_store_row rfl 61 (.tmp 8) (.tmp 14) rfl b8 (bits (inB l2)).toArray rfl rfl 61 (bits fun _ => false).toArray s8 (bits_sz _) (bits_eq _ _) (bits_one _) ?_
  have t8 := Row.setRow s8 (bits (inB l2))
  have t7 := s7.upd (Upds.row (F := fun k => k = b8) W2 b8 (bits (inB l2)).toArray rfl) h78
  have hbz := hby.trans (Upds.below (Upds.row (F := fun k => k = b8) W2 b8 (bits (inB l2)).toArray rfl) hby.size (fun k e => by omega))
  obtain ⟨W3, hW3⟩ : ∃ W3, W3 = W2.setRow b8 (bits (inB l2)).toArray := ⟨_, rfl⟩
  rw [← hW3] at t7 t8 hbz ⊢
  clear hW3 s7 s8 hby
  have t9 := Row.new W3 (bits fun _ => false) 61
  have T7 := hid (t7.alloc (.cells (bits fun _ => false).toArray 61))
  have T8 := hid (t8.alloc (.cells (bits fun _ => false).toArray 61))
  have HB0 := hid (hbz.alloc hbz.size (.cells (bits fun _ => false).toArray 61))
  have h79 : b7 ≠ W3.heap.size := by have := t7.lt; omega
  have h89 : b8 ≠ W3.heap.size := by have := t8.lt; omega
  have hb99 : w.heap.size ≤ W3.heap.size := hbz.size
  have T9 := hid t9
  clear t7 t8 t9 hbz HBW
  go_wp2_with fail
  obtain ⟨b9, hb9⟩ : ∃ b, b = W3.heap.size := ⟨_, rfl⟩
  rw [← hb9] at T9 h79 h89 hb99
  rw [← hb9]
  obtain ⟨W4, hW4⟩ : ∃ W4, W4 = W3.alloc (.cells (bits fun _ => false).toArray 61) := ⟨_, rfl⟩
  rw [← hW4] at T7 T8 T9 HB0 ⊢
  clear hW4 hb9 hz
  go_loopw [15] (fun i wr => ∃ k : Nat, k ≤ 128 ∧ i = .int .i64 k ∧ Row wr b7 61 (bits (inB l)) ∧ Row wr b8 61 (bits (inB l2)) ∧ Row wr b9 61 (bits fun t => decide (t < k) && G (inB l t) (inB l2 t)) ∧ Below w.heap.size w wr) (fun i _ => 128 - (intOf i).toNat)
  case atStart => exact ⟨0, by omega, rfl, T7.out, T8.out, by rw [bits_congr (B := fun _ => false) (fun t _ => by simp)]; exact T9.out, HB0.out⟩
  case round =>
    clear T7 T8 T9 HB0
    obtain ⟨k, hk, rfl, h7, h8, h9, hb⟩ := hrel
    have T7 := hid h7
    have T8 := hid h8
    have T9 := hid h9
    have HB := hid hb
    by_cases hlt : k < 128
    · have c7 := h7.cell (bits_get (inB l) k hlt)
      have c8 := h8.cell (bits_get (inB l2) k hlt)
      have c9 := h9.cell (bits_get (fun t => decide (t < k) && G (inB l t) (inB l2 t)) k hlt)
      have f9 := h9.frozen k
      clear h7 h8 h9 hb
      obtain ⟨x, hx⟩ : ∃ x, x = inB l k := ⟨_, rfl⟩
      obtain ⟨y, hy⟩ : ∃ y, y = inB l2 k := ⟨_, rfl⟩
      rw [← hx] at c7
      rw [← hy] at c8
      have HX := hid hx
      have HY := hid hy
      clear hx hy
      go_wp2_with fail
      go_region_with (go_at_call 67; refine (minus_f _ _ _).mono ?_; rintro e w5 ⟨rfl, rfl⟩)
      all_goals
        go_wp2_with fail
        go_roundw
        case rel =>
          refine ⟨k + 1, by omega, by go_num, (T7.out.setOther (by simp; omega) _).upd (F := fun _ => False) (Upds.drew _) (fun h => h), (T8.out.setOther (by simp; omega) _).upd (F := fun _ => False) (Upds.drew _) (fun h => h), ?_, (HB.out.setCell (by simp; omega) _).drew⟩
          have h := (T9.out.set k (.bool (x && !y))).upd (F := fun _ => False) (Upds.drew _) (fun h => h)
          rw [bits_set] at h
          rw [bits_congr (B := fun t => if t = k then (x && !y) else (decide (t < k) && G (inB l t) (inB l2 t)))]
          · exact h
          · intro t _
            by_cases e : t = k
            · subst e; rw [if_pos rfl, HX.out, HY.out, HG.out]; simp
            · rw [if_neg e]
              have e2 : decide (t < k + 1) = decide (t < k) := by rw [decide_eq_decide]; omega
              rw [e2]
        case measure => simp [intOf]; omega
    · obtain rfl : k = 128 := by omega
      clear h7 h8 h9 hb
      go_wp2_with (go_at_call 62; refine ((runs_any b9 _ wr T9.out).mono fun e w' h => Made.below HB.out h).mono ?_; rintro e w4 ⟨v4, rfl, h1, h2, h3⟩)
      go_ret
      have hn : norm (fun t => decide (t < 128) && G (inB l t) (inB l2 t)) = norm fun t => G (inB l t) (inB l2 t) := by
        unfold norm; rw [ofB_congr (B := fun t => G (inB l t) (inB l2 t)) (fun t ht => by simp [ht])]
      rw [hn] at h1
      exact ⟨v4, rfl, h1, h2, h3⟩
set_option maxRecDepth 100000 in
theorem minus_any (v v2 : Value) (l l2 : List (Int × Int)) (hl : l.length ≤ 4000) (hl2 : l2.length ≤ 4000) (w : World) (hs : RunsAt w v l) (hs2 : RunsAt w v2 l2) :
    Calls Try.prog 26 #[v, v2] w (Made w (norm fun t => inB l t && !inB l2 t)) := by
  have HS := hid hs
  have HS2 := hid hs2
  clear hs hs2
  go_enter Try.func26, Try.ntmps26
  go_wp2_with (go_at_call 63; refine (combine_minus (fun x y => x && !y) rfl v v2 l l2 hl hl2 w HS.out HS2.out).mono ?_; rintro e w4 ⟨v4, rfl, h1, h2, h3⟩)
  go_ret
  exact ⟨v4, rfl, h1, h2, h3⟩
end Go.Proofs.Ytpcigmjbjcgdbaa
