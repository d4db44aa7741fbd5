import Derived.Test.YtpcigmjbjcgdbaaExtR4
/-! The specification: Set, Normal. -/
namespace Go.Proofs.Ytpcigmjbjcgdbaa
open Go.Lib Go.ChangeShapes Go.WideShapes Go.ChangeAt Go.RowKit

def bools (B : Nat → Bool) (k : Nat) : List Value := (List.range k).map fun i => .bool (B i)
theorem bools_succ (B : Nat → Bool) (k : Nat) : bools B (k + 1) = bools B k ++ [.bool (B k)] := by unfold bools; rw [List.range_succ, List.map_append]; rfl
theorem bools_get (B : Nat → Bool) (k i : Nat) (h : i < k) : (bools B k)[i]? = some (.bool (B i)) := by unfold bools; simp [h]
attribute [local irreducible] bools
/-- which tracks are wanted -/
def wish (one other both x y : Bool) : Bool := x && !y && one || y && !x && other || x && y && both
set_option maxRecDepth 100000 in
set_option maxHeartbeats 1000000 in
theorem setOf_any (one other both : Bool) (hT : (one = true ∧ other = true ∧ both = true) ∨ (one = false ∧ other = false ∧ both = true) ∨ (one = true ∧ other = false ∧ both = false)) (v v2 : Value) (l l2 : List (Int × Int)) (hl : l.length ≤ 4000) (hl2 : l2.length ≤ 4000) (w : World) (hs : RunsAt w v l) (hs2 : RunsAt w v2 l2) :
    Calls Try.prog 24 #[v, v2, .bool one, .bool other, .bool both] w (Made w (norm fun t => wish one other both (inB l t) (inB l2 t))) := by
  have HS := hid hs
  have HS2 := hid hs2
  clear hs hs2
  obtain ⟨B, hB⟩ : ∃ B : Nat → Bool, B = fun t => wish one other both (inB l t) (inB l2 t) := ⟨_, rfl⟩
  rw [← hB]
  have hBall : ∀ t, B t = wish one other both (inB l t) (inB l2 t) := fun t => by rw [hB]
  have HBB := hid hBall
  clear hB hBall
  rcases hT with ⟨rfl, rfl, rfl⟩ | ⟨rfl, rfl, rfl⟩ | ⟨rfl, rfl, rfl⟩
  all_goals
    go_enter Try.func24, Try.ntmps24
    go_wp2_with fail
    go_loopw [11, 12] (fun s i wr => ∃ (k : Nat) (u : Value), k ≤ 128 ∧ i = .int .i64 k ∧ u = s ∧ SliceIs wr 4 1 u k (bools B k) ∧ Fresh w u ∧ Below w.heap.size w wr) (fun _ i _ => 128 - (intOf i).toNat)
    case atStart => exact ⟨0, _, by omega, rfl, rfl, .inl ⟨_, rfl, rfl, by unfold bools; rfl⟩, (fun k hk => by obtain ⟨_, _, _, e, h0, _⟩ := hk; simp only [Value.slice.injEq] at e; omega), (Below.refl _ _).alloc (Nat.le_refl _) _⟩
    case round =>
      obtain ⟨k, u, hk, rfl, rfl, ho, hf, hb⟩ := hrel
      have HB := hid hb
      have HO := hid ho
      have HF := hid hf
      by_cases hlt : k < 128
      · have hBk := HBB.out k
        have hf1 := inB_first l k
        have hf2 := inB_first l2 k
        have hlu : ∀ b, Value.home u b → b < wr.heap.size := SliceIs.lt ho
        obtain ⟨x, hx⟩ : ∃ x, x = inB l k := ⟨_, rfl⟩
        obtain ⟨y, hy⟩ : ∃ y, y = inB l2 k := ⟨_, rfl⟩
        rw [← hx] at hf1 hBk
        rw [← hy] at hf2 hBk
        have HF1 := hid hf1
        have HF2 := hid hf2
        obtain ⟨z, hz⟩ : ∃ z, z = B k := ⟨_, rfl⟩
        rw [← hz] at hBk
        have HZ := hid hz
        have HLU := hid hlu
        clear ho hf hb hx hy hf1 hf2 hz hlu
        cases x <;> cases y
        all_goals
          have HZ2 := hid hBk
          clear hBk
          go_wp2_with fail
          refine (in_any v l hl k (by omega) wr (HS.out.below HB.out (Nat.le_refl _))).mono ?_
          rintro e w2 ⟨rfl, hb2⟩
          rw [HF1.out]
          have HB2 := hid (HB.out.trans (hb2.mono HB.out.size))
          have HO2 := hid (SliceIs.upd HO.out (Upds.of_below hb2 (Nat.le_refl _)) (F := fun _ => False) (fun _ _ h => h))
          clear hb2 HO HB
          go_wp2_with fail
          refine (in_any v2 l2 hl2 k (by omega) w2 (HS2.out.below HB2.out (Nat.le_refl _))).mono ?_
          rintro e w3 ⟨rfl, hb3⟩
          rw [HF2.out]
          have HB3 := hid (HB2.out.trans (hb3.mono HB2.out.size))
          have HO3 := hid (SliceIs.upd HO2.out (Upds.of_below hb3 (Nat.le_refl _)) (F := fun _ => False) (fun _ _ h => h))
          clear hb3 HO2 HB2
          go_wp2_with (at_builtin; refine wpList_append_slice rfl (.tmp 26) (.tmp 54) 66 rfl 4 (.bool false) 1 1 Try.underlying66 (by kernel_rfl) (by kernel_rfl) u k (bools B k) rfl (SliceIs.alloc HO3.out _) ⟨w3.heap.size, 0, none⟩ 1 1 [.bool _] rfl rfl (news1 _ _ _ _ rfl) (by simp [Value.oneCell']) (by omega) (by omega) (by omega) ?_; intro g8 cap8 w8 hs8 hu8 hh8)
          go_roundw
          case rel =>
            refine ⟨k + 1, _, by omega, by go_num, rfl, ?_, fun b hb => ?_, (HB3.out.alloc HB3.out.size _).trans (hu8.out.below (by have := HB3.out.size; simp only [World.size_alloc]; omega) (fun b hb => HF.out b hb))⟩
            · rw [bools_succ, ← HZ.out, HZ2.out]; exact hs8.out
            · exact (hh8.out b hb).elim (HF.out b) (fun h => by have := HB3.out.size; simp only [World.size_alloc] at h; omega)
          case measure => simp [intOf]; omega
      · obtain rfl : k = 128 := by omega
        clear hb hf
        rcases ho with ⟨a, _, h0, _⟩ | ⟨g, cap, cur, rfl, hr, ht, hlen, hn1, hn2, _⟩
        · cases h0
        · have hcells : ∀ i, i < 128 → wr.cell? ⟨g, i, none⟩ = some (.bool (B i)) := fun i hi => by
            refine hr.cell ?_
            have h1 := bools_get B 128 i hi
            rw [← ht, List.getElem?_take, if_pos (by omega)] at h1
            exact h1
          have HC := hid hcells
          have HG := hid hr.lt
          clear hcells hr ht hlen
          go_wp2_with (go_at_call 65; refine ((set_any g cap B wr HG.out hn1 hn2 HC.out).mono fun e w' h => Made.below HB.out h).mono ?_; rintro e w4 ⟨v4, rfl, h1, h2, h3⟩)
          go_ret
          exact ⟨v4, rfl, h1, h2, h3⟩
theorem RunsAt.nil (w : World) : RunsAt w (.slice none 0 0) [] := ⟨none, 0, rfl, by simp, by omega, (fun r h => by cases h), fun h => by simp at h⟩
set_option maxRecDepth 100000 in
theorem refNormal_any (v : Value) (l : List (Int × Int)) (hl : l.length ≤ 4000) (w : World) (hs : RunsAt w v l) :
    Calls Try.prog 19 #[v] w (Made w (norm (inB l))) := by
  have HS := hid hs
  clear hs
  have hn : norm (fun t => wish true false false (inB l t) (inB [] t)) = norm (inB l) := by
    unfold norm; rw [ofB_congr (B := inB l) (fun t _ => by simp [wish, inB, seqI_nil])]
  have HN := hid hn
  clear hn
  go_enter Try.func19, Try.ntmps19
  go_wp2_with (go_at_call 24; refine (setOf_any true false false (.inr (.inr ⟨rfl, rfl, rfl⟩)) v (.slice none 0 0) l [] hl (by simp) w HS.out (RunsAt.nil w)).mono ?_; rintro e w4 ⟨v4, rfl, h1, h2, h3⟩)
  go_ret
  exact ⟨v4, rfl, by rw [← HN.out]; exact h1, h2, h3⟩
end Go.Proofs.Ytpcigmjbjcgdbaa
