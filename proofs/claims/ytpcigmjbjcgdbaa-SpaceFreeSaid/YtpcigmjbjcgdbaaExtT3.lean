import Derived.Test.YtpcigmjbjcgdbaaExtT2
import Derived.Laws.Rows
import Derived.Laws.Tables
import Derived.Deep.WholeRow
import Derived.Deep.Cut
/-! Sets in arrays: newSet, runs, combine. -/
namespace Go.Proofs.Ytpcigmjbjcgdbaa
open Go.Lib Go.ChangeShapes Go.WideShapes Go.ChangeAt Go.RowKit

/-- the cells of a set -/
def bits (B : Nat → Bool) : List Value := (List.range 128).map fun i => .bool (B i)
theorem bits_len (B : Nat → Bool) : (bits B).length = 128 := by unfold bits; simp
theorem bits_get (B : Nat → Bool) (i : Nat) (h : i < 128) : (bits B)[i]? = some (.bool (B i)) := by unfold bits; simp [h]
theorem bits_set (B : Nat → Bool) (i : Nat) (b : Bool) : (bits B).set i (.bool b) = bits (fun t => if t = i then b else B t) := by
  apply List.ext_getElem?
  intro j
  rw [List.getElem?_set]
  unfold bits
  simp only [List.length_map, List.length_range, List.getElem?_map]
  by_cases hj : j < 128
  · rw [List.getElem?_range hj]
    by_cases e : i = j
    · subst e; simp [hj]
    · rw [if_neg e]; simp [Ne.symm e]
  · rw [List.getElem?_eq_none (by simp; omega)]
    by_cases e : i = j
    · subst e; simp; omega
    · rw [if_neg e]; rfl
theorem bits_congr {A B : Nat → Bool} (h : ∀ t, t < 128 → A t = B t) : bits A = bits B := by
  unfold bits; exact List.map_congr_left fun t ht => by rw [h t (List.mem_range.1 ht)]
theorem bits_one (B : Nat → Bool) : (bits B).toArray.all (·.oneCell') = true := by
  rw [Array.all_eq_true_iff_forall_mem]
  intro x hx
  simp only [List.mem_toArray] at hx
  unfold bits at hx
  rw [List.mem_map] at hx
  obtain ⟨i, _, rfl⟩ := hx
  rfl
theorem zeroSet : (∀ w, (zeroValue 61).run Try.prog w = .ok (.agg (bits fun _ => false).toArray) w) ∧ (Try.prog.info? 61).map (·.size) = some 128 := zero_of_info (by kernel_rfl)
attribute [local irreducible] bits
theorem load_bits {w : World} {b : Nat} {B : Nat → Bool} (h : Row w b 61 (bits B)) : (loadCellsFrom ⟨b, 0, none⟩ 0 128 #[]).run Try.prog w = .ok (bits B).toArray w := by
  have := run_loadCells_list (P := Try.prog) w ⟨b, 0, none⟩ (bits B) (fun j v hv => by
    have hadd : (⟨b, 0, none⟩ : Addr).add j = ⟨b, j, none⟩ := by rw [Go.WideShapes.add_plain, Nat.zero_add]
    rw [hadd]
    exact h.cell hv)
  rw [bits_len] at this
  simpa [loadCells] using this
theorem store_bits {w : World} {b : Nat} {B C : Nat → Bool} (h : Row w b 61 (bits C)) : (storeCells ⟨b, 0, none⟩ (bits B) 0).run Try.prog w = .ok () (w.setRow b (bits B).toArray) :=
  run_storeCells_from (P := Try.prog) b 61 (bits B) 0 (bits C).toArray w h (by rw [bits_len, List.size_toArray, bits_len]) (fun v hv => (Array.all_eq_true_iff_forall_mem.1 (bits_one B)) v (by simpa using hv))
theorem box_row {wr w2 : World} {x y : Value} {t : TypeId} (hb : Below (wr.alloc (.cells #[x, y] t)).heap.size (wr.alloc (.cells #[x, y] t)) w2) (p q : Value) :
    Row ((w2.setCell ⟨wr.heap.size, 0, none⟩ p).setCell ⟨wr.heap.size, 1, none⟩ q) wr.heap.size t [p, q] := by
  have h : Row (wr.alloc (.cells #[x, y] t)) wr.heap.size t [x, y] := Row.new wr [x, y] t
  have h2 : Row w2 wr.heap.size t [x, y] := h.upd (F := fun _ => False) (Upds.of_below hb (Nat.le_refl _)) (fun h => h)
  exact (h2.set 0 p).set 1 q
theorem box_other {wr w2 : World} {x y : Value} {t : TypeId} (hb : Below (wr.alloc (.cells #[x, y] t)).heap.size (wr.alloc (.cells #[x, y] t)) w2) (p q : Value) {b : Nat} {t' : TypeId} {cur : List Value} (h : Row wr b t' cur) :
    Row ((w2.setCell ⟨wr.heap.size, 0, none⟩ p).setCell ⟨wr.heap.size, 1, none⟩ q) b t' cur := by
  have hlt := h.lt
  have h2 : Row w2 b t' cur := (h.alloc _).upd (F := fun _ => False) (Upds.of_below hb (Nat.le_refl _)) (fun h => h)
  exact (h2.setOther (by simp; omega) p).setOther (by simp; omega) q
theorem inB_step (l : List (Int × Int)) (k F C : Nat) (h : seqI (l.take (k + 1)) = seqI (l.take k) ++ tracks (F, C)) (t : Nat) : inB (l.take (k + 1)) t = (inB (l.take k) t || decide (F ≤ t ∧ t < F + C)) := by
  unfold inB
  rw [h, Bool.eq_iff_iff, List.contains_iff_mem, List.mem_append, Bool.or_eq_true, List.contains_iff_mem, decide_eq_true_eq]
  unfold tracks
  rw [List.mem_range'_1]
set_option maxRecDepth 100000 in
theorem newSet_any (v : Value) (l : List (Int × Int)) (hl : l.length ≤ 4000) (w : World) (hs : RunsAt w v l) :
    Calls Try.prog 61 #[v] w fun e w' => e = .returned (.agg (bits (inB l)).toArray) ∧ Below w.heap.size w w' := by
  obtain ⟨A, cap, rfl, hcap, hcap2⟩ := hs.shape
  obtain ⟨n, hn⟩ : ∃ n, n = l.length := ⟨_, rfl⟩
  rw [← hn] at hs hcap hl ⊢
  have HS := hid hs
  have HN := hid hn
  clear hs hn
  have hz := zeroSet.1
  go_enter Try.func61, Try.ntmps61
  go_wp2_with fail
  have r2 : Row (w.alloc (.cells (bits fun _ => false).toArray 61)) w.heap.size 61 (bits fun _ => false) := Row.new w _ _
  have r3 : Row ((w.alloc (.cells (bits fun _ => false).toArray 61)).alloc (.cells (bits fun _ => false).toArray 61)) (w.heap.size + 1) 61 (bits fun _ => false) := by
    have := Row.new (w.alloc (.cells (bits fun _ => false).toArray 61)) (bits fun _ => false) 61
    simpa using this
  have R2 := hid (r2.alloc (.cells (bits fun _ => false).toArray 61))
  have R3 := hid r3
  have HB0 : Hid (Below w.heap.size w ((w.alloc (.cells (bits fun _ => false).toArray 61)).alloc (.cells (bits fun _ => false).toArray 61))) := (((Below.refl _ _).alloc (Nat.le_refl _) _).alloc (by simp) _)
  clear r2 r3 hz
  obtain ⟨b2, hb2⟩ : ∃ b, b = w.heap.size := ⟨_, rfl⟩
  obtain ⟨b3, hb3⟩ : ∃ b, b = b2 + 1 := ⟨_, rfl⟩
  rw [← hb2, ← hb3] at R3
  rw [← hb2] at R2
  rw [← hb2, ← hb3]
  have HBB : Hid (w.heap.size ≤ b2 ∧ w.heap.size ≤ b3 ∧ b2 ≠ b3) := hid (by omega)
  clear hb2 hb3
  go_loopw [9] (fun i wr => ∃ k : Nat, k ≤ n ∧ i = .int .i64 k ∧ Row wr b2 61 (bits fun _ => false) ∧ Row wr b3 61 (bits (inB (l.take k))) ∧ Below w.heap.size w wr) (fun i _ => n - (intOf i).toNat)
  case atStart => exact ⟨0, by omega, rfl, R2.out, R3.out, HB0.out⟩
  case round =>
    clear R2 R3 HB0
    obtain ⟨k, hk, rfl, hr2, hr3, hb⟩ := hrel
    have HB := hid hb
    have R2 := hid hr2
    have R3 := hid hr3
    clear hr2 hr3
    by_cases hlt : k < n
    · have hk2 : k < l.length := by rw [← HN.out]; exact hlt
      obtain ⟨b, off, rfl, hlb, c1, c2, hbd⟩ := (HS.out.below hb (Nat.le_refl _)).round hk2
      obtain ⟨r, hr⟩ : ∃ r, r = l[k] := ⟨_, rfl⟩
      rw [← hr] at c1 c2 hbd
      obtain ⟨f, c⟩ := r
      simp only at c1 c2 hbd
      have hx := ex_le (f, c)
      have hstep := seqI_take_succ l k hk2
      rw [← hr] at hstep
      obtain ⟨x, hxx⟩ : ∃ x, x = ex (f, c) := ⟨_, rfl⟩
      rw [← hxx] at hstep hx
      obtain ⟨F, C⟩ := x
      have HST := hid hstep
      have HXX := hid hxx
      have HBD := hid hbd
      simp only at hx
      clear hstep hxx hr hbd hb
      go_wp2_with (go_at_call 69; refine (existing_any f c _ HBD.out).mono ?_; rintro e w2 ⟨rfl, hb2⟩; rw [← HXX.out]; obtain ⟨y0, y1, y2, y3, y4⟩ := box_keep hb2)
      have hbw : Below w.heap.size w ((w2.setCell ⟨wr.heap.size, 0, none⟩ (.int .i64 F)).setCell ⟨wr.heap.size, 1, none⟩ (.int .i64 C)) := HB.out.trans ((((Below.refl _ wr).alloc (Nat.le_refl _) _).trans (hb2.mono (by simp)) |>.setCell (by simp) _ |>.setCell (by simp) _).mono HB.out.size)
      have q2 := hid (box_other hb2 (.int .i64 F) (.int .i64 C) R2.out)
      have q3 := hid (box_other hb2 (.int .i64 F) (.int .i64 C) R3.out)
      have q4 := hid (box_row hb2 (.int .i64 F) (.int .i64 C))
      have QB := hid hbw
      have hbv3 : wr.heap.size ≠ b3 := by have := R3.out.lt; omega
      obtain ⟨bv, hbv⟩ : ∃ bv, bv = wr.heap.size := ⟨_, rfl⟩
      have HV := hid hbv
      rw [← hbv]
      rw [← hbv] at q2 q3 q4 QB hbv3
      clear hbv hb2 y0 y1 y2 y3 y4 c1 c2 hlb hbw
      go_loopw [17] (fun j wq => ∃ z : Nat, z ≤ C ∧ j = .int .i64 z ∧ Row wq b2 61 (bits fun _ => false) ∧ Row wq b3 61 (bits (fun t => inB (l.take k) t || decide (F ≤ t ∧ t < F + z))) ∧ Row wq bv 47 [.int .i64 F, .int .i64 C] ∧ Below w.heap.size w wq) (fun j _ => C - (intOf j).toNat)
      case atStart => exact ⟨0, by omega, rfl, q2.out, by rw [bits_congr (B := inB (l.take k)) (fun t _ => by simp; omega)]; exact q3.out, q4.out, QB.out⟩
      case round =>
        clear q2 q3 q4 QB R2 R3 HB
        obtain ⟨z, hz, rfl, hr2, hr3, hr4, hb⟩ := hrel
        have HB := hid hb
        have R2 := hid hr2
        have R3 := hid hr3
        have R4 := hid hr4
        by_cases hlz : z < C
        · have c1 := hr4.cell (i := 0) rfl
          have f3 := hr3.frozen (F + z)
          have c3 := hr3.cell (bits_get (fun t => inB (l.take k) t || decide (F ≤ t ∧ t < F + z)) (F + z) (by omega))
          clear hr2 hr3 hr4 hb
          go_wp2_with fail
          go_roundw
          case rel =>
            refine ⟨z + 1, by omega, by go_num, R2.out.setOther (by have := HBB.out; simp; omega) _, ?_, R4.out.setOther (by simp; omega) _, HB.out.setCell (by have := HBB.out; simp; omega) _⟩
            have h := R3.out.set (F + z) (.bool true)
            rw [bits_set] at h
            rw [bits_congr (B := fun t => if t = F + z then true else inB (l.take k) t || decide (F ≤ t ∧ t < F + z))]
            · exact h
            · intro t _
              by_cases e : t = F + z
              · rw [if_pos e]; simp; right; omega
              · rw [if_neg e]
                have e2 : decide (F ≤ t ∧ t < F + (z + 1)) = decide (F ≤ t ∧ t < F + z) := by rw [decide_eq_decide]; omega
                rw [e2]
          case measure => simp [intOf]; omega
        · obtain rfl : z = C := by omega
          clear hb hr2 hr3 hr4
          go_wp2_with fail
          go_roundw
          case rel => exact ⟨k + 1, by omega, by go_num, R2.out, by rw [bits_congr (fun t _ => inB_step l k F z HST.out t)]; exact R3.out, HB.out⟩
          case measure => simp [intOf]; omega
    · obtain rfl : k = n := by omega
      have hr3 := R3.out
      rw [HN.out, List.take_length] at hr3
      have R4 := hid hr3
      have hz1 := zeroSet.2
      clear hb hr3
      have hld := load_bits R4.out
      have hst := store_bits (B := inB l) R2.out
      have hbl := bits_len (inB l)
      clear hld hst hbl
      go_upto_region 12 with fail
      apply wp_region_lit
      refine wpList_load_row rfl 61 (.tmp 3) rfl b3 rfl 61 (bits (inB l)).toArray (0, 0) _ R4.out Try.underlying61 rfl ?_ ?_
      · rw [hz1, List.size_toArray, bits_len]
      refine wpList_store_row rfl 61 (.tmp 2) (.tmp 27) rfl b2 (bits (inB l)).toArray rfl rfl 61 (bits fun _ => false).toArray R2.out ?_ ?_ ?_ ?_
      · rw [hz1, List.size_toArray, bits_len]
      · rw [List.size_toArray, List.size_toArray, bits_len, bits_len]
      · exact bits_one _
      have R5 := hid (Row.setRow R2.out (bits (inB l)))
      go_wp2_with fail
      refine bodyPost_ret (v := .agg (bits (inB l)).toArray) (results_cell_row rfl _ _ b2 61 _ (0, 0) _ rfl R5.out Try.underlying61 rfl (by rw [hz1, List.size_toArray, bits_len])) rfl ⟨rfl, ?_⟩
      exact HB.out.trans (Upds.below (Upds.row (F := fun k => k = b2) wr b2 _ rfl) HB.out.size (fun k e => by have := HBB.out; omega))
end Go.Proofs.Ytpcigmjbjcgdbaa
