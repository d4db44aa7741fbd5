import Derived.Test.YtpcigmjbjcgdbaaExtT1
import Derived.Test.YtpcigmjbjcgdbaaExtM2
/-! Size, Index, At, Contains. -/
namespace Go.Proofs.Ytpcigmjbjcgdbaa
open Go.Lib Go.ChangeShapes Go.WideShapes Go.ChangeAt Go.RowKit

theorem field0 (a b : Int) (w : World) : (Instr.field 47 (.agg #[.int .i64 a, .int .i64 b]) 0).run Try.prog w = .ok (.int .i64 a) w := by kernel_rfl
theorem field1 (a b : Int) (w : World) : (Instr.field 47 (.agg #[.int .i64 a, .int .i64 b]) 1).run Try.prog w = .ok (.int .i64 b) w := by kernel_rfl
theorem ret_int {a b : Int} (h : a = b) : Ending.returned (.int .i64 a) = .returned (.int .i64 b) := by rw [h]
theorem box_keep {wr w2 : World} {x y : Value} {t : TypeId} (hb : Below (wr.alloc (.cells #[x, y] t)).heap.size (wr.alloc (.cells #[x, y] t)) w2) :
    w2.cell? ⟨wr.heap.size, 0, none⟩ = some x ∧ w2.cell? ⟨wr.heap.size, 1, none⟩ = some y ∧ w2.frozen? ⟨wr.heap.size, 0, none⟩ = false ∧ w2.frozen? ⟨wr.heap.size, 1, none⟩ = false ∧ wr.heap.size < w2.heap.size := by
  have h : Row (wr.alloc (.cells #[x, y] t)) wr.heap.size t [x, y] := Row.new wr [x, y] t
  have h2 : Row w2 wr.heap.size t [x, y] := h.upd (F := fun _ => False) (Upds.of_below hb (Nat.le_refl _)) (fun h => h)
  exact ⟨h2.cell rfl, h2.cell rfl, h2.frozen 0, h2.frozen 1, h2.lt⟩
/-- what a round finds of its run -/
theorem RunsAt.round {w : World} {A : Option Addr} {n cap : Nat} {l : List (Int × Int)} (h : RunsAt w (.slice A n cap) l) {k : Nat} (hk : k < l.length) :
    ∃ b off, A = some ⟨b, off, none⟩ ∧ b < w.heap.size ∧ w.cell? ⟨b, off + k * 2, none⟩ = some (.int .i64 l[k].1) ∧ w.cell? ⟨b, off + k * 2 + 1, none⟩ = some (.int .i64 l[k].2) ∧
      (-9223372036854775808 ≤ l[k].1 ∧ l[k].1 ≤ 9223372036854775807 ∧ -9223372036854775808 ≤ l[k].2 ∧ l[k].2 ≤ 9223372036854775807) := by
  obtain ⟨A', cap', e, h1, h2, h3, h4⟩ := h
  simp only [Value.slice.injEq] at e
  obtain ⟨rfl, rfl, rfl⟩ := e
  obtain ⟨b, off, rfl, hlt, hc⟩ := h4 (by omega)
  exact ⟨b, off, rfl, hlt, (hc k hk).1, (hc k hk).2, h3 _ (List.getElem_mem _)⟩
theorem RunsAt.shape {w : World} {v : Value} {l : List (Int × Int)} (h : RunsAt w v l) : ∃ A cap, v = .slice A l.length cap ∧ l.length ≤ cap ∧ cap ≤ 9223372036854775807 := by
  obtain ⟨A', cap', e, h1, h2, h3, h4⟩ := h
  exact ⟨_, _, e, h1, h2⟩
set_option maxRecDepth 100000 in
theorem size_any (v : Value) (l : List (Int × Int)) (hl : l.length ≤ 4000) (w : World) (hs : RunsAt w v l) :
    Calls Try.prog 33 #[v] w fun e w' => e = .returned (.int .i64 (seqI l).length) ∧ Below w.heap.size w w' := by
  obtain ⟨A, cap, rfl, hcap, hcap2⟩ := hs.shape
  obtain ⟨n, hn⟩ : ∃ n, n = l.length := ⟨_, rfl⟩
  rw [← hn] at hs hcap hl ⊢
  have HS := hid hs
  have HN := hid hn
  clear hs hn
  go_enter Try.func33, Try.ntmps33
  go_wp2_with fail
  go_loopw [3, 8] (fun s i wr => ∃ k : Nat, k ≤ n ∧ i = .int .i64 k ∧ s = .int .i64 (seqI (l.take k)).length ∧ Below w.heap.size w wr) (fun _ i _ => n - (intOf i).toNat)
  case atStart => exact ⟨0, by omega, rfl, rfl, Below.refl _ _⟩
  case round =>
    obtain ⟨k, hk, rfl, rfl, hb⟩ := hrel
    have HB := hid hb
    by_cases hlt : k < n
    · have hk2 : k < l.length := by rw [← HN.out]; exact hlt
      obtain ⟨b, off, rfl, hlb, c1, c2, hbd⟩ := (HS.out.below hb (Nat.le_refl _)).round hk2
      obtain ⟨r, hr⟩ : ∃ r, r = l[k] := ⟨_, rfl⟩
      rw [← hr] at c1 c2 hbd
      obtain ⟨f, c⟩ := r
      simp only at c1 c2 hbd
      have hx := ex_le (f, c)
      have hstep := seqI_len_take l k hk2
      rw [← hr] at hstep
      have hle := seqI_len_le (l.take k)
      have hle2 : (l.take k).length ≤ 4000 := by simp; omega
      obtain ⟨m, hm⟩ : ∃ m, m = (seqI (l.take k)).length := ⟨_, rfl⟩
      obtain ⟨x, hxx⟩ : ∃ x, x = ex (f, c) := ⟨_, rfl⟩
      rw [← hm] at hstep hle ⊢
      rw [← hxx] at hstep hx
      have HST := hid hstep
      have HXX := hid hxx
      have HBD := hid hbd
      have hm5 : m ≤ 512000 := by omega
      clear hstep hxx hr hm hle hle2 hbd hb
      go_wp2_with (go_at_call 69; refine (existing_any f c _ HBD.out).mono ?_; rintro e w2 ⟨rfl, hb2⟩; rw [← HXX.out]; have hfd := field1 x.1 x.2 w2)
      go_roundw
      case rel => exact ⟨k + 1, by omega, by go_num, by rw [HST.out]; go_num, HB.out.trans ((((Below.refl _ wr).alloc (Nat.le_refl _) _).trans (hb2.mono (by simp))).mono HB.out.size)⟩
      case measure => simp [intOf]; omega
    · obtain rfl : k = n := by omega
      have hlen : (seqI (l.take k)).length = (seqI l).length := by rw [HN.out, List.take_length]
      have HL := hid hlen
      clear hlen
      go_wp2_with fail
      go_ret
      exact ⟨ret_int (by rw [HL.out]), hb⟩
set_option maxRecDepth 100000 in
theorem index_any (v : Value) (l : List (Int × Int)) (hl : l.length ≤ 4000) (t : Int) (ht : -9223372036854775808 ≤ t ∧ t ≤ 9223372036854775807) (w : World) (hs : RunsAt w v l) :
    Calls Try.prog 31 #[v, .int .i64 t] w fun e w' => e = .returned (.tuple #[.int .i64 (FirstAt (seqI l) t).1, .bool (FirstAt (seqI l) t).2]) ∧ Below w.heap.size w w' := by
  obtain ⟨A, cap, rfl, hcap, hcap2⟩ := hs.shape
  obtain ⟨n, hn⟩ : ∃ n, n = l.length := ⟨_, rfl⟩
  rw [← hn] at hs hcap hl ⊢
  have HS := hid hs
  have HN := hid hn
  obtain ⟨ht1, ht2⟩ := ht
  clear hs hn
  obtain ⟨R1, R2, hR⟩ : ∃ R1 R2, (R1, R2) = FirstAt (seqI l) t := ⟨_, _, rfl⟩
  rw [← hR]
  have HR := hid hR
  clear hR
  go_enter Try.func31, Try.ntmps31
  go_wp2_with fail
  go_loopw [6, 11] (fun s i wr => ∃ k : Nat, k ≤ n ∧ i = .int .i64 k ∧ s = .int .i64 (seqI (l.take k)).length ∧ (∀ x ∈ seqI (l.take k), (x : Int) ≠ t) ∧ Below w.heap.size w wr) (fun _ i _ => n - (intOf i).toNat)
  case atStart => exact ⟨0, by omega, rfl, rfl, (fun x hx => by cases hx), Below.refl _ _⟩
  case round =>
    obtain ⟨k, hk, rfl, rfl, hno, hb⟩ := hrel
    have HB := hid hb
    have HNO := hid hno
    clear hno
    by_cases hlt : k < n
    · have hk2 : k < l.length := by rw [← HN.out]; exact hlt
      obtain ⟨b, off, rfl, hlb, c1, c2, hbd⟩ := (HS.out.below hb (Nat.le_refl _)).round hk2
      obtain ⟨r, hr⟩ : ∃ r, r = l[k] := ⟨_, rfl⟩
      rw [← hr] at c1 c2 hbd
      obtain ⟨f, c⟩ := r
      simp only at c1 c2 hbd
      have hx := ex_le (f, c)
      have hstep := seqI_take_succ l k hk2
      have hstepn := seqI_len_take l k hk2
      have hsplit := seqI_split l k hk2
      rw [← hr] at hstep hsplit hstepn
      have hle := seqI_len_le (l.take k)
      have hle2 : (l.take k).length ≤ 4000 := by simp; omega
      obtain ⟨m, hm⟩ : ∃ m, m = (seqI (l.take k)).length := ⟨_, rfl⟩
      obtain ⟨x, hxx⟩ : ∃ x, x = ex (f, c) := ⟨_, rfl⟩
      rw [← hm] at hle hstepn ⊢
      rw [← hxx] at hstep hx hsplit hstepn
      obtain ⟨F, C⟩ := x
      have HST := hid hstep
      have HSN := hid hstepn
      have HSP := hid hsplit
      have HXX := hid hxx
      have HBD := hid hbd
      have HM := hid hm
      have hm5 : m ≤ 512000 := by omega
      simp only at hx
      clear hstep hxx hr hm hle hle2 hbd hb hsplit hstepn
      by_cases h1 : (F : Int) ≤ t
      · by_cases h2 : t < (F : Int) + C
        · have hans : R1 = (m : Int) + t - F ∧ R2 = true := by
            have := HR.out
            rw [HSP.out, firstAt_yes _ _ F C t HNO.out h1 h2, ← HM.out] at this
            simp only [Prod.mk.injEq] at this
            exact ⟨by omega, this.2⟩
          have HANS := hid hans
          clear hans
          go_wp2_with (go_at_call 69; refine (existing_any f c _ HBD.out).mono ?_; rintro e w2 ⟨rfl, hb2⟩; rw [← HXX.out]; obtain ⟨y0, y1, y2, y3, y4⟩ := box_keep hb2)
          go_ret2
          rw [HANS.out.1, HANS.out.2]
          exact ⟨rfl, HB.out.trans (((((Below.refl _ wr).alloc (Nat.le_refl _) _).trans (hb2.mono (by simp)) |>.setCell (by simp) _) |>.setCell (by simp) _).mono HB.out.size)⟩
        · have hnew : ∀ x ∈ seqI (l.take (k + 1)), (x : Int) ≠ t := by
            rw [HST.out]
            intro x hx2
            rw [List.mem_append] at hx2
            exact hx2.elim (HNO.out x) (tracks_no F C t (fun h => by omega) x)
          have HNEW := hid hnew
          clear hnew
          go_wp2_with (go_at_call 69; refine (existing_any f c _ HBD.out).mono ?_; rintro e w2 ⟨rfl, hb2⟩; rw [← HXX.out]; obtain ⟨y0, y1, y2, y3, y4⟩ := box_keep hb2)
          go_roundw
          case rel => exact ⟨k + 1, by omega, by go_num, by rw [HSN.out]; go_num, HNEW.out, HB.out.trans (((((Below.refl _ wr).alloc (Nat.le_refl _) _).trans (hb2.mono (by simp)) |>.setCell (by simp) _) |>.setCell (by simp) _).mono HB.out.size)⟩
          case measure => simp [intOf]; omega
      · have hnew : ∀ x ∈ seqI (l.take (k + 1)), (x : Int) ≠ t := by
          rw [HST.out]
          intro x hx2
          rw [List.mem_append] at hx2
          exact hx2.elim (HNO.out x) (tracks_no F C t (fun h => by omega) x)
        have HNEW := hid hnew
        clear hnew
        go_wp2_with (go_at_call 69; refine (existing_any f c _ HBD.out).mono ?_; rintro e w2 ⟨rfl, hb2⟩; rw [← HXX.out]; obtain ⟨y0, y1, y2, y3, y4⟩ := box_keep hb2)
        go_roundw
        case rel => exact ⟨k + 1, by omega, by go_num, by rw [HSN.out]; go_num, HNEW.out, HB.out.trans (((((Below.refl _ wr).alloc (Nat.le_refl _) _).trans (hb2.mono (by simp)) |>.setCell (by simp) _) |>.setCell (by simp) _).mono HB.out.size)⟩
        case measure => simp [intOf]; omega
    · obtain rfl : k = n := by omega
      have hans : R1 = 0 ∧ R2 = false := by
        have := HR.out
        rw [firstAt_no _ _ (by have := HNO.out; rw [HN.out, List.take_length] at this; exact this)] at this
        simpa using this
      have HANS := hid hans
      clear hans hb
      go_wp2_with fail
      go_ret2
      rw [HANS.out.1, HANS.out.2]
      exact ⟨rfl, HB.out⟩
set_option maxRecDepth 100000 in
theorem at_any (v : Value) (l : List (Int × Int)) (hl : l.length ≤ 4000) (t : Int) (ht : -9223372036854775808 ≤ t ∧ t ≤ 9223372036854775807) (w : World) (hs : RunsAt w v l) :
    Calls Try.prog 29 #[v, .int .i64 t] w fun e w' => e = .returned (.tuple #[.int .i64 (AtSeq (seqI l) t).1, .bool (AtSeq (seqI l) t).2]) ∧ Below w.heap.size w w' := by
  obtain ⟨A, cap, rfl, hcap, hcap2⟩ := hs.shape
  obtain ⟨n, hn⟩ : ∃ n, n = l.length := ⟨_, rfl⟩
  rw [← hn] at hs hcap hl ⊢
  have HS := hid hs
  have HN := hid hn
  obtain ⟨ht1, ht2⟩ := ht
  clear hs hn
  by_cases h0 : t < 0
  · rw [atSeq_neg _ _ h0]
    go_enter Try.func29, Try.ntmps29
    go_wp2_with fail
    go_ret2
    exact ⟨rfl, Below.refl _ _⟩
  obtain ⟨R1, R2, hR⟩ : ∃ R1 R2, (R1, R2) = AtSeq (seqI l) t := ⟨_, _, rfl⟩
  rw [← hR]
  have HR := hid hR
  clear hR
  go_enter Try.func29, Try.ntmps29
  go_wp2_with fail
  go_loopw [1, 12] (fun s i wr => ∃ (k : Nat) (z : Int), k ≤ n ∧ i = .int .i64 k ∧ s = .int .i64 z ∧ z = t - (seqI (l.take k)).length ∧ 0 ≤ z ∧ Below w.heap.size w wr) (fun _ i _ => n - (intOf i).toNat)
  case atStart => exact ⟨0, t, by omega, rfl, rfl, by simp [seqI_nil], by omega, Below.refl _ _⟩
  case round =>
    obtain ⟨k, z, hk, rfl, rfl, hz, hz0, hb⟩ := hrel
    have HB := hid hb
    by_cases hlt : k < n
    · have hk2 : k < l.length := by rw [← HN.out]; exact hlt
      obtain ⟨b, off, rfl, hlb, c1, c2, hbd⟩ := (HS.out.below hb (Nat.le_refl _)).round hk2
      obtain ⟨r, hr⟩ : ∃ r, r = l[k] := ⟨_, rfl⟩
      rw [← hr] at c1 c2 hbd
      obtain ⟨f, c⟩ := r
      simp only at c1 c2 hbd
      have hx := ex_le (f, c)
      have hstepn := seqI_len_take l k hk2
      have hsplit := seqI_split l k hk2
      rw [← hr] at hsplit hstepn
      have hle := seqI_len_le (l.take k)
      have hle2 : (l.take k).length ≤ 4000 := by simp; omega
      obtain ⟨m, hm⟩ : ∃ m, m = (seqI (l.take k)).length := ⟨_, rfl⟩
      obtain ⟨x, hxx⟩ : ∃ x, x = ex (f, c) := ⟨_, rfl⟩
      rw [← hm] at hle hstepn hz
      rw [← hxx] at hx hsplit hstepn
      obtain ⟨F, C⟩ := x
      have HSN := hid hstepn
      have HSP := hid hsplit
      have HXX := hid hxx
      have HBD := hid hbd
      have HM := hid hm
      have HZ := hid hz
      have hm5 : m ≤ 512000 := by omega
      have hzt : z ≤ t := by omega
      simp only at hx
      clear hxx hr hm hle hle2 hbd hb hsplit hstepn hz
      by_cases h1 : z < (C : Int)
      · have hans : R1 = (F : Int) + z ∧ R2 = true := by
          have := HR.out
          have hz := HZ.out
          have hm := HM.out
          rw [HSP.out, atSeq_yes _ _ F C t (by omega) (by omega), ← HM.out] at this
          simp only [Prod.mk.injEq] at this
          exact ⟨by omega, this.2⟩
        have HANS := hid hans
        clear hans
        go_wp2_with (go_at_call 69; refine (existing_any f c _ HBD.out).mono ?_; rintro e w2 ⟨rfl, hb2⟩; rw [← HXX.out]; obtain ⟨y0, y1, y2, y3, y4⟩ := box_keep hb2)
        go_ret2
        rw [HANS.out.1, HANS.out.2]
        exact ⟨rfl, HB.out.trans (((((Below.refl _ wr).alloc (Nat.le_refl _) _).trans (hb2.mono (by simp)) |>.setCell (by simp) _) |>.setCell (by simp) _).mono HB.out.size)⟩
      · go_wp2_with (go_at_call 69; refine (existing_any f c _ HBD.out).mono ?_; rintro e w2 ⟨rfl, hb2⟩; rw [← HXX.out]; obtain ⟨y0, y1, y2, y3, y4⟩ := box_keep hb2)
        go_roundw
        case rel => exact ⟨k + 1, z - C, by omega, by go_num, rfl, by rw [HSN.out]; have := HZ.out; omega, by omega, HB.out.trans (((((Below.refl _ wr).alloc (Nat.le_refl _) _).trans (hb2.mono (by simp)) |>.setCell (by simp) _) |>.setCell (by simp) _).mono HB.out.size)⟩
        case measure => simp [intOf]; omega
    · obtain rfl : k = n := by omega
      have hans : R1 = 0 ∧ R2 = false := by
        have := HR.out
        rw [HN.out, List.take_length] at hz
        rw [atSeq_no _ _ (by omega)] at this
        simpa using this
      have HANS := hid hans
      clear hans hb hz
      go_wp2_with fail
      go_ret2
      rw [HANS.out.1, HANS.out.2]
      exact ⟨rfl, HB.out⟩
set_option maxRecDepth 100000 in
theorem contains_any (v : Value) (l : List (Int × Int)) (hl : l.length ≤ 4000) (t : Int) (ht : -9223372036854775808 ≤ t ∧ t ≤ 9223372036854775807) (w : World) (hs : RunsAt w v l) :
    Calls Try.prog 27 #[v, .int .i64 t] w fun e w' => e = .returned (.bool (FirstAt (seqI l) t).2) ∧ Below w.heap.size w w' := by
  obtain ⟨A, cap, rfl, hcap, hcap2⟩ := hs.shape
  have HS := hid hs
  clear hs
  obtain ⟨R1, R2, hR⟩ : ∃ R1 R2, (R1, R2) = FirstAt (seqI l) t := ⟨_, _, rfl⟩
  rw [← hR]
  have HR := hid hR
  clear hR
  go_enter Try.func27, Try.ntmps27
  go_wp2_with fail
  refine (index_any _ l hl t ht _ HS.out).mono ?_
  rintro e w2 ⟨rfl, hb2⟩
  rw [← HR.out]
  go_wp2_with fail
  go_ret
  exact ⟨rfl, hb2⟩
end Go.Proofs.Ytpcigmjbjcgdbaa
