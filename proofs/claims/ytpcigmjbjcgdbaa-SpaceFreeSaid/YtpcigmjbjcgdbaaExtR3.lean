import Derived.Test.YtpcigmjbjcgdbaaExtR2
/-! The specification: In, Sequence. -/
namespace Go.Proofs.Ytpcigmjbjcgdbaa
open Go.Lib Go.ChangeShapes Go.WideShapes Go.ChangeAt Go.RowKit

theorem inB_iff (l : List (Int × Int)) (t : Int) : (FirstAt (seqI l) t).2 = true ↔ ∃ x ∈ seqI l, (x : Int) = t := by
  rw [firstAt_snd, List.any_eq_true]; simp
theorem inB_first (l : List (Int × Int)) (t : Nat) : (FirstAt (seqI l) t).2 = inB l t := by
  rw [Bool.eq_iff_iff, inB_iff]
  unfold inB
  rw [List.contains_iff_mem]
  constructor
  · rintro ⟨x, hx, e⟩
    have : x = t := by omega
    subst this; exact hx
  · intro h; exact ⟨t, h, rfl⟩
set_option maxRecDepth 100000 in
theorem in_any (v : Value) (l : List (Int × Int)) (hl : l.length ≤ 4000) (t : Int) (ht : -9223372036854775808 ≤ t ∧ t ≤ 9223372036854775807) (w : World) (hs : RunsAt w v l) :
    Calls Try.prog 28 #[v, .int .i64 t] w (Answers (FirstAt (seqI l) t).2 w) := by
  obtain ⟨A, cap, rfl, hcap, hcap2⟩ := hs.shape
  obtain ⟨n, hn⟩ : ∃ n, n = l.length := ⟨_, rfl⟩
  rw [← hn] at hs hcap hl ⊢
  have HS := hid hs
  have HN := hid hn
  obtain ⟨ht1, ht2⟩ := ht
  clear hs hn
  obtain ⟨R, hR⟩ : ∃ R, R = (FirstAt (seqI l) t).2 := ⟨_, rfl⟩
  rw [← hR]
  have HR := hid hR
  clear hR
  go_enter Try.func28, Try.ntmps28
  go_wp2_with fail
  go_loopw [5] (fun i wr => ∃ k : Nat, k ≤ n ∧ i = .int .i64 k ∧ (∀ x ∈ seqI (l.take k), (x : Int) ≠ t) ∧ Below w.heap.size w wr) (fun i _ => n - (intOf i).toNat)
  case atStart => exact ⟨0, by omega, rfl, (fun x hx => by cases hx), Below.refl _ _⟩
  case round =>
    obtain ⟨k, hk, rfl, hno, hb⟩ := hrel
    have HB := hid hb
    have HNO := hid hno
    clear hno
    by_cases hlt : k < n
    · have hk2 : k < l.length := by rw [← HN.out]; exact hlt
      obtain ⟨b, off, rfl, hlb, c1, c2, hbd⟩ := (HS.out.below hb (Nat.le_refl _)).round hk2
      obtain ⟨r, hr⟩ : ∃ r, r = l[k] := ⟨_, rfl⟩
      rw [← hr] at c1 c2 hbd
      obtain ⟨f, c⟩ := r
      simp only at c1 c2 hbd
      have hx := ex_le (f, c)
      have hstep := seqI_take_succ l k hk2
      have hsplit := seqI_split l k hk2
      rw [← hr] at hstep hsplit
      obtain ⟨x, hxx⟩ : ∃ x, x = ex (f, c) := ⟨_, rfl⟩
      rw [← hxx] at hstep hx hsplit
      obtain ⟨F, C⟩ := x
      have HST := hid hstep
      have HSP := hid hsplit
      have HXX := hid hxx
      have HBD := hid hbd
      simp only at hx
      clear hstep hxx hr hbd hb hsplit
      by_cases h1 : (F : Int) ≤ t
      · by_cases h2 : t < (F : Int) + C
        · have hans : R = true := by
            have := HR.out
            rw [HSP.out, firstAt_yes _ _ F C t HNO.out h1 h2] at this
            exact this
          have HANS := hid hans
          clear hans
          go_wp2_with (go_at_call 68; refine (clip_any f c _ HBD.out).mono ?_; rintro e w2 ⟨rfl, hb2⟩; rw [← HXX.out])
          go_ret
          rw [HANS.out]
          exact ⟨rfl, HB.out.trans ((hb2.mono HB.out.size).alloc (Nat.le_trans HB.out.size hb2.size) _)⟩
        · have hnew : ∀ x ∈ seqI (l.take (k + 1)), (x : Int) ≠ t := by
            rw [HST.out]
            intro x hx2
            rw [List.mem_append] at hx2
            exact hx2.elim (HNO.out x) (tracks_no F C t (fun h => by omega) x)
          have HNEW := hid hnew
          clear hnew
          go_wp2_with (go_at_call 68; refine (clip_any f c _ HBD.out).mono ?_; rintro e w2 ⟨rfl, hb2⟩; rw [← HXX.out])
          go_roundw
          case rel => exact ⟨k + 1, by omega, by go_num, HNEW.out, HB.out.trans ((hb2.mono HB.out.size).alloc (Nat.le_trans HB.out.size hb2.size) _)⟩
          case measure => simp [intOf]; omega
      · have hnew : ∀ x ∈ seqI (l.take (k + 1)), (x : Int) ≠ t := by
          rw [HST.out]
          intro x hx2
          rw [List.mem_append] at hx2
          exact hx2.elim (HNO.out x) (tracks_no F C t (fun h => by omega) x)
        have HNEW := hid hnew
        clear hnew
        go_wp2_with (go_at_call 68; refine (clip_any f c _ HBD.out).mono ?_; rintro e w2 ⟨rfl, hb2⟩; rw [← HXX.out])
        go_roundw
        case rel => exact ⟨k + 1, by omega, by go_num, HNEW.out, HB.out.trans ((hb2.mono HB.out.size).alloc (Nat.le_trans HB.out.size hb2.size) _)⟩
        case measure => simp [intOf]; omega
    · obtain rfl : k = n := by omega
      have hans : R = false := by
        have := HR.out
        rw [firstAt_no _ _ (by have := HNO.out; rw [HN.out, List.take_length] at this; exact this)] at this
        exact this
      have HANS := hid hans
      clear hans hb
      go_wp2_with fail
      go_ret
      rw [HANS.out]
      exact ⟨rfl, HB.out⟩
/-- the cells of a list of numbers -/
def nums (s : List Nat) : List Value := s.map fun t : Nat => .int .i64 (t : Int)
def OwnInts (w : World) (v : Value) (s : List Nat) : Prop := SliceIs w 3 1 v s.length (nums s)
/-- what Sequence leaves -/
def SeqMade (w : World) (s : List Nat) (e : Ending) (w' : World) : Prop := ∃ u, e = .returned u ∧ OwnInts w' u s ∧ Below w.heap.size w w'
theorem nums_append (a b : List Nat) : nums (a ++ b) = nums a ++ nums b := by unfold nums; simp
theorem news1 (w : World) (x : Value) (t : TypeId) (g : Nat) (hg : g = w.heap.size) : ∀ j u, [x][j]? = some u → (w.alloc (.cells #[x] t)).cell? ((⟨g, 0, none⟩ : Addr).add j) = some u := by
  intro j u hj
  subst hg
  rw [Go.WideShapes.add_plain, Nat.zero_add]
  exact (Row.new w [x] t).cell hj
set_option maxRecDepth 100000 in
theorem sequence_any (v : Value) (l : List (Int × Int)) (hl : l.length ≤ 4000) (w : World) (hs : RunsAt w v l) :
    Calls Try.prog 34 #[v] w (SeqMade w (seqI l)) := by
  obtain ⟨A, cap, rfl, hcap, hcap2⟩ := hs.shape
  obtain ⟨n, hn⟩ : ∃ n, n = l.length := ⟨_, rfl⟩
  rw [← hn] at hs hcap hl ⊢
  have HS := hid hs
  have HN := hid hn
  clear hs hn
  go_enter Try.func34, Try.ntmps34
  go_wp2_with fail
  go_loopw [3, 4] (fun s i wr => ∃ (k : Nat) (u : Value), k ≤ n ∧ i = .int .i64 k ∧ u = s ∧ OwnInts wr u (seqI (l.take k)) ∧ Fresh w u ∧ Below w.heap.size w wr) (fun _ i _ => n - (intOf i).toNat)
  case atStart => exact ⟨0, _, by omega, rfl, rfl, .inl ⟨_, rfl, rfl, rfl⟩, (fun k hk => by obtain ⟨_, _, _, e, h0, _⟩ := hk; simp only [Value.slice.injEq] at e; omega), (Below.refl _ _).alloc (Nat.le_refl _) _⟩
  case round =>
    obtain ⟨k, u, hk, rfl, rfl, ho, hf, hb⟩ := hrel
    have HB := hid hb
    have HO := hid ho
    have HF := hid hf
    by_cases hlt : k < n
    · have hk2 : k < l.length := by rw [← HN.out]; exact hlt
      obtain ⟨b, off, rfl, hlb, c1, c2, hbd⟩ := (HS.out.below hb (Nat.le_refl _)).round hk2
      obtain ⟨r, hr⟩ : ∃ r, r = l[k] := ⟨_, rfl⟩
      rw [← hr] at c1 c2 hbd
      obtain ⟨f, c⟩ := r
      simp only at c1 c2 hbd
      have hx := ex_le (f, c)
      have hstep := seqI_take_succ l k hk2
      rw [← hr] at hstep
      have hle := seqI_len_le (l.take k)
      have hle2 : (l.take k).length ≤ 4000 := by simp; omega
      obtain ⟨x, hxx⟩ : ∃ x, x = ex (f, c) := ⟨_, rfl⟩
      rw [← hxx] at hstep hx
      obtain ⟨F, C⟩ := x
      have HST := hid hstep
      have HXX := hid hxx
      have HBD := hid hbd
      simp only at hx
      obtain ⟨m, hm⟩ : ∃ m, m = (seqI (l.take k)).length := ⟨_, rfl⟩
      have hm5 : m ≤ 512000 := by omega
      have HM := hid hm
      have hlt1 : ∀ b, Value.home u b → b < wr.heap.size := SliceIs.lt ho
      have HLT := hid hlt1
      clear hstep hxx hr hbd hb ho hf hle hle2 hm hlt1
      go_wp2_with (go_at_call 68; refine (clip_any f c _ HBD.out).mono ?_; rintro e w2 ⟨rfl, hb2⟩; rw [← HXX.out])
      have QB := hid ((HB.out.trans (hb2.mono HB.out.size)).alloc (Nat.le_trans HB.out.size hb2.size) (.cells #[.int .i64 F, .int .i64 C] 47))
      have QR := hid (Row.new w2 [.int .i64 F, .int .i64 C] 47)
      have QO : Hid (OwnInts (w2.alloc (.cells #[.int .i64 F, .int .i64 C] 47)) u (seqI (l.take k))) := SliceIs.alloc (SliceIs.upd HO.out (Upds.of_below hb2 (Nat.le_refl _)) (F := fun _ => False) (fun _ _ h => h)) _
      have QN : Hid (∀ b, Value.home u b → b ≠ w2.heap.size) := fun b h => by have := HLT.out b h; have := hb2.size; omega
      have QS : Hid (w.heap.size ≤ w2.heap.size) := Nat.le_trans HB.out.size hb2.size
      obtain ⟨bv, hbv⟩ : ∃ bv, bv = w2.heap.size := ⟨_, rfl⟩
      obtain ⟨w3, hw3⟩ : ∃ w3, w3 = w2.alloc (.cells #[.int .i64 F, .int .i64 C] 47) := ⟨_, rfl⟩
      rw [← hbv, ← hw3] at QR
      rw [← hbv] at QN QS
      rw [← hw3] at QB QO
      rw [← hbv, ← hw3]
      clear hb2 hbv hw3 c1 c2 hlb HO HLT
      go_loopw [3, 6] (fun s j wq => ∃ (z : Nat) (u : Value), z ≤ C ∧ j = .int .i64 z ∧ u = s ∧ OwnInts wq u (seqI (l.take k) ++ tracks (F, z)) ∧ Fresh w u ∧ Row wq bv 47 [.int .i64 F, .int .i64 C] ∧ (∀ b, Value.home u b → b ≠ bv) ∧ Below w.heap.size w wq) (fun _ j _ => C - (intOf j).toNat)
      case atStart => exact ⟨0, u, by omega, rfl, rfl, by unfold tracks; simp; exact QO.out, HF.out, QR.out, QN.out, QB.out⟩
      case round =>
        clear QB QR QO QN HB HF
        obtain ⟨z, u, hz, rfl, rfl, ho, hf, hr, hn, hb⟩ := hrel
        have HB := hid hb
        have HO := hid ho
        have HF := hid hf
        have HR := hid hr
        have HNV := hid hn
        by_cases hlz : z < C
        · have c1 := hr.cell (i := 0) rfl
          have c2 := hr.cell (i := 1) rfl
          have hlen : (seqI (l.take k) ++ tracks (F, z)).length = m + z := by rw [List.length_append, tracks_len, HM.out]
          unfold OwnInts at ho
          rw [hlen] at ho
          obtain ⟨cs, hcs⟩ : ∃ cs, cs = nums (seqI (l.take k) ++ tracks (F, z)) := ⟨_, rfl⟩
          rw [← hcs] at ho
          have HO2 := hid ho
          have HCS := hid hcs
          clear ho hf hr hn hb hlen hcs
          go_wp2_with (at_builtin; refine wpList_append_slice rfl (.tmp 25) (.tmp 30) 36 rfl 3 (.int .i64 0) 1 8 Try.underlying36 (by kernel_rfl) (by kernel_rfl) u (m + z) cs rfl (SliceIs.alloc HO2.out _) ⟨wr.heap.size, 0, none⟩ 1 1 [.int .i64 ((F : Int) + z)] rfl rfl (news1 _ _ _ _ rfl) (by simp [Value.oneCell']) (by omega) (by omega) (by omega) ?_; intro g8 cap8 w8 hs8 hu8 hh8)
          go_roundw
          case rel =>
            have hs9 : OwnInts w8 (.slice (some ⟨g8, 0, none⟩) (m + z + 1) cap8) (seqI (l.take k) ++ tracks (F, z + 1)) := by
              have e1 : seqI (l.take k) ++ tracks (F, z + 1) = (seqI (l.take k) ++ tracks (F, z)) ++ [F + z] := by
                have e2 : tracks (F, z + 1) = tracks (F, z) ++ [F + z] := by unfold tracks; rw [List.range'_concat]; simp
                rw [e2, List.append_assoc]
              have e3 : ((seqI (l.take k) ++ tracks (F, z)) ++ [F + z]).length = m + z + 1 := by rw [List.length_append, List.length_append, tracks_len, HM.out]; rfl
              unfold OwnInts
              rw [e1, e3, nums_append, ← HCS.out]
              exact hs8.out
            refine ⟨z + 1, _, by omega, by go_num, rfl, hs9, fun b hb => ?_, (HR.out.alloc _).upd hu8.out (fun h => HNV.out _ h rfl), fun b hb => ?_, (HB.out.alloc HB.out.size _).trans (hu8.out.below (by have := HB.out.size; simp; omega) (fun b hb => HF.out b hb))⟩
            · exact (hh8.out b hb).elim (HF.out b) (fun h => by have := HB.out.size; simp at h; omega)
            · exact (hh8.out b hb).elim (HNV.out b) (fun h => by have := HR.out.lt; simp at h; omega)
          case measure => simp [intOf]; omega
        · obtain rfl : z = C := by omega
          have c1 := hr.cell (i := 0) rfl
          have c2 := hr.cell (i := 1) rfl
          clear ho hf hr hn hb
          go_wp2_with fail
          go_roundw
          case rel => exact ⟨k + 1, u, by omega, by go_num, rfl, by rw [HST.out]; exact HO.out, HF.out, HB.out⟩
          case measure => simp [intOf]; omega
    · obtain rfl : k = n := by omega
      have hlen : seqI (l.take k) = seqI l := by rw [HN.out, List.take_length]
      have HL := hid hlen
      clear hlen hb ho hf
      go_wp2_with fail
      go_ret
      exact ⟨_, rfl, by rw [← HL.out]; exact HO.out, HB.out⟩
end Go.Proofs.Ytpcigmjbjcgdbaa
