import Derived.Test.YtlmhlinjlneagaaWireT7
namespace Go.Proofs.Ytlmhlinjlneagaa
open Go.Lib Go.ChangeShapes Go.WideShapes Go.ChangeAt Go.RowKit

/-- the reading of a text, through 'read' -/
def TxtRead (b t : Nat) (s : ByteArray) (most : Int) (w : World) (e : Ending) (w' : World) : Prop :=
  ∃ n : Nat, e = .returned (.int .u64 n) ∧ UpdT b t w w' ∧ match dec s.data.toList 0 0 with
  | none => Rd w' b ByteArray.empty 11 ∧ w'.cell? ⟨t, 0, none⟩ = w.cell? ⟨t, 0, none⟩
  | some (n, c) => c ≤ s.size ∧
    if most < (n : Int) then Rd w' b ByteArray.empty 8 ∧ w'.cell? ⟨t, 0, none⟩ = w.cell? ⟨t, 0, none⟩
    else if s.size - c < n then Rd w' b ByteArray.empty 11 ∧ w'.cell? ⟨t, 0, none⟩ = w.cell? ⟨t, 0, none⟩
    else Rd w' b ((s.extract c s.size).extract n (s.size - c)) 0 ∧ w'.cell? ⟨t, 0, none⟩ = some (.string ((s.extract c s.size).extract 0 n))

theorem fail_end {W : World} {b t : Nat} {R : ByteArray} (ht : t ≠ b) (h : Rd W b R 0) (f : Nat) :
    UpdT b t W ((W.setCell ⟨b, 0, none⟩ (.string ByteArray.empty)).setCell ⟨b, 1, none⟩ (.int .i64 f)) ∧ Rd ((W.setCell ⟨b, 0, none⟩ (.string ByteArray.empty)).setCell ⟨b, 1, none⟩ (.int .i64 f)) b ByteArray.empty f ∧ ((W.setCell ⟨b, 0, none⟩ (.string ByteArray.empty)).setCell ⟨b, 1, none⟩ (.int .i64 f)).cell? ⟨t, 0, none⟩ = W.cell? ⟨t, 0, none⟩ := by
  refine ⟨((Upd.set (b := b) W 0 _).trans (Upd.set (b := b) _ 1 _)).wide, (h.set0 _).set1 f, ?_⟩
  refine (World.cell?_setCell_other _ _ _ _ (fun e => ht (congrArg Addr.block e).symm)).trans ?_
  exact World.cell?_setCell_other _ _ _ _ (fun e => ht (congrArg Addr.block e).symm)

set_option maxRecDepth 100000 in
theorem read_text (b p q t : Nat) (ht : t ≠ b) (hpt : p ≠ t) (hpb : p ≠ b) (hqb : q ≠ b) (s : ByteArray) (hs : s.size ≤ 9223372036854775807) (most : Int) (m0 : -9223372036854775808 ≤ most) (m1 : most ≤ 9223372036854775807) (w : World) (h : Rd w b s 0)
    (hp : w.cell? ⟨p, 0, none⟩ = some (.pointer (some ⟨b, 0, none⟩))) (hq : w.cell? ⟨q, 0, none⟩ = some (.int .i64 most)) (T : ByteArray) (hc : w.cell? ⟨t, 0, none⟩ = some (.string T)) (hf : w.frozen? ⟨t, 0, none⟩ = false) :
    Calls Try.prog 54 #[.pointer (some ⟨b, 0, none⟩), .func (.func 57) #[] #[.pointer (some ⟨p, 0, none⟩), .pointer (some ⟨q, 0, none⟩), .pointer (some ⟨t, 0, none⟩)]] w (TxtRead b t s most w) := by
  have h1 := h.err
  have HN := hid (textTake_any b p q t ht hpt hpb hqb s hs most m0 m1 w h hp hq T hc hf)
  have TN := hid ht
  have KC := hid hc
  clear h hs hp hq hf ht hpt hpb hqb hc
  go_enter Try.func54, Try.ntmps54
  go_wp2_with fail
  refine HN.out.mono ?_
  intro x w' hx
  unfold TxtPost at hx
  cases hd : dec s.data.toList 0 0 with
  | none =>
    rw [hd] at hx
    obtain ⟨hu, rfl, hr, hcc⟩ := hx
    have HD := hid hd
    have HU := hid hu
    have HR := hid hr
    have HC := hid hcc
    have g0 := hr.left
    have g1 := hr.err
    have g2 := hr.frozen 0
    have g3 := hr.frozen 1
    clear hd hu hr hcc
    go_wp2_with fail
    go_ret
    have hz := fail_end TN.out HR.out 11
    unfold TxtRead
    rw [HD.out]
    exact ⟨0, rfl, HU.out.trans hz.1, hz.2.1, hz.2.2.trans HC.out⟩
  | some z =>
    obtain ⟨n, c⟩ := z
    rw [hd] at hx
    obtain ⟨hu, hcs, hx⟩ := hx
    have HD := hid hd
    have HU := hid hu
    clear hd hu
    by_cases hm : most < (n : Int)
    · rw [if_pos hm] at hx
      obtain ⟨rfl, hr, hcc⟩ := hx
      have HR := hid hr
      have HC := hid hcc
      have g0 := hr.left
      have g1 := hr.err
      have g2 := hr.frozen 0
      have g3 := hr.frozen 1
      clear hr hcc
      go_wp2_with fail
      go_ret
      have hz := fail_end TN.out HR.out 8
      unfold TxtRead
      rw [HD.out]
      refine ⟨0, rfl, HU.out.trans hz.1, hcs, ?_⟩
      rw [if_pos hm]
      exact ⟨hz.2.1, hz.2.2.trans HC.out⟩
    · rw [if_neg hm] at hx
      by_cases hn : s.size - c < n
      · rw [if_pos hn] at hx
        obtain ⟨rfl, hr, hcc⟩ := hx
        have HR := hid hr
        have HC := hid hcc
        have HM := hid hm
        have g0 := hr.left
        have g1 := hr.err
        have g2 := hr.frozen 0
        have g3 := hr.frozen 1
        clear hr hcc hm
        go_wp2_with fail
        go_ret
        have hz := fail_end TN.out HR.out 11
        unfold TxtRead
        rw [HD.out]
        refine ⟨0, rfl, HU.out.trans hz.1, hcs, ?_⟩
        rw [if_neg (by have := HM.out; omega), if_pos hn]
        exact ⟨hz.2.1, hz.2.2.trans HC.out⟩
      · rw [if_neg hn] at hx
        obtain ⟨rfl, hr, hcc⟩ := hx
        have HR := hid hr
        have HC := hid hcc
        have HM := hid hm
        have HX := hid hn
        clear hr hcc hm hn
        go_wp2_with fail
        go_ret
        unfold TxtRead
        rw [HD.out]
        refine ⟨n, rfl, HU.out, hcs, ?_⟩
        rw [if_neg (by have := HM.out; omega), if_neg (by have := HX.out; omega)]
        exact ⟨HR.out, HC.out⟩

section
variable (w : World) (x : Value) (s : TypeId) (y : Value) (t : TypeId) (z : Value) (u : TypeId)
theorem three_third : (((w.alloc (.cells #[x] s)).alloc (.cells #[y] t)).alloc (.cells #[z] u)).cell? ⟨w.heap.size + 1 + 1, 0, none⟩ = some z := by
  have h := World.cell?_alloc_new (w := ((w.alloc (.cells #[x] s)).alloc (.cells #[y] t))) #[z] u 0
  simp only [World.size_alloc] at h
  exact h
theorem three_free : (((w.alloc (.cells #[x] s)).alloc (.cells #[y] t)).alloc (.cells #[z] u)).frozen? ⟨w.heap.size + 1 + 1, 0, none⟩ = false := by
  have h := (MapKept.heap_alloc ((w.alloc (.cells #[x] s)).alloc (.cells #[y] t)) (.cells #[z] u)).1
  simp only [World.size_alloc] at h
  simp only [World.frozen?, h]
  simp
theorem three_second : (((w.alloc (.cells #[x] s)).alloc (.cells #[y] t)).alloc (.cells #[z] u)).cell? ⟨w.heap.size + 1, 0, none⟩ = some y := by
  refine (World.cell?_alloc_lt _ _ _ (by simp)).trans ?_
  have h := World.cell?_alloc_new (w := (w.alloc (.cells #[x] s))) #[y] t 0
  simp only [World.size_alloc] at h
  exact h
theorem three_first : (((w.alloc (.cells #[x] s)).alloc (.cells #[y] t)).alloc (.cells #[z] u)).cell? ⟨w.heap.size, 0, none⟩ = some x := by
  refine (World.cell?_alloc_lt _ _ _ (by simp; omega)).trans ?_
  refine (World.cell?_alloc_lt _ _ _ (by simp)).trans ?_
  exact World.cell?_alloc_new (w := w) #[x] s 0
end
/-- what Text answers -/
def TextDone (b : Nat) (s : ByteArray) (most : Int) (w : World) (e : Ending) (w' : World) : Prop :=
  Upd b w w' ∧ match dec s.data.toList 0 0 with
  | none => e = .returned (.string ⟨#[]⟩) ∧ Rd w' b ByteArray.empty 11
  | some (n, c) => c ≤ s.size ∧
    if most < (n : Int) then e = .returned (.string ⟨#[]⟩) ∧ Rd w' b ByteArray.empty 8
    else if s.size - c < n then e = .returned (.string ⟨#[]⟩) ∧ Rd w' b ByteArray.empty 11
    else e = .returned (.string ((s.extract c s.size).extract 0 n)) ∧ Rd w' b ((s.extract c s.size).extract n (s.size - c)) 0

set_option maxRecDepth 100000 in
theorem text_stop (b : Nat) (s : ByteArray) (e : Nat) (he : e ≠ 0) (most : Int) (w : World) (h : Rd w b s e) :
    Calls Try.prog 32 #[.pointer (some ⟨b, 0, none⟩), .int .i64 most] w fun x w' => x = .returned (.string ⟨#[]⟩) ∧ Rd w' b s e ∧ Upd b w w' := by
  have HR := hid h
  clear h
  go_enter Try.func32, Try.ntmps32
  go_wp2_with fail
  refine (read_stop b s e he _ _ (((HR.out.alloc _).alloc _).alloc _)).mono ?_
  rintro x w' ⟨rfl, rfl⟩
  go_wp2_with fail
  go_ret
  exact ⟨rfl, ((HR.out.alloc _).alloc _).alloc _, ((Upd.alloc _ _).trans (Upd.alloc _ _)).trans (Upd.alloc _ _)⟩

theorem UpdT.toUpd {b t : Nat} {w v w' : World} (h0 : Upd b w v) (h : UpdT b t v w') (ht : w.heap.size ≤ t) : Upd b w w' :=
  ⟨h.os.trans h0.os, h.tape.trans h0.tape, h.output.trans h0.output, Nat.le_trans h0.size h.size, fun k hk hb => (h.block k (Nat.lt_of_lt_of_le hk h0.size) hb (by omega)).trans (h0.block k hk hb)⟩

set_option maxRecDepth 100000 in
theorem text_any (b : Nat) (s : ByteArray) (hs : s.size ≤ 9223372036854775807) (most : Int) (m0 : -9223372036854775808 ≤ most) (m1 : most ≤ 9223372036854775807) (w : World) (h : Rd w b s 0) :
    Calls Try.prog 32 #[.pointer (some ⟨b, 0, none⟩), .int .i64 most] w (TextDone b s most w) := by
  have hlt := h.lt
  have HC := fun W (hW : Rd W b s 0) hp hq hc hf => hid (read_text b w.heap.size (w.heap.size + 1) (w.heap.size + 1 + 1) (by omega) (by omega) (by omega) (by omega) s hs most m0 m1 W hW hp hq ⟨#[]⟩ hc hf)
  have HR := hid h
  clear h m0 m1 hs
  go_enter Try.func32, Try.ntmps32
  go_wp2_with fail
  refine (HC _ (((HR.out.alloc _).alloc _).alloc _) (three_first _ _ _ _ _ _ _) (three_second _ _ _ _ _ _ _) (three_third _ _ _ _ _ _ _) (three_free _ _ _ _ _ _ _)).mono ?_
  intro x w' hx
  unfold TxtRead at hx
  have hu0 : Upd b w (((w.alloc (.cells #[.pointer (some ⟨b, 0, none⟩)] 35)).alloc (.cells #[.int .i64 most] 3)).alloc (.cells #[.string ⟨#[]⟩] 9)) := ((Upd.alloc _ _).trans (Upd.alloc _ _)).trans (Upd.alloc _ _)
  have ht0 := three_third w (.pointer (some ⟨b, 0, none⟩)) 35 (.int .i64 most) 3 (.string ⟨#[]⟩) 9
  obtain ⟨r, rfl, hu, hx⟩ := hx
  have HU := hid (UpdT.toUpd hu0 hu (by omega))
  have HT := hid ht0
  clear HC hu hu0 ht0 hlt
  cases hd : dec s.data.toList 0 0 with
  | none =>
    rw [hd] at hx
    obtain ⟨hr, hc⟩ := hx
    have hc' := hc.trans HT.out
    have HD := hid hd
    have HV := hid hr
    clear hd hr hc
    go_wp2_with fail
    go_ret
    unfold TextDone; rw [HD.out]
    exact ⟨HU.out, rfl, HV.out⟩
  | some z =>
    obtain ⟨n, c⟩ := z
    rw [hd] at hx
    obtain ⟨hcs, hx⟩ := hx
    have HD := hid hd
    clear hd
    by_cases hm : most < (n : Int)
    · rw [if_pos hm] at hx
      obtain ⟨hr, hc⟩ := hx
      have hc' := hc.trans HT.out
      have HV := hid hr
      have HM := hid hm
      clear hr hc hm
      go_wp2_with fail
      go_ret
      unfold TextDone; rw [HD.out]
      exact ⟨HU.out, hcs, by rw [if_pos HM.out]; exact ⟨rfl, HV.out⟩⟩
    · rw [if_neg hm] at hx
      by_cases hn : s.size - c < n
      · rw [if_pos hn] at hx
        obtain ⟨hr, hc⟩ := hx
        have hc' := hc.trans HT.out
        have HV := hid hr
        have HM := hid hm
        have HX := hid hn
        clear hr hc hm hn
        go_wp2_with fail
        go_ret
        unfold TextDone; rw [HD.out]
        exact ⟨HU.out, hcs, by rw [if_neg (by have := HM.out; omega), if_pos HX.out]; exact ⟨rfl, HV.out⟩⟩
      · rw [if_neg hn] at hx
        obtain ⟨hr, hc'⟩ := hx
        have HV := hid hr
        have HM := hid hm
        have HX := hid hn
        clear hr hm hn
        go_wp2_with fail
        go_ret
        unfold TextDone; rw [HD.out]
        exact ⟨HU.out, hcs, by rw [if_neg (by have := HM.out; omega), if_neg (by have := HX.out; omega)]; exact ⟨rfl, HV.out⟩⟩
end Go.Proofs.Ytlmhlinjlneagaa
