import Derived.Test.YtlmhlinjlneagaaWireT6
import Derived.RegionTactic
import Derived.BigRegion
namespace Go.Proofs.Ytlmhlinjlneagaa
open Go.Lib Go.ChangeShapes Go.WideShapes Go.ChangeAt Go.RowKit

theorem Rd.alloc {w : World} {b : Nat} {s : ByteArray} {e : Nat} (h : Rd w b s e) (o : Obj) : Rd (w.alloc o) b s e := by
  have hb : b < w.heap.size := by
    unfold Rd at h
    rcases Nat.lt_or_ge b w.heap.size with h' | h'
    · exact h'
    · rw [Array.getElem?_eq_none h'] at h; cases h
  unfold Rd at h ⊢
  rw [Below.heap_alloc _ _ _ hb]; exact h
theorem Rd.lt {w : World} {b : Nat} {s : ByteArray} {e : Nat} (h : Rd w b s e) : b < w.heap.size := by
  unfold Rd at h
  rcases Nat.lt_or_ge b w.heap.size with h' | h'
  · exact h'
  · rw [Array.getElem?_eq_none h'] at h; cases h

theorem Upd.rd {b c : Nat} {w w' : World} {s : ByteArray} {e : Nat} (h : Upd b w w') (hr : Rd w c s e) (hc : c ≠ b) : Rd w' c s e := (h.block c hr.lt hc).trans hr
theorem Below.rd {B c : Nat} {w w' : World} {s : ByteArray} {e : Nat} (h : Below B w w') (hr : Rd w c s e) (hc : c < B) : Rd w' c s e := (h.block c hc).trans hr
theorem Rd.made (w : World) (s : ByteArray) : Rd (w.alloc (.cells #[.string s, .int .i64 0] 79)) w.heap.size s 0 := (MapKept.heap_alloc w _).1
set_option maxRecDepth 100000 in
theorem count_stop (b : Nat) (s : ByteArray) (e : Nat) (he : e ≠ 0) (most : Int) (w : World) (h : Rd w b s e) :
    Calls Try.prog 34 #[.pointer (some ⟨b, 0, none⟩), .int .i64 most] w fun x w' => x = .returned (.int .i64 0) ∧ Rd w' b s e ∧ Upd b w w' := by
  have HR := hid h
  clear h
  go_enter Try.func34, Try.ntmps34
  go_wp2_with fail
  refine (read_stop b s e he _ _ ((HR.out.alloc _).alloc _)).mono ?_
  rintro x w' ⟨rfl, rfl⟩
  go_wp2_with fail
  go_ret
  exact ⟨rfl, (HR.out.alloc _).alloc _, (Upd.alloc _ _).trans (Upd.alloc _ _)⟩

/-- what Count answers -/
def CountDone (b : Nat) (s : ByteArray) (most : Int) (w : World) (e : Ending) (w' : World) : Prop :=
  Upd b w w' ∧ match dec s.data.toList 0 0 with
  | none => e = .returned (.int .i64 0) ∧ Rd w' b ByteArray.empty 11
  | some (n, c) => c ≤ s.size ∧ if most < (n : Int) then e = .returned (.int .i64 0) ∧ Rd w' b ByteArray.empty 8 else e = .returned (.int .i64 n) ∧ Rd w' b (s.extract c s.size) 0

set_option maxRecDepth 100000 in
theorem count_any (b : Nat) (s : ByteArray) (hs : s.size ≤ 9223372036854775807) (most : Int) (m0 : -9223372036854775808 ≤ most) (m1 : most ≤ 9223372036854775807) (w : World) (h : Rd w b s 0) :
    Calls Try.prog 34 #[.pointer (some ⟨b, 0, none⟩), .int .i64 most] w (CountDone b s most w) := by
  have HC := fun W (hW : Rd W b s 0) hp hq => hid (read_count b w.heap.size (w.heap.size + 1) s hs most m0 m1 W hW hp hq)
  have HR := hid h
  have M1 := hid m1
  clear h m0 m1 hs
  go_enter Try.func34, Try.ntmps34
  go_wp2_with fail
  refine (HC _ ((HR.out.alloc _).alloc _) (by simp) (by simp)).mono ?_
  intro x w' hx
  have hu : Upd b w ((w.alloc (.cells #[.pointer (some ⟨b, 0, none⟩)] 35)).alloc (.cells #[.int .i64 most] 3)) := (Upd.alloc _ _).trans (Upd.alloc _ _)
  clear HC
  unfold CntRead at hx
  cases hd : dec s.data.toList 0 0 with
  | none =>
    rw [hd] at hx
    obtain ⟨rfl, hr, hv⟩ := hx
    have HD := hid hd
    have HU := hid (hu.trans hv)
    have HV := hid hr
    clear hd hu hv hr
    go_wp2_with fail
    go_ret
    unfold CountDone; rw [HD.out]
    exact ⟨HU.out, rfl, HV.out⟩
  | some p =>
    obtain ⟨n, c⟩ := p
    rw [hd] at hx
    obtain ⟨hc, hv, hx⟩ := hx
    have HD := hid hd
    have HU := hid (hu.trans hv)
    clear hd hu hv
    by_cases hm : most < (n : Int)
    · rw [if_pos hm] at hx
      obtain ⟨rfl, hr⟩ := hx
      have HV := hid hr
      clear hr
      go_wp2_with fail
      go_ret
      unfold CountDone; rw [HD.out]
      exact ⟨HU.out, hc, by rw [if_pos hm]; exact ⟨rfl, HV.out⟩⟩
    · rw [if_neg hm] at hx
      obtain ⟨rfl, hr⟩ := hx
      have HV := hid hr
      have hw : IntKind.i64.wrap (n : Int) = n := IntWalk.i64_in _ (by have := M1.out; omega)
      clear hr
      go_wp2_with fail
      go_ret
      unfold CountDone; rw [HD.out]
      exact ⟨HU.out, hc, by rw [if_neg (by omega)]; exact ⟨rfl, HV.out⟩⟩

/-- only blocks b and t have turned -/
structure UpdT (b t : Nat) (w w' : World) : Prop where
  os : w'.os = w.os
  tape : w'.tape = w.tape
  output : w'.output = w.output
  size : w.heap.size ≤ w'.heap.size
  block : ∀ k, k < w.heap.size → k ≠ b → k ≠ t → w'.heap[k]? = w.heap[k]?
theorem UpdT.refl (b t : Nat) (w : World) : UpdT b t w w := ⟨rfl, rfl, rfl, Nat.le_refl _, fun _ _ _ _ => rfl⟩
theorem UpdT.trans {b t : Nat} {u v w : World} (h : UpdT b t u v) (k : UpdT b t v w) : UpdT b t u w :=
  ⟨k.os.trans h.os, k.tape.trans h.tape, k.output.trans h.output, Nat.le_trans h.size k.size, fun i hi hb ht => (k.block i (Nat.lt_of_lt_of_le hi h.size) hb ht).trans (h.block i hi hb ht)⟩
theorem Upd.wide {b t : Nat} {w w' : World} (h : Upd b w w') : UpdT b t w w' := ⟨h.os, h.tape, h.output, h.size, fun k hk hb _ => h.block k hk hb⟩
theorem UpdT.flip {b t : Nat} {w w' : World} (h : UpdT b t w w') : UpdT t b w w' := ⟨h.os, h.tape, h.output, h.size, fun k hk hb ht => h.block k hk ht hb⟩
theorem UpdT.drewN {b t n : Nat} {w w' : World} (h : UpdT b t w w') : UpdT b t w (w'.drewN n) := ⟨h.os, h.tape, h.output, h.size, h.block⟩

/-- what the reading of a text does: the reader, the variable of the text, the ending -/
def TxtPost (b t : Nat) (s : ByteArray) (most : Int) (w : World) (e : Ending) (w' : World) : Prop :=
  UpdT b t w w' ∧ match dec s.data.toList 0 0 with
  | none => e = .returned (.tuple #[.int .u64 0, .int .i64 11]) ∧ Rd w' b s 0 ∧ w'.cell? ⟨t, 0, none⟩ = w.cell? ⟨t, 0, none⟩
  | some (n, c) => c ≤ s.size ∧
    if most < (n : Int) then e = .returned (.tuple #[.int .u64 0, .int .i64 8]) ∧ Rd w' b (s.extract c s.size) 0 ∧ w'.cell? ⟨t, 0, none⟩ = w.cell? ⟨t, 0, none⟩
    else if s.size - c < n then e = .returned (.tuple #[.int .u64 0, .int .i64 11]) ∧ Rd w' b (s.extract c s.size) 0 ∧ w'.cell? ⟨t, 0, none⟩ = w.cell? ⟨t, 0, none⟩
    else e = .returned (.tuple #[.int .u64 n, .int .i64 0]) ∧ Rd w' b ((s.extract c s.size).extract n (s.size - c)) 0 ∧ w'.cell? ⟨t, 0, none⟩ = some (.string ((s.extract c s.size).extract 0 n))

theorem txt_end {W : World} {b t : Nat} {R T : ByteArray} (ht : t ≠ b) (h : Rd W b R 0) (hc : W.cell? ⟨t, 0, none⟩ = some (.string T)) (x y : ByteArray) :
    UpdT b t W ((W.setCell ⟨t, 0, none⟩ (.string x)).setCell ⟨b, 0, none⟩ (.string y)).drew ∧ Rd ((W.setCell ⟨t, 0, none⟩ (.string x)).setCell ⟨b, 0, none⟩ (.string y)).drew b y 0 ∧ ((W.setCell ⟨t, 0, none⟩ (.string x)).setCell ⟨b, 0, none⟩ (.string y)).drew.cell? ⟨t, 0, none⟩ = some (.string x) := by
  have h1 : Rd (W.setCell ⟨t, 0, none⟩ (.string x)) b R 0 := (Below.heap_setCell W ⟨t, 0, none⟩ _ b (fun e => ht e.symm)).trans h
  refine ⟨((Upd.set (b := t) W 0 (.string x)).wide.flip.trans (Upd.set (b := b) _ 0 (.string y)).wide).drewN (n := 1), h1.set0 y, ?_⟩
  refine (World.cell?_setCell_other (W.setCell ⟨t, 0, none⟩ (.string x)) _ _ _ (fun e => ht (congrArg Addr.block e).symm)).trans ?_
  exact World.cell?_setCell_same _ _ _ hc
set_option maxRecDepth 100000 in
theorem textTake_any (b p q t : Nat) (ht : t ≠ b) (hpt : p ≠ t) (hpb : p ≠ b) (hqb : q ≠ b) (s : ByteArray) (hs : s.size ≤ 9223372036854775807) (most : Int) (m0 : -9223372036854775808 ≤ most) (m1 : most ≤ 9223372036854775807) (w : World) (h : Rd w b s 0)
    (hp : w.cell? ⟨p, 0, none⟩ = some (.pointer (some ⟨b, 0, none⟩))) (hq : w.cell? ⟨q, 0, none⟩ = some (.int .i64 most)) (T : ByteArray) (hc : w.cell? ⟨t, 0, none⟩ = some (.string T)) (hf : w.frozen? ⟨t, 0, none⟩ = false) :
    Calls Try.prog 57 #[.pointer (some ⟨p, 0, none⟩), .pointer (some ⟨q, 0, none⟩), .pointer (some ⟨t, 0, none⟩)] w (TxtPost b t s most w) := by
  have HL := hid (limited_any b s hs most m0 m1 w h)
  have HR := hid h
  have TN := hid ht
  clear h
  go_enter Try.func57, Try.ntmps57
  go_wp2_with fail
  refine HL.out.mono ?_
  intro x w' hx
  unfold LimPost at hx
  cases hd : dec s.data.toList 0 0 with
  | none =>
    rw [hd] at hx
    obtain ⟨rfl, rfl⟩ := hx
    have HD := hid hd
    clear hd
    go_wp2_with fail
    go_ret2
    unfold TxtPost; rw [HD.out]; exact ⟨UpdT.refl _ _ _, rfl, HR.out, rfl⟩
  | some z =>
    obtain ⟨n, c⟩ := z
    rw [hd] at hx
    obtain ⟨hcs, rfl, rfl⟩ := hx
    have HD := hid hd
    clear hd
    have HV := hid ((HR.out).set0 (s.extract c s.size))
    have HU := hid ((Upd.set (b := b) w 0 (.string (s.extract c s.size))).wide (t := t))
    have ha : (w.setCell ⟨b, 0, none⟩ (.string (s.extract c s.size))).cell? ⟨t, 0, none⟩ = some (.string T) := (World.cell?_setCell_other _ _ _ _ (by simp only [ne_eq, Addr.mk.injEq]; omega)).trans hc
    have hb : (w.setCell ⟨b, 0, none⟩ (.string (s.extract c s.size))).cell? ⟨p, 0, none⟩ = some (.pointer (some ⟨b, 0, none⟩)) := (World.cell?_setCell_other _ _ _ _ (by simp only [ne_eq, Addr.mk.injEq]; omega)).trans hp
    have hfr : (w.setCell ⟨b, 0, none⟩ (.string (s.extract c s.size))).frozen? ⟨t, 0, none⟩ = false := (World.frozen?_setCell _ _ _ _).trans hf
    have HC := hid hc
    obtain ⟨R, hR⟩ : ∃ R, R = s.extract c s.size := ⟨_, rfl⟩
    have hRs : R.size = s.size - c := by rw [hR]; simp
    rw [← hR] at HV HU ha hb hfr ⊢
    have HE := hid hR
    have HS := hid hRs
    clear hR hRs hc hp hq hf
    obtain ⟨W, hW⟩ : ∃ W, W = w.setCell ⟨b, 0, none⟩ (.string R) := ⟨_, rfl⟩
    rw [← hW] at HV HU ha hb hfr ⊢
    clear hW
    have hl := HV.out.left
    have hfb := HV.out.frozen 0
    by_cases hm : most < (n : Int)
    · rw [if_pos hm, if_pos hm]
      go_wp2_with fail
      go_ret2
      unfold TxtPost; rw [HD.out]; refine ⟨HU.out, hcs, ?_⟩
      rw [if_pos hm, ← HE.out]; exact ⟨rfl, HV.out, ha.trans HC.out.symm⟩
    · rw [if_neg hm, if_neg hm]
      have hu : IntKind.u64.wrap (R.size : Int) = R.size := IntWalk.u64_in _ (by have := HS.out; omega)
      by_cases hn : R.size < n
      · have hn' : (R.size : Int) < n := by omega
        go_wp2_with fail
        go_ret2
        unfold TxtPost; rw [HD.out]; refine ⟨HU.out, hcs, ?_⟩
        rw [if_neg (by omega), if_pos (by have := HS.out; omega), ← HE.out]; exact ⟨rfl, HV.out, ha.trans HC.out.symm⟩
      · have hn' : ¬ (R.size : Int) < n := by omega
        have f1 : ∀ v, (W.setCell ⟨t, 0, none⟩ v).cell? ⟨p, 0, none⟩ = some (.pointer (some ⟨b, 0, none⟩)) := fun v => (World.cell?_setCell_other _ _ _ _ (by simp only [ne_eq, Addr.mk.injEq]; omega)).trans hb
        have f2 : ∀ v, (W.setCell ⟨t, 0, none⟩ v).cell? ⟨b, 0, none⟩ = some (.string R) := fun v => (World.cell?_setCell_other _ _ _ _ (by simp only [ne_eq, Addr.mk.injEq]; omega)).trans hl
        have f3 : ∀ v, (W.setCell ⟨t, 0, none⟩ v).frozen? ⟨b, 0, none⟩ = false := fun v => (World.frozen?_setCell _ _ _ _).trans hfb
        go_wp2_with fail
        go_region
        go_wp2_with fail
        go_ret2
        unfold TxtPost; rw [HD.out]
        have hz := txt_end (W := W) (R := R) TN.out HV.out ha (R.extract 0 n) (R.extract n R.size)
        refine ⟨HU.out.trans hz.1, hcs, ?_⟩
        rw [if_neg (by omega), if_neg (by have := HS.out; omega), ← HE.out, ← HS.out]; exact ⟨rfl, hz.2.1, hz.2.2⟩
end Go.Proofs.Ytlmhlinjlneagaa
