import Derived.Test.YtlmhlinjlneagaaWireT3
namespace Go.Proofs.Ytlmhlinjlneagaa
open Go.Lib Go.ChangeShapes Go.WideShapes Go.ChangeAt Go.RowKit

theorem str_add (a : ByteArray) (l : List UInt8) (ha : a.size ≤ 1000000) (hl : l.length ≤ 1000000) (w : World) : (Op.stringOp .add a ⟨l.toArray⟩).run Try.prog w = .ok (.string (a ++ ⟨l.toArray⟩)) w :=
  by
  have e : (ByteArray.mk l.toArray).size = l.length := by simp [ByteArray.size]
  exact run_string_add_sum w _ _ (by rw [e]; omega)

set_option maxRecDepth 100000 in
theorem appendNumber_any (s : ByteArray) (hs : s.size ≤ 1000000) (n : Nat) (h1 : Hid (n < 18446744073709551616)) (w : World) :
    Calls Try.prog 16 #[.string s, .int .u64 n] w fun e w' => e = .returned (.string (s ++ ⟨(enc 9 n).toArray⟩)) ∧ Below w.heap.size w w' := by
  have hadd := str_add s (enc 9 n) hs (by have := enc_len 9 n; omega)
  go_enter Try.func16, Try.ntmps16
  go_wp2_with (go_at_call 51; refine (encode_any n h1 _).mono ?_; rintro e w' ⟨rfl, hb⟩)
  go_ret
  exact ⟨rfl, hb⟩

set_option maxRecDepth 100000 in
theorem appendInt_any (s : ByteArray) (hs : s.size ≤ 1000000) (n : Int) (h0 : -9223372036854775808 ≤ n) (h1 : n ≤ 9223372036854775807) (w : World) :
    Calls Try.prog 18 #[.string s, .int .i64 n] w fun e w' => e = .returned (.string (s ++ ⟨(enc 9 (zig n)).toArray⟩)) ∧ Below w.heap.size w w' := by
  have hz := zig_lt n h0 h1
  have HX := hid (zig_bits n h0 h1)
  have HZ := hid hz
  clear hz
  go_enter Try.func18, Try.ntmps18
  go_wp2_with fail
  rw [HX.out]
  refine (appendNumber_any s hs (zig n) HZ w).mono ?_
  rintro e w' ⟨rfl, hb⟩
  go_wp2_with fail
  go_ret
  exact ⟨rfl, hb⟩

theorem newReader_any (s : ByteArray) (w : World) : Calls Try.prog 24 #[.string s] w fun e w' => e = .returned (.pointer (some ⟨w.heap.size, 0, none⟩)) ∧ w' = w.alloc (.cells #[.string s, .int .i64 0] 79) := by
  go_enter Try.func24, Try.ntmps24
  go_wp2
  go_ret
  exact ⟨rfl, rfl⟩

def Rd (w : World) (b : Nat) (s : ByteArray) (e : Nat) : Prop := w.heap[b]? = some (.cells #[.string s, .int .i64 e] 79 (0, 0))

theorem Rd.left {w : World} {b : Nat} {s : ByteArray} {e : Nat} (h : Rd w b s e) : w.cell? ⟨b, 0, none⟩ = some (.string s) := by
  unfold Rd at h; simp [World.cell?, h]
theorem Rd.err {w : World} {b : Nat} {s : ByteArray} {e : Nat} (h : Rd w b s e) : w.cell? ⟨b, 1, none⟩ = some (.int .i64 e) := by
  unfold Rd at h; simp [World.cell?, h]
theorem Rd.frozen {w : World} {b : Nat} {s : ByteArray} {e : Nat} (h : Rd w b s e) (i : Nat) : w.frozen? ⟨b, i, none⟩ = false := by
  unfold Rd at h; simp [World.frozen?, h]
theorem Rd.set0 {w : World} {b : Nat} {s : ByteArray} {e : Nat} (h : Rd w b s e) (t : ByteArray) : Rd (w.setCell ⟨b, 0, none⟩ (.string t)) b t e := by
  unfold Rd at h ⊢; simp [World.setCell, Array.getElem?_modify, h]
theorem Rd.set1 {w : World} {b : Nat} {s : ByteArray} {e : Nat} (h : Rd w b s e) (f : Nat) : Rd (w.setCell ⟨b, 1, none⟩ (.int .i64 f)) b s f := by
  unfold Rd at h ⊢; simp [World.setCell, Array.getElem?_modify, h]

set_option maxRecDepth 100000 in
theorem end_any (b : Nat) (s : ByteArray) (e : Nat) (w : World) (h : Rd w b s e) : Calls Try.prog 37 #[.pointer (some ⟨b, 0, none⟩)] w fun x w' => x = .returned (.int .i64 (if s.size = 0 then e else 11 : Nat)) ∧ w = w' := by
  have h0 := h.left
  have h1 := h.err
  by_cases hs : s.size = 0
  · have hn : s.toList.isEmpty = true := by rw [ByteArray.toList_eq, List.isEmpty_iff, ← List.length_eq_zero_iff]; exact hs
    go_enter Try.func37, Try.ntmps37
    go_wp2
    go_ret
    exact ⟨by simp, rfl⟩
  · rw [if_neg hs]
    have hn : s.toList.isEmpty = false := by rw [ByteArray.toList_eq, List.isEmpty_eq_false_iff, Ne, ← List.length_eq_zero_iff]; exact hs
    go_enter Try.func37, Try.ntmps37
    go_wp2
    go_ret
    exact ⟨rfl, rfl⟩
/-- only block b has turned, and new blocks have come -/
structure Upd (b : Nat) (w w' : World) : Prop where
  os : w'.os = w.os
  tape : w'.tape = w.tape
  output : w'.output = w.output
  size : w.heap.size ≤ w'.heap.size
  block : ∀ k, k < w.heap.size → k ≠ b → w'.heap[k]? = w.heap[k]?
theorem Upd.refl (b : Nat) (w : World) : Upd b w w := ⟨rfl, rfl, rfl, Nat.le_refl _, fun _ _ _ => rfl⟩
theorem Upd.trans {b : Nat} {u v w : World} (h : Upd b u v) (k : Upd b v w) : Upd b u w :=
  ⟨k.os.trans h.os, k.tape.trans h.tape, k.output.trans h.output, Nat.le_trans h.size k.size, fun i hi hb => (k.block i (Nat.lt_of_lt_of_le hi h.size) hb).trans (h.block i hi hb)⟩
theorem Upd.set {b : Nat} (w : World) (o : Nat) (v : Value) : Upd b w (w.setCell ⟨b, o, none⟩ v) :=
  ⟨rfl, rfl, rfl, by simp [World.setCell], fun k _ hb => Below.heap_setCell w _ _ _ hb⟩
theorem Upd.alloc {b : Nat} (w : World) (o : Obj) : Upd b w (w.alloc o) :=
  ⟨rfl, rfl, rfl, by simp, fun k hk _ => Below.heap_alloc w o k hk⟩
theorem Upd.below {b B : Nat} {w w' : World} (h : Upd b w w') (hb : B ≤ b) (hB : B ≤ w.heap.size) : Below B w w' :=
  ⟨h.os, h.tape, h.output, h.size, fun k hk => h.block k (by omega) (by omega)⟩

/-- what reading a number does to a reader -/
def NumRead (b : Nat) (s : ByteArray) (w : World) (e : Ending) (w' : World) : Prop :=
  match dec s.data.toList 0 0 with
  | none => e = .returned (.int .u64 0) ∧ Rd w' b ByteArray.empty 11 ∧ Upd b w w'
  | some (n, c) => c ≤ s.size ∧ e = .returned (.int .u64 n) ∧ Rd w' b (s.extract c s.size) 0 ∧ Upd b w w'

set_option maxRecDepth 100000 in
theorem read_stop (b : Nat) (s : ByteArray) (e : Nat) (he : e ≠ 0) (f : Value) (w : World) (h : Rd w b s e) :
    Calls Try.prog 54 #[.pointer (some ⟨b, 0, none⟩), f] w fun x w' => x = .returned (.int .u64 0) ∧ w = w' := by
  have h1 := h.err
  have he' : ((e : Int) == 0) = false := by simp [he]
  have he2 : ¬ (e : Int) = 0 := by omega
  go_enter Try.func54, Try.ntmps54
  go_wp2
  go_ret
  exact ⟨rfl, rfl⟩

set_option maxRecDepth 100000 in
theorem read_number (b : Nat) (s : ByteArray) (hs : s.size ≤ 9223372036854775807) (w : World) (h : Rd w b s 0) :
    Calls Try.prog 54 #[.pointer (some ⟨b, 0, none⟩), .func (.func 55) #[.pointer (some ⟨b, 0, none⟩)] #[]] w (NumRead b s w) := by
  have h0 := h.left
  have h1 := h.err
  have hf := h.frozen 0
  have HR := hid h
  have HN := hid (rnumber_any b s hs w h0 hf)
  clear h hs
  go_enter Try.func54, Try.ntmps54
  go_wp2_with fail
  refine HN.out.mono ?_
  intro x w' hx
  unfold NumPost at hx
  have HP : Hid (NumRead b s w = NumRead b s w) := rfl
  cases hd : dec s.data.toList 0 0 with
  | none =>
    rw [hd] at hx
    obtain ⟨rfl, rfl⟩ := hx
    have HD := hid hd
    clear hd
    have hf0 := HR.out.frozen 0
    have hf1 := HR.out.frozen 1
    go_wp2_with fail
    go_ret
    unfold NumRead
    rw [HD.out]
    exact ⟨rfl, (HR.out.set0 _).set1 11, (Upd.set _ _ _).trans (Upd.set _ _ _)⟩
  | some p =>
    obtain ⟨n, c⟩ := p
    rw [hd] at hx
    obtain ⟨hc, rfl, rfl⟩ := hx
    have HD := hid hd
    clear hd
    go_wp2_with fail
    go_ret
    unfold NumRead
    rw [HD.out]
    exact ⟨hc, rfl, HR.out.set0 _, Upd.set _ _ _⟩
end Go.Proofs.Ytlmhlinjlneagaa
