import Derived.Test.YtfcaodaaklngmaaDevT5
import Derived.Test.YtfcaodaaklngmaaRep
/-! A new device. -/
namespace Go.Proofs.Ytfcaodaaklngmaa
open Go.Lib Go.ChangeShapes Go.WideShapes Go.ChangeAt Go.RowKit

def Z140 : ByteArray := ⟨(List.replicate 140 (0 : UInt8)).toArray⟩
theorem Z140_size : Z140.size = 140 := by show (List.replicate 140 (0 : UInt8)).toArray.size = 140; simp
theorem rep_zeros (w : World) : Calls Try.prog 28 #[.string ⟨#[0]⟩, .int .i64 140] w fun e w' => e = .returned (.string Z140) ∧ Below w.heap.size w w' :=
  (Try.strings_Repeat ⟨#[0]⟩ 140 w (by omega) (by decide)).mono fun e w' ⟨he, hb⟩ => ⟨he.trans (by kernel_rfl), hb⟩
def DS.fresh (n : Nat) : DS := ⟨n, fun _ => ⟨Z140, []⟩, [], fun _ => -1, false, false, 0, []⟩
theorem DS.fresh_ok (n : Nat) (h1 : 1 ≤ n) (h2 : n ≤ 1155) : (DS.fresh n).Ok :=
  ⟨h1, h2, fun _ _ => Z140_size, fun _ _ => Nat.zero_le _, fun _ _ s hs => (by cases hs), fun p hp => (by cases hp), fun _ => by show (-1 : Int) ≤ -1 ∧ (-1 : Int) ≤ 9223372036854775807; omega, by show -9223372036854775808 ≤ (0 : Int) ∧ (0 : Int) ≤ 9223372036854775807; omega, fun x hx => (by cases hx), fun h => (by cases h)⟩

/-- make with elements of several cells -/
theorem run_make_rows {P : Program} (t e : TypeId) (z : Value) (size bytes : Nat) (ht : P.underlying t = some (.slice e)) (hinfo : (P.info? e).map (fun i => (i.zero, i.size, i.bytes)) = some (some z, size, bytes))
    (n : Nat) (hbytes : bytes * n ≤ 281474976710656) (h63 : n ≤ 9223372036854775807) (w : World) :
    (Instr.makeSlice t (.int .i64 (n : Int)) (.int .i64 (n : Int))).run P w = .ok (.slice (some ⟨w.heap.size, 0, none⟩) n n) (w.alloc (.cells (madeCells z.cells (n * size)) e)) := by
  obtain ⟨i, hi, hzz⟩ := Option.map_eq_some_iff.1 hinfo
  simp only [Prod.mk.injEq] at hzz
  obtain ⟨hz, hs, hb⟩ := hzz
  subst hs; subst hb
  have hb' : (i.bytes : Int) * (n : Int) ≤ 281474976710656 := by
    have h : ((i.bytes * n : Nat) : Int) ≤ 281474976710656 := by omega
    rwa [Int.natCast_mul] at h
  have hr := run_make (P := P) w t e i z ht hi hz .i64 .i64 n n (by omega) (Int.le_refl _) hb' (by omega)
  simp only [Int.toNat_natCast] at hr
  exact hr
/-- a row of sectors of which the first k are new ones -/
structure Filled (cur : List Value) (n k : Nat) : Prop where
  len : cur.length = n * 10
  one : ∀ i, i < k → i < n → cur[i * 10]? = some (.string Z140)
  raw : ∀ i, k ≤ i → i < n → cur[i * 10]? = some (.string ⟨#[]⟩)
  old : ∀ i j, i < n → 1 ≤ j → j < 9 → cur[i * 10 + j]? = some (.string ⟨#[]⟩)
  num : ∀ i, i < n → cur[i * 10 + 9]? = some (.int .i64 0)
theorem Filled.step {cur : List Value} {n k : Nat} (h : Filled cur n k) (hk : k < n) : Filled (cur.set (k * 10) (.string Z140)) n (k + 1) := by
  refine ⟨by rw [List.length_set]; exact h.len, fun i h1 h2 => ?_, fun i h1 h2 => ?_, fun i j h1 h2 h3 => ?_, fun i h1 => ?_⟩
  · by_cases e : i = k
    · subst e; rw [List.getElem?_set_self (by rw [h.len]; omega)]
    · rw [List.getElem?_set_ne (by omega)]; exact h.one i (by omega) h2
  · rw [List.getElem?_set_ne (by omega)]; exact h.raw i (by omega) h2
  · rw [List.getElem?_set_ne (by omega)]; exact h.old i j h1 h2 h3
  · rw [List.getElem?_set_ne (by omega)]; exact h.num i h1
theorem Filled.secs {cur : List Value} {n : Nat} (h : Filled cur n n) : SecsIs cur n (DS.fresh n).sec :=
  ⟨by rw [h.len]; exact Nat.le_refl _, fun i hi => ⟨h.one i hi hi, fun j hj => ⟨⟨#[]⟩, by rw [show i * 10 + 1 + j = i * 10 + (1 + j) by omega]; exact h.old i (1 + j) hi (by omega) (by omega), fun h => absurd h (Nat.not_lt_zero _)⟩, h.num i hi, Nat.zero_le _⟩⟩
def zsec : Value := .agg #[.string ⟨#[]⟩, .string ⟨#[]⟩, .string ⟨#[]⟩, .string ⟨#[]⟩, .string ⟨#[]⟩, .string ⟨#[]⟩, .string ⟨#[]⟩, .string ⟨#[]⟩, .string ⟨#[]⟩, .int .i64 0]
theorem filled0 (n : Nat) : Filled (madeCells zsec.cells (n * 10)).toList n 0 := by
  have hg : ∀ m, m < n * 10 → (madeCells zsec.cells (n * 10)).toList[m]? = some ((zsec.cells)[m % 10]!) := fun m hm => by
    rw [Array.getElem?_toList]
    simp [madeCells, hm, zsec, Value.cells]
  refine ⟨by rw [Array.length_toList, size_madeCells], fun i h => absurd h (Nat.not_lt_zero _), fun i _ h2 => ?_, fun i j h1 h2 h3 => ?_, fun i h1 => ?_⟩
  · rw [hg _ (by omega), Nat.mul_mod_left]; rfl
  · rw [hg _ (by omega), show (i * 10 + j) % 10 = j by omega]
    rcases (show j = 1 ∨ j = 2 ∨ j = 3 ∨ j = 4 ∨ j = 5 ∨ j = 6 ∨ j = 7 ∨ j = 8 by omega) with rfl | rfl | rfl | rfl | rfl | rfl | rfl | rfl <;> rfl
  · rw [hg _ (by omega), show (i * 10 + 9) % 10 = 9 by omega]; rfl

def fk (k j : Nat) : Int := if j < k then -1 else 0
def fenCells (sb n k : Nat) : List Value := [.slice (some ⟨sb, 0, none⟩) n n, .slice none 0 0, .int .i64 (fk k 0), .int .i64 (fk k 1), .int .i64 (fk k 2), .int .i64 (fk k 3), .bool false, .bool false, .int .i64 0, .slice none 0 0]
theorem fenCells_set (sb n j : Nat) (hj : j < 4) : (fenCells sb n j).set (2 + j) (.int .i64 (-1)) = fenCells sb n (j + 1) := by
  rcases (show j = 0 ∨ j = 1 ∨ j = 2 ∨ j = 3 by omega) with rfl | rfl | rfl | rfl <;> rfl
theorem fenCells_get (sb n j : Nat) (hj : j < 4) : (fenCells sb n j)[2 + j]? = some (.int .i64 0) := by
  rcases (show j = 0 ∨ j = 1 ∨ j = 2 ∨ j = 3 by omega) with rfl | rfl | rfl | rfl <;> rfl
def NewPost (w : World) (n : Nat) (e : Ending) (w' : World) : Prop := ∃ L, e = .returned (.tuple #[.pointer (some ⟨L.b, 0, none⟩), .int .i64 0]) ∧ Dev w' w.heap.size L (DS.fresh n) ∧ Upds (fun _ => False) w w'
set_option maxRecDepth 100000 in
theorem new_bad (s : Int) (h : s < 1 ∨ 1155 < s) (w : World) : Calls Try.prog 11 #[.int .i64 s] w fun e w' => e = .returned (.tuple #[.pointer none, .int .i64 1]) ∧ w = w' := by
  by_cases h1 : s < 1
  · clear h
    go_enter Try.func11, Try.ntmps11
    go_wp2_with fail
    go_ret2
    exact ⟨rfl, rfl⟩
  · have h2 : 1155 < s := by omega
    clear h
    go_enter Try.func11, Try.ntmps11
    go_wp2_with fail
    go_ret2
    exact ⟨rfl, rfl⟩
set_option maxRecDepth 100000 in
theorem new_any (n : Nat) (h1 : 1 ≤ n) (h2 : n ≤ 1155) (w : World) : Calls Try.prog 11 #[.int .i64 n] w (NewPost w n) := by
  have hmk := run_make_rows (P := Try.prog) 64 74 zsec 10 152 Try.underlying64 (by kernel_rfl) n (by omega) (by omega)
  obtain ⟨mc, hmc⟩ : ∃ mc, mc = madeCells zsec.cells (n * 10) := ⟨_, rfl⟩
  rw [← hmc] at hmk
  have HF0 : Hid (Filled mc.toList n 0) := by rw [hmc]; exact filled0 n
  clear hmc
  go_enter Try.func11, Try.ntmps11
  go_wp2_with fail
  obtain ⟨w1, hw1⟩ : ∃ w1, w1 = (w.alloc (.cells mc 74)).alloc (.cells #[.slice (some ⟨w.heap.size, 0, none⟩) n n, .slice none 0 0, .int .i64 0, .int .i64 0, .int .i64 0, .int .i64 0, .bool false, .bool false, .int .i64 0, .slice none 0 0] 70) := ⟨_, rfl⟩
  have hu : Upds (fun _ => False) w w1 := by rw [hw1]; exact (Upds.alloc _ _).trans (Upds.alloc _ _)
  have hrs : Row w1 w.heap.size 74 mc.toList := by rw [hw1]; exact Row.alloc (by unfold Row; rw [Array.toArray_toList]; exact heap_alloc_new w _) _
  have hrb : Row w1 (w.heap.size + 1) 70 [.slice (some ⟨w.heap.size, 0, none⟩) n n, .slice none 0 0, .int .i64 0, .int .i64 0, .int .i64 0, .int .i64 0, .bool false, .bool false, .int .i64 0, .slice none 0 0] := by
    rw [hw1]; have := Row.new (w.alloc (.cells mc 74)) [.slice (some ⟨w.heap.size, 0, none⟩) n n, .slice none 0 0, .int .i64 0, .int .i64 0, .int .i64 0, .int .i64 0, .bool false, .bool false, .int .i64 0, .slice none 0 0] 70; rwa [World.size_alloc] at this
  rw [← hw1]
  clear hw1
  have HU := hid hu
  have HRS := hid hrs
  have HRB := hid hrb
  clear hu hrs hrb hmk
  refine (rep_zeros w1).mono ?_
  rintro e w2 ⟨rfl, hb2⟩
  have hu2 : Upds (fun _ => False) w w2 := HU.out.trans (Upds.of_below hb2 (Nat.le_refl _))
  have hrs2 : Row w2 w.heap.size 74 mc.toList := HRS.out.upd (F := fun _ => False) (Upds.of_below hb2 (Nat.le_refl _)) (fun h => h)
  have hrb2 := HRB.out.upd (F := fun _ => False) (Upds.of_below hb2 (Nat.le_refl _)) (fun h => h)
  have c0 := hrb2.cell (i := 0) rfl
  have HU2 := hid hu2
  have HRS2 := hid hrs2
  have HRB2 := hid hrb2
  clear hb2 hu2 hrs2 hrb2 HU HRS HRB
  go_wp2_with fail
  go_loopw [24] (fun s24 wr => ∃ (k : Nat) (cur : List Value), k ≤ n ∧ s24 = .int .i64 k ∧ Row wr w.heap.size 74 cur ∧ Filled cur n k ∧ Upds (fun k => k = w.heap.size) w2 wr) (fun s24 _ => n - (RowKit.intOf s24).toNat)
  case atStart => exact ⟨0, _, Nat.zero_le _, rfl, HRS2.out, HF0.out, Upds.refl _ _⟩
  case round =>
    obtain ⟨k, cur, hk, rfl, hrw, hfi, hu3⟩ := hrel
    have HRW := hid hrw
    have HFI := hid hfi
    have HU3 := hid hu3
    have b0 : wr.cell? ⟨w.heap.size + 1, 0, none⟩ = some (.slice (some ⟨w.heap.size, 0, none⟩) n n) := hu3.cell (by omega) c0
    by_cases hlt : k < n
    · have x0 : wr.cell? ⟨w.heap.size, k * 10, none⟩ = some (.string ⟨#[]⟩) := hrw.cell (hfi.raw k (Nat.le_refl _) hlt)
      have f0 := hrw.frozen (k * 10)
      clear hrw hfi hu3
      go_wp2_with fail
      go_roundw
      case rel => exact ⟨k + 1, _, by omega, by go_num, HRW.out.set _ _, HFI.out.step hlt, HU3.out.trans (Upds.set1 _ _ _ _)⟩
      case measure => simp [RowKit.intOf]; omega
    · obtain rfl : k = n := by omega
      have hrb3 := HRB2.out.upd hu3 (by omega)
      have HRB3 := hid hrb3
      clear hrw hfi hu3 hrb3
      go_wp2_with fail
      obtain ⟨wo, rfl⟩ : ∃ wo : World, wo = wr := ⟨_, rfl⟩
      go_loopw [36] (fun s36 wq => ∃ j : Nat, j ≤ 4 ∧ s36 = .int .i64 j ∧ Row wq (w.heap.size + 1) 70 (fenCells w.heap.size k j) ∧ Upds (fun k => k = w.heap.size + 1) wo wq) (fun s36 _ => 4 - (RowKit.intOf s36).toNat)
      case atStart => exact ⟨0, by omega, rfl, HRB3.out, Upds.refl _ _⟩
      case round =>
        obtain ⟨j, hj, rfl, hrq, hu4⟩ := hrel
        have HRQ := hid hrq
        have HU5 := hid hu4
        by_cases hjl : j < 4
        · have x0 : wr.cell? ⟨w.heap.size + 1, 2 + j, none⟩ = some (.int .i64 0) := hrq.cell (fenCells_get _ _ _ hjl)
          have f0 := hrq.frozen (2 + j)
          have HS := hid (fenCells_set w.heap.size k j hjl)
          clear hrq hu4
          go_wp2_with fail
          go_roundw
          case rel => exact ⟨j + 1, by omega, by go_num, by rw [← HS.out]; exact HRQ.out.set _ _, HU5.out.trans (Upds.set1 _ _ _ _)⟩
          case measure => simp [RowKit.intOf]; omega
        · obtain rfl : j = 4 := by omega
          clear hrq hu4
          go_wp2_with fail
          go_ret2
          refine ⟨⟨w.heap.size + 1, w.heap.size, k, .slice none 0 0, none, 0⟩, rfl, ⟨HRQ.out, ⟨cur, HRW.out.upd HU5.out (by omega), HFI.out.secs⟩, .inl ⟨none, rfl, rfl⟩, fun h => absurd h (Nat.not_lt_zero _), fun _ h => absurd h (Nat.not_lt_zero _), by show w.heap.size ≤ w.heap.size + 1; omega, Nat.le_refl _, fun b hb => ?_, DS.fresh_ok k h1 h2, ⟨Nat.le_refl _, by show k ≤ _; omega⟩, ⟨Nat.zero_le _, Nat.zero_le _⟩⟩, ?_⟩
          · obtain ⟨_, _, _, e, hc, _⟩ := hb
            simp only [Value.slice.injEq] at e
            omega
          · exact ⟨HU5.out.os.trans (HU3.out.os.trans HU2.out.os), HU5.out.tape.trans (HU3.out.tape.trans HU2.out.tape), HU5.out.output.trans (HU3.out.output.trans HU2.out.output), Nat.le_trans HU2.out.size (Nat.le_trans HU3.out.size HU5.out.size), fun b hb _ =>
              ((HU5.out.block b (by have := HU2.out.size; have := HU3.out.size; omega) (by omega)).trans (HU3.out.block b (by have := HU2.out.size; omega) (by omega))).trans (HU2.out.block b hb (fun h => h))⟩
end Go.Proofs.Ytfcaodaaklngmaa
