import Derived.Test.YtllbjabnoicdfaaFixT7
import Derived.Laws.Strings2
import Derived.Laws.Strings3
import Derived.Laws.DeepStrings4
/-! Unpack of both. -/
namespace Go.Proofs.Ytllbjabnoicdfaa
open Go.Lib Go.ChangeShapes Go.WideShapes Go.ChangeAt Go.RowKit
set_option linter.unusedVariables false

/-- a text that is a block: n records, not more than m -/
def isBlock (L m n : Nat) (d : ByteArray) : Prop := d.size = n * L ∧ 1 ≤ n ∧ n ≤ m
theorem quo_i64 (b l : Nat) (h : b ≤ 1000000) : wrap64 ((b : Int) / (l : Int)) = ((b / l : Nat) : Int) := by
  rw [← Int.natCast_ediv]
  have := Nat.div_le_self b l
  obtain ⟨q, hq⟩ : ∃ q, q = b / l := ⟨_, rfl⟩
  rw [← hq] at this ⊢
  unfold wrap64; omega
theorem isBlock.quo {L m n : Nat} {d : ByteArray} (h : isBlock L m n d) (hL : 1 ≤ L) : d.size / L = n ∧ d.size % L = 0 := by
  rw [h.1]; exact ⟨Nat.mul_div_cancel _ hL, Nat.mul_mod_left _ _⟩
theorem not_block {L m : Nat} {d : ByteArray} (hL : 1 ≤ L) (h : ¬ ∃ n, isBlock L m n d) : d.size / L < 1 ∨ m < d.size / L ∨ d.size % L ≠ 0 := by
  by_cases h1 : d.size / L < 1
  · exact .inl h1
  · by_cases h2 : m < d.size / L
    · exact .inr (.inl h2)
    · refine .inr (.inr fun h3 => h ⟨d.size / L, ?_, by omega, by omega⟩)
      have := Nat.div_add_mod d.size L
      rw [h3, Nat.mul_comm] at this; omega
/-- make with elements of several cells -/
theorem run_make_rows {P : Program} (t e : TypeId) (z : Value) (size bytes : Nat) (ht : P.underlying t = some (.slice e)) (hinfo : (P.info? e).map (fun i => (i.zero, i.size, i.bytes)) = some (some z, size, bytes))
    (n : Nat) (hbytes : bytes * n ≤ 281474976710656) (h63 : n ≤ 9223372036854775807) (w : World) :
    (Instr.makeSlice t (.int .i64 (n : Int)) (.int .i64 (n : Int))).run P w = .ok (.slice (some ⟨w.heap.size, 0, none⟩) n n) (w.alloc (.cells (madeCells z.cells (n * size)) e)) := by
  obtain ⟨i, hi, hzz⟩ := Option.map_eq_some_iff.1 hinfo
  simp only [Prod.mk.injEq] at hzz
  obtain ⟨hz, hs, hb⟩ := hzz
  subst hs; subst hb
  have hb' : (i.bytes : Int) * (n : Int) ≤ 281474976710656 := by
    have h : ((i.bytes * n : Nat) : Int) ≤ 281474976710656 := by omega
    rwa [Int.natCast_mul] at h
  have hr := run_make (P := P) w t e i z ht hi hz .i64 .i64 n n (by omega) (Int.le_refl _) hb' (by omega)
  simp only [Int.toNat_natCast] at hr
  exact hr
set_option maxRecDepth 100000 in
theorem unpack_bad (L B : Int) (hf : ¬ fits L B) (d : ByteArray) (w : World) :
    Calls Try.prog 19 #[.int .i64 L, .int .i64 B, .string d] w (Gives (.tuple #[.slice none 0 0, .int .i64 1]) w) := by
  have HV := fun W => hid (valid_any L B W)
  rw [decide_eq_false hf] at HV
  clear hf
  go_enter Try.func19, Try.ntmps19
  go_wp2_with fail
  refine (HV _).out.mono ?_
  rintro e w1 ⟨rfl, rfl⟩
  go_wp2_with fail
  go_ret2
  exact ⟨rfl, Below.refl _ _⟩
set_option maxRecDepth 100000 in
set_option maxHeartbeats 1000000 in
theorem unpack_no (L b : Nat) (hf : fits (L : Int) (b : Int)) (d : ByteArray) (hd : d.size ≤ 100000) (hn : ¬ ∃ n, isBlock L (b / L) n d) (w : World) :
    Calls Try.prog 19 #[.int .i64 L, .int .i64 b, .string d] w (Gives (.tuple #[.slice none 0 0, .int .i64 11]) w) := by
  have HV := fun W => hid (valid_any L b W)
  rw [decide_eq_true hf] at HV
  have HM := fun W => hid (most_any L b W)
  rw [mostI_nat hf] at HM
  have hL : 1 ≤ L := by have := hf.1; omega
  have hm2 : b / L ≤ 1024 := most_le (by have := hf.2.2.2; omega)
  obtain ⟨m, hmm⟩ : ∃ m, m = b / L := ⟨_, rfl⟩
  rw [← hmm] at HM hm2 hn
  have hcase := not_block hL hn
  have HQ := hid (quo_i64 d.size L (by omega))
  have hrem : (d.size : Int) % (L : Int) = ((d.size % L : Nat) : Int) := (Int.natCast_emod _ _).symm
  obtain ⟨n, hnn⟩ : ∃ n, n = d.size / L := ⟨_, rfl⟩
  have hn3 : n ≤ 100000 := by rw [hnn]; exact Nat.le_trans (Nat.div_le_self _ _) hd
  rw [← hnn] at HQ hcase
  have hl0 : (L : Int) ≠ 0 := by omega
  clear hf hmm hn hnn
  rcases hcase with h1 | h1
  · clear hrem
    go_enter Try.func19, Try.ntmps19
    go_wp2_with fail
    refine (HV _).out.mono ?_
    rintro e w1 ⟨rfl, rfl⟩
    go_upto_region 4 with fail
    rw [HQ.out]
    go_wp2_with fail
    go_ret2
    exact ⟨rfl, Below.refl _ _⟩
  · by_cases h0 : n < 1
    · clear hrem h1
      go_enter Try.func19, Try.ntmps19
      go_wp2_with fail
      refine (HV _).out.mono ?_
      rintro e w1 ⟨rfl, rfl⟩
      go_upto_region 4 with fail
      rw [HQ.out]
      go_wp2_with fail
      go_ret2
      exact ⟨rfl, Below.refl _ _⟩
    · by_cases h2 : m < n
      · clear hrem h1
        go_enter Try.func19, Try.ntmps19
        go_wp2_with fail
        refine (HV _).out.mono ?_
        rintro e w1 ⟨rfl, rfl⟩
        go_upto_region 4 with fail
        rw [HQ.out]
        go_wp2_with fail
        refine (HM _).out.mono ?_
        rintro e w1 ⟨rfl, rfl⟩
        go_wp2_with fail
        go_ret2
        exact ⟨rfl, Below.refl _ _⟩
      · have h3 : d.size % L ≠ 0 := h1.elim (fun h => absurd h h2) id
        have hd3 : (((d.size : Int) % (L : Int)) != 0) = true := by rw [hrem]; simp; omega
        clear hrem h1 h3
        go_enter Try.func19, Try.ntmps19
        go_wp2_with fail
        refine (HV _).out.mono ?_
        rintro e w1 ⟨rfl, rfl⟩
        go_upto_region 4 with fail
        rw [HQ.out]
        go_wp2_with fail
        refine (HM _).out.mono ?_
        rintro e w1 ⟨rfl, rfl⟩
        go_wp2_with fail
        go_ret2
        exact ⟨rfl, Below.refl _ _⟩
set_option maxRecDepth 100000 in
set_option maxHeartbeats 2000000 in
theorem unpack_ok (L b n : Nat) (hf : fits (L : Int) (b : Int)) (d : ByteArray) (hn : isBlock L (b / L) n d) (w : World) :
    Calls Try.prog 19 #[.int .i64 L, .int .i64 b, .string d] w (fun e w' => ∃ v, e = .returned (.tuple #[v, .int .i64 0]) ∧ StrsAt w' v (recs L d n) ∧ Below w.heap.size w w') := by
  have HV := fun W => hid (valid_any L b W)
  rw [decide_eq_true hf] at HV
  have HM := fun W => hid (most_any L b W)
  rw [mostI_nat hf] at HM
  have hL : 1 ≤ L := by have := hf.1; omega
  have hL2 : L ≤ 1000 := by have := hf.2.1; omega
  have hm2 : b / L ≤ 1024 := most_le (by have := hf.2.2.2; omega)
  obtain ⟨m, hmm⟩ : ∃ m, m = b / L := ⟨_, rfl⟩
  rw [← hmm] at HM hm2 hn
  have hq := hn.quo hL
  obtain ⟨h1, h2, h3⟩ := hn
  have hsz : d.size ≤ 1100000 := by
    have : n * L ≤ 1024 * 1000 := Nat.mul_le_mul (by omega) hL2
    omega
  have hq1 : wrap64 ((d.size : Int) / (L : Int)) = (n : Int) := by
    rw [← Int.natCast_ediv, hq.1]; unfold wrap64; omega
  have HQ := hid hq1
  have hd3 : (((d.size : Int) % (L : Int)) != 0) = false := by rw [← Int.natCast_emod, hq.2]; rfl
  have hl0 : (L : Int) ≠ 0 := by omega
  have H1 := hid h1
  have hmk := run_make_rows (P := Try.prog) 22 9 (.string ⟨#[]⟩) 1 16 Try.underlying22 (by kernel_rfl) n (by omega) (by omega)
  obtain ⟨mc, hmc⟩ : ∃ mc, mc = madeCells (Value.string ⟨#[]⟩).cells (n * 1) := ⟨_, rfl⟩
  have hml : mc.toList.length = n := by rw [hmc, Array.length_toList, size_madeCells, Nat.mul_one]
  rw [← hmc] at hmk
  clear hmc hf hmm hq hq1 h1
  go_enter Try.func19, Try.ntmps19
  go_wp2_with fail
  refine (HV _).out.mono ?_
  rintro e w1 ⟨rfl, rfl⟩
  go_upto_region 4 with fail
  rw [HQ.out]
  go_wp2_with fail
  refine (HM _).out.mono ?_
  rintro e w1 ⟨rfl, rfl⟩
  go_wp2_with fail
  obtain ⟨w2, hw2⟩ : ∃ w2, w2 = w1.alloc (.cells mc 9) := ⟨_, rfl⟩
  have HR2 : Hid (Row w2 w1.heap.size 9 mc.toList) := hid (by rw [hw2]; unfold Row; rw [Array.toArray_toList]; exact heap_alloc_new w1 _)
  have HB2 : Hid (Below w1.heap.size w1 w2) := hid (by rw [hw2]; exact (Below.refl _ _).alloc (Nat.le_refl _) _)
  have HML := hid hml
  rw [← hw2]
  clear hw2 hmk hml
  go_loopw [38] (fun s38 wr => ∃ (k : Nat) (cur : List Value), k ≤ n ∧ s38 = .int .i64 k ∧ Row wr w1.heap.size 9 cur ∧ cur.length = n ∧ cur.take k = (recs L d k).map .string ∧ Below w1.heap.size w1 wr) (fun s38 _ => n - (intOf s38).toNat)
  case atStart => exact ⟨0, _, Nat.zero_le _, rfl, HR2.out, HML.out, rfl, HB2.out⟩
  case round =>
    obtain ⟨k, cur, hk, rfl, hrw, hcl, htk, hb⟩ := hrel
    have HRW := hid hrw
    have HTK := hid htk
    have HB := hid hb
    by_cases hlt : k < n
    · obtain ⟨x0, hx0⟩ : ∃ x0, cur[k]? = some x0 := ⟨cur[k], List.getElem?_eq_getElem (by omega)⟩
      have c0 := hrw.cell hx0
      have f0 := hrw.frozen k
      obtain ⟨a, ha⟩ : ∃ a, a = k * L := ⟨_, rfl⟩
      have e1 : (k : Int) * (L : Int) = (a : Int) := by rw [ha, Int.natCast_mul]
      have e2 : ((k : Int) + 1) * (L : Int) = ((a + L : Nat) : Int) := by rw [ha, ← Nat.succ_mul, Int.natCast_mul]; rfl
      have ha2 : a + L ≤ d.size := by
        rw [H1.out, ha, ← Nat.succ_mul]; exact Nat.mul_le_mul_right L hlt
      have HA := hid ha
      have HCL := hid hcl
      clear hrw htk hb hx0 ha hcl
      have hsl : ∀ W, (Instr.slice 9 (.string d) (some (.int .i64 (a : Int))) (some (.int .i64 ((a : Int) + (L : Int)))) none).run Try.prog W = .ok (.string (d.extract a (a + L))) W := fun W => by
        rw [run_slice_string W 9 d .i64 .i64 a ((a : Int) + L) Try.underlying9 (by omega) (by omega) (by omega)]
        rw [Int.toNat_natCast, show ((a : Int) + (L : Int)).toNat = a + L by omega]
      go_wp2_with fail
      go_roundw
      case rel =>
        refine ⟨k + 1, _, by omega, by go_num, HRW.out.set k (.string (d.extract a (a + L))), by rw [List.length_set]; exact HCL.out, ?_, HB.out.setCell (p := ⟨w1.heap.size, k, none⟩) (Nat.le_refl _) _⟩
        rw [recs_succ, List.map_append, ← HTK.out, HA.out, List.take_succ_eq_append_getElem (by rw [List.length_set, HCL.out]; exact hlt), List.take_set_of_le (Nat.le_refl _), List.getElem_set_self]
        rfl
      case measure => simp [intOf]; omega
    · obtain rfl : k = n := by omega
      clear hrw htk hb hcl
      go_wp2_with fail
      go_ret2
      refine ⟨.slice (some ⟨w1.heap.size, 0, none⟩) k k, rfl, ⟨some ⟨w1.heap.size, 0, none⟩, k, by rw [recs_length], by rw [recs_length]; exact Nat.le_refl _, by omega, fun _ => ⟨_, 0, rfl, HRW.out.lt, fun i hi => HRW.out.cell ?_⟩⟩, HB.out⟩
      have h9 : ((recs L d k).map Value.string)[i]? = some (.string (recs L d k)[i]) := by simp [hi]
      rw [recs_length] at hi
      rw [← HTK.out, List.getElem?_take, if_pos hi] at h9
      rw [Nat.zero_add]; exact h9
end Go.Proofs.Ytllbjabnoicdfaa
