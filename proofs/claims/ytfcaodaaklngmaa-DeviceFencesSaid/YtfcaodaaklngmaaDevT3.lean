import Derived.Test.YtfcaodaaklngmaaDevT2
/-! Searching and striking pending writes. -/
namespace Go.Proofs.Ytfcaodaaklngmaa
open Go.Lib Go.ChangeShapes Go.WideShapes Go.ChangeAt Go.RowKit

def PW.agg (p : PW) : Value := .agg #[.int .i64 p.sys, .int .i64 p.sec, .string p.dat]
/-- a function value that chooses pending writes, in all worlds in which nothing but F has turned -/
def Chooses (g : Nat) (lb : Array Value) (sel : PW → Bool) (F : Nat → Prop) (w : World) : Prop :=
  ∀ W, Upds F w W → ∀ p : PW, Calls Try.prog g (#[p.agg] ++ lb) W fun x W' => x = .returned (.bool (sel p)) ∧ Upds (fun _ => False) W W'
theorem Chooses.later {g : Nat} {lb : Array Value} {sel : PW → Bool} {F G : Nat → Prop} {w w' : World} (h : Chooses g lb sel F w) (hu : Upds G w w') (hG : ∀ k, k < w.heap.size → G k → F k) : Chooses g lb sel F w' :=
  fun W hW p => h W ⟨hW.os.trans hu.os, hW.tape.trans hu.tape, hW.output.trans hu.output, Nat.le_trans hu.size hW.size, fun k hk hb => (hW.block k (Nat.lt_of_lt_of_le hk hu.size) hb).trans (hu.block k hk fun g => hb (hG k hk g))⟩ p

/-- a search that stops at m, or at the end -/
def IdxPost (m n : Nat) (w : World) (e : Ending) (w' : World) : Prop := e = .returned (.int .i64 (if m < n then (m : Int) else -1)) ∧ Upds (fun _ => False) w w'
set_option maxRecDepth 100000 in
theorem idx_any (g : Nat) (lb : Array Value) (eg : ∀ args w, (callFunc g args).run Try.prog w = .ok (.enter g args) w) (sel : PW → Bool) (l : List PW) (hn : l.length ≤ 1000000) (pb cap : Nat) (cur : List Value) (m : Nat) (hm : m ≤ l.length) (hb : ∀ k (h : k < l.length), k < m → sel l[k] = false) (hs : ∀ h : m < l.length, sel l[m] = true)
    (F : Nat → Prop) (w : World) (hsel : Chooses g lb sel F w) (hr : Row w pb 90 cur) (ht : cur.take (l.length * 3) = pwCells l) :
    Calls Try.prog 80 #[.slice (some ⟨pb, 0, none⟩) l.length cap, .func (.func g) #[] lb] w (IdxPost m l.length w) := by
  have HR := hid hr
  have HT := hid ht
  have HB := hid hb
  have HS := hid hs
  have HC := hid hsel
  clear hr ht hb hs hsel
  go_enter Try.func80, Try.ntmps80
  go_wp2_with fail
  go_loopw [8] (fun i wr => ∃ k : Nat, k ≤ m ∧ i = .int .i64 k ∧ Upds (fun _ => False) w wr) (fun i _ => l.length - (intOf i).toNat)
  case atStart => exact ⟨0, by omega, rfl, Upds.refl _ _⟩
  case round =>
    obtain ⟨k, hk, rfl, hu⟩ := hrel
    have HU := hid hu
    have hrk := hid (HR.out.upd hu (by simp))
    clear hu
    by_cases hlt : k < l.length
    · have hp := PwAt.of_take HT.out k hlt
      have c0 : wr.cell? ⟨pb, k * 3, none⟩ = some (.int .i64 l[k].sys) := hrk.out.cell hp.sys
      have c1 : wr.cell? ⟨pb, k * 3 + 1, none⟩ = some (.int .i64 l[k].sec) := hrk.out.cell hp.sec
      have c2 : wr.cell? ⟨pb, k * 3 + 2, none⟩ = some (.string l[k].dat) := hrk.out.cell hp.dat
      have hcall := hid (HC.out wr (HU.out.mono (fun _ h => h.elim)) l[k])
      clear hp
      by_cases hkm : k < m
      · have hf := hid (HB.out k hlt hkm)
        go_wp2_with fail
        refine hcall.out.mono ?_
        rintro e w1 ⟨rfl, hu1⟩
        rw [hf.out]
        have HU1 := hid hu1
        clear hu1
        go_wp2_with fail
        go_roundw
        case rel => exact ⟨k + 1, by omega, by go_num, HU.out.trans HU1.out⟩
        case measure => simp [intOf]; omega
      · obtain rfl : k = m := by omega
        have hf := hid (HS.out hlt)
        go_wp2_with fail
        refine hcall.out.mono ?_
        rintro e w1 ⟨rfl, hu1⟩
        rw [hf.out]
        have HU1 := hid hu1
        clear hu1
        go_wp2_with fail
        go_ret
        exact ⟨by rw [if_pos hlt]; rfl, HU.out.trans HU1.out⟩
    · have hkm : ¬ m < l.length := by omega
      go_wp2_with fail
      go_ret
      exact ⟨by rw [if_neg hkm]; rfl, HU.out⟩

/-- who is struck first -/
theorem first_sel (sel : PW → Bool) (l : List PW) : ∃ m, m ≤ l.length ∧ (∀ k (h : k < l.length), k < m → sel l[k] = false) ∧ ∀ h : m < l.length, sel l[m] = true := by
  induction l with
  | nil => exact ⟨0, Nat.le_refl _, fun k h => absurd h (Nat.not_lt_zero _), fun h => absurd h (Nat.not_lt_zero _)⟩
  | cons p l ih =>
    by_cases hp : sel p = true
    · exact ⟨0, Nat.zero_le _, fun k _ h => absurd h (Nat.not_lt_zero _), fun _ => hp⟩
    · obtain ⟨m, h1, h2, h3⟩ := ih
      refine ⟨m + 1, by simpa using h1, fun k h hk => ?_, fun h => h3 (by simpa using h)⟩
      cases k with
      | zero => simpa using hp
      | succ k => exact h2 k (by simpa using h) (by omega)

theorem filter_all (sel : PW → Bool) (l : List PW) (h : ∀ k (h : k < l.length), sel l[k] = false) : l.filter (fun p => !sel p) = l := by
  rw [List.filter_eq_self]
  intro p hp
  obtain ⟨k, hk, rfl⟩ := List.getElem_of_mem hp
  rw [h k hk]; rfl

/-- clearing the rest of a row that is known whole -/
theorem run_clear_row {P : Program} (w : World) (t e ty : TypeId) (z : Value) (zs : List Value) (ht : P.underlying t = some (.slice e)) (hv : ∀ w, (zeroValue e).run P w = .ok z w) (b o n c : Nat) (hn : 0 < n)
    (hz : (Builtin.zeroCells z.cells n).toList = zs) (h1 : ∀ v ∈ zs, v.oneCell' = true) (t' : TypeId) (cur : List Value) (hr : Row w b t' cur) (hl : o + zs.length ≤ cur.length) :
    (Builtin.clear_ #[t] ty #[.slice (some ⟨b, o, none⟩) n c]).run P w = .ok (.tuple #[]) (w.setRow b (splice cur o zs).toArray) := by
  have hst := run_storeCells_at P b o t' zs 0 cur.toArray w hr (by simpa using hl) h1
  obtain ⟨m, rfl⟩ : ∃ m, n = m + 1 := ⟨n - 1, by omega⟩
  simp only [Nat.add_zero] at hst
  simp [Builtin.clear_, run_underlying ht, hv, hz, hst, splice]

/-- what striking leaves -/
def StrikePost (pb cap : Nat) (l' : List PW) (w : World) (e : Ending) (w' : World) : Prop :=
  e = .returned (.slice (some ⟨pb, 0, none⟩) l'.length cap) ∧ (∃ cur', Row w' pb 90 cur' ∧ cur'.take (l'.length * 3) = pwCells l' ∧ cur'.length = cap * 3) ∧ Upds (fun k => k = pb) w w'
theorem zeros3 (n : Nat) (z : Value) (hz : z.cells = #[.int .i64 0, .int .i64 0, .string ⟨#[]⟩]) : (Builtin.zeroCells z.cells n).toList.length = n * 3 ∧ ∀ v ∈ (Builtin.zeroCells z.cells n).toList, v.oneCell' = true := by
  rw [hz]
  refine ⟨by simp [Builtin.zeroCells], fun v hv => ?_⟩
  simp only [Builtin.zeroCells, Array.toList_map, List.mem_map] at hv
  obtain ⟨i, _, rfl⟩ := hv
  have h3 : i % 3 < 3 := Nat.mod_lt _ (by decide)
  show ((#[Value.int .i64 0, .int .i64 0, .string ⟨#[]⟩] : Array Value)[i % 3]!).oneCell' = true
  generalize i % 3 = m at h3
  match m, h3 with
  | 0, _ => rfl
  | 1, _ => rfl
  | 2, _ => rfl
set_option maxRecDepth 100000 in
theorem strike_any (g : Nat) (lb : Array Value) (eg : ∀ args w, (callFunc g args).run Try.prog w = .ok (.enter g args) w) (sel : PW → Bool) (l : List PW) (hn : l.length ≤ 1000000) (pb cap : Nat) (cur : List Value)
    (w : World) (hsel : Chooses g lb sel (fun k => k = pb) w) (hr : Row w pb 90 cur) (ht : cur.take (l.length * 3) = pwCells l) (hc : cur.length = cap * 3) (hcap : l.length ≤ cap) (hmax : cap ≤ 9223372036854775807) :
    Calls Try.prog 70 #[.slice (some ⟨pb, 0, none⟩) l.length cap, .func (.func g) #[] lb] w (StrikePost pb cap (l.filter fun p => !sel p) w) := by
  obtain ⟨m, hm, hb, hs⟩ := first_sel sel l
  have HI := hid (idx_any g lb eg sel l hn pb cap cur m hm hb hs _ w hsel hr ht)
  by_cases hlt : m < l.length
  · have HST := hid (Struck.start ht m hlt (hs hlt) hb)
    have hm1 : ((m : Int) == -1) = false := beq_eq_false_iff_ne.2 (by omega)
    have HR := hid hr
    have HT := hid ht
    have HC := hid hsel
    have HCL := hid hc
    clear hb hs hr ht hsel hc
    go_enter Try.func70, Try.ntmps70
    go_wp2_with fail
    refine HI.out.mono ?_
    rintro e w1 ⟨rfl, hu1⟩
    rw [if_pos hlt]
    have HU1 := hid hu1
    clear hu1 HI
    go_wp2_with fail
    go_loopw [5, 6] (fun s5 s6 wr => ∃ (i j : Nat) (cu : List Value), s5 = .int .i64 i ∧ s6 = .int .i64 j ∧ Struck sel l cu i j ∧ Row wr pb 90 cu ∧ cu.length = cap * 3 ∧ Upds (fun k => k = pb) w wr) (fun _ s6 _ => l.length - (intOf s6).toNat)
    case atStart => exact ⟨m, m + 1, cur, rfl, by go_num, HST.out, HR.out.upd HU1.out (by simp), HCL.out, HU1.out.mono (fun _ h => h.elim)⟩
    case round =>
      obtain ⟨i, j, cu, rfl, rfl, hst, hrw, hcu, hu⟩ := hrel
      have HSk := hid hst
      have HRk := hid hrw
      have HCk := hid hcu
      have HUk := hid hu
      have hij := hst.lt
      have hjn := hst.jn
      clear hst hrw hcu hu
      by_cases hjl : j < l.length
      · have hp := HSk.out.rest j hjl (Nat.le_refl _)
        have c0 : wr.cell? ⟨pb, j * 3, none⟩ = some (.int .i64 l[j].sys) := HRk.out.cell hp.sys
        have c1 : wr.cell? ⟨pb, j * 3 + 1, none⟩ = some (.int .i64 l[j].sec) := HRk.out.cell hp.sec
        have c2 : wr.cell? ⟨pb, j * 3 + 2, none⟩ = some (.string l[j].dat) := HRk.out.cell hp.dat
        have hq := HRk.out.lt
        clear hp
        have hcall := hid (HC.out (wr.alloc (.cells #[.int .i64 l[j].sys, .int .i64 l[j].sec, .string l[j].dat] 90)) (HUk.out.trans (Upds.alloc _ _)) l[j])
        have hv := Row.new wr [.int .i64 l[j].sys, .int .i64 l[j].sec, .string l[j].dat] 90
        have hra := HRk.out.alloc (.cells #[.int .i64 l[j].sys, .int .i64 l[j].sec, .string l[j].dat] 90)
        have HV := hid hv
        have HRA := hid hra
        clear hv hra
        obtain ⟨p, hp⟩ : ∃ p, p = l[j] := ⟨_, rfl⟩
        rw [← hp] at hcall c0 c1 c2 HV HRA
        have HP := hid hp
        clear hp
        cases hse : sel p
        · have HSE := hid hse
          clear hse
          go_wp2_with fail
          refine hcall.out.mono ?_
          rintro e w2 ⟨rfl, hu2⟩
          rw [HSE.out]
          have HU2 := hid hu2
          have HV2 := hid (HV.out.upd hu2 (by simp))
          have HR2 := hid (HRA.out.upd hu2 (by simp))
          have d0 : w2.cell? ⟨wr.heap.size, 0, none⟩ = some (.int .i64 p.sys) := HV2.out.cell rfl
          have d1 : w2.cell? ⟨wr.heap.size, 1, none⟩ = some (.int .i64 p.sec) := HV2.out.cell rfl
          have d2 : w2.cell? ⟨wr.heap.size, 2, none⟩ = some (.string p.dat) := HV2.out.cell rfl
          obtain ⟨x0, e0⟩ : ∃ x, w2.cell? ⟨pb, i * 3, none⟩ = some x := ⟨_, HR2.out.cell (List.getElem?_eq_getElem (by have := HCk.out; omega))⟩
          obtain ⟨x1, e1⟩ : ∃ x, w2.cell? ⟨pb, i * 3 + 1, none⟩ = some x := ⟨_, HR2.out.cell (List.getElem?_eq_getElem (by have := HCk.out; omega))⟩
          obtain ⟨x2, e2⟩ : ∃ x, w2.cell? ⟨pb, i * 3 + 2, none⟩ = some x := ⟨_, HR2.out.cell (List.getElem?_eq_getElem (by have := HCk.out; omega))⟩
          have f0 := HR2.out.frozen (i * 3)
          have f1 := HR2.out.frozen (i * 3 + 1)
          have f2 := HR2.out.frozen (i * 3 + 2)
          clear hu2 c0 c1 c2
          go_wp2_with fail
          go_roundw
          case rel =>
            refine ⟨i + 1, j + 1, putPw cu i p, by go_num, by go_num, ?_, ?_, by rw [putPw_len]; exact HCk.out, ?_⟩
            · rw [HP.out]
              exact HSk.out.keep (by rw [HCk.out]; omega) hjl (by rw [← HP.out]; exact HSE.out)
            · exact ((HR2.out.set _ _).set _ _).set _ _
            · exact ((((HUk.out.trans (Upds.alloc _ _)).trans (HU2.out.mono (fun _ h => h.elim))).trans (Upds.set _ _ _ rfl)).trans (Upds.set _ _ _ rfl)).trans (Upds.set _ _ _ rfl)
          case measure => simp [intOf]; omega
        · have HSE := hid hse
          clear hse
          go_wp2_with fail
          refine hcall.out.mono ?_
          rintro e w2 ⟨rfl, hu2⟩
          rw [HSE.out]
          have HU2 := hid hu2
          have HR2 := hid (HRA.out.upd hu2 (by simp))
          clear hu2 c0 c1 c2
          go_wp2_with fail
          go_roundw
          case rel => exact ⟨i, j + 1, cu, rfl, by go_num, HSk.out.skip hjl (by rw [← HP.out]; exact HSE.out), HR2.out, HCk.out, (HUk.out.trans (Upds.alloc _ _)).trans (HU2.out.mono (fun _ h => h.elim))⟩
          case measure => simp [intOf]; omega
      · obtain rfl : j = l.length := by omega
        have hz := zeros3 (l.length - i) (.agg #[.int .i64 0, .int .i64 0, .string ⟨#[]⟩]) rfl
        have hclr := run_clear_row (P := Try.prog) wr 65 90 0 _ _ Try.underlying65 Try.zeroValue90 pb (i * 3) (l.length - i) (cap - i) (by omega) rfl hz.2 90 cu HRk.out (by rw [hz.1, HCk.out]; omega)
        obtain ⟨cu2, hcu2⟩ : ∃ cu2, cu2 = splice cu (i * 3) (Builtin.zeroCells (Value.agg #[.int .i64 0, .int .i64 0, .string ⟨#[]⟩]).cells (l.length - i)).toList := ⟨_, rfl⟩
        rw [← hcu2] at hclr
        have HF := hid (HSk.out.finish (by rw [HCk.out]; omega) _ hz.1)
        rw [← hcu2] at HF
        clear hz hcu2
        have hle : i ≤ l.length := by omega
        go_wp2_with fail
        go_ret
        obtain ⟨h1, h2, h3⟩ := HF.out
        refine ⟨by rw [← h1]; rfl, ⟨cu2, HRk.out.setRow cu2, h2, h3.trans HCk.out⟩, HUk.out.trans (Upds.row _ _ _ rfl)⟩
  · have hfe : (l.filter fun p => !sel p) = l := filter_all sel l fun k h => hb k h (by omega)
    have HF := hid hfe
    have HR := hid hr
    have HT := hid ht
    have HCL := hid hc
    clear hb hs hr ht hsel hc hfe
    go_enter Try.func70, Try.ntmps70
    go_wp2_with fail
    refine HI.out.mono ?_
    rintro e w1 ⟨rfl, hu1⟩
    rw [if_neg hlt]
    have HU1 := hid hu1
    clear hu1 HI
    go_wp2_with fail
    go_ret
    rw [HF.out]
    exact ⟨rfl, ⟨cur, HR.out.upd HU1.out (by simp), HT.out, HCL.out⟩, HU1.out.mono (fun _ h => h.elim)⟩
set_option maxRecDepth 100000 in
theorem idx_empty (a : Option Addr) (f : Value) (w : World) :
    Calls Try.prog 80 #[.slice a 0 0, f] w fun e w' => e = .returned (.int .i64 (-1)) ∧ w = w' := by
  go_enter Try.func80, Try.ntmps80
  go_wp2_with fail
  refine wp_loop_rounds 1 ?_
  rw [rounds_succ]
  go_wp2_with fail
  go_ret
  exact ⟨rfl, rfl⟩
set_option maxRecDepth 100000 in
theorem strike_empty (a : Option Addr) (f : Value) (w : World) :
    Calls Try.prog 70 #[.slice a 0 0, f] w fun e w' => e = .returned (.slice a 0 0) ∧ w = w' := by
  go_enter Try.func70, Try.ntmps70
  go_wp2_with fail
  refine (idx_empty _ _ _).mono ?_
  rintro e w1 ⟨rfl, rfl⟩
  go_wp2_with fail
  go_ret
  exact ⟨rfl, rfl⟩
end Go.Proofs.Ytfcaodaaklngmaa
