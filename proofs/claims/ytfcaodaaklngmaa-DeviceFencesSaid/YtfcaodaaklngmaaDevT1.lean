import Derived.Test.YtfcaodaaklngmaaRows
import Derived.WalkKit
import Derived.ProofKit
import Derived.OpenShut
import Derived.ShutString
import Derived.WalkLawsBesides
import Derived.WalkSpells
import Derived.Outline
import Derived.LoopTactic
import Derived.Lib.Hide
import Derived.Laws.BytesArg
import Derived.BigQuiet
import Derived.Deep.QuietTactic
import Derived.Deep.DeepCutAuto
import Derived.Deep.RegionHeld3
import Derived.Test.YtfcaodaaklngmaaDevM3
import Derived.Test.YtfcaodaaklngmaaDevH
namespace Go.Proofs.Ytfcaodaaklngmaa
open Go.Lib Go.ChangeShapes Go.WideShapes Go.ChangeAt Go.RowKit

/-- where sectors lie -/
def Secs (w : World) (sb n : Nat) (f : Nat → Sec) : Prop := ∃ cur, Row w sb 74 cur ∧ SecsIs cur n f

set_option maxRecDepth 100000 in
theorem take_same (sb i : Nat) (s : Sec) (d : ByteArray) (n : Int) (hd : d.size = 140) (hs : s.st.size = 140) (w : World) (cur : List Value) (hr : Row w sb 74 cur) (hc : SecCells cur (i * 10) s) (he : joinN d s.st (clampN n) = s.st) :
    Calls Try.prog 69 #[.pointer (some ⟨sb, i * 10, none⟩), .string d, .int .i64 n] w fun e w' => e = .returned (.tuple #[]) ∧ ∃ m, w' = w.drewN m := by
  have h0 := hr.cell hc.st
  have hk := clampN_le n
  have HE := hid he
  have HC := hid hc
  have HR := hid hr
  clear he hc hr
  go_enter Try.func69, Try.ntmps69
  go_upto_region 0 with fail
  go_cut [2] (fun s2 wx => s2 = .int .i64 (clampN n : Nat) ∧ wx = w)
  case first =>
    by_cases h1 : n < 0
    · have e : (clampN n : Int) = 0 := by unfold clampN; omega
      have E := hid e
      clear e
      go_wp2_with fail
      go_meet
      exact ⟨by rw [E.out], rfl⟩
    · by_cases h2 : n ≤ 140
      · have e : (clampN n : Int) = n := by unfold clampN; omega
        have E := hid e
        clear e
        go_wp2_with fail
        go_meet
        exact ⟨by rw [E.out], rfl⟩
      · have e : (clampN n : Int) = 140 := by unfold clampN; omega
        have E := hid e
        clear e
        go_wp2_with fail
        go_meet
        exact ⟨by rw [E.out], rfl⟩
  case rest =>
    obtain ⟨rfl, rfl⟩ := hcut
    have HD : ((d.extract 0 (clampN n) ++ s.st.extract (clampN n) 140).toList == s.st.toList) = true := by
      have e := HE.out
      unfold joinN at e
      rw [hs] at e
      rw [e]; exact beq_self_eq_true _
    go_wp2_with fail
    go_quiet (fail)
    go_wp2_with fail
    refine bodyPost_ret (results_none rfl _ _ _) rfl ?_
    exact ⟨rfl, nq, rfl⟩

/-- a copy into a row that is known whole, as one step of a region -/
theorem step_copy_row {P : Program} {ops : Array Oper} {o : Oper} {a : Act} {w : World} {K : Act → World → Prop} {Q : Exit → Act → World → Prop} {E : Prop} (hgd : o.guard = none) (d s : Operand) (dT sT : TypeId)
    (ho : o.op = .call { callee := .builtin .copy, args := #[d, s], argTypes := #[dT, sT] }) (elem : TypeId) (hu : P.underlying dT = some (.slice elem)) (hsz : (P.info? elem).map (·.size) = some 1)
    (g off dLen dCap : Nat) (ad : Addr) (sLen sCap : Nat) (hd : a.eval d = .slice (some ⟨g, off, none⟩) dLen dCap) (hs : a.eval s = .slice (some ad) sLen sCap)
    (cur : List Value) (t : TypeId) (hg : Row w g t cur) (cs : List Value) (hn : cs.length = Nat.min sLen dLen)
    (hsrc : ∀ j v, cs[j]? = some v → w.cell? (ad.add j) = some v) (hfit : off + cs.length ≤ cur.length) (h1 : ∀ v ∈ cs, v.oneCell' = true)
    (h : ∀ w', Hid (Row w' g t (splice cur off cs)) → Hid (Upds (fun k => k = g) w w') → K (a.put o.dst (goInt cs.length)) w') :
    if Region.wanted o (yielded ops a.tmps) = true then Oper.wp P o a w K Q else E := by
  have hw : Region.wanted o (yielded ops a.tmps) = true := by simp [Region.wanted, hgd]
  rw [if_pos hw]
  have hrun := run_copy_row (P := P) w dT sT o.type elem g off dLen dCap ad sLen sCap cur.toArray t cs hu hsz hg hn hsrc (by simpa using hfit) h1
  unfold Oper.wp
  simp [execOp, ho, resolve, invoke, builtin, hd, hs, hrun, Result.andThen]
  exact h _ (show _ = _ by simpa [splice] using setRow_heap w g _ _ t _ hg) (Upds.row _ _ _ rfl)
theorem toList_ne {a b : ByteArray} (h : a ≠ b) : (a.toList == b.toList) = false := by
  rw [beq_eq_false_iff_ne]
  intro e
  rw [ByteArray.toList_eq, ByteArray.toList_eq] at e
  exact h (ByteArray.ext (Array.toList_inj.1 e))

set_option maxRecDepth 100000 in
theorem take_new (sb i : Nat) (s : Sec) (d : ByteArray) (n : Int) (hd : d.size = 140) (hs : s.st.size = 140) (w : World) (cur : List Value) (hl : i * 10 + 10 ≤ cur.length) (hr : Row w sb 74 cur) (hc : SecCells cur (i * 10) s) (he : joinN d s.st (clampN n) ≠ s.st) :
    Calls Try.prog 69 #[.pointer (some ⟨sb, i * 10, none⟩), .string d, .int .i64 n] w fun e w' => e = .returned (.tuple #[]) ∧ Row w' sb 74 (noted cur (i * 10) s (joinN d s.st (clampN n))) ∧ Upds (fun k => k = sb) w w' := by
  have h0 := hr.cell hc.st
  have hk := clampN_le n
  have HE := hid he
  have HC := hid hc
  have HR := hid hr
  have HL := hid hl
  clear he hc hr hl
  go_enter Try.func69, Try.ntmps69
  go_upto_region 0 with fail
  go_cut [2] (fun s2 wx => s2 = .int .i64 (clampN n : Nat) ∧ wx = w)
  case first =>
    by_cases h1 : n < 0
    · have e : (clampN n : Int) = 0 := by unfold clampN; omega
      have E := hid e
      clear e
      go_wp2_with fail
      go_meet
      exact ⟨by rw [E.out], rfl⟩
    · by_cases h2 : n ≤ 140
      · have e : (clampN n : Int) = n := by unfold clampN; omega
        have E := hid e
        clear e
        go_wp2_with fail
        go_meet
        exact ⟨by rw [E.out], rfl⟩
      · have e : (clampN n : Int) = 140 := by unfold clampN; omega
        have E := hid e
        clear e
        go_wp2_with fail
        go_meet
        exact ⟨by rw [E.out], rfl⟩
  case rest =>
    obtain ⟨rfl, rfl⟩ := hcut
    obtain ⟨c, hcd⟩ : ∃ c, c = joinN d s.st (clampN n) := ⟨_, rfl⟩
    have hce : d.extract 0 (clampN n) ++ s.st.extract (clampN n) 140 = c := by rw [hcd]; unfold joinN; rw [hs]
    have HCE := hid hce
    have HCD := hid hcd
    have HD : (c.toList == s.st.toList) = false := toList_ne (by rw [hcd]; exact HE.out)
    clear hce hcd
    go_wp2_with fail
    go_quiet (fail)
    rw [HCE.out]
    go_wp2_with fail
    obtain ⟨cs, hcs⟩ : ∃ cs, cs = (cur.drop (i * 10 + 1)).take 7 := ⟨_, rfl⟩
    have hcl : cs.length = 7 := by rw [hcs, List.length_take, List.length_drop]; have := HL.out; omega
    have hcget : ∀ j, j < 7 → cs[j]? = cur[i * 10 + 1 + j]? := fun j hj => by rw [hcs, List.getElem?_take, if_pos hj, List.getElem?_drop]
    have hone : Hid (∀ v ∈ cs, v.oneCell' = true) := by
      intro v hv
      obtain ⟨j, hj, rfl⟩ := List.getElem_of_mem hv
      obtain ⟨t, ht, _⟩ := HC.out.er j (by omega)
      have := hcget j (by omega)
      rw [ht, List.getElem?_eq_getElem hj] at this
      rw [Option.some.inj this]; rfl
    have hsrc : Hid (∀ j v, cs[j]? = some v → wc.cell? ((⟨sb, i * 10 + 1, none⟩ : Addr).add j) = some v) := by
      intro j v hv
      have hj : j < 7 := by rw [← hcl]; exact (List.getElem?_eq_some_iff.1 hv).1
      rw [add_plain]
      exact HR.out.cell ((hcget j hj).symm.trans hv)
    have HCS := hid hcs
    have HCL := hid hcl
    clear hcs hcl hcget
    go_region_law (refine step_copy_row rfl (.tmp 29) (.tmp 33) 27 27 rfl 9 Try.underlying27 (by kernel_rfl) sb (i * 10 + 1 + 1) 7 7 ⟨sb, i * 10 + 1, none⟩ 8 8 (by simp [Act.eval, Act.put]) (by simp [Act.eval, Act.put]) cur 74 HR.out cs (by rw [HCL.out]; rfl) hsrc.out (by rw [HCL.out]; have := HL.out; omega) hone.out ?_; intro w4 hg4 hb4)
    obtain ⟨L1, hL1⟩ : ∃ L1, L1 = splice cur (i * 10 + 1 + 1) cs := ⟨_, rfl⟩
    have hL1l : L1.length = cur.length := by rw [hL1]; exact length_splice _ _ _ (by rw [HCL.out]; have := HL.out; omega)
    have hget : ∀ j, (j < i * 10 + 2 ∨ i * 10 + 9 ≤ j) → L1[j]? = cur[j]? := fun j hj => by
      rw [hL1, splice_get _ _ _ (by rw [HCL.out]; have := HL.out; omega), HCL.out, if_neg (by omega)]
    rw [← hL1] at hg4
    have c0 : w4.cell? ⟨sb, i * 10, none⟩ = some (.string s.st) := hg4.out.cell ((hget _ (by omega)).trans HC.out.st)
    have c9 : w4.cell? ⟨sb, i * 10 + 9, none⟩ = some (.int .i64 s.er.length) := hg4.out.cell ((hget _ (by omega)).trans HC.out.kept)
    obtain ⟨t1, ht1⟩ : ∃ t1, w4.cell? ⟨sb, i * 10 + 1, none⟩ = some (.string t1) := by
      obtain ⟨t, h1, _⟩ := HC.out.er 0 (by omega)
      exact ⟨t, hg4.out.cell ((hget _ (by omega)).trans h1)⟩
    have f0 := hg4.out.frozen (i * 10)
    have f1 := hg4.out.frozen (i * 10 + 1)
    have f9 := hg4.out.frozen (i * 10 + 9)
    have hfew := HC.out.few
    have HL1 := hid hL1
    have HL1l := hid hL1l
    clear hL1 hL1l hget hone hsrc h0
    have hend : Hid (∀ m, Row (((w4.drewN m).setCell ⟨sb, i * 10 + 1, none⟩ (.string s.st)).setCell ⟨sb, i * 10 + 9, none⟩ (.int .i64 (min (s.er.length + 1) 8 : Nat)) |>.setCell ⟨sb, i * 10, none⟩ (.string c)) sb 74 (noted cur (i * 10) s (joinN d s.st (clampN n))) ∧
        Upds (fun k => k = sb) wc (((w4.drewN m).setCell ⟨sb, i * 10 + 1, none⟩ (.string s.st)).setCell ⟨sb, i * 10 + 9, none⟩ (.int .i64 (min (s.er.length + 1) 8 : Nat)) |>.setCell ⟨sb, i * 10, none⟩ (.string c))) := by
      intro m
      have r0 : Row (w4.drewN m) sb 74 L1 := hg4.out
      have r1 := ((r0.set (i * 10 + 1) (.string s.st)).set (i * 10 + 9) (.int .i64 (min (s.er.length + 1) 8 : Nat))).set (i * 10) (.string c)
      rw [HCD.out] at r1 ⊢
      rw [HL1.out, HCS.out] at r1
      have u0 : Upds (fun k => k = sb) wc (w4.drewN m) := ⟨hb4.out.os, hb4.out.tape, hb4.out.output, hb4.out.size, hb4.out.block⟩
      exact ⟨r1, ((u0.trans (Upds.set _ _ _ rfl)).trans (Upds.set _ _ _ rfl)).trans (Upds.set _ _ _ rfl)⟩
    clear hg4 hb4
    go_wp2_with fail
    go_region
    all_goals
      rcases Nat.lt_or_ge s.er.length 8 with h8 | h8
      · have E8 : Hid (min (s.er.length + 1) 8 = s.er.length + 1) := by show _ = _; omega
        rw [E8.out] at hend
        go_wp2_with fail
        go_end0
        have := hend.out 1
        exact ⟨rfl, this⟩
      · have E8 : Hid (min (s.er.length + 1) 8 = 8) := by show _ = _; omega
        rw [E8.out] at hend
        go_wp2_with fail
        go_end0
        have := hend.out 1
        exact ⟨rfl, this⟩

theorem Secs.upd {w w' : World} {sb n : Nat} {f : Nat → Sec} (h : Secs w sb n f) {F : Nat → Prop} (hu : Upds F w w') (hb : ¬ F sb) : Secs w' sb n f := by
  obtain ⟨cur, hr, hs⟩ := h; exact ⟨cur, hr.upd hu hb, hs⟩
theorem Secs.lt {w : World} {sb n : Nat} {f : Nat → Sec} (h : Secs w sb n f) : sb < w.heap.size := by
  obtain ⟨cur, hr, hs⟩ := h; exact hr.lt
theorem take_any (sb n i : Nat) (f : Nat → Sec) (d : ByteArray) (m : Int) (hi : i < n) (hd : d.size = 140) (hs : (f i).st.size = 140) (w : World) (h : Secs w sb n f) :
    Calls Try.prog 69 #[.pointer (some ⟨sb, i * 10, none⟩), .string d, .int .i64 m] w fun e w' => e = .returned (.tuple #[]) ∧ Secs w' sb n (upS f i ((f i).take d m)) ∧ Upds (fun k => k = sb) w w' := by
  obtain ⟨cur, hr, hc⟩ := h
  by_cases he : joinN d (f i).st (clampN m) = (f i).st
  · refine (take_same sb i (f i) d m hd hs w cur hr (hc.sec i hi) he).mono ?_
    rintro e w' ⟨rfl, k, rfl⟩
    have e1 : (f i).take d m = f i := by unfold Sec.take Sec.change; rw [if_pos he]
    rw [e1, upS_same]
    exact ⟨rfl, ⟨cur, hr, hc⟩, ⟨rfl, rfl, rfl, Nat.le_refl _, fun _ _ _ => rfl⟩⟩
  · have hl : i * 10 + 10 ≤ cur.length := by have := hc.len; omega
    refine (take_new sb i (f i) d m hd hs w cur hl hr (hc.sec i hi) he).mono ?_
    rintro e w' ⟨rfl, hr', hu⟩
    have e1 : (f i).take d m = ⟨joinN d (f i).st (clampN m), ((f i).st :: (f i).er).take 8⟩ := by unfold Sec.take Sec.change; rw [if_neg he]
    rw [e1]
    refine ⟨rfl, ⟨_, hr', hc.up i _ (noted_len _ _ _ _ hl) (fun j hj => ?_) (noted_cells (hc.sec i hi) _ hl)⟩, hu⟩
    rw [noted_get _ _ _ _ hl, if_neg (by omega), if_neg (by omega), if_neg (by omega), if_neg (by omega)]
end Go.Proofs.Ytfcaodaaklngmaa
