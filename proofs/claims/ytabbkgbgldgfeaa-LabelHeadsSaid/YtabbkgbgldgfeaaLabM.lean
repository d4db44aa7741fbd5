import Derived.Test.YtabbkgbgldgfeaaWire
import Derived.Test.YtabbkgbgldgfeaaExt
import Derived.Test.YtabbkgbgldgfeaaFull
/-! Labels as mathematics: their encoding, and what the reading of a slot says. -/
namespace Go.Proofs.Ytabbkgbgldgfeaa

structure Lab where
  id : Int
  unit : Int
  name : ByteArray
  note : ByteArray
  ext : List (Int × Int)
def zeroL : Lab := ⟨0, 0, ⟨#[]⟩, ⟨#[]⟩, []⟩
def big40 : Nat := 1099511627776
def trOk (tr : Int) : Prop := 4 ≤ tr ∧ tr ≤ 128
instance (tr : Int) : Decidable (trOk tr) := inferInstanceAs (Decidable (_ ∧ _))
def tabM (tr : Int) : Int := if trOk tr then (tr + 3) / 4 else 0
/-- the conditions on extents -/
def extOk (l : List (Int × Int)) (tr : Int) : Prop := 1 ≤ l.length ∧ l.length ≤ 16 ∧ up (canon (seqI l)) = l ∧ (seqI l).Nodup ∧ ∀ t ∈ seqI l, tabM tr ≤ (t : Int) ∧ (t : Int) < tr
instance (l : List (Int × Int)) (tr : Int) : Decidable (extOk l tr) := inferInstanceAs (Decidable (_ ∧ _))
def okL (l : Lab) (tr : Int) : Prop := trOk tr ∧ 1 ≤ l.id ∧ l.id ≤ (big40 : Nat) ∧ 0 ≤ l.unit ∧ l.unit ≤ (big40 : Nat) ∧ l.name.size ≤ 31 ∧ l.note.size ≤ 400 ∧ extOk l.ext tr
instance (l : Lab) (tr : Int) : Decidable (okL l tr) := inferInstanceAs (Decidable (_ ∧ _))
def eqL (a b : Lab) : Prop := a.id = b.id ∧ a.unit = b.unit ∧ a.name = b.name ∧ a.note = b.note ∧ a.ext = b.ext
instance (a b : Lab) : Decidable (eqL a b) := inferInstanceAs (Decidable (_ ∧ _))
theorem eqL_iff (a b : Lab) : eqL a b ↔ a = b := by
  cases a; cases b; simp [eqL]
def goodL (l : Lab) (tr : Int) : Prop := trOk tr ∧ (eqL l zeroL ∨ okL l tr)
instance (l : Lab) (tr : Int) : Decidable (goodL l tr) := inferInstanceAs (Decidable (_ ∧ _))
def encR : List (Int × Int) → ByteArray
  | [] => ⟨#[]⟩
  | r :: l => encS r.1.toNat ++ encS r.2.toNat ++ encR l
theorem encR_append (a b : List (Int × Int)) : encR (a ++ b) = encR a ++ encR b := by
  induction a with
  | nil => exact (empty_append' _).symm
  | cons r a ih => show _ ++ encR (a ++ b) = _; rw [ih, ← ByteArray.append_assoc]; rfl
theorem encR_snoc (l : List (Int × Int)) (k : Nat) (h : k < l.length) : encR (l.take (k + 1)) = encR (l.take k) ++ encS l[k].1.toNat ++ encS l[k].2.toNat := by
  rw [List.take_succ_eq_append_getElem h, encR_append]
  show _ ++ (_ ++ _ ++ (⟨#[]⟩ : ByteArray)) = _
  rw [append_empty', ByteArray.append_assoc]
theorem encR_size (l : List (Int × Int)) : (encR l).size ≤ 20 * l.length := by
  induction l with
  | nil => simp [encR, ByteArray.size]
  | cons r l ih =>
    show (_ ++ _ ++ encR l).size ≤ _
    rw [ByteArray.size_append, ByteArray.size_append]
    have h1 := encS_size r.1.toNat
    have h2 := encS_size r.2.toNat
    simp only [List.length_cons]; omega
def headL (l : Lab) : ByteArray := encS l.id.toNat ++ encS l.unit.toNat ++ (encS l.name.size ++ l.name) ++ (encS l.note.size ++ l.note) ++ encS l.ext.length
def bodyL (l : Lab) : ByteArray := headL l ++ encR l.ext
theorem headL_size (l : Lab) : (headL l).size ≤ 50 + l.name.size + l.note.size := by
  unfold headL
  have h1 := encS_size l.id.toNat
  have h2 := encS_size l.unit.toNat
  have h3 := encS_size l.name.size
  have h4 := encS_size l.note.size
  have h5 := encS_size l.ext.length
  simp only [ByteArray.size_append]; omega
theorem bodyL_size (l : Lab) : (bodyL l).size ≤ 50 + l.name.size + l.note.size + 20 * l.ext.length := by
  unfold bodyL
  have h1 := headL_size l
  have h2 := encR_size l.ext
  simp only [ByteArray.size_append]; omega
/-- the content of a slot -/
def encL (l : Lab) (tr : Int) : ByteArray := if goodL l tr then padS (bodyL l) 1024 else ⟨#[]⟩
theorem body_zero : bodyL zeroL = zerosB 5 := by
  unfold bodyL headL zeroL
  decide +kernel
theorem zerosB_add (a b : Nat) : zerosB a ++ zerosB b = zerosB (a + b) := by
  unfold zerosB
  apply ByteArray.ext
  simp
theorem pad_zero : padS (bodyL zeroL) 1024 = padS ⟨#[]⟩ 1024 := by
  rw [body_zero]; unfold padS; rw [zerosB_size, zerosB_add, empty_append']; rfl

/-- what can be written and read -/
def fineL (l : Lab) : Prop := 0 ≤ l.id ∧ l.id ≤ (big40 : Nat) ∧ 0 ≤ l.unit ∧ l.unit ≤ (big40 : Nat) ∧ l.name.size ≤ 31 ∧ l.note.size ≤ 400 ∧ l.ext.length ≤ 16 ∧ ∀ r ∈ l.ext, 0 ≤ r.1 ∧ r.1 ≤ 127 ∧ 0 ≤ r.2 ∧ r.2 ≤ 128
theorem fine_up (s : List (Nat × Nat)) (h : Fine s) : ∀ r ∈ up s, 0 ≤ r.1 ∧ r.1 ≤ 127 ∧ 0 ≤ r.2 ∧ r.2 ≤ 128 := by
  intro r hr
  unfold Proofs.Ytabbkgbgldgfeaa.up at hr
  rw [List.mem_map] at hr
  obtain ⟨x, hx, rfl⟩ := hr
  have := h x hx
  simp only; omega
theorem goodL.fine {l : Lab} {tr : Int} (h : goodL l tr) : fineL l := by
  obtain ⟨_, h | ⟨_, h1, h2, h3, h4, h5, h6, h7⟩⟩ := h
  · rw [eqL_iff] at h; subst h
    refine ⟨by decide, by decide, by decide, by decide, by decide, by decide, by decide, fun r hr => by cases hr⟩
  · refine ⟨by omega, h2, h3, h4, h5, h6, h7.2.1, ?_⟩
    rw [← h7.2.2.1]
    exact fine_up _ (fine_canon _ (seqI_lt _))
theorem fineL.size {l : Lab} (h : fineL l) : (bodyL l).size ≤ 1024 := by
  have := bodyL_size l
  obtain ⟨_, _, _, _, h5, h6, h7, _⟩ := h
  omega
theorem goodL.size {l : Lab} {tr : Int} (h : goodL l tr) : (encL l tr).size = 1024 := by
  unfold encL; rw [if_pos h]; exact padS_size _ _ h.fine.size

abbrev St := ByteArray × Nat
def cntR (m : Nat) (st : St) : Nat × St :=
  if st.2 = 0 then (match dec st.1.data.toList 0 0 with
    | none => (0, ⟨#[]⟩, 11)
    | some (n, c) => if m < n then (0, ⟨#[]⟩, 8) else (n, st.1.extract c st.1.size, 0))
  else (0, st)
def txtR (m : Nat) (st : St) : ByteArray × St :=
  if st.2 = 0 then (match dec st.1.data.toList 0 0 with
    | none => (⟨#[]⟩, ⟨#[]⟩, 11)
    | some (n, c) => if m < n then (⟨#[]⟩, ⟨#[]⟩, 8) else if st.1.size - c < n then (⟨#[]⟩, ⟨#[]⟩, 11)
      else ((st.1.extract c st.1.size).extract 0 n, (st.1.extract c st.1.size).extract n (st.1.size - c), 0))
  else (⟨#[]⟩, st)
def runsR (m : Nat) : Nat → St → List (Int × Int) × St
  | 0, st => ([], st)
  | k + 1, st => let r := runsR m k st; let a := cntR m r.2; let b := cntR 128 a.2; (r.1 ++ [((a.1 : Int), (b.1 : Int))], b.2)
theorem cntR_le (m : Nat) (st : St) : (cntR m st).1 ≤ m ∧ (cntR m st).2.1.size ≤ st.1.size := by
  unfold cntR
  split
  · split
    · exact ⟨Nat.zero_le _, Nat.zero_le _⟩
    · split
      · exact ⟨Nat.zero_le _, Nat.zero_le _⟩
      · exact ⟨by simp only; omega, by simp⟩
  · exact ⟨Nat.zero_le _, Nat.le_refl _⟩
theorem txtR_le (m : Nat) (st : St) : (txtR m st).1.size ≤ m ∧ (txtR m st).2.1.size ≤ st.1.size := by
  unfold txtR
  split
  · split
    · exact ⟨Nat.zero_le _, Nat.zero_le _⟩
    · split
      · exact ⟨Nat.zero_le _, Nat.zero_le _⟩
      · split
        · exact ⟨Nat.zero_le _, Nat.zero_le _⟩
        · constructor
          · simp; omega
          · simp; omega
  · exact ⟨Nat.zero_le _, Nat.le_refl _⟩
theorem runsR_le (m : Nat) (hm : m ≤ 128) (st : St) : ∀ k, (runsR m k st).1.length = k ∧ (runsR m k st).2.1.size ≤ st.1.size ∧ ∀ r ∈ (runsR m k st).1, 0 ≤ r.1 ∧ r.1 ≤ 128 ∧ 0 ≤ r.2 ∧ r.2 ≤ 128
  | 0 => ⟨rfl, Nat.le_refl _, fun r h => by cases h⟩
  | k + 1 => by
    obtain ⟨h1, h2, h3⟩ := runsR_le m hm st k
    have h4 := cntR_le m (runsR m k st).2
    have h5 := cntR_le 128 (cntR m (runsR m k st).2).2
    refine ⟨?_, ?_, ?_⟩
    · show ((runsR m k st).1 ++ [_]).length = _; simp [h1]
    · show (cntR 128 (cntR m (runsR m k st).2).2).2.1.size ≤ _; omega
    · show ∀ r ∈ (runsR m k st).1 ++ [_], _
      intro r hr
      rw [List.mem_append, List.mem_singleton] at hr
      rcases hr with hr | rfl
      · exact h3 r hr
      · simp only; omega
/-- the reading of a slot, with the greatest number that begins a run -/
def rdA (st : St) := cntR big40 st
def readL (m : Nat) (s : ByteArray) : Lab × St :=
  let a := cntR big40 (s, 0)
  let b := cntR big40 a.2
  let c := txtR 31 b.2
  let d := txtR 400 c.2
  let n := cntR 16 d.2
  let r := runsR m n.1 n.2
  (⟨a.1, b.1, c.1, d.1, r.1⟩, r.2)
theorem cntR_enc (m n : Nat) (hn : n ≤ m) (h64 : n < 18446744073709551616) (R : ByteArray) : cntR m (encS n ++ R, 0) = (n, R, 0) := by
  obtain ⟨h1, h2, h3⟩ := dec_app n h64 (encS n ++ R) R rfl
  unfold cntR
  rw [if_pos rfl]
  simp only
  rw [h1]
  simp only
  rw [if_neg (by omega), h3]
theorem txtR_enc (m : Nat) (t : ByteArray) (hn : t.size ≤ m) (h64 : m < 1000) (R : ByteArray) : txtR m ((encS t.size ++ t) ++ R, 0) = (t, R, 0) := by
  obtain ⟨h1, h2, h3⟩ := dec_app t.size (by omega) ((encS t.size ++ t) ++ R) (t ++ R) (by rw [ByteArray.append_assoc])
  have hz : ((encS t.size ++ t) ++ R).size - (encS t.size).size = (t ++ R).size := by rw [ByteArray.append_assoc, ByteArray.size_append]; omega
  unfold txtR
  rw [if_pos rfl]
  simp only
  rw [h1]
  simp only
  rw [if_neg (by omega), h3, hz, if_neg (by rw [ByteArray.size_append]; omega)]
  rw [ByteArray.extract_append_eq_left rfl, ByteArray.extract_append_eq_right rfl (by rw [ByteArray.size_append])]
theorem runsR_enc (m : Nat) (hm : 127 ≤ m) (hm2 : m ≤ 128) (l : List (Int × Int)) (hl : ∀ r ∈ l, 0 ≤ r.1 ∧ r.1 ≤ 127 ∧ 0 ≤ r.2 ∧ r.2 ≤ 128) (R : ByteArray) :
    ∀ k, k ≤ l.length → runsR m k (encR l ++ R, 0) = (l.take k, (encR (l.drop k) ++ R, 0))
  | 0, _ => rfl
  | k + 1, hk => by
    have ih := runsR_enc m hm hm2 l hl R k (by omega)
    have hr := hl l[k] (List.getElem_mem (by omega))
    have e : l.drop k = l[k] :: l.drop (k + 1) := List.drop_eq_getElem_cons (by omega)
    show (let r := runsR m k (encR l ++ R, 0); let a := cntR m r.2; let b := cntR 128 a.2; (r.1 ++ [((a.1 : Int), (b.1 : Int))], b.2)) = _
    rw [ih, e]
    have e2 : encR (l[k] :: l.drop (k + 1)) ++ R = encS l[k].1.toNat ++ (encS l[k].2.toNat ++ (encR (l.drop (k + 1)) ++ R)) := by
      show (_ ++ _ ++ encR (l.drop (k + 1))) ++ R = _
      rw [ByteArray.append_assoc, ByteArray.append_assoc]
    simp only
    rw [e2, cntR_enc m _ (by omega) (by omega)]
    simp only
    rw [cntR_enc 128 _ (by omega) (by omega)]
    simp only
    rw [List.take_succ_eq_append_getElem (by omega)]
    have e3 : (((l[k].1.toNat : Nat) : Int), ((l[k].2.toNat : Nat) : Int)) = l[k] := Prod.ext (by simp only; omega) (by simp only; omega)
    rw [e3]
theorem readL_enc (m : Nat) (hm : 127 ≤ m) (hm2 : m ≤ 128) (l : Lab) (h : fineL l) (R : ByteArray) : readL m (bodyL l ++ R) = (l, (R, 0)) := by
  obtain ⟨h1, h2, h3, h4, h5, h6, h7, h8⟩ := h
  have hb : big40 < 18446744073709551616 := by decide
  have e : bodyL l ++ R = encS l.id.toNat ++ (encS l.unit.toNat ++ ((encS l.name.size ++ l.name) ++ ((encS l.note.size ++ l.note) ++ (encS l.ext.length ++ (encR l.ext ++ R))))) := by
    unfold bodyL headL
    simp only [ByteArray.append_assoc]
  unfold readL
  rw [e, cntR_enc big40 _ (by omega) (by omega)]
  simp only
  rw [cntR_enc big40 _ (by omega) (by omega)]
  simp only
  rw [txtR_enc 31 _ h5 (by omega)]
  simp only
  rw [txtR_enc 400 _ h6 (by omega)]
  simp only
  rw [cntR_enc 16 _ h7 (by omega)]
  simp only
  rw [runsR_enc m hm hm2 l.ext h8 R _ (Nat.le_refl _)]
  simp only [List.take_length, List.drop_length]
  have e1 : ((l.id.toNat : Nat) : Int) = l.id := by omega
  have e2 : ((l.unit.toNat : Nat) : Int) = l.unit := by omega
  rw [e1, e2]
  show _ = (l, (R, 0))
  rw [show encR [] ++ R = R from empty_append' R]
theorem readL_pad (m : Nat) (hm : 127 ≤ m) (hm2 : m ≤ 128) (l : Lab) (h : fineL l) : ∃ R, readL m (padS (bodyL l) 1024) = (l, (R, 0)) := ⟨_, readL_enc m hm hm2 l h _⟩
/-- what is accepted -/
def decOk (s : ByteArray) (tr : Int) : Prop := goodL (readL 128 s).1 tr ∧ padS (bodyL (readL 128 s).1) 1024 = s
instance (s : ByteArray) (tr : Int) : Decidable (decOk s tr) := inferInstanceAs (Decidable (_ ∧ _))
theorem decOk_iff (s : ByteArray) (tr : Int) (l : Lab) : (decOk s tr ∧ (readL 128 s).1 = l) ↔ (goodL l tr ∧ encL l tr = s) := by
  constructor
  · rintro ⟨⟨h1, h2⟩, rfl⟩
    exact ⟨h1, by unfold encL; rw [if_pos h1]; exact h2⟩
  · rintro ⟨h1, h2⟩
    unfold encL at h2
    rw [if_pos h1] at h2
    obtain ⟨R, hR⟩ := readL_pad 128 (by omega) (by omega) l h1.fine
    rw [h2] at hR
    unfold decOk
    rw [hR]
    exact ⟨⟨h1, h2⟩, rfl⟩
theorem encL_ne (l : Lab) (tr : Int) : encL l tr ≠ ⟨#[]⟩ ↔ goodL l tr := by
  constructor
  · intro h; by_cases g : goodL l tr
    · exact g
    · exact absurd (by unfold encL; rw [if_neg g]) h
  · intro g e
    have := g.size
    rw [e] at this
    simp [ByteArray.size] at this
theorem ref_dec (s : ByteArray) (tr : Int) : ((readL 127 s).2.2 = 0 ∧ goodL (readL 127 s).1 tr ∧ encL (readL 127 s).1 tr = s) ↔ decOk s tr := by
  constructor
  · rintro ⟨_, h2, h3⟩
    exact ((decOk_iff s tr _).2 ⟨h2, h3⟩).1
  · intro h
    obtain ⟨h1, h2⟩ := (decOk_iff s tr _).1 ⟨h, rfl⟩
    have h3 := h2
    unfold encL at h3
    rw [if_pos h1] at h3
    obtain ⟨R, hR⟩ := readL_pad 127 (by omega) (by omega) _ h1.fine
    rw [h3] at hR
    rw [hR]
    exact ⟨rfl, h1, h2⟩
theorem ref_dec_l (s : ByteArray) (tr : Int) (h : decOk s tr) : (readL 127 s).1 = (readL 128 s).1 := by
  obtain ⟨h1, h2⟩ := (decOk_iff s tr _).1 ⟨h, rfl⟩
  unfold encL at h2
  rw [if_pos h1] at h2
  obtain ⟨R, hR⟩ := readL_pad 127 (by omega) (by omega) _ h1.fine
  rw [h2] at hR
  rw [hR]
theorem encL_inj (l k : Lab) (tr : Int) (h : goodL l tr) (e : encL l tr = encL k tr) : l = k := by
  have hk : goodL k tr := (encL_ne k tr).1 (e ▸ (encL_ne l tr).2 h)
  have h1 := ((decOk_iff (encL l tr) tr l).2 ⟨h, rfl⟩).2
  have h2 := ((decOk_iff (encL l tr) tr k).2 ⟨hk, e.symm⟩).2
  rw [← h1, h2]
end Go.Proofs.Ytabbkgbgldgfeaa
