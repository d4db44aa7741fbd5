import Derived.Below
/-! What a device is, as mathematics: stable and earlier contents of sectors, pending writes, fences, failure. -/
namespace Go.Proofs.Ytfcaodaaklngmaa

/-- a pending write -/
structure PW where
  sys : Int
  sec : Nat
  dat : ByteArray
/-- a sector: its stable content, and its earlier ones -/
structure Sec where
  st : ByteArray
  er : List ByteArray
structure DS where
  n : Nat
  sec : Nat → Sec
  pend : List PW
  fen : Nat → Int
  failed : Bool
  waits : Bool
  left : Int
  surv : List Int

def clampN (n : Int) : Nat := (min (max n 0) 140).toNat
theorem clampN_le (n : Int) : clampN n ≤ 140 := by unfold clampN; omega
/-- a write that ends with n bytes -/
def joinN (a b : ByteArray) (n : Nat) : ByteArray := a.extract 0 n ++ b.extract n b.size
theorem joinN_size (a b : ByteArray) (n : Nat) (ha : a.size = 140) (hb : b.size = 140) (hn : n ≤ 140) : (joinN a b n).size = 140 := by
  unfold joinN; rw [ByteArray.size_append, ByteArray.size_extract, ByteArray.size_extract]; omega
theorem joinN_full (a b : ByteArray) (ha : a.size = 140) (hb : b.size = 140) : joinN a b 140 = a := by
  apply ByteArray.ext
  apply Array.toList_inj.1
  unfold joinN
  rw [ByteArray.data_append, ByteArray.data_extract, ByteArray.data_extract, Array.toList_append, Array.toList_extract, Array.toList_extract]
  have h1 : a.data.toList.length = 140 := ha
  have h2 : b.data.toList.length = 140 := hb
  rw [List.extract_eq_take_drop, List.extract_eq_take_drop, List.drop_of_length_le (l := b.data.toList) (by omega), List.take_nil, List.append_nil, List.drop_zero, List.take_of_length_le (by omega)]
/-- the sector in which the stable content has changed -/
def Sec.change (s : Sec) (c : ByteArray) : Sec := if c = s.st then s else ⟨c, (s.st :: s.er).take 8⟩
def Sec.take (s : Sec) (d : ByteArray) (n : Int) : Sec := s.change (joinN d s.st (clampN n))
def upS (f : Nat → Sec) (i : Nat) (s : Sec) : Nat → Sec := fun j => if j = i then s else f j
/-- one pending write in the course of an end -/
def endStep (sel : PW → Bool) (sv : Nat → Int) (a : Nat × (Nat → Sec)) (p : PW) : Nat × (Nat → Sec) :=
  if sel p then (a.1 + 1, upS a.2 p.sec ((a.2 p.sec).take p.dat (sv a.1))) else a
def endAll (sel : PW → Bool) (sv : Nat → Int) (l : List PW) (f : Nat → Sec) : Nat × (Nat → Sec) := l.foldl (endStep sel sv) (0, f)
theorem endAll_snoc (sel : PW → Bool) (sv : Nat → Int) (l : List PW) (p : PW) (f : Nat → Sec) : endAll sel sv (l ++ [p]) f = endStep sel sv (endAll sel sv l f) p := by
  unfold endAll; rw [List.foldl_append]; rfl
/-- the device in which the chosen pending writes have ended -/
def DS.done (D : DS) (sel : PW → Bool) (sv : Nat → Int) : DS := { D with sec := (endAll sel sv D.pend D.sec).2, pend := D.pend.filter (fun p => !sel p) }
def svOf (l : List Int) : Nat → Int := fun i => l.getD i 0
def DS.has (D : DS) (s : Int) : Prop := 0 ≤ s ∧ s < D.n
/-- the content of a sector -/
def lastOf (l : List PW) (s : Nat) : Option ByteArray := (l.reverse.find? (fun p => p.sec == s)).map PW.dat
def DS.content (D : DS) (s : Nat) : ByteArray := (lastOf D.pend s).getD (D.sec s).st
def DS.count (D : DS) (s : Int) : Nat := (D.pend.filter (fun p => decide (p.sys = s))).length

/-- what holds of every device -/
structure DS.Ok (D : DS) : Prop where
  pos : 1 ≤ D.n
  most : D.n ≤ 1155
  st : ∀ i, i < D.n → (D.sec i).st.size = 140
  er : ∀ i, i < D.n → (D.sec i).er.length ≤ 8
  ers : ∀ i, i < D.n → ∀ s ∈ (D.sec i).er, s.size = 140
  pend : ∀ p ∈ D.pend, 1 ≤ p.sys ∧ p.sys ≤ 4 ∧ p.sec < D.n ∧ p.dat.size = 140
  fen : ∀ i, -1 ≤ D.fen i ∧ D.fen i ≤ 9223372036854775807
  left : -9223372036854775808 ≤ D.left ∧ D.left ≤ 9223372036854775807
  surv : ∀ x ∈ D.surv, -9223372036854775808 ≤ x ∧ x ≤ 9223372036854775807
  off : D.failed = true → D.waits = false

def validW (s e : Int) : Prop := 1 ≤ s ∧ s ≤ 4 ∧ 0 ≤ e ∧ e ≤ 1099511627776
/-- what admitting a write or a sync does -/
def DS.admit (D : DS) (s e : Int) : Int × DS :=
  if D.failed then (10, D)
  else if e ≤ D.fen (s - 1).toNat then (13, D)
  else if D.waits && decide (D.left ≤ 0) then (10, { (D.done (fun _ => true) (svOf D.surv)) with failed := true, waits := false, left := 0, surv := [] })
  else if D.waits then (0, { D with left := D.left - 1 })
  else (0, D)
open Classical in
noncomputable def DS.write (D : DS) (s e : Int) (i : Int) (d : ByteArray) : Int × DS :=
  if ¬ (validW s e ∧ d.size = 140) then (1, D)
  else if ¬ D.has i then (2, D)
  else match D.admit s e with
    | (0, D') => (0, { D' with pend := D'.pend ++ [⟨s, i.toNat, d⟩] })
    | (x, D') => (x, D')
open Classical in
noncomputable def DS.sync (D : DS) (s e : Int) : Int × DS :=
  if ¬ validW s e then (1, D)
  else match D.admit s e with
    | (0, D') => (0, D'.done (fun p => decide (p.sys = s)) (fun _ => 140))
    | (x, D') => (x, D')
def DS.crash (D : DS) (s : Int) (l : List Int) : DS := D.done (fun p => decide (p.sys = s)) (svOf l)
def DS.fence (D : DS) (s e : Int) : DS := if 1 ≤ s ∧ s ≤ 4 then { D with fen := fun j => if j = (s - 1).toNat then max (D.fen j) e else D.fen j } else D
def DS.failAfter (D : DS) (n : Int) (l : List Int) : DS := if D.failed then D else { D with waits := true, left := n, surv := l }
def DS.repair (D : DS) : DS := { D with failed := false, waits := false, left := 0, surv := [] }
end Go.Proofs.Ytfcaodaaklngmaa
