import Derived.Test.YtklbckonlbpbgabFixT7
/-! Blocks of records with lengths of their own, as plain mathematics. -/
namespace Go.Proofs.Ytklbckonlbpbgab

/-- a descriptor word -/
def word (n : Nat) : ByteArray := ⟨#[UInt8.ofNat (n / 256), UInt8.ofNat (n % 256), 0, 0]⟩
theorem word_size (n : Nat) : (word n).size = 4 := rfl
theorem word_inj {m n : Nat} (hm : m ≤ 65535) (hn : n ≤ 65535) (h : word m = word n) : m = n := by
  have h1 : UInt8.ofNat (m / 256) = UInt8.ofNat (n / 256) := by
    have := congrArg (fun x : ByteArray => x.data[0]!) h; simpa [word] using this
  have h2 : UInt8.ofNat (m % 256) = UInt8.ofNat (n % 256) := by
    have := congrArg (fun x : ByteArray => x.data[1]!) h; simpa [word] using this
  have e1 := congrArg UInt8.toNat h1
  have e2 := congrArg UInt8.toNat h2
  simp at e1 e2
  omega
/-- bytes behind the word of their number and its own -/
def vform (s : ByteArray) : ByteArray := word (4 + s.size) ++ s
theorem vform_size (s : ByteArray) : (vform s).size = 4 + s.size := by unfold vform; rw [ByteArray.size_append, word_size]
def vbody (l : List ByteArray) : ByteArray := cat (l.map vform)
def vblock (l : List ByteArray) : ByteArray := vform (vbody l)
theorem vbody_nil : vbody [] = ⟨#[]⟩ := rfl
theorem vbody_snoc (l : List ByteArray) (r : ByteArray) : vbody (l ++ [r]) = vbody l ++ vform r := by unfold vbody; rw [List.map_append, List.map_cons, List.map_nil, cat_snoc]
theorem vbody_cons (r : ByteArray) (l : List ByteArray) : vbody (r :: l) = vform r ++ vbody l := by
  unfold vbody
  rw [List.map_cons]
  rw [show vform r :: l.map vform = [vform r] ++ l.map vform from rfl, cat_append, cat_one]
theorem vbody_one (r : ByteArray) : vbody [r] = vform r := by unfold vbody; exact cat_one _
theorem vblock_size (l : List ByteArray) : (vblock l).size = 4 + (vbody l).size := vform_size _
theorem vbody_snoc_size (l : List ByteArray) (r : ByteArray) : (vbody (l ++ [r])).size = (vbody l).size + 4 + r.size := by rw [vbody_snoc, ByteArray.size_append, vform_size]; omega
theorem vbody_cons_size (r : ByteArray) (l : List ByteArray) : (vbody (r :: l)).size = 4 + r.size + (vbody l).size := by rw [vbody_cons, ByteArray.size_append, vform_size]
theorem vbody_pos {l : List ByteArray} (h : l ≠ []) : 4 ≤ (vbody l).size := by
  cases l with
  | nil => exact absurd rfl h
  | cons a l => rw [vbody_cons_size]; omega
theorem vbody_len (l : List ByteArray) : 4 * l.length ≤ (vbody l).size := by
  induction l with
  | nil => simp
  | cons a l ih => rw [vbody_cons_size, List.length_cons]; omega

/-! cutting -/
theorem extract_app_left (a b : ByteArray) : (a ++ b).extract 0 a.size = a := by
  apply ByteArray.ext
  apply Array.toList_inj.1
  simp [ByteArray.data_append, ByteArray.data_extract]
  exact List.take_of_length_le (Nat.le_refl _)
theorem extract_app_right (a b : ByteArray) : (a ++ b).extract a.size (a ++ b).size = b := by
  apply ByteArray.ext
  apply Array.toList_inj.1
  simp [ByteArray.data_append, ByteArray.data_extract]
  rw [show List.drop a.size a.data.toList = [] from List.drop_of_length_le (Nat.le_refl a.data.toList.length), List.take_nil, List.nil_append]
  exact List.take_of_length_le (Nat.le_refl _)
theorem extract_app3 (a b c : ByteArray) : (a ++ b ++ c).extract a.size (a.size + b.size) = b := by
  apply ByteArray.ext
  apply Array.toList_inj.1
  simp [ByteArray.data_append, ByteArray.data_extract]
  rw [show List.drop a.size a.data.toList = [] from List.drop_of_length_le (Nat.le_refl a.data.toList.length), List.take_nil, List.nil_append]
  exact List.take_of_length_le (Nat.le_refl _)
theorem vform_word (r y : ByteArray) : (vform r ++ y).extract 0 4 = word (4 + r.size) := by
  unfold vform
  rw [ByteArray.append_assoc]
  exact extract_app_left (word (4 + r.size)) _
theorem vform_bytes (r y : ByteArray) : (vform r ++ y).extract 4 (4 + r.size) = r := by
  unfold vform
  exact extract_app3 (word (4 + r.size)) r y
theorem vform_rest (r y : ByteArray) : (vform r ++ y).extract (4 + r.size) (vform r ++ y).size = y := by
  rw [← vform_size r]
  exact extract_app_right _ _
theorem vform_all (r y : ByteArray) : (vform r ++ y).size = 4 + r.size + y.size := by rw [ByteArray.size_append, vform_size]
theorem split_at (s : ByteArray) (m n : Nat) (h1 : m ≤ n) (h2 : n ≤ s.size) : s = s.extract 0 m ++ s.extract m n ++ s.extract n s.size := by
  rw [ByteArray.extract_append_extract, show min 0 m = 0 by omega, show max m n = n by omega, ByteArray.extract_append_extract, show min 0 n = 0 by omega, show max n s.size = s.size by omega]
  apply ByteArray.ext
  simp
/-- what stands at the head of a text -/
theorem cut_cases (most : Nat) (s : ByteArray) : (∃ r y, s = vform r ++ y ∧ r.size ≤ most) ∨ (∀ n ≤ 65535, s.extract 0 (min s.size 4) ≠ word n) ∨ (∃ n ≤ 65535, s.extract 0 (min s.size 4) = word n ∧ 4 ≤ s.size ∧ (n < 4 ∨ s.size < n ∨ 4 + most < n)) := by
  by_cases h : ∃ n, n ≤ 65535 ∧ s.extract 0 (min s.size 4) = word n
  case neg => exact .inr (.inl fun n hn e => h ⟨n, hn, e⟩)
  case pos =>
    obtain ⟨n, hn, h⟩ := h
    have hs : 4 ≤ s.size := by
      have := congrArg ByteArray.size h
      rw [word_size, ByteArray.size_extract] at this; omega
    by_cases hc : n < 4 ∨ s.size < n ∨ 4 + most < n
    · exact .inr (.inr ⟨n, hn, h, hs, hc⟩)
    · left
      rw [Nat.min_eq_right hs] at h
      have e1 : (s.extract 4 n).size = n - 4 := by rw [ByteArray.size_extract]; omega
      refine ⟨s.extract 4 n, s.extract n s.size, ?_, by omega⟩
      unfold vform
      rw [e1, show 4 + (n - 4) = n by omega, ← h]
      exact split_at s 4 n (by omega) (by omega)
theorem vform_inj {r r' y y' : ByteArray} (h1 : r.size ≤ 65531) (h2 : r'.size ≤ 65531) (h : vform r ++ y = vform r' ++ y') : r = r' ∧ y = y' := by
  have e1 := vform_word r y
  rw [h, vform_word] at e1
  have e2 := word_inj (by omega) (by omega) e1
  have e3 : r'.size = r.size := by omega
  have e4 := vform_bytes r y
  rw [h, ← e3, vform_bytes] at e4
  have e5 := vform_rest r y
  rw [h, ← e3, vform_rest] at e5
  exact ⟨e4.symm, e5.symm⟩

/-- the lengths that fit -/
def vfits (L B : Int) : Prop := 1 ≤ L ∧ L ≤ 1000 ∧ L + 8 ≤ B ∧ B ≤ 1024
instance (L B : Int) : Decidable (vfits L B) := inferInstanceAs (Decidable (_ ∧ _ ∧ _ ∧ _))
theorem vfits.nat {L B : Int} (h : vfits L B) : ∃ l b : Nat, L = l ∧ B = b ∧ 1 ≤ l ∧ l ≤ 1000 ∧ l + 8 ≤ b ∧ b ≤ 1024 := by
  obtain ⟨h1, h2, h3, h4⟩ := h
  exact ⟨L.toNat, B.toNat, by omega, by omega, by omega, by omega, by omega, by omega⟩

/-- the block of records -/
def isV (L B : Nat) (l : List ByteArray) (d : ByteArray) : Prop := d = vblock l ∧ l ≠ [] ∧ (∀ x ∈ l, x.size ≤ L) ∧ d.size ≤ B
/-- the bytes of records -/
def isBody (L : Nat) (l : List ByteArray) (x : ByteArray) : Prop := x = vbody l ∧ ∀ y ∈ l, y.size ≤ L

/-! the blocks of records -/
def vstep (B : Nat) (s : List (List ByteArray) × List ByteArray) (r : ByteArray) : List (List ByteArray) × List ByteArray :=
  if B < 8 + (vbody s.2).size + r.size then (s.1 ++ [s.2], [r]) else (s.1, s.2 ++ [r])
def vsteps (B : Nat) (l : List ByteArray) : List (List ByteArray) × List ByteArray := l.foldl (vstep B) ([], [])
def vgroups (B : Nat) (l : List ByteArray) : List (List ByteArray) := (vsteps B l).1 ++ (if (vsteps B l).2 = [] then [] else [(vsteps B l).2])
def vblocks (B : Nat) (l : List ByteArray) : List ByteArray := (vgroups B l).map vblock
theorem vsteps_nil (B : Nat) : vsteps B [] = ([], []) := rfl
theorem vsteps_snoc (B : Nat) (l : List ByteArray) (r : ByteArray) : vsteps B (l ++ [r]) = vstep B (vsteps B l) r := by unfold vsteps; rw [List.foldl_append]; rfl
/-- what holds while records are packed -/
structure VInv (L B : Nat) (l : List ByteArray) (D : List (List ByteArray)) (t : List ByteArray) : Prop where
  flat : D.flatten ++ t = l
  ne : ∀ g ∈ D, g ≠ []
  tne : l ≠ [] → t ≠ []
  size : ∀ g ∈ D, (vbody g).size + 4 ≤ B
  tsize : (vbody t).size + 4 ≤ B
  next : ∀ i (h : i + 1 < D.length), ∀ x q, D[i + 1] = x :: q → B < 8 + (vbody D[i]).size + x.size
  tnext : ∀ (h : 0 < D.length), ∀ x q, t = x :: q → B < 8 + (vbody D[D.length - 1]).size + x.size
  count : D.length + t.length ≤ l.length
theorem VInv.start (L B : Nat) (h : 4 ≤ B) : VInv L B [] [] [] where
  flat := rfl
  ne := fun g hg => by cases hg
  tne := fun h => absurd rfl h
  size := fun g hg => by cases hg
  tsize := by rw [vbody_nil]; show 0 + 4 ≤ B; omega
  next := fun i h => by simp at h
  tnext := fun h => by simp at h
  count := Nat.le_refl _
theorem VInv.step {L B : Nat} {l : List ByteArray} {D : List (List ByteArray)} {t : List ByteArray} (h : VInv L B l D t) (r : ByteArray) (hr : r.size ≤ L) (hL : L + 8 ≤ B) :
    VInv L B (l ++ [r]) (vstep B (D, t) r).1 (vstep B (D, t) r).2 := by
  unfold vstep
  by_cases hc : B < 8 + (vbody t).size + r.size
  · have ht : t ≠ [] := fun e => by
      rw [e, vbody_nil] at hc
      have : (ByteArray.mk #[]).size = 0 := rfl
      omega
    rw [if_pos hc]
    refine ⟨by simp [← h.flat], ?_, fun _ => by simp, ?_, ?_, ?_, ?_, ?_⟩
    · intro g hg
      rcases List.mem_append.1 hg with hg | hg
      · exact h.ne g hg
      · rw [List.mem_singleton.1 hg]; exact ht
    · intro g hg
      rcases List.mem_append.1 hg with hg | hg
      · exact h.size g hg
      · rw [List.mem_singleton.1 hg]; exact h.tsize
    · show (vbody [r]).size + 4 ≤ B
      rw [vbody_one, vform_size]; omega
    · intro i hi x q e
      have hi : i + 1 < (D ++ [t]).length := hi
      have hi2 := hi
      have e : (D ++ [t])[i + 1] = x :: q := e
      simp only [List.length_append, List.length_singleton] at hi2
      show B < 8 + (vbody ((D ++ [t])[i]'(by omega))).size + x.size
      rw [List.getElem_append_left (by omega)]
      by_cases hlast : i + 1 < D.length
      · rw [List.getElem_append_left hlast] at e
        exact h.next i hlast x q e
      · have ei : i + 1 = D.length := by omega
        rw [List.getElem_append_right (by omega)] at e
        simp only [ei, Nat.sub_self, List.getElem_cons_zero] at e
        have := h.tnext (by omega) x q e
        have e2 : D.length - 1 = i := by omega
        simp only [e2] at this
        exact this
    · intro hD x q e
      simp only [List.cons.injEq] at e
      obtain ⟨rfl, _⟩ := e
      show B < 8 + (vbody ((D ++ [t])[(D ++ [t]).length - 1]'(by simp))).size + r.size
      rw [List.getElem_append_right (by simp)]
      simpa using hc
    · have := h.count
      have : 0 < t.length := List.length_pos_iff.2 ht
      simp only [List.length_append, List.length_singleton]; omega
  · rw [if_neg hc]
    refine ⟨by simp [← h.flat], h.ne, fun _ => by simp, h.size, ?_, h.next, ?_, ?_⟩
    · show (vbody (t ++ [r])).size + 4 ≤ B
      rw [vbody_snoc_size]; omega
    · intro hD x q e
      cases t with
      | nil =>
        have hl : l = [] := by
          rcases List.eq_nil_or_concat l with e | ⟨_, _, e⟩
          · exact e
          · exact absurd rfl (h.tne (by rw [e]; simp))
        have hz : D.flatten = [] := by have := h.flat; rw [hl] at this; simpa using this
        have hn := h.ne D[0] (List.getElem_mem hD)
        exact absurd (List.flatten_eq_nil_iff.1 hz _ (List.getElem_mem hD)) hn
      | cons a t =>
        simp only [List.cons_append, List.cons.injEq] at e
        obtain ⟨rfl, _⟩ := e
        exact h.tnext hD a t rfl
    · have := h.count
      simp only [List.length_append, List.length_singleton]; omega
theorem vsteps_inv (L B : Nat) (hL : L + 8 ≤ B) (l : List ByteArray) (h : ∀ x ∈ l, x.size ≤ L) : VInv L B l (vsteps B l).1 (vsteps B l).2 := by
  obtain ⟨n, hn⟩ : ∃ n, n = l.length := ⟨_, rfl⟩
  induction n generalizing l with
  | zero =>
    obtain rfl : l = [] := List.length_eq_zero_iff.1 hn.symm
    exact VInv.start L B (by omega)
  | succ n ih =>
    rcases List.eq_nil_or_concat l with e | ⟨k, r, e⟩
    · rw [e] at hn; simp at hn
    · rw [List.concat_eq_append] at e
      subst e
      simp only [List.length_append, List.length_singleton] at hn
      rw [vsteps_snoc]
      exact (ih k (fun x hx => h x (List.mem_append_left _ hx)) (by omega)).step r (h r (by simp)) hL
/-- records that are one block -/
theorem vsteps_one (B : Nat) (l t : List ByteArray) (h : (vbody (t ++ l)).size + 4 ≤ B) : l.foldl (vstep B) ([], t) = ([], t ++ l) := by
  induction l generalizing t with
  | nil => simp
  | cons a l ih =>
    have e : t ++ a :: l = (t ++ [a]) ++ l := by simp
    rw [e] at h ⊢
    have hle : ∀ (x y : List ByteArray), (vbody x).size ≤ (vbody (x ++ y)).size := fun x y => by
      unfold vbody; rw [List.map_append, cat_append, ByteArray.size_append]; omega
    have h2 := hle (t ++ [a]) l
    rw [vbody_snoc_size] at h2
    rw [List.foldl_cons, show vstep B ([], t) a = ([], t ++ [a]) by unfold vstep; rw [if_neg (by show ¬ B < 8 + (vbody t).size + a.size; omega)]]
    exact ih (t ++ [a]) h
theorem vblocks_one {L B : Nat} {l : List ByteArray} {d : ByteArray} (h : isV L B l d) : vblocks B l = [d] := by
  obtain ⟨e, hne, _, hs⟩ := h
  have h1 : vsteps B l = ([], l) := by
    exact vsteps_one B l [] (by rw [List.nil_append]; rw [e, vblock_size] at hs; omega)
  unfold vblocks vgroups
  rw [h1]
  simp [hne, e]
theorem vgroups_flat (L B : Nat) (hL : L + 8 ≤ B) (l : List ByteArray) (h : ∀ x ∈ l, x.size ≤ L) : (vgroups B l).flatten = l := by
  have hi := vsteps_inv L B hL l h
  unfold vgroups
  split
  · rename_i e
    have := hi.flat
    rw [e] at this
    simpa using this
  · simpa using hi.flat
end Go.Proofs.Ytklbckonlbpbgab
