import Derived.Test.YtklbckonlbpbgabSpnT2
import Derived.Test.YtklbckonlbpbgabSpnM2
import Derived.Deep.LoopGhost
/-! A record is put behind blocks. -/
namespace Go.Proofs.Ytklbckonlbpbgab
open Go.Lib Go.ChangeShapes Go.WideShapes Go.ChangeAt Go.RowKit
set_option linter.unusedVariables false

/-- what is left behind a segment -/
def After (m : Nat) (left : ByteArray) (over : Bool) (todo : List Seg) : Prop := (over = true ∧ todo = []) ∨ (over = false ∧ todo = parts m m true left)
abbrev partsArgs (g : Nat) : Array Value := #[.pointer (some ⟨g + 3, 0, none⟩), .pointer (some ⟨g + 4, 0, none⟩), .pointer (some ⟨g + 2, 0, none⟩), .pointer (some ⟨g, 0, none⟩), .pointer (some ⟨g + 1, 0, none⟩)]
/-- what a call answers that gives a further segment of those that were meant -/
def NextPost (g : Nat) (room : Int) (m n : Nat) (ps : List Seg) (len : Nat) (w : World) (e : Ending) (w' : World) : Prop :=
  ∃ c todo left over, ps = c :: todo ∧ e = .returned (.tuple #[Seg.val c, .bool true]) ∧ PB w' g room m left true over ∧ After m left over todo ∧ c.data.size ≤ n ∧ left.size ≤ len ∧ Upds (PBown g) w w'
theorem next_some (g m : Nat) (hm : 1 ≤ m) (hm2 : m ≤ 1024) (room : Int) (r : ByteArray) (hr : r.size ≤ 100000) (w : World) (h : PB w g room m r true false) :
    Calls Try.prog 48 (partsArgs g) w (NextPost g room m m (parts m m true r) r.size w) := by
  rcases parts_cases m m hm hm true r with ⟨h1, h2⟩ | ⟨h1, h2⟩
  · refine (parts1_cMore g m room m r w h rfl h1 hr (by omega)).mono ?_
    rintro e w' ⟨a1, a2, a3⟩
    exact ⟨_, _, _, _, h2, a1, a2, .inr ⟨rfl, rfl⟩, by simp only [ByteArray.size_extract]; omega, by rw [ByteArray.size_extract]; omega, a3⟩
  · refine (parts1_cLast g m room m r w h rfl h1 hr (by omega)).mono ?_
    rintro e w' ⟨a1, a2, a3⟩
    exact ⟨_, _, _, _, h2, a1, a2, .inl ⟨rfl, rfl⟩, h1, by show 0 ≤ r.size; omega, a3⟩
theorem first_some (g B : Nat) (hB : 9 ≤ B) (hB2 : B ≤ 1024) (room : Nat) (hroom : room ≤ 1024) (r : ByteArray) (hr : r.size ≤ 100000) (w : World) (h : PB w g room ((B : Int) - 8) r false false) :
    Calls Try.prog 48 (partsArgs g) w (NextPost g room (B - 8) 1024 (parts (B - 8) (firstN B room) false r) r.size w) := by
  have e : ((B : Int) - 8) = ((B - 8 : Nat) : Int) := by omega
  rw [e] at h
  by_cases hc : 4 < room
  · have hn : firstN B room = room - 4 := by unfold firstN; rw [if_pos hc]
    rw [hn]
    rcases parts_cases (B - 8) (room - 4) (by omega) (by omega) false r with ⟨h1, h2⟩ | ⟨h1, h2⟩
    · refine (parts1_aMore g (room - 4) room (B - 8) r w h (by omega) (by omega) h1 hr (by omega)).mono ?_
      rintro e w' ⟨a1, a2, a3⟩
      exact ⟨_, _, _, _, h2, a1, a2, .inr ⟨rfl, rfl⟩, by simp only [ByteArray.size_extract]; omega, by rw [ByteArray.size_extract]; omega, a3⟩
    · refine (parts1_aLast g (room - 4) room (B - 8) r w h (by omega) (by omega) h1 hr (by omega)).mono ?_
      rintro e w' ⟨a1, a2, a3⟩
      exact ⟨_, _, _, _, h2, a1, a2, .inl ⟨rfl, rfl⟩, by show r.size ≤ 1024; omega, by show 0 ≤ r.size; omega, a3⟩
  · have hn : firstN B room = B - 8 := by unfold firstN; rw [if_neg hc]
    rw [hn]
    rcases parts_cases (B - 8) (B - 8) (by omega) (by omega) false r with ⟨h1, h2⟩ | ⟨h1, h2⟩
    · refine (parts1_bMore g (B - 8) room (B - 8) r w h (by omega) rfl h1 hr (by omega)).mono ?_
      rintro e w' ⟨a1, a2, a3⟩
      exact ⟨_, _, _, _, h2, a1, a2, .inr ⟨rfl, rfl⟩, by simp only [ByteArray.size_extract]; omega, by rw [ByteArray.size_extract]; omega, a3⟩
    · refine (parts1_bLast g (B - 8) room (B - 8) r w h (by omega) rfl h1 hr (by omega)).mono ?_
      rintro e w' ⟨a1, a2, a3⟩
      exact ⟨_, _, _, _, h2, a1, a2, .inl ⟨rfl, rfl⟩, by show r.size ≤ 1024; omega, by show 0 ≤ r.size; omega, a3⟩
end Go.Proofs.Ytklbckonlbpbgab
