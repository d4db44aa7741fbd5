import Derived.Test.YtimeebajpegknaaSpT
/-! The sorted free runs. -/
namespace Go.Proofs.Ytimeebajpegknaa
open Go.Lib Go.ChangeShapes Go.WideShapes Go.ChangeAt Go.RowKit
open Go.Shelf Go.Sort

def encR (x : Int × Int) : List Value := [.int .i64 x.1, .int .i64 x.2]
theorem compare_neg (x y : Int) : Lib.compareInt x y < 0 ↔ x < y := by
  unfold Lib.compareInt
  split
  · omega
  · split <;> omega
theorem compare_zero (x y : Int) : Lib.compareInt x y = 0 ↔ x = y := by
  unfold Lib.compareInt
  split
  · omega
  · split <;> omega
theorem ltUp (x y : Int × Int) : ltOf cfUp x y = decide (x.2 < y.2 ∨ x.2 = y.2 ∧ x.1 < y.1) := by
  unfold ltOf cfUp
  rw [decide_eq_decide]
  by_cases h : x.2 = y.2
  · rw [if_neg (by rw [Decidable.not_not, compare_zero]; exact h), compare_neg]; omega
  · rw [if_pos (by rw [Ne, compare_zero]; exact h), compare_neg]; omega
theorem ltDown (x y : Int × Int) : ltOf cfDown x y = decide (y.2 < x.2 ∨ x.2 = y.2 ∧ x.1 < y.1) := by
  unfold ltOf cfDown
  rw [decide_eq_decide]
  by_cases h : x.2 = y.2
  · rw [if_neg (by rw [Decidable.not_not, compare_zero]; exact h.symm), compare_neg]; omega
  · rw [if_pos (by rw [Ne, compare_zero]; exact fun e => h e.symm), compare_neg]; omega
theorem swoUp : SWO (ltOf cfUp) where
  irrefl x := by rw [ltUp]; simp
  trans x y z h1 h2 := by rw [ltUp] at *; simp at *; omega
  ntrans x y z h1 h2 := by rw [ltUp] at *; simp at *; omega
theorem swoDown : SWO (ltOf cfDown) where
  irrefl x := by rw [ltDown]; simp
  trans x y z h1 h2 := by rw [ltDown] at *; simp at *; omega
  ntrans x y z h1 h2 := by rw [ltDown] at *; simp at *; omega
theorem totUp (x y : Int × Int) (h1 : ltOf cfUp x y = false) (h2 : ltOf cfUp y x = false) : x = y := by
  rw [ltUp] at h1 h2; simp at h1 h2; apply Prod.ext <;> omega
theorem totDown (x y : Int × Int) (h1 : ltOf cfDown x y = false) (h2 : ltOf cfDown y x = false) : x = y := by
  rw [ltDown] at h1 h2; simp at h1 h2; apply Prod.ext <;> omega
def srtUp (l : List (Int × Int)) : List (Int × Int) := l.mergeSort fun x y => !(ltOf cfUp) y x
def srtDown (l : List (Int × Int)) : List (Int × Int) := l.mergeSort fun x y => !(ltOf cfDown) y x
theorem sort_other (w : World) (blk m : Nat) (dk : Array (Int × Int)) (os : Array Obj) (b o : Nat) (hb : b < w.heap.size) (hne : b ≠ blk) : (sortWorldK encR 2 w blk 0 m dk os).cell? ⟨b, o, none⟩ = w.cell? ⟨b, o, none⟩ ∧ b < (sortWorldK encR 2 w blk 0 m dk os).heap.size := by
  have hs : (putRowK encR 2 (Sort.ahead w m) blk 0 dk).heap.size = w.heap.size := by simp [putRowK, putRow, mapBlock, Sort.ahead]
  unfold sortWorldK
  constructor
  · have h1 : (grow (putRowK encR 2 (Sort.ahead w m) blk 0 dk) os).heap[b]? = (putRowK encR 2 (Sort.ahead w m) blk 0 dk).heap[b]? := by
      show (_ ++ os)[b]? = _
      rw [Array.getElem?_append_left (by rw [hs]; exact hb)]
    rw [World.cell?_of_block (w := putRowK encR 2 (Sort.ahead w m) blk 0 dk) h1, cell?_putRowK_other _ _ _ _ _ _ _ (by simpa using hne)]
    rfl
  · show b < (_ ++ os).size
    rw [Array.size_append, hs]; omega
theorem sort_below (w : World) (B blk m : Nat) (dk : Array (Int × Int)) (os : Array Obj) (hB : B ≤ blk) (hB2 : B ≤ w.heap.size) : Go.RowKit.Below B w (sortWorldK encR 2 w blk 0 m dk os) := by
  have hs : (putRowK encR 2 (Sort.ahead w m) blk 0 dk).heap.size = w.heap.size := by simp [putRowK, putRow, mapBlock, Sort.ahead]
  refine ⟨rfl, rfl, rfl, ?_, fun k hk => ?_⟩
  · show _ ≤ (_ ++ os).size
    rw [Array.size_append, hs]; omega
  · show (_ ++ os)[k]? = _
    rw [Array.getElem?_append_left (by rw [hs]; omega)]
    simp only [putRowK, putRow, mapBlock, Sort.ahead, Array.getElem?_modify]
    rw [if_neg (by omega)]
theorem flat_at (l : List (Int × Int)) (j : Nat) (hj : j < l.length * 2) : (runCells l)[j]? = some (encR l.toArray[j / 2]!)[j % 2]! := by
  have hk : j / 2 < l.length := by omega
  have hg := runCells_get l (j / 2) hk
  have e1 : l.toArray[j / 2]! = l[j / 2] := by simp [hk]
  rw [e1]
  rcases Nat.mod_two_eq_zero_or_one j with hm | hm
  · have e : j / 2 * 2 = j := by omega
    rw [e] at hg
    rw [hg.1, hm]; rfl
  · have e : j / 2 * 2 + 1 = j := by omega
    rw [e] at hg
    rw [hg.2, hm]; rfl
theorem own_holds {w : World} {g : Nat} {l : List (Int × Int)} {cur : List Value} (hr : Row w g 47 cur) (ht : cur.take (l.length * 2) = runCells l) : HoldsK encR 2 w g 0 l.toArray := by
  intro j hj
  rw [size_flatK, List.size_toArray] at hj
  have h1 := flat_at l j hj
  rw [← ht, List.getElem?_take, if_pos hj] at h1
  rw [get_flatK _ _ _ _ (by rw [List.size_toArray]; exact hj), Nat.zero_add]
  exact ⟨hr.cell h1, hr.frozen j⟩
theorem holds_runs {w : World} {g n cap : Nat} {l : List (Int × Int)} (hH : HoldsK encR 2 w g 0 l.toArray) (hg : g < w.heap.size) (hn : n = l.length) (h1 : l.length ≤ cap) (h2 : cap ≤ 9223372036854775807) (hb : Bd l) : RunsAt w (.slice (some ⟨g, 0, none⟩) n cap) l := by
  subst hn
  refine ⟨_, cap, rfl, h1, h2, hb, fun _ => ⟨g, 0, rfl, hg, fun i hi => ?_⟩⟩
  have a := HoldsK.cell hH (i := i) (c := 0) (by simpa using hi) (by omega)
  have b := HoldsK.cell hH (i := i) (c := 1) (by simpa using hi) (by omega)
  have e : l.toArray[i]! = l[i] := by simp [hi]
  rw [e] at a b
  exact ⟨a.1, b.1⟩
/-- a list of runs that only a reader wants, and the world -/
def ReadMade (w : World) (l : List (Int × Int)) (e : Ending) (w' : World) : Prop := ∃ v, e = .returned v ∧ RunsAt w' v l ∧ Go.RowKit.Below w.heap.size w w'
theorem perm_bd {l l' : List (Int × Int)} (h : l'.Perm l) (hb : Bd l) : Bd l' := fun r hr => hb r (h.mem_iff.1 hr)
end Go.Proofs.Ytimeebajpegknaa
