import Derived.Test.YtimeebajpegknaaSpX
/-! Sorted lists are told by their elements and their order; the chapter's example. -/
namespace Go.Proofs.Ytimeebajpegknaa
open Go.Lib Go.ChangeShapes Go.WideShapes Go.ChangeAt Go.RowKit
open Go.Shelf Go.Sort

theorem srt_eq (lt : Int × Int → Int × Int → Bool) (hS : SWO lt) (hT : ∀ x y, lt x y = false → lt y x = false → x = y) (l l' : List (Int × Int)) (hp : l'.Perm l) (hs : l'.Pairwise (fun x y => lt y x = false)) : l.mergeSort (fun x y => !lt y x) = l' := by
  refine (List.Perm.eq_of_pairwise (le := fun x y => (!lt y x) = true) ?_ ?_ ?_ (hp.trans (List.mergeSort_perm _ _).symm)).symm
  · intro a b _ _ h1 h2
    simp only [Bool.not_eq_true'] at h1 h2
    exact hT a b h2 h1
  · exact hs.imp (fun h => by rw [h]; rfl)
  · refine List.pairwise_mergeSort ?_ ?_ _
    · intro a b c h1 h2
      simp only [Bool.not_eq_true'] at h1 h2 ⊢
      exact hS.ntrans c b a h2 h1
    · intro a b
      cases h : lt b a with
      | false => simp
      | true => simp [hS.asymmA h]
theorem srtUp_eq (l l' : List (Int × Int)) (hp : l'.Perm l) (hs : l'.Pairwise (fun x y => ltOf cfUp y x = false)) : srtUp l = l' := srt_eq _ swoUp totUp l l' hp hs
theorem srtDown_eq (l l' : List (Int × Int)) (hp : l'.Perm l) (hs : l'.Pairwise (fun x y => ltOf cfDown y x = false)) : srtDown l = l' := srt_eq _ swoDown totDown l l' hp hs
def ex3 : List (Int × Int) := [(10, 4), (20, 2), (30, 3)]
theorem ex3_norm : norm (inB ex3) = ex3 := by decide +kernel
theorem ex3_up : srtUp ex3 = [(20, 2), (30, 3), (10, 4)] := srtUp_eq _ _ (by decide +kernel) (by decide +kernel)
theorem ex3_down : srtDown ex3 = [(10, 4), (30, 3), (20, 2)] := srtDown_eq _ _ (by decide +kernel) (by decide +kernel)
theorem ex_best : BestAns ex3 3 = ((30, 3), true) := by unfold BestAns; rw [ex3_norm, ex3_up]; decide +kernel
theorem ex_best6 : BestAns ex3 6 = ((0, 0), false) := by unfold BestAns; rw [ex3_norm, ex3_up]; decide +kernel
theorem ex_alloc2 : AllocAns ex3 6 2 = ([(10, 4), (30, 2)], 0) := by unfold AllocAns; rw [ex_best6, ex3_norm, ex3_down]; decide +kernel
theorem ex_alloc1 : AllocAns ex3 6 1 = ([], 14) := by unfold AllocAns; rw [ex_best6, ex3_norm, ex3_down]; decide +kernel
def ex2 : List (Int × Int) := [(20, 2), (30, 3)]
theorem ex2_up : srtUp ex2 = [(20, 2), (30, 3)] := srtUp_eq _ _ (by decide +kernel) (by decide +kernel)
theorem ex2_alloc : AllocAns ex2 1 15 = ([(20, 1)], 0) := by
  have hb : BestAns ex2 1 = ((20, 1), true) := by
    unfold BestAns; rw [show norm (inB ex2) = ex2 from by decide +kernel, ex2_up]; decide +kernel
  unfold AllocAns; rw [hb]; decide +kernel
theorem ex_ext : ExtAns [(8, 2)] ex3 5 = ([(8, 6), (20, 1)], 0) := by
  have hn : nextOf [(8, 2)] ex3 5 = (10, 4) := by decide +kernel
  have hj : joinI (joinI [(8, 2)] ++ [((10 : Int), (4 : Int))]) = [(8, 6)] := by decide +kernel
  have hm : minusI ex3 [(8, 6)] = ex2 := by decide +kernel
  unfold ExtAns
  rw [hn, hj, hm]
  have ha : AllocAns ex2 (5 - ((10 : Int), (4 : Int)).2) (16 - (([(8, 6)] : List (Int × Int)).length : Int)) = ([(20, 1)], 0) := ex2_alloc
  rw [ha]
  decide +kernel
end Go.Proofs.Ytimeebajpegknaa
