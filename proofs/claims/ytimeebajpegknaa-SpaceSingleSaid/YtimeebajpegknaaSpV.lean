import Derived.Test.YtimeebajpegknaaSpU
/-! The sorted free runs. -/
namespace Go.Proofs.Ytimeebajpegknaa
open Go.Lib Go.ChangeShapes Go.WideShapes Go.ChangeAt Go.RowKit
open Go.Shelf Go.Sort

theorem sort_size (w : World) (blk m : Nat) (dk : Array (Int × Int)) (os : Array Obj) (b : Nat) (hb : b < w.heap.size) : b < (sortWorldK encR 2 w blk 0 m dk os).heap.size := by
  have hs : (putRowK encR 2 (Sort.ahead w m) blk 0 dk).heap.size = w.heap.size := by simp [putRowK, putRow, mapBlock, Sort.ahead]
  show b < (_ ++ os).size
  rw [Array.size_append, hs]; omega

set_option maxRecDepth 100000 in
set_option maxHeartbeats 1000000 in
theorem sortFunc_Up (ob fb blk cap : Nat) (d : Array (Int × Int)) (w : World) (hob : ob < w.heap.size) (hfb : fb < w.heap.size) (hne : ob ≠ blk) (hne2 : fb ≠ blk) (ho : w.cell? ⟨ob, 0, none⟩ = some (.slice (some ⟨fb, 0, none⟩) 2 2)) (h0 : w.cell? ⟨fb, 0, none⟩ = some (.func (.func 76) #[] #[])) (h1 : w.cell? ⟨fb, 1, none⟩ = some (.func (.func 77) #[] #[]))
    (hH : HoldsK encR 2 w blk 0 d) (hblk : blk < w.heap.size) (hsz : d.size < 4611686018427387904) :
    Calls Try.prog 81 #[.slice (some ⟨blk, 0, none⟩) d.size cap, .func (.func 82) #[] #[.pointer (some ⟨ob, 0, none⟩)]] w fun e w' =>
      e = .returned (.tuple #[]) ∧ ∃ n os, w' = sortWorldK encR 2 w blk 0 n (d.toList.mergeSort fun x y => !(ltOf cfUp) y x).toArray os := by
  have eg : ∀ args w, (callFunc 82 args).run Try.prog w = .ok (.enter 82 args) w := enters_of Try.func82 (by kernel_rfl) rfl
  have hcmp : CmpLays Try.prog 82 #[.pointer (some ⟨ob, 0, none⟩)] encR 2 cfUp blk 0 d.size w := by
    intro m os dk _ x y
    have a := sort_other w blk m dk os ob 0 hob hne
    have b := sort_other w blk m dk os fb 0 hfb hne2
    have c := sort_other w blk m dk os fb 1 hfb hne2
    exact closUp_any ob fb x y _ a.2 b.2 (a.1.trans ho) (b.1.trans h0) (c.1.trans h1)
  exact AnyQ.slices_SortFunc_total Try.sortRuns 2 Try.isAgg47 Try.sizeOf47 encR (fun _ => rfl) (fun x v hv => by simp [encR] at hv; rcases hv with rfl | rfl <;> rfl) cfUp swoUp 82 #[.pointer (some ⟨ob, 0, none⟩)] blk 0 cap d w eg hcmp hH hblk hsz totUp
set_option maxRecDepth 100000 in
set_option maxHeartbeats 1000000 in
theorem sortedUp_any (v : Value) (l : List (Int × Int)) (hl : l.length ≤ 4000) (fb : Nat) (w : World) (hs : RunsAt w v l) (hfb : fb < w.heap.size) (h0 : w.cell? ⟨fb, 0, none⟩ = some (.func (.func 76) #[] #[])) (h1 : w.cell? ⟨fb, 1, none⟩ = some (.func (.func 77) #[] #[])) :
    Calls Try.prog 75 #[v, .slice (some ⟨fb, 0, none⟩) 2 2] w (ReadMade w (srtUp (norm (inB l)))) := by
  have HS := hid hs
  have H0 := hid h0
  have H1 := hid h1
  clear hs h0 h1 
  have hmf : ∀ (fn : Fn) (first cap : Array Value) (w : World), (Instr.makeFunc fn first cap).run Try.prog w = .ok (.func fn first cap) w := fun _ _ _ _ => rfl
  go_enter Try.func75, Try.ntmps75
  go_wp2_with fail
  obtain ⟨ob, hob⟩ : ∃ ob, ob = w.heap.size := ⟨_, rfl⟩
  obtain ⟨w1, hw1⟩ : ∃ w1, w1 = w.alloc (.cells #[.slice (some ⟨fb, 0, none⟩) 2 2] 77) := ⟨_, rfl⟩
  have hrow : Row w1 ob 77 [.slice (some ⟨fb, 0, none⟩) 2 2] := by rw [hw1, hob]; exact Row.new w _ _
  have hb1 : Go.RowKit.Below w.heap.size w w1 := by rw [hw1]; exact (Go.RowKit.Below.refl _ _).alloc (Nat.le_refl _) _
  rw [← hw1, ← hob]
  have HR := hid hrow
  have HB1 := hid hb1
  have HOB := hid hob
  clear hrow hb1 hob hw1
  refine (normal_any v l hl w1 (HS.out.below HB1.out (Nat.le_refl _))).mono ?_
  rintro e w2 ⟨v1, rfl, a1, a2, a3⟩
  have HO := hid a1
  have HF := hid a2
  have HB2 := hid a3
  clear a1 a2 a3
  obtain ⟨N, hN⟩ : ∃ N, N = norm (inB l) := ⟨_, rfl⟩
  rw [← hN] at HO ⊢
  have hNl : N.length ≤ 4000 := by rw [hN]; exact norm_len _
  have hNb : Bd N := by rw [hN]; exact norm_bd _
  have HNL := hid hNl
  have HNN := hid hN
  have HNB := hid hNb
  clear hN hNl hNb
  rcases Nat.eq_zero_or_pos N.length with hz | hz
  · have e0 : N = [] := List.eq_nil_of_length_eq_zero hz
    subst e0
    obtain ⟨A1, cap1, rfl⟩ : ∃ A cap, v1 = .slice A 0 cap := HO.out.shape
    have hnone := AnyF.slices_SortFunc_none (P := Try.prog) { Try.sortRuns with } A1 cap1 (.func (.func 82) #[] #[.pointer (some ⟨ob, 0, none⟩)]) w2
    change Calls Try.prog 81 _ _ _ at hnone
    have HN := hid hnone
    have e1 : srtUp [] = [] := by simp [srtUp]
    have HE := hid e1
    clear hnone e1
    go_wp2_with (go_at_call 81; refine HN.out.mono ?_; rintro e w3 ⟨rfl, rfl⟩)
    go_ret
    exact ⟨_, rfl, by rw [← HNN.out, HE.out]; exact HO.out.at HNB.out, HB1.out.trans (HB2.out.mono HB1.out.size)⟩
  · obtain ⟨g, cap, cur, rfl, hrow, ht, hcl, hcap, hcap2⟩ := HO.out.row hz
    have hH := own_holds (g := g) hrow ht
    have hlo : w1.heap.size ≤ g := HF.out g ⟨_, _, _, rfl, by omega, rfl⟩
    have hobl : ob < w1.heap.size := HR.out.lt
    have hfb1 : fb < w1.heap.size := Nat.lt_of_lt_of_le hfb HB1.out.size
    have hfs := HB1.out.size
    have q0 := ((HB2.out.cell (p := ⟨ob, 0, none⟩) hobl).trans (HR.out.cell (i := 0) rfl))
    have q1 := (HB2.out.cell (p := ⟨fb, 0, none⟩) hfb1).trans ((HB1.out.cell (p := ⟨fb, 0, none⟩) hfb).trans H0.out)
    have q2 := (HB2.out.cell (p := ⟨fb, 1, none⟩) hfb1).trans ((HB1.out.cell (p := ⟨fb, 1, none⟩) hfb).trans H1.out)
    have hsz2 := HB2.out.size
    have hcon := sortFunc_Up ob fb g cap N.toArray w2 (by omega) (by omega) (by omega) (by omega) q0 q1 q2 hH hrow.lt (by rw [List.size_toArray]; have := HNL.out; omega)
    rw [List.size_toArray] at hcon
    have HC := hid hcon
    have HH := hid hH
    have HG := hid hrow.lt
    have HLO : Hid (w.heap.size ≤ g) := Nat.le_trans HB1.out.size hlo
    clear hcon hH hrow ht hlo hobl hfb1 hfs q0 q1 q2 hcl hsz2 
    go_wp2_with (go_at_call 81; refine HC.out.mono ?_; rintro e w3 ⟨rfl, n3, os3, rfl⟩)
    go_ret
    have hperm : (srtUp N).Perm N := List.mergeSort_perm _ _
    refine ⟨_, rfl, ?_, (HB1.out.trans (HB2.out.mono HB1.out.size)).trans (sort_below w2 w.heap.size g n3 _ os3 HLO.out (Nat.le_trans HB1.out.size HB2.out.size))⟩
    rw [← HNN.out]
    refine holds_runs (l := srtUp N) ?_ ?_ hperm.length_eq.symm (by rw [hperm.length_eq]; exact hcap) hcap2 (perm_bd hperm HNB.out)
    · exact holdsK_sortWorldK_c encR 2 w2 g 0 N.toArray (srtUp N).toArray n3 os3 HH.out HG.out (by rw [List.size_toArray, List.size_toArray]; exact hperm.length_eq)
    · exact sort_size w2 g n3 _ os3 g HG.out

set_option maxRecDepth 100000 in
set_option maxHeartbeats 1000000 in
theorem sortFunc_Down (ob fb rb blk cap : Nat) (d : Array (Int × Int)) (w : World) (hob : ob < w.heap.size) (hfb : fb < w.heap.size) (hrb : rb < w.heap.size) (hne3 : rb ≠ blk) (hrc : w.cell? ⟨rb, 0, none⟩ = some (.func (.func 76) #[] #[])) (hne : ob ≠ blk) (hne2 : fb ≠ blk) (ho : w.cell? ⟨ob, 0, none⟩ = some (.slice (some ⟨fb, 0, none⟩) 2 2)) (h0 : w.cell? ⟨fb, 0, none⟩ = some (.func (.func 84) #[] #[.pointer (some ⟨rb, 0, none⟩)])) (h1 : w.cell? ⟨fb, 1, none⟩ = some (.func (.func 77) #[] #[]))
    (hH : HoldsK encR 2 w blk 0 d) (hblk : blk < w.heap.size) (hsz : d.size < 4611686018427387904) :
    Calls Try.prog 81 #[.slice (some ⟨blk, 0, none⟩) d.size cap, .func (.func 82) #[] #[.pointer (some ⟨ob, 0, none⟩)]] w fun e w' =>
      e = .returned (.tuple #[]) ∧ ∃ n os, w' = sortWorldK encR 2 w blk 0 n (d.toList.mergeSort fun x y => !(ltOf cfDown) y x).toArray os := by
  have eg : ∀ args w, (callFunc 82 args).run Try.prog w = .ok (.enter 82 args) w := enters_of Try.func82 (by kernel_rfl) rfl
  have hcmp : CmpLays Try.prog 82 #[.pointer (some ⟨ob, 0, none⟩)] encR 2 cfDown blk 0 d.size w := by
    intro m os dk _ x y
    have a := sort_other w blk m dk os ob 0 hob hne
    have b := sort_other w blk m dk os fb 0 hfb hne2
    have c := sort_other w blk m dk os fb 1 hfb hne2
    have dd := sort_other w blk m dk os rb 0 hrb hne3
    exact closDown_any ob fb rb x y _ a.2 b.2 dd.2 (dd.1.trans hrc) (a.1.trans ho) (b.1.trans h0) (c.1.trans h1)
  exact AnyQ.slices_SortFunc_total Try.sortRuns 2 Try.isAgg47 Try.sizeOf47 encR (fun _ => rfl) (fun x v hv => by simp [encR] at hv; rcases hv with rfl | rfl <;> rfl) cfDown swoDown 82 #[.pointer (some ⟨ob, 0, none⟩)] blk 0 cap d w eg hcmp hH hblk hsz totDown
set_option maxRecDepth 100000 in
set_option maxHeartbeats 1000000 in
theorem sortedDown_any (v : Value) (l : List (Int × Int)) (hl : l.length ≤ 4000) (fb rb : Nat) (w : World) (hs : RunsAt w v l) (hfb : fb < w.heap.size) (hrb : rb < w.heap.size) (hrc : w.cell? ⟨rb, 0, none⟩ = some (.func (.func 76) #[] #[])) (h0 : w.cell? ⟨fb, 0, none⟩ = some (.func (.func 84) #[] #[.pointer (some ⟨rb, 0, none⟩)])) (h1 : w.cell? ⟨fb, 1, none⟩ = some (.func (.func 77) #[] #[])) :
    Calls Try.prog 75 #[v, .slice (some ⟨fb, 0, none⟩) 2 2] w (ReadMade w (srtDown (norm (inB l)))) := by
  have HS := hid hs
  have H0 := hid h0
  have H1 := hid h1
  have H3 := hid hrc
  clear hs h0 h1 hrc
  have hmf : ∀ (fn : Fn) (first cap : Array Value) (w : World), (Instr.makeFunc fn first cap).run Try.prog w = .ok (.func fn first cap) w := fun _ _ _ _ => rfl
  go_enter Try.func75, Try.ntmps75
  go_wp2_with fail
  obtain ⟨ob, hob⟩ : ∃ ob, ob = w.heap.size := ⟨_, rfl⟩
  obtain ⟨w1, hw1⟩ : ∃ w1, w1 = w.alloc (.cells #[.slice (some ⟨fb, 0, none⟩) 2 2] 77) := ⟨_, rfl⟩
  have hrow : Row w1 ob 77 [.slice (some ⟨fb, 0, none⟩) 2 2] := by rw [hw1, hob]; exact Row.new w _ _
  have hb1 : Go.RowKit.Below w.heap.size w w1 := by rw [hw1]; exact (Go.RowKit.Below.refl _ _).alloc (Nat.le_refl _) _
  rw [← hw1, ← hob]
  have HR := hid hrow
  have HB1 := hid hb1
  have HOB := hid hob
  clear hrow hb1 hob hw1
  refine (normal_any v l hl w1 (HS.out.below HB1.out (Nat.le_refl _))).mono ?_
  rintro e w2 ⟨v1, rfl, a1, a2, a3⟩
  have HO := hid a1
  have HF := hid a2
  have HB2 := hid a3
  clear a1 a2 a3
  obtain ⟨N, hN⟩ : ∃ N, N = norm (inB l) := ⟨_, rfl⟩
  rw [← hN] at HO ⊢
  have hNl : N.length ≤ 4000 := by rw [hN]; exact norm_len _
  have hNb : Bd N := by rw [hN]; exact norm_bd _
  have HNL := hid hNl
  have HNN := hid hN
  have HNB := hid hNb
  clear hN hNl hNb
  rcases Nat.eq_zero_or_pos N.length with hz | hz
  · have e0 : N = [] := List.eq_nil_of_length_eq_zero hz
    subst e0
    obtain ⟨A1, cap1, rfl⟩ : ∃ A cap, v1 = .slice A 0 cap := HO.out.shape
    have hnone := AnyF.slices_SortFunc_none (P := Try.prog) { Try.sortRuns with } A1 cap1 (.func (.func 82) #[] #[.pointer (some ⟨ob, 0, none⟩)]) w2
    change Calls Try.prog 81 _ _ _ at hnone
    have HN := hid hnone
    have e1 : srtDown [] = [] := by simp [srtDown]
    have HE := hid e1
    clear hnone e1
    go_wp2_with (go_at_call 81; refine HN.out.mono ?_; rintro e w3 ⟨rfl, rfl⟩)
    go_ret
    exact ⟨_, rfl, by rw [← HNN.out, HE.out]; exact HO.out.at HNB.out, HB1.out.trans (HB2.out.mono HB1.out.size)⟩
  · obtain ⟨g, cap, cur, rfl, hrow, ht, hcl, hcap, hcap2⟩ := HO.out.row hz
    have hH := own_holds (g := g) hrow ht
    have hlo : w1.heap.size ≤ g := HF.out g ⟨_, _, _, rfl, by omega, rfl⟩
    have hobl : ob < w1.heap.size := HR.out.lt
    have hfb1 : fb < w1.heap.size := Nat.lt_of_lt_of_le hfb HB1.out.size
    have hfs := HB1.out.size
    have q0 := ((HB2.out.cell (p := ⟨ob, 0, none⟩) hobl).trans (HR.out.cell (i := 0) rfl))
    have q1 := (HB2.out.cell (p := ⟨fb, 0, none⟩) hfb1).trans ((HB1.out.cell (p := ⟨fb, 0, none⟩) hfb).trans H0.out)
    have q2 := (HB2.out.cell (p := ⟨fb, 1, none⟩) hfb1).trans ((HB1.out.cell (p := ⟨fb, 1, none⟩) hfb).trans H1.out)
    have hsz2 := HB2.out.size
    have q3 := (HB2.out.cell (p := ⟨rb, 0, none⟩) (Nat.lt_of_lt_of_le hrb HB1.out.size)).trans ((HB1.out.cell (p := ⟨rb, 0, none⟩) hrb).trans H3.out)
    have hcon := sortFunc_Down ob fb rb g cap N.toArray w2 (by omega) (by omega) (by omega) (by omega) q3 (by omega) (by omega) q0 q1 q2 hH hrow.lt (by rw [List.size_toArray]; have := HNL.out; omega)
    rw [List.size_toArray] at hcon
    have HC := hid hcon
    have HH := hid hH
    have HG := hid hrow.lt
    have HLO : Hid (w.heap.size ≤ g) := Nat.le_trans HB1.out.size hlo
    clear hcon hH hrow ht hlo hobl hfb1 hfs q0 q1 q2 hcl hsz2 q3
    go_wp2_with (go_at_call 81; refine HC.out.mono ?_; rintro e w3 ⟨rfl, n3, os3, rfl⟩)
    go_ret
    have hperm : (srtDown N).Perm N := List.mergeSort_perm _ _
    refine ⟨_, rfl, ?_, (HB1.out.trans (HB2.out.mono HB1.out.size)).trans (sort_below w2 w.heap.size g n3 _ os3 HLO.out (Nat.le_trans HB1.out.size HB2.out.size))⟩
    rw [← HNN.out]
    refine holds_runs (l := srtDown N) ?_ ?_ hperm.length_eq.symm (by rw [hperm.length_eq]; exact hcap) hcap2 (perm_bd hperm HNB.out)
    · exact holdsK_sortWorldK_c encR 2 w2 g 0 N.toArray (srtDown N).toArray n3 os3 HH.out HG.out (by rw [List.size_toArray, List.size_toArray]; exact hperm.length_eq)
    · exact sort_size w2 g n3 _ os3 g HG.out
end Go.Proofs.Ytimeebajpegknaa
