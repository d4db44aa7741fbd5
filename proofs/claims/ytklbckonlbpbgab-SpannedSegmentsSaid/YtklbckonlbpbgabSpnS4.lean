import Derived.Test.YtklbckonlbpbgabSpnS3
/-! Segments as the reference's; the reference's comparison. -/
namespace Go.Proofs.Ytklbckonlbpbgab
open Go.Lib Go.ChangeShapes Go.WideShapes Go.ChangeAt Go.RowKit
set_option linter.unusedVariables false

theorem SegsAt.shape {w : World} {v : Value} {l : List Seg} (h : SegsAt w v l) : ∃ A cap, v = .slice A l.length cap ∧ l.length ≤ cap ∧ cap ≤ 9223372036854775807 := by
  obtain ⟨A, cap, e, h1, h2, _⟩ := h; exact ⟨A, cap, e, h1, h2⟩
theorem SegsAt.round {w : World} {A : Option Addr} {cap : Nat} {l : List Seg} {j : Nat} (h : SegsAt w (.slice A l.length cap) l) (hj : j < l.length) :
    ∃ b off, A = some ⟨b, off, none⟩ ∧ b < w.heap.size ∧ w.cell? ⟨b, off + j * 3, none⟩ = some (.bool l[j].before) ∧ w.cell? ⟨b, off + j * 3 + 1, none⟩ = some (.bool l[j].after) ∧ w.cell? ⟨b, off + j * 3 + 2, none⟩ = some (.string l[j].data) := by
  obtain ⟨A', cap', e, _, _, h4⟩ := h
  obtain ⟨b, off, e2, hlt, hc⟩ := h4 (by omega)
  simp only [Value.slice.injEq] at e
  obtain ⟨rfl, _, rfl⟩ := e
  exact ⟨b, off, e2, hlt, hc j hj⟩
set_option maxRecDepth 100000 in
set_option maxHeartbeats 2000000 in
theorem segs_conv (v : Value) (l : List Seg) (hl : l.length ≤ 100000) (w : World) (hs : SegsAt w v l) :
    Calls Try.prog 14 #[v] w (fun e w' => ∃ v', e = .returned v' ∧ SegsAt w' v' l ∧ Below w.heap.size w w') := by
  obtain ⟨A, cap, rfl, hcap, hcap2⟩ := hs.shape
  have HS := hid hs
  clear hs
  go_enter Try.func14, Try.ntmps14
  go_wp2_with fail
  go_loopw [3, 9] (fun s3 i wr => ∃ (j : Nat) (u' : Value), u' = s3 ∧ j ≤ l.length ∧ i = .int .i64 j ∧ OwnSegs 55 wr u' (l.take j) ∧ Fresh w u' ∧ Below w.heap.size w wr) (fun _ i _ => l.length - (intOf i).toNat)
  case atStart => exact ⟨0, _, rfl, by omega, by go_num, OwnSegs.nilA _ _ _, (by rintro k ⟨a, n, c, e, hc, _⟩; cases e; omega), (Below.refl _ _).alloc (Nat.le_refl _) _⟩
  case round =>
    obtain ⟨j, u, rfl, hj, rfl, ho, hfr, hb⟩ := hrel
    have HB := hid hb
    have HF := hid hfr
    by_cases hlt : j < l.length
    · obtain ⟨b0, off, rfl, hb0, c0, c1, c2⟩ := (HS.out.below hb (Nat.le_refl _)).round hlt
      obtain ⟨r, hre⟩ : ∃ r, r = l[j] := ⟨_, rfl⟩
      have htk : l.take (j + 1) = l.take j ++ [r] := by rw [hre, List.take_succ_eq_append_getElem hlt]
      have htl : (l.take j).length = j := by simp; omega
      rw [← hre] at c0 c1 c2
      obtain ⟨bef, aft, p⟩ := r
      simp only at c0 c1 c2
      have HTK := hid htk
      have HTL := hid htl
      have ho2 := ho
      unfold OwnSegs at ho2
      rw [htl] at ho2
      obtain ⟨cs, hcs⟩ : ∃ cs, cs = segCells (l.take j) := ⟨_, rfl⟩
      rw [← hcs] at ho2
      have HCS := hid hcs
      obtain ⟨Au, capu, hsh⟩ := ho.shape
      rw [htl] at hsh
      subst hsh
      obtain ⟨wp, hwp⟩ : ∃ q, q = wr.alloc (.cells #[.bool bef, .bool aft, .string p] 36) := ⟨_, rfl⟩
      have HWP : Hid (wr.alloc (.cells #[.bool bef, .bool aft, .string p] 36) = wp) := hid hwp.symm
      have hrp : Row wp wr.heap.size 36 [.bool bef, .bool aft, .string p] := by rw [hwp]; exact Row.new _ _ _
      have hbp : Below w.heap.size w wp := by rw [hwp]; exact hb.alloc hb.size _
      have HO2 := hid (show SliceIs wp _ _ _ _ _ by rw [hwp]; exact SliceIs.alloc ho2 (.cells #[.bool bef, .bool aft, .string p] 36))
      have HBP := hid hbp
      have hr2 := Row.new wr [.bool false, .bool false, .string ⟨#[]⟩] 36
      have s0 := hr2.cell (i := 0) rfl
      have s1 := hr2.cell (i := 1) rfl
      have s2 := hr2.cell (i := 2) rfl
      have t0 := hr2.frozen 0
      have t1 := hr2.frozen 1
      have t2 := hr2.frozen 2
      have p0 := hrp.cell (i := 0) rfl
      have p1 := hrp.cell (i := 1) rfl
      have p2 := hrp.cell (i := 2) rfl
      clear hre htk htl ho2 hcs ho hfr hb hwp hrp hbp hr2
      go_upto_region 5 with fail
      rw [HWP.out]
      clear s0 s1 s2 t0 t1 t2 c0 c1 c2
      go_wp2_with (at_builtin; refine wpList_append_slice rfl (.tmp 13) (.tmp 21) 27 rfl 55 (.agg #[.bool false, .bool false, .string ⟨#[]⟩]) 3 24 Try.underlying27 (by kernel_rfl) (by kernel_rfl) _ j cs rfl (SliceIs.alloc HO2.out _) ⟨wp.heap.size, 0, none⟩ 1 1 [.bool bef, .bool aft, .string p] rfl rfl (news3 _ _ _ _ _ _ rfl) (by simp [Value.oneCell']) (by omega) (by omega) (by omega) ?_; intro g8 cap8 w8 hs8 hu8 hh8)
      go_roundw
      case rel => exact ⟨j + 1, _, rfl, by omega, by go_num, by rw [HTK.out]; exact OwnSegs.more HTL.out HCS.out hs8.out, fun k hk => (hh8.out k hk).elim (HF.out k) (fun h => by have := HBP.out.size; simp at h; omega), (HBP.out.alloc HBP.out.size _).trans (hu8.out.below (by have := HBP.out.size; simp; omega) (fun k hk => HF.out k hk))⟩
      case measure => simp [intOf]; omega
    · obtain rfl : j = l.length := by omega
      rw [List.take_length] at ho
      have HO := hid ho
      clear ho hfr hb
      go_wp2_with fail
      go_ret
      exact ⟨_, rfl, HO.out.at, HB.out⟩
set_option maxRecDepth 100000 in
set_option maxHeartbeats 2000000 in
theorem segs_same (v1 v2 : Value) (l : List Seg) (w : World) (h1 : SegsAt w v1 l) (h2 : SegsAt w v2 l) : Calls Try.prog 13 #[v1, v2] w (Gives (.bool true) w) := by
  obtain ⟨A, cap, rfl, hcap, hcap2⟩ := h1.shape
  obtain ⟨A2, capB, rfl, hcapB, hcapB2⟩ := h2.shape
  have HS := hid h1
  have HT := hid h2
  have hq : ((l.length : Int) != (l.length : Int)) = false := by simp
  clear h1 h2
  go_enter Try.func13, Try.ntmps13
  go_wp2_with fail
  go_loopw [5] (fun i wr => ∃ j : Nat, j ≤ l.length ∧ i = .int .i64 j ∧ Below w.heap.size w wr) (fun i _ => l.length - (intOf i).toNat)
  case atStart => exact ⟨0, by omega, rfl, Below.refl _ _⟩
  case round =>
    obtain ⟨j, hj, rfl, hu⟩ := hrel
    have HU := hid hu
    by_cases hlt : j < l.length
    · obtain ⟨b, off, rfl, hb, c0, c1, c2⟩ := (HS.out.below hu (Nat.le_refl _)).round hlt
      obtain ⟨b2, off2, rfl, hb2, d0, d1, d2⟩ := (HT.out.below hu (Nat.le_refl _)).round hlt
      obtain ⟨r, hxe⟩ : ∃ x, x = l[j] := ⟨_, rfl⟩
      rw [← hxe] at c0 c1 c2 d0 d1 d2
      obtain ⟨bef, aft, p⟩ := r
      simp only at c0 c1 c2 d0 d1 d2
      have hx : (p.toList != p.toList) = false := by simp
      clear hxe hu
      go_wp2_with fail
      go_quiet (fail)
      go_wp2_with fail
      go_roundw
      case rel => exact ⟨j + 1, by omega, by go_num, below_drewN HU.out _⟩
      case measure => simp [intOf]; omega
    · obtain rfl : j = l.length := by omega
      clear hu
      go_wp2_with fail
      go_ret
      exact ⟨rfl, HU.out⟩
end Go.Proofs.Ytklbckonlbpbgab
