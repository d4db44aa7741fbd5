import Derived.Test.YtllbjabnoicdfaaFixT7
import Derived.Test.YtllbjabnoicdfaaRep
import Derived.Laws.Strings2
import Derived.Laws.Strings3
import Derived.Laws.DeepStrings4
/-! Pad of both; records. -/
namespace Go.Proofs.Ytllbjabnoicdfaa
open Go.Lib Go.ChangeShapes Go.WideShapes Go.ChangeAt Go.RowKit
set_option linter.unusedVariables false

/-- k blanks -/
def blanks (k : Nat) : ByteArray := ⟨(List.replicate k (32 : UInt8)).toArray⟩
theorem blanks_size (k : Nat) : (blanks k).size = k := by show (List.replicate k (32 : UInt8)).toArray.size = k; simp
theorem blanks_succ (k : Nat) : blanks (k + 1) = blanks k ++ ⟨#[32]⟩ := by
  apply ByteArray.ext
  apply Array.toList_inj.1
  simp [blanks, ByteArray.data_append, List.replicate_succ']
theorem repeat_blank (n : Nat) : (⟨(Lib.repeatL (ByteArray.mk #[32]).data.toList n).toArray⟩ : ByteArray) = blanks n := by
  unfold blanks
  have h : ∀ n, Lib.repeatL [(32 : UInt8)] n = List.replicate n 32 := by
    intro n
    induction n with
    | zero => rfl
    | succ n ih => rw [List.replicate_succ, ← ih]; rfl
  rw [show (ByteArray.mk #[32]).data.toList = [(32 : UInt8)] from rfl, h]
/-- a record of n bytes -/
def padB (n : Nat) (r : ByteArray) : ByteArray := if n ≤ r.size then r.extract 0 n else r ++ blanks (n - r.size)
theorem padB_size (n : Nat) (r : ByteArray) : (padB n r).size = n := by
  unfold padB
  split
  · rw [ByteArray.size_extract]; omega
  · rw [ByteArray.size_append, blanks_size]; omega
/-- the length that is meant -/
def lenOf (L : Int) : Nat := (min (max L 0) 1000).toNat
theorem lenOf_le (L : Int) : lenOf L ≤ 1000 := by unfold lenOf; omega
set_option maxRecDepth 100000 in
set_option maxHeartbeats 1000000 in
theorem pad_any (L : Int) (r : ByteArray) (hr : r.size ≤ 100000) (w : World) :
    Calls Try.prog 21 #[.int .i64 L, .string r] w (Gives (.string (padB (lenOf L) r)) w) := by
  obtain ⟨n, hn⟩ : ∃ n, n = lenOf L := ⟨_, rfl⟩
  have hn2 : n ≤ 1000 := by rw [hn]; exact lenOf_le L
  rw [← hn]
  have hm : min (max L 0) 1000 = (n : Int) := by rw [hn]; unfold lenOf; omega
  have HMM := hid hm
  by_cases hc : n ≤ r.size
  · have hsl : ∀ W, (Instr.slice 9 (.string r) none (some (.int .i64 (n : Int))) none).run Try.prog W = .ok (.string (r.extract 0 n)) W := fun W => by
      rw [run_slice_string_to_if W 9 r .i64 n Try.underlying9, if_pos (by omega)]; rfl
    have HP : Hid (padB n r = r.extract 0 n) := hid (by unfold padB; rw [if_pos hc])
    clear hn
    go_enter Try.func21, Try.ntmps21
    go_wp2_with fail
    go_ret
    exact ⟨by rw [HP.out]; rfl, Below.refl _ _⟩
  · obtain ⟨k, hk⟩ : ∃ k, k = n - r.size := ⟨_, rfl⟩
    have hk2 : (n : Int) - (r.size : Int) = (k : Int) := by omega
    have HC : Hid (Calls Try.prog 30 #[.string ⟨#[32]⟩, .int .i64 (k : Int)] w (Gives (.string (blanks k)) w)) :=
      (Try.strings_Repeat ⟨#[32]⟩ k w (by omega) (by show 1 * _ ≤ _; omega)).mono fun e w' ⟨he, hb⟩ => ⟨he.trans (by rw [repeat_blank]), hb⟩
    have hbz := blanks_size k
    have HP : Hid (padB n r = r ++ blanks k) := hid (by unfold padB; rw [if_neg hc, hk])
    obtain ⟨z, hz⟩ : ∃ z, z = blanks k := ⟨_, rfl⟩
    rw [← hz] at HC HP hbz
    clear hn hz hk
    go_enter Try.func21, Try.ntmps21
    go_wp2_with fail
    refine HC.out.mono ?_
    rintro e w1 ⟨rfl, hb⟩
    have HB := hid hb
    clear hb
    go_wp2_with fail
    go_ret
    exact ⟨by rw [HP.out]; rfl, HB.out⟩
set_option maxRecDepth 100000 in
set_option maxHeartbeats 1000000 in
theorem refPad_any (L : Int) (r : ByteArray) (hr : r.size ≤ 100000) (w : World) :
    Calls Try.prog 22 #[.int .i64 L, .string r] w (Is (.string (padB (lenOf L) r)) w) := by
  obtain ⟨n, hn⟩ : ∃ n, n = lenOf L := ⟨_, rfl⟩
  have hn2 : n ≤ 1000 := by rw [hn]; exact lenOf_le L
  rw [← hn]
  have hm : max 0 (min L 1000) = (n : Int) := by rw [hn]; unfold lenOf; omega
  clear hn
  go_enter Try.func22, Try.ntmps22
  go_wp2_with fail
  go_loopw [1] (fun s wr => ∃ k : Nat, s = .string (r ++ blanks k) ∧ (k = 0 ∨ r.size + k ≤ n) ∧ wr = w) (fun s _ => match s with | .string x => n - x.size | _ => 0)
  case atStart => exact ⟨0, by rw [show blanks 0 = ByteArray.empty from rfl, ByteArray.append_empty], .inl rfl, rfl⟩
  case round =>
    obtain ⟨k, rfl, hk, rfl⟩ := hrel
    obtain ⟨x, hx⟩ : ∃ x, x = r ++ blanks k := ⟨_, rfl⟩
    have hxs : x.size = r.size + k := by rw [hx, ByteArray.size_append, blanks_size]
    have hxb : x.size ≤ 200000 := by omega
    rw [← hx]
    by_cases hlt : x.size < n
    · have HX := hid hx
      have HXS := hid hxs
      clear hx hxs
      go_wp2_with fail
      go_roundw
      case rel => exact ⟨k + 1, by rw [blanks_succ, ← ByteArray.append_assoc, ← HX.out], .inr (by have := HXS.out; omega), trivial⟩
      case measure => simp only [ByteArray.size_append]; show n - (x.size + 1) < n - x.size; omega
    · have hsl : ∀ W, (Instr.slice 9 (.string x) none (some (.int .i64 (n : Int))) none).run Try.prog W = .ok (.string (x.extract 0 n)) W := fun W => by
        rw [run_slice_string_to_if W 9 x .i64 n Try.underlying9, if_pos (by omega)]; rfl
      have HP : Hid (padB n r = x.extract 0 n) := hid (by
        unfold padB
        split
        · rcases hk with rfl | hk
          · rw [hx, show blanks 0 = ByteArray.empty from rfl, ByteArray.append_empty]
          · have : k = 0 := by omega
            subst this
            rw [hx, show blanks 0 = ByteArray.empty from rfl, ByteArray.append_empty]
        · have hkk : k = n - r.size := by omega
          have hxn : x.size = n := by omega
          rw [← hkk, ← hx, ← hxn]
          apply ByteArray.ext
          simp)
      clear hx hxs hk
      go_wp2_with fail
      go_ret
      exact ⟨by rw [HP.out]; rfl, rfl⟩
set_option maxRecDepth 100000 in
set_option maxHeartbeats 2000000 in
theorem records_any (L : Int) (v : Value) (l : List ByteArray) (hl : l.length ≤ 1000) (hz : ∀ x ∈ l, x.size ≤ 100000) (w : World) (hs : StrsAt w v l) :
    Calls Try.prog 25 #[.int .i64 L, v] w (fun e w' => ∃ v, e = .returned v ∧ StrsAt w' v (l.map (padB (lenOf L))) ∧ Below w.heap.size w w') := by
  obtain ⟨A, cap, rfl, hcap, hcap2⟩ := hs.shape
  have HS := hid hs
  have HZ := hid hz
  clear hs hz
  go_enter Try.func25, Try.ntmps25
  go_wp2_with fail
  go_loopw [5, 11] (fun u i wr => ∃ (j : Nat) (u' : Value), u = u' ∧ j ≤ l.length ∧ i = .int .i64 j ∧ OwnStrs wr u' ((l.take j).map (padB (lenOf L))) ∧ Fresh w u' ∧ Below w.heap.size w wr) (fun _ i _ => l.length - (RowKit.intOf i).toNat)
  case atStart => exact ⟨0, _, rfl, by omega, by go_num, OwnStrs.nil _ _, (by rintro k ⟨a, n, c, e, hc, _⟩; cases e; omega), (Below.refl _ _).alloc (Nat.le_refl _) _⟩
  case round =>
    obtain ⟨j, u, rfl, hj, rfl, ho, hfr, hb⟩ := hrel
    have HB := hid hb
    have HO := hid ho
    have HF := hid hfr
    by_cases hlt : j < l.length
    · obtain ⟨b0, off, rfl, hb0, c0⟩ := (HS.out.below hb (Nat.le_refl _)).round hlt
      have hxz := HZ.out _ (List.getElem_mem hlt)
      obtain ⟨x, hxe⟩ : ∃ x, x = l[j] := ⟨_, rfl⟩
      have htk : (l.take (j + 1)).map (padB (lenOf L)) = (l.take j).map (padB (lenOf L)) ++ [padB (lenOf L) x] := by rw [hxe, List.take_succ_eq_append_getElem hlt, List.map_append]; rfl
      have htl : ((l.take j).map (padB (lenOf L))).length = j := by simp; omega
      rw [← hxe] at c0 hxz
      have HC := fun W => hid (pad_any L x hxz W)
      obtain ⟨y, hy⟩ : ∃ y, y = padB (lenOf L) x := ⟨_, rfl⟩
      rw [← hy] at HC htk
      obtain ⟨A2, capu, rfl⟩ := HO.out.shape
      obtain ⟨cs, hcs⟩ : ∃ cs, cs = ((l.take j).map (padB (lenOf L))).map Value.string := ⟨_, rfl⟩
      have ho2 := HO.out
      unfold OwnStrs at ho2
      rw [htl] at ho2 HF ⊢
      rw [← hcs] at ho2
      have HO2 := hid ho2
      have HCS := hid hcs
      have HTK := hid htk
      have HTL := hid htl
      have HLT := hid (SliceIs.lt ho2)
      clear hxe hy ho2 hcs ho hfr hb htk htl HO
      go_wp2_with fail
      refine (HC _).out.mono ?_
      rintro e w1 ⟨rfl, hb⟩
      have HB1 := hid (HB.out.trans (hb.mono HB.out.size))
      have HO3 := hid (SliceIs.upd HO2.out (Upds.of_below hb (Nat.le_refl _)) (F := fun _ => False) (fun _ _ h => h))
      have hsz1 := HB1.out.size
      have HSZ1 := hid hsz1
      clear hb hsz1
      go_wp2_with (at_builtin; refine wpList_append_slice rfl (.tmp 15) (.tmp 19) 22 rfl 9 (.string ⟨#[]⟩) 1 16 Try.underlying22 (by kernel_rfl) (by kernel_rfl) _ j cs rfl (SliceIs.alloc HO3.out _) ⟨w1.heap.size, 0, none⟩ 1 1 [.string y] rfl rfl (news1 _ _ _ _ rfl) (by simp [Value.oneCell']) (by omega) (by omega) (by omega) ?_; intro g8 cap8 w8 hs8 hu8 hh8)
      go_roundw
      case rel =>
        have h8 := OwnStrs.more HTL.out HCS.out hs8.out
        rw [← HTK.out] at h8
        exact ⟨j + 1, _, rfl, by omega, by go_num, h8, fun b hb => (hh8.out b hb).elim (HF.out b) (fun h => by have := HSZ1.out; simp at h; omega), (HB1.out.alloc HSZ1.out _).trans (hu8.out.below (by have := HSZ1.out; simp; omega) (fun b hb => HF.out b hb))⟩
      case measure => simp [RowKit.intOf]; omega
    · obtain rfl : j = l.length := by omega
      rw [List.take_length] at HO
      obtain ⟨A2, capu, rfl⟩ := HO.out.shape
      clear ho hfr hb
      go_wp2_with fail
      go_ret
      exact ⟨_, rfl, HO.out.at, HB.out⟩
end Go.Proofs.Ytllbjabnoicdfaa
