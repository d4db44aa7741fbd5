import Derived.Test.YtllbjabnoicdfaaFixT3
/-! The reference's Pack. -/
namespace Go.Proofs.Ytllbjabnoicdfaa
open Go.Lib Go.ChangeShapes Go.WideShapes Go.ChangeAt Go.RowKit
set_option linter.unusedVariables false

/-- a slice of texts at the head of a row that it has for itself -/
def OwnStrs (w : World) (v : Value) (l : List ByteArray) : Prop := SliceIs w 9 1 v l.length (l.map .string)
/-- a slice that lies behind what there was -/
def Fresh (w : World) (v : Value) : Prop := ∀ k, Value.home v k → w.heap.size ≤ k
theorem Fresh.nil (w : World) : Fresh w (.slice none 0 0) := by rintro k ⟨a, n, c, e, _⟩; cases e
theorem OwnStrs.shape {w : World} {v : Value} {l : List ByteArray} (h : OwnStrs w v l) : ∃ A cap, v = .slice A l.length cap := by
  rcases h with ⟨a, e, h0, _⟩ | ⟨g, cap, cur, e, _⟩
  · rw [h0]; exact ⟨a, 0, e⟩
  · exact ⟨_, cap, e⟩
theorem OwnStrs.at {w : World} {v : Value} {l : List ByteArray} (h : OwnStrs w v l) : StrsAt w v l := by
  rcases h with ⟨a, e, h1, _⟩ | ⟨g, cap, cur, e, hr, ht, hl, h4, h5, _⟩
  · exact ⟨a, 0, by rw [h1]; exact e, by omega, by omega, fun h => by omega⟩
  · refine ⟨_, cap, e, h4, h5, fun _ => ⟨g, 0, rfl, hr.lt, fun i hi => hr.cell ?_⟩⟩
    have h3 : (l.map Value.string)[i]? = some (.string l[i]) := by simp [hi]
    rw [← ht, Nat.mul_one, List.getElem?_take, if_pos hi] at h3
    rw [Nat.zero_add]; exact h3
theorem OwnStrs.below {w w' : World} {v : Value} {l : List ByteArray} (h : OwnStrs w v l) {B : Nat} (hb : Below B w w') (hB : w.heap.size ≤ B) : OwnStrs w' v l :=
  SliceIs.upd h (Upds.of_below hb hB) (F := fun _ => False) (fun _ _ h => h)
theorem OwnStrs.nil (w : World) (a : Option Addr) : OwnStrs w (.slice a 0 0) [] := .inl ⟨a, rfl, rfl, rfl⟩
theorem OwnStrs.more {w : World} {v : Value} {l : List ByteArray} {n : Nat} {cs : List Value} {x : ByteArray} (hn : l.length = n) (hcs : cs = l.map .string) (h : SliceIs w 9 1 v (n + 1) (cs ++ [.string x])) : OwnStrs w v (l ++ [x]) := by
  unfold OwnStrs
  rw [List.length_append, List.length_singleton, hn, List.map_append, ← hcs]
  exact h
theorem news1 (w : World) (x : Value) (t : TypeId) (g : Nat) (hg : g = w.heap.size) : ∀ j u, [x][j]? = some u → (w.alloc (.cells #[x] t)).cell? ((⟨g, 0, none⟩ : Addr).add j) = some u := by
  intro j u hj
  subst hg
  rw [Go.WideShapes.add_plain, Nat.zero_add]
  exact (Row.new w [x] t).cell hj
/-- the last text of a slice, which can be written -/
theorem OwnStrs.last {w : World} {v : Value} {l : List ByteArray} {y : ByteArray} (h : OwnStrs w v (l ++ [y])) : ∃ g cap, v = .slice (some ⟨g, 0, none⟩) (l.length + 1) cap ∧ g < w.heap.size ∧ Value.home v g ∧
    w.cell? ⟨g, l.length, none⟩ = some (.string y) ∧ w.frozen? ⟨g, l.length, none⟩ = false ∧ ∀ z, OwnStrs (w.setCell ⟨g, l.length, none⟩ (.string z)) v (l ++ [z]) := by
  rcases h with ⟨a, e, h1, _⟩ | ⟨g, cap, cur, e, hr, ht, hl, h4, h5, h6⟩
  · simp at h1
  · rw [List.length_append, List.length_singleton] at e h4 ht
    have hx : cur[l.length]? = some (.string y) := by
      have h3 : ((l ++ [y]).map Value.string)[l.length]? = some (.string y) := by simp
      rw [← ht, Nat.mul_one, List.getElem?_take, if_pos (by omega)] at h3
      exact h3
    refine ⟨g, cap, e, hr.lt, ⟨_, _, _, e, h6, rfl⟩, hr.cell hx, hr.frozen _, fun z => .inr ⟨g, cap, cur.set l.length (.string z), ?_, hr.set _ _, ?_, by rw [List.length_set, hl], ?_, h5, h6⟩⟩
    · rw [List.length_append, List.length_singleton]; exact e
    · rw [List.length_append, List.length_singleton, List.take_set, ht]
      simp
    · rw [List.length_append, List.length_singleton]; exact h4
set_option maxRecDepth 100000 in
theorem refPack_bad (L B : Int) (hf : ¬ fits L B) (v : Value) (w : World) :
    Calls Try.prog 13 #[.int .i64 L, .int .i64 B, v] w (Gives (.tuple #[.slice none 0 0, .int .i64 1]) w) := by
  have HV := fun W => hid (refValid_any L B W)
  rw [decide_eq_false hf] at HV
  clear hf
  go_enter Try.func13, Try.ntmps13
  go_wp2_with fail
  refine (HV _).out.mono ?_
  rintro e w1 ⟨rfl, rfl⟩
  go_wp2_with fail
  go_ret2
  exact ⟨rfl, Below.refl _ _⟩
/-- what the reference answers, when the first record of another length (if any) has the number s -/
def RefPacked (m s : Nat) (l : List ByteArray) (w : World) (e : Ending) (w' : World) : Prop :=
  (if s < l.length then e = .returned (.tuple #[.slice none 0 0, .int .i64 2]) else ∃ v, e = .returned (.tuple #[v, .int .i64 0]) ∧ StrsAt w' v (blocks m l)) ∧ Below w.heap.size w w'
set_option maxRecDepth 100000 in
set_option maxHeartbeats 2000000 in
theorem refPack_ok (L b : Nat) (hf : fits (L : Int) (b : Int)) (A : Option Addr) (cap : Nat) (l : List ByteArray) (hl : l.length ≤ 1000) (s : Nat) (hs : s ≤ l.length) (hz : ∀ i (hi : i < s), l[i].size = L) (hbig : ∀ x ∈ l, x.size ≤ 100000) (hne : ∀ h : s < l.length, l[s].size ≠ L) (w : World) (hr : StrsAt w (.slice A l.length cap) l) :
    Calls Try.prog 13 #[.int .i64 L, .int .i64 b, .slice A l.length cap] w (RefPacked (b / L) s l w) := by
  have HV := fun W => hid (refValid_any L b W)
  rw [decide_eq_true hf] at HV
  have HM := fun W => hid (refMost_any L b W)
  rw [mostI_nat hf] at HM
  have hL : L ≤ 1000 := by have := hf.2.1; omega
  have hm : 1 ≤ b / L := most_pos (by have := hf.1; omega) (by have := hf.2.2.1; omega)
  have hm2 : b / L ≤ 1024 := most_le (by have := hf.2.2.2; omega)
  obtain ⟨m, hmm⟩ : ∃ m, m = b / L := ⟨_, rfl⟩
  rw [← hmm] at HM hm hm2 ⊢
  have HR := hid hr
  have HZ := hid hz
  have HBIG := hid hbig
  have HNE := hid hne
  obtain ⟨_, _, hsh, hcap1, hcap2⟩ := hr.shape
  simp only [Value.slice.injEq] at hsh
  obtain ⟨rfl, _, rfl⟩ := hsh
  clear hf hmm hr hz hbig hne
  go_enter Try.func13, Try.ntmps13
  go_wp2_with fail
  refine (HV _).out.mono ?_
  rintro e w1 ⟨rfl, rfl⟩
  go_wp2_with fail
  go_loopw [8, 9] (fun u i wr => ∃ (j : Nat) (u' : Value), u = u' ∧ j ≤ s ∧ i = .int .i64 j ∧ OwnStrs wr u' (blocks m (l.take j)) ∧ Fresh w1 u' ∧ Below w1.heap.size w1 wr) (fun _ i _ => l.length - (intOf i).toNat)
  case atStart => exact ⟨0, _, rfl, by omega, by go_num, by rw [List.take_zero, blocks_nil hm]; exact OwnStrs.nil _ _, (by rintro k ⟨a, n, c, e, hc, _⟩; cases e; omega), (Below.refl _ _).alloc (Nat.le_refl _) _⟩
  case round =>
    obtain ⟨j, u, rfl, hj, rfl, ho, hfr, hb⟩ := hrel
    have HB := hid hb
    have HO := hid ho
    have HF := hid hfr
    by_cases hlt : j < l.length
    · obtain ⟨b0, off, rfl, hb0, c0⟩ := (HR.out.below hb (Nat.le_refl _)).round hlt
      have hbig := HBIG.out _ (List.getElem_mem hlt)
      by_cases hjs : j < s
      · have hx := HZ.out j hjs
        obtain ⟨x, hxe⟩ : ∃ x, x = l[j] := ⟨_, rfl⟩
        have htk : l.take (j + 1) = l.take j ++ [x] := by rw [hxe, List.take_succ_eq_append_getElem hlt]
        have htl : (l.take j).length = j := by simp; omega
        rw [← hxe] at c0 hx hbig
        have hrem : (j : Int) % (m : Int) = ((j % m : Nat) : Int) := (Int.natCast_emod j m).symm
        have HREM := hid hrem
        have HXE := hid hxe
        have HTK := hid htk
        have hd0 : ((x.size : Int) != (L : Int)) = false := by simp [hx]
        clear hrem htk hxe hx hb hfr
        by_cases hq : j % m = 0
        · have HNEW := hid (blocks_new hm (l.take j) x (j / m) (by rw [htl]; have := Nat.div_add_mod j m; rw [hq, Nat.mul_comm] at this; omega))
          obtain ⟨bl, hbl⟩ : ∃ bl, bl = blocks m (l.take j) := ⟨_, rfl⟩
          rw [← hbl] at HO HNEW
          have hbn : bl.length ≤ 1000 := by
            have e : bl.length = nb m (l.take j).length := by rw [hbl]; unfold blocks; rw [firstB_length]
            rw [e, htl]
            exact (nb_le hm).2 (by have : 1000 * 1 ≤ 1000 * m := Nat.mul_le_mul_left _ hm; omega)
          obtain ⟨A2, capu, rfl⟩ := HO.out.shape
          obtain ⟨n, hn⟩ : ∃ n, n = bl.length := ⟨_, rfl⟩
          obtain ⟨cs, hcs⟩ : ∃ cs, cs = bl.map Value.string := ⟨_, rfl⟩
          have ho2 := HO.out
          unfold OwnStrs at ho2
          rw [← hn] at ho2 hbn
          rw [← hcs] at ho2
          have HO2 := hid ho2
          have HN := hid hn
          have HCS := hid hcs
          rw [← hn] at HO HF ⊢
          have HQ := hid hq
          clear hbl ho2 hn hcs ho hq
          go_wp2_with fail
          refine (HM _).out.mono ?_
          rintro e w2 ⟨rfl, rfl⟩
          have hd1 : ((j : Int) % (m : Int) == 0) = true := by rw [HREM.out, HQ.out]; rfl
          go_wp2_with (at_builtin; refine wpList_append_slice rfl (.tmp 34) (.tmp 35) 22 rfl 9 (.string ⟨#[]⟩) 1 16 Try.underlying22 (by kernel_rfl) (by kernel_rfl) _ n cs rfl (SliceIs.alloc HO2.out _) ⟨w2.heap.size, 0, none⟩ 1 1 [.string ⟨#[]⟩] rfl rfl (news1 _ _ _ _ rfl) (by simp [Value.oneCell']) (by omega) (by omega) (by omega) ?_; intro g8 cap8 w8 hs8 hu8 hh8)
          have h8 := OwnStrs.more HN.out.symm HCS.out hs8.out
          obtain ⟨g9, cap9, e9, hg9, hhome, k1, k2, k3⟩ := h8.last
          rw [← HN.out] at e9 k1 k2 k3
          simp only [Value.slice.injEq, Option.some.injEq, Addr.mk.injEq, and_true, true_and] at e9
          obtain ⟨rfl, rfl⟩ := e9
          have hb8 : Below w1.heap.size w1 w8 := (HB.out.alloc HB.out.size _).trans (hu8.out.below (by have := HB.out.size; simp; omega) (fun b hb => HF.out b hb))
          obtain ⟨b0', off', e0, hb0', c0'⟩ := (HR.out.below hb8 (Nat.le_refl _)).round hlt
          simp only [Option.some.injEq, Addr.mk.injEq, and_true] at e0
          obtain ⟨rfl, rfl⟩ := e0
          rw [← HXE.out] at c0'
          have K3 := hid k3
          have HB8 := hid hb8
          clear h8 hb8 k3
          go_region
          go_wp2_with fail
          go_roundw
          case rel =>
            have hfr8 : Fresh w1 (.slice (some ⟨g8, 0, none⟩) (n + 1) cap8) := fun b hb => (hh8.out b hb).elim (HF.out b) (fun h => by have := HB.out.size; simp at h; omega)
            have k5 := K3.out (⟨#[]⟩ ++ x)
            rw [show (⟨#[]⟩ : ByteArray) ++ x = x from ByteArray.empty_append] at k5
            have k6 : OwnStrs ((w8.setCell ⟨g8, n, none⟩ (.string (⟨#[]⟩ ++ x))).drew) (.slice (some ⟨g8, 0, none⟩) (n + 1) cap8) (blocks m (l.take (j + 1))) := by
              rw [HTK.out, HNEW.out, show (⟨#[]⟩ : ByteArray) ++ x = x from ByteArray.empty_append]; exact k5
            exact ⟨j + 1, _, rfl, by omega, by go_num, k6, hfr8, (HB8.out.setCell (p := ⟨g8, n, none⟩) (hfr8 g8 hhome) _).drew⟩
          case measure => simp [intOf]; omega
        · have hlo : j / m * m < (l.take j).length := by rw [htl]; have := Nat.div_add_mod j m; rw [Nat.mul_comm] at this; omega
          have hhi : (l.take j).length < (j / m + 1) * m := by rw [htl, Nat.succ_mul]; have := Nat.div_add_mod j m; have h2 := Nat.mod_lt j (show m > 0 by omega); rw [Nat.mul_comm] at this; omega
          have hmore := blocks_more hm (l.take j) x (j / m) hlo hhi
          obtain ⟨fb, hfb⟩ : ∃ fb, fb = firstB m (l.take j) (j / m) := ⟨_, rfl⟩
          obtain ⟨y, hy⟩ : ∃ y, y = cat (part m (l.take j) (j / m)) := ⟨_, rfl⟩
          rw [← hfb, ← hy] at hmore
          have HNEW := hid hmore.1
          have hysz : y.size ≤ 1000000 := by
            rw [hy, cat_size L _ (fun z hz => by
              obtain ⟨i, hi, rfl⟩ := List.mem_take_iff_getElem.1 (part_mem hz)
              exact HZ.out i (by omega)), part_length]
            have : min m ((l.take j).length - j / m * m) * L ≤ 1000 * 1000 := Nat.mul_le_mul (by omega) hL
            omega
          rw [hmore.2] at HO
          have hbn : fb.length ≤ 1000 := by
            rw [hfb, firstB_length]
            have := Nat.div_le_self j m; omega
          obtain ⟨g8, cap8, rfl, hg9, hhome, k1, k2, k3⟩ := HO.out.last
          obtain ⟨n, hn⟩ : ∃ n, n = fb.length := ⟨_, rfl⟩
          rw [← hn] at k1 k2 k3 hbn hhome HF ⊢
          have K3 := hid k3
          have HQ := hid hq
          have hd1 : ((j : Int) % (m : Int) == 0) = false := by rw [HREM.out]; simp; omega
          have HN := hid hn
          clear hlo hhi hmore hfb hy hn k3 ho hq HO
          go_wp2_with fail
          refine (HM _).out.mono ?_
          rintro e w2 ⟨rfl, rfl⟩
          go_wp2_with fail
          go_region
          go_wp2_with fail
          go_roundw
          case rel =>
            have k6 : OwnStrs ((w2.setCell ⟨g8, n, none⟩ (.string (y ++ x))).drew) (.slice (some ⟨g8, 0, none⟩) (n + 1) cap8) (blocks m (l.take (j + 1))) := by
              rw [HTK.out, HNEW.out]; exact K3.out (y ++ x)
            exact ⟨j + 1, _, rfl, by omega, by go_num, k6, HF.out, (HB.out.setCell (p := ⟨g8, n, none⟩) (HF.out g8 hhome) _).drew⟩
          case measure => simp [intOf]; omega
      · obtain rfl : j = s := by omega
        have hx := HNE.out hlt
        obtain ⟨x, hxe⟩ : ∃ x, x = l[j] := ⟨_, rfl⟩
        rw [← hxe] at c0 hx hbig
        have hd0 : ((x.size : Int) != (L : Int)) = true := by simp; omega
        obtain ⟨A2, capu, rfl⟩ := ho.shape
        clear hxe hx hb hfr ho
        go_wp2_with fail
        go_ret2
        exact ⟨by rw [if_pos hlt]; rfl, HB.out⟩
    · obtain rfl : s = l.length := by omega
      obtain rfl : j = l.length := by omega
      rw [List.take_length] at HO
      obtain ⟨A2, capu, rfl⟩ := HO.out.shape
      clear hb hfr ho
      go_wp2_with fail
      go_ret2
      exact ⟨by rw [if_neg (by omega)]; exact ⟨_, rfl, HO.out.at⟩, HB.out⟩
end Go.Proofs.Ytllbjabnoicdfaa
