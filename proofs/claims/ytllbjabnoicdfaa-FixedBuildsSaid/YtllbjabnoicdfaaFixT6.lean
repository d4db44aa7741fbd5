import Derived.RangeFuncBox
import Derived.Maps.AppendAt
import Derived.Test.YtllbjabnoicdfaaFixT4
import Derived.Test.YtllbjabnoicdfaaFixT5
/-! Pack. -/
namespace Go.Proofs.Ytllbjabnoicdfaa
open Go.Lib Go.ChangeShapes Go.WideShapes Go.ChangeAt Go.RowKit Go.Shelf
set_option linter.unusedVariables false
attribute [local go_sem] Oper.semAt_some

set_option maxRecDepth 100000 in
theorem pack_bad (L B : Int) (hf : ¬ fits L B) (v : Value) (w : World) :
    Calls Try.prog 12 #[.int .i64 L, .int .i64 B, v] w (Gives (.tuple #[.slice none 0 0, .int .i64 1]) w) := by
  have HV := fun W => hid (valid_any L B W)
  rw [decide_eq_false hf] at HV
  clear hf
  go_enter Try.func12, Try.ntmps12
  go_wp2_with fail
  refine (HV _).out.mono ?_
  rintro e w1 ⟨rfl, rfl⟩
  go_wp2_with fail
  go_ret2
  exact ⟨rfl, (Below.refl _ _).alloc (Nat.le_refl _) _⟩
set_option maxRecDepth 100000 in
theorem pack_range (L b : Nat) (hf : fits (L : Int) (b : Int)) (A : Option Addr) (cap : Nat) (l : List ByteArray) (hl : l.length ≤ 100000) (hz : ∀ x ∈ l, x.size ≤ 9223372036854775807) (hn : ¬ ∀ x ∈ l, x.size = L) (w : World) (hs : StrsAt w (.slice A l.length cap) l) :
    Calls Try.prog 12 #[.int .i64 L, .int .i64 b, .slice A l.length cap] w (Gives (.tuple #[.slice none 0 0, .int .i64 2]) w) := by
  have HV := fun W => hid (valid_any L b W)
  rw [decide_eq_true hf] at HV
  have hL : L ≤ 1000 := by have := hf.2.1; omega
  have hb0 : Below w.heap.size w (w.alloc (.cells #[.int .i64 L] 3)) := (Below.refl _ _).alloc (Nat.le_refl _) _
  have hbx := (Boxed.new w 3 (.int .i64 L)).cell
  obtain ⟨w1, hw1⟩ : ∃ q, q = w.alloc (.cells #[.int .i64 L] 3) := ⟨_, rfl⟩
  rw [← hw1] at hb0 hbx
  have HC := hid (contains_yes L hL _ l hl hz hn w.heap.size w1 hbx (hs.below hb0 (Nat.le_refl _)))
  have HB0 := hid hb0
  have HX := hid hbx
  clear hf hz hn hs hb0 hbx
  go_enter Try.func12, Try.ntmps12
  go_wp2_with fail
  rw [← hw1]
  have c0 := HX.out
  clear hw1
  refine (HV _).out.mono ?_
  rintro e w1 ⟨rfl, rfl⟩
  go_wp2_with fail
  refine HC.out.mono ?_
  rintro e w1 ⟨rfl, rfl⟩
  go_wp2_with fail
  go_ret2
  exact ⟨rfl, HB0.out⟩

/-- the texts of the blocks whose numbers came -/
def came (m : Nat) (l : List ByteArray) (pre : List (PartNo m l.length)) : List Value := pre.map fun x => .string (cat (part m l x.1))
theorem came_snoc (m : Nat) (l : List ByteArray) (pre : List (PartNo m l.length)) (x : PartNo m l.length) : came m l (pre ++ [x]) = came m l pre ++ [.string (cat (part m l x.1))] := by simp [came]
theorem came_all (m : Nat) (l : List ByteArray) (ys : List (PartNo m l.length)) (h : ys.map Subtype.val = List.range (nb m l.length)) : came m l ys = (blocks m l).map .string := by
  have : came m l ys = (ys.map Subtype.val).map fun k => .string (cat (part m l k)) := by simp [came]
  rw [this, h]; simp [blocks, firstB]
theorem strInfo : (Try.prog.info? 9).map (fun i => (i.zero, i.size, i.bytes)) = some (some (.string ⟨#[]⟩), 1, 16) := by kernel_rfl

theorem StrsAt.of_owns {w : World} {n₀ : Nat} {t : TypeId} {v : Value} {n : Nat} {l : List ByteArray} (h : w.ownsRow n₀ t 1 v n (l.map .string)) : StrsAt w v l := by
  obtain ⟨h0, h1⟩ := h
  rw [List.length_map, Nat.mul_one] at h0
  subst h0
  rcases h1 with ⟨rfl, h2⟩ | ⟨g, cap, cur, rfl, _, hg, h2, h3, h4, h5⟩
  · exact ⟨none, 0, by rw [h2], by omega, by omega, fun h => by omega⟩
  · refine ⟨_, cap, rfl, h2, by unfold maxLen at h3; omega, fun _ => ⟨g, 0, rfl, (Array.getElem?_eq_some_iff.1 hg).1, fun i hi => ?_⟩⟩
    have hx : (cur.toList.take (l.length * 1))[i]? = some (.string l[i]) := by rw [h5, List.getElem?_map, List.getElem?_eq_getElem hi]; rfl
    rw [Nat.mul_one, List.getElem?_take, if_pos hi] at hx
    rw [Nat.zero_add]
    simp only [World.cell?, hg]
    simpa using hx
theorem stepIn_append_own {F : Fence} {n : Nat} {P : Program} {w : World} {ops : Array Oper} {o : Oper} {a : Act} {K : Act → World → Prop} {Q : Exit → Act → World → Prop} {E : Prop}
    (hg : o.guard = none) (s x : Operand) (t : TypeId) (hop : o.op = Op.call { callee := Callee.builtin Builtin.append, args := #[s, x], argTypes := #[t, t] })
    (base : Nat) (e : TypeId) (z : Value) (size bytes : Nat) (h1 : P.underlying t = some (.slice e)) (hinfo : (P.info? e).map (fun i => (i.zero, i.size, i.bytes)) = some (some z, size, bytes)) (h6 : z.cells.size = size) (h7 : 0 < size)
    (v : Value) (k : Nat) (xs : List Value) (hs : a.eval s = v) (hown : w.ownsRow base e size v k xs) (ad : Addr) (m c : Nat) (news : List Value) (hx : a.eval x = .slice (some ad) m c) (hn : news.length = m * size)
    (hc : ∀ j u, news[j]? = some u → w.cell? (ad.add j) = some u) (h1c : ∀ u ∈ news, u.oneCell' = true) (b1 : k + m ≤ maxLen) (b2 : (k + m) * bytes ≤ 140737488355328) (b3 : base ≤ w.heap.size)
    (hK : ∀ v' w', w'.ownsRow base e size v' (k + m) (xs ++ news) → w.grownBy w' v.ownBlock → K (a.put o.dst v') w') :
    if Region.wanted o (yielded ops a.tmps) = true then Oper.wpIn F n P o a w K Q else E := by
  have hw : Region.wanted o (yielded ops a.tmps) = true := by simp [Region.wanted, hg]
  rw [if_pos hw]
  obtain ⟨i, hi, hz0, hz1, hz2⟩ := info_parts hinfo
  obtain ⟨v', w', hrun, r1, r2, r3⟩ := run_append_own (P := P) w base t o.type e i z size bytes h1 hi hz0 hz1 hz2 h6 h7 v k xs hown ad m c news hn hc h1c b1 b2 b3
  unfold Oper.wpIn
  refine ⟨?_, ?_⟩
  · simp [Oper.about, hop, resolve, Target.leads, Sem.run_pure]
  · rw [Oper.semAt_plain F _ _ (by rw [hop]; intro c hc'; cases hc')]
    simp [execOp, hop, resolve, invoke, builtin, hs, hx, hrun, Result.andThen]
    exact hK _ _ r1 r2
theorem grown_below {w w' : World} {B : Nat} (h : Below B w w') (hB : w.heap.size ≤ B) : w.grownBy w' none := ⟨h.os, h.tape, h.output, h.size, fun k hk _ => h.block k (by omega)⟩
theorem owns_below {w w' : World} {n₀ : Nat} {t : TypeId} {k n : Nat} {v : Value} {xs : List Value} (h : w.ownsRow n₀ t k v n xs) (hb : Below w.heap.size w.drew w') : w'.ownsRow n₀ t k v n xs := by
  have h' : w.drew.ownsRow n₀ t k v n xs := h
  refine h'.kept (grown_below hb (Nat.le_refl _)) ?_
  rcases h.2 with ⟨rfl, _⟩ | ⟨g, cap, cur, rfl, _⟩
  · exact .inl rfl
  · exact .inr (by simp [Value.ownBlock])
theorem keeps_below {w w' : World} (hb : Below w.heap.size w.drew w') : KeepsOthers w w' := (KeepsOthers.drew w).trans (KeepsOthers.of_grownBy (grown_below hb (Nat.le_refl _)) (fun j o e => by cases e))
set_option maxRecDepth 100000 in
set_option maxHeartbeats 4000000 in
theorem pack_ok (L b : Nat) (hf : fits (L : Int) (b : Int)) (A : Option Addr) (cap : Nat) (l : List ByteArray) (hl : l.length ≤ 2000) (hz : ∀ x ∈ l, x.size = L) (w : World) (hs : StrsAt w (.slice A l.length cap) l) :
    Calls Try.prog 12 #[.int .i64 L, .int .i64 b, .slice A l.length cap] w (fun e w' => ∃ v, e = .returned (.tuple #[v, .int .i64 0]) ∧ StrsAt w' v (blocks (b / L) l) ∧ Below w.heap.size w w') := by
  have HV := fun W => hid (valid_any L b W)
  rw [decide_eq_true hf] at HV
  have HM := fun W => hid (most_any L b W)
  rw [mostI_nat hf] at HM
  have hL : L ≤ 1000 := by have := hf.2.1; omega
  have hm : 1 ≤ b / L := most_pos (by have := hf.1; omega) (by have := hf.2.2.1; omega)
  have hm2 : b / L ≤ 1024 := most_le (by have := hf.2.2.2; omega)
  obtain ⟨m, hmm⟩ : ∃ m, m = b / L := ⟨_, rfl⟩
  rw [← hmm] at HM hm hm2 ⊢
  have hb0 : Below w.heap.size w (w.alloc (.cells #[.int .i64 L] 3)) := (Below.refl _ _).alloc (Nat.le_refl _) _
  have hbx := Boxed.new w 3 (.int .i64 L)
  obtain ⟨w1, hw1⟩ : ∃ q, q = w.alloc (.cells #[.int .i64 L] 3) := ⟨_, rfl⟩
  have hsz1 : w1.heap.size = w.heap.size + 1 := by rw [hw1, World.size_alloc]
  rw [← hw1] at hb0 hbx
  have HC := hid (contains_no L hL _ l (by omega) hz w.heap.size w1 hbx.cell (hs.below hb0 (Nat.le_refl _)))
  have HB0 := hid hb0
  have HX := hid hbx
  have HZ1 := hid hsz1
  have HS := hid hs
  have HLL := hid hz
  clear hf hz hs hb0 hbx hmm hsz1
  refine (callsIn_wide (n := 3)).1 ?_
  refine callsIn_of_wp_marks Try.func12 rfl trivial ?_ rfl
  simp only [Try.ntmps12, List.size_toArray, List.length_cons, List.length_nil, Nat.reduceAdd, Nat.reduceSub, Array.replicate_succ, Array.replicate_zero, List.push_toArray, List.append_toArray, List.nil_append, List.cons_append]
  gi_wp2_with fail
  rw [← hw1]
  have c0 := HX.out.cell
  clear hw1
  refine ⟨trivial, (callsIn_wide.2 (HV _).out).mono ?_⟩
  rintro e w' ⟨rfl, rfl⟩
  gi_wp2_with fail
  refine ⟨trivial, (callsIn_wide.2 HC.out).mono ?_⟩
  rintro e w2 ⟨rfl, rfl⟩
  have hbl := (HX.out.alloc (.cells #[.slice none 0 0] 22)).cell
  gi_wp2_with fail
  obtain ⟨w3, hw3⟩ : ∃ q, q = w2.alloc (.cells #[.slice none 0 0] 22) := ⟨_, rfl⟩
  have hsz3 : w3.heap.size = w.heap.size + 2 := by rw [hw3, World.size_alloc, HZ1.out]
  have bX : Boxed w3 w.heap.size 3 (.int .i64 L) := by rw [hw3]; exact HX.out.alloc _
  have bO : Boxed w3 (w.heap.size + 1) 22 (.slice none 0 0) := by rw [hw3, ← HZ1.out]; exact Boxed.new w2 _ _
  have hb3 : Below w.heap.size w w3 := by rw [hw3]; exact HB0.out.alloc (by rw [HZ1.out]; omega) _
  rw [← hw3, HZ1.out]
  clear hw3 hbl c0 HX
  refine ⟨trivial, (callsIn_wide.2 (HM _).out).mono ?_⟩
  rintro e w' ⟨rfl, rfl⟩
  gi_wp2_with fail
  refine ⟨trivial, (chunk_in _ m hm hm2 A l.length cap w').mono ?_⟩
  rintro e w4 ⟨rfl, hw4⟩
  rw [hsz3]
  have hsz4 : w4.heap.size = w.heap.size + 4 := by rw [hw4, World.size_alloc, World.size_alloc, hsz3]
  have bO4 : Boxed w4 (w.heap.size + 1) 22 (.slice none 0 0) := by rw [hw4]; exact (bO.alloc _).alloc _
  have bS4 : Boxed w4 (w.heap.size + 2) 22 (.slice A l.length cap) := by rw [hw4, ← hsz3]; exact (Boxed.new w' _ _).alloc _
  have bM4 : Boxed w4 (w.heap.size + 3) 3 (.int .i64 m) := by
    have := Boxed.new (w'.alloc (.cells #[.slice A l.length cap] 22)) 3 (.int .i64 m)
    rw [World.size_alloc, hsz3] at this
    rw [hw4]; exact this
  have hb4 : Below w.heap.size w w4 := by rw [hw4]; exact (hb3.alloc (by omega) _).alloc (by rw [World.size_alloc]; omega) _
  clear hw4 bX bO hb3
  have BO := hid bO4
  have BS := hid bS4
  have BM := hid bM4
  have HB4 := hid hb4
  have HZ4 := hid hsz4
  clear bO4 bS4 bM4 hb4 hsz4 hsz3
  gi_wp2_with fail
  obtain ⟨pb, off, hA⟩ : ∃ pb off, 0 < l.length → A = some ⟨pb, off, none⟩ := by
    obtain ⟨A', cap', e, _, _, h4⟩ := HS.out
    simp only [Value.slice.injEq] at e
    obtain ⟨rfl, _, _⟩ := e
    rcases Nat.eq_zero_or_pos l.length with h | h
    · exact ⟨0, 0, fun h' => by omega⟩
    · obtain ⟨pb, off, e, _⟩ := h4 h
      exact ⟨pb, off, fun _ => e⟩
  obtain ⟨hcap1, hcap2⟩ : l.length ≤ cap ∧ cap ≤ 9223372036854775807 := by
    obtain ⟨A', cap', e, h1, h2, _⟩ := HS.out
    simp only [Value.slice.injEq] at e
    obtain ⟨_, _, rfl⟩ := e
    exact ⟨h1, h2⟩
  have HA := hid hA
  have hnl : nb m l.length ≤ 2000 := (nb_le hm).2 (by
    have : 2000 * 1 ≤ 2000 * m := Nat.mul_le_mul_left _ hm
    omega)
  clear hA
  refine wpIn_rangeFunc_ownG (w := w4) rfl (by omega) (gf := 32) (lb := #[.pointer (some ⟨w.heap.size + 2, 0, none⟩), .pointer (some ⟨w.heap.size + 3, 0, none⟩)]) rfl trivial (enters_of Try.func32 (by kernel_rfl) rfl)
    (chunk_stops (3 - 1) (by omega) (w.heap.size + 2) (w.heap.size + 3) m pb off hm hm2 A l.length cap HA.out (by omega) hcap1 hcap2 w4 (by rw [HZ4.out]; omega) (by rw [HZ4.out]; omega) BS.out.cell BM.out.cell)
    (fun h k => h.trans k) (fun W i o o' hi ho _ _ => ?keptObj) (Below.refl _ _) (fun _ => rfl)
    (fun pre W => ((∃ v, Boxed W (w.heap.size + 1) 22 v ∧ W.ownsRow w.heap.size 9 1 v pre.length (came m l pre) ∧ True) ∧ Boxed W (w.heap.size + 2) 22 (.slice A l.length cap) ∧ Boxed W (w.heap.size + 3) 3 (.int .i64 m)) ∧ Below w.heap.size w W)
    (fun _ _ _ => False)
    (OwnFrom.and (Own.from (fun s X Y row hs hg hr => ⟨holdsRow_own w.heap.size (w.heap.size + 1) 22 9 1 (fun pre : List (PartNo m l.length) => pre.length) (fun pre => came m l pre) (fun _ _ => True) s X Y row hs.1 hg hr, boxed_own _ _ (fun (_ : Unit) => Value.slice A l.length cap) () X Y row hs.2.1 hg hr, boxed_own _ _ (fun (_ : Unit) => Value.int .i64 (m : Int)) () X Y row hs.2.2 hg hr⟩) _) (ownFrom_below (Nat.le_refl _) (by rw [HZ4.out]; omega)))
    (fun _ _ _ _ _ hs _ _ => hs)
    ⟨⟨⟨_, BO.out, World.ownsRow_nil _ _ _ _, trivial⟩, BS.out, BM.out⟩, HB4.out⟩
    (fun x => { tmps := #[Value.int IntKind.i64 (L : Int), Value.int IntKind.i64 (b : Int), Value.slice A l.length cap, Value.pointer (some ⟨w.heap.size, 0, none⟩), undef, undef, Value.slice none 0 0, Value.int IntKind.i64 0, Value.pointer (some ⟨w.heap.size + 1, 0, none⟩), Value.slice (some ⟨pb, off + x.1 * m, none⟩) (min m (l.length - x.1 * m)) (min m (l.length - x.1 * m)), Value.int IntKind.i64 (L : Int), Value.int IntKind.i64 (b : Int), Value.bool true, Value.bool false, Value.slice A l.length cap, Value.func (Fn.func 27) #[] #[Value.pointer (some ⟨w.heap.size, 0, none⟩)], Value.bool false, Value.slice A l.length cap, Value.int IntKind.i64 (L : Int), Value.int IntKind.i64 (b : Int), Value.int IntKind.i64 (m : Int), Value.func (Fn.func 32) #[] #[Value.pointer (some ⟨w.heap.size + 2, 0, none⟩), Value.pointer (some ⟨w.heap.size + 3, 0, none⟩)], Value.slice (some ⟨pb, off + x.1 * m, none⟩) (min m (l.length - x.1 * m)) (min m (l.length - x.1 * m)), undef, undef, undef, undef, undef, undef], defers := [] }) ?assign ?body ?done ?stop
  case keptObj => exact ⟨(belowK_b (w := w4) (Nat.le_refl _) W i o o' hi ho ‹_› ‹_›).cell (p := ⟨_, 0, none⟩) (by rw [HZ4.out]; show w.heap.size + 2 < w.heap.size + 4; omega), (belowK_b (w := w4) (Nat.le_refl _) W i o o' hi ho ‹_› ‹_›).cell (p := ⟨_, 0, none⟩) (by rw [HZ4.out]; show w.heap.size + 3 < w.heap.size + 4; omega)⟩
  case assign =>
    intro lo x W K hK
    simp only [encP]
    gi_wp2
    exact hK
  case body =>
    rintro lo pre x W ⟨⟨⟨v, hv, hrow, _⟩, hS, hM⟩, hB⟩ hlt
    have hc := hv.cell
    have hpos : 0 < l.length := by have := x.2; omega
    have hAe := HA.out hpos
    have HJ : ∀ W', Below w.heap.size w W' → Hid (Calls Try.prog 29 #[Value.slice (some ⟨pb, off + x.1 * m, none⟩) (min m (l.length - x.1 * m)) (min m (l.length - x.1 * m)), .string ⟨#[]⟩] W' (Gives (.string (cat (part m l x.1))) W')) := fun W' hW' => by
      have h1 := HS.out.below hW' (Nat.le_refl _)
      rw [hAe] at h1
      refine join_any _ _ (by rw [part_length]; omega) ?_ W' (h1.part x.1 x.2 (by omega))
      show _ ≤ _
      rw [cat_size L _ (fun y hy => HLL.out y (part_mem hy)), part_length]
      have : min m (l.length - x.1 * m) * L ≤ 2000 * 1000 := Nat.mul_le_mul (by omega) hL
      omega
    obtain ⟨t, ht⟩ : ∃ t, t = cat (part m l x.1) := ⟨_, rfl⟩
    rw [← ht] at HJ
    have HT := hid ht
    obtain ⟨q, hq⟩ : ∃ q, q = min m (l.length - x.1 * m) := ⟨_, rfl⟩
    rw [← hq] at HJ ⊢
    obtain ⟨o, ho⟩ : ∃ o, o = off + x.1 * m := ⟨_, rfl⟩
    rw [← ho] at HJ ⊢
    clear hq ho ht hAe
    gi_wp2_with fail
    have hbd := hB.drew
    have hcd : W.drew.cell? ⟨w.heap.size + 1, 0, none⟩ = some v := hc
    refine wpIn_region_any (by kernel_rfl) ?_
    change wpAnyIn _ _ _ _ _ _ _ _ _ (World.drew _)
    refine wpAnyIn_ready (rs := [0, 1]) (by kernel_rfl) (by simp) ?_
    refine AllReadyIn.cons rfl (fun K hK => ?_) ?_
    · go_simp
      refine hK _ _ ?_
      clear hK K
      refine wpAnyIn_ready (rs := [1]) (by kernel_rfl) (by simp) ?_
      refine AllReadyIn.cons rfl (fun K hK => ?_) AllReadyIn.nil
      go_simp
      refine hK _ _ ?_
      clear hK K
      refine wpAnyIn_ready (rs := [2]) (by kernel_rfl) (by simp) ?_
      refine AllReadyIn.cons rfl (fun K hK => ?_) AllReadyIn.nil
      go_simp
      gi_wp2_with (refine ⟨trivial, ?_⟩; gi_at_call 29; refine (CallsIn.inRound lo (callsIn_wide.2 (HJ _ hbd).out)).mono ?_; rintro e wj ⟨rfl, hbj⟩; have hvj : Boxed wj (w.heap.size + 1) 22 v := (hbj.block _ hv.lt).trans hv; have hcj := hvj.cell; have hcja := (hvj.alloc (.cells #[.string t] 9)).cell; have hzj : W.heap.size ≤ wj.heap.size := hbj.size; have HBJ := hid hbj; clear hbj)
      refine wpAnyIn_ready (rs := [3]) (by kernel_rfl) (by simp) ?_
      refine AllReadyIn.cons rfl (fun K hK => ?_) AllReadyIn.nil
      go_simp
      refine hK _ _ ?_
      clear hK K
      refine wpAnyIn_ready (rs := [4]) (by kernel_rfl) (by simp) ?_
      refine AllReadyIn.cons rfl (fun K hK => ?_) AllReadyIn.nil
      refine stepIn_append_own rfl _ _ 22 rfl w.heap.size 9 (.string ⟨#[]⟩) 1 16 Try.underlying22 strInfo rfl (by decide) v pre.length (came m l pre) rfl ((owns_below hrow HBJ.out).alloc _) ⟨wj.heap.size, 0, none⟩ 1 1 [.string t] rfl rfl (cell_one_new _ _ _) (by simp [Value.oneCell']) (by unfold maxLen; omega) (by omega) (by have := hB.size; rw [World.size_alloc]; omega) (fun v' w1 hown' hgrow => ?_)
      obtain ⟨g', cap', rfl⟩ := ownsRow_succ hown'
      obtain ⟨hv1, hv2, hr2, hk2, hb2⟩ := Boxed.appended ((HBJ.out.block _ hv.lt).trans hv) (by decide) (owns_below hrow HBJ.out) (Nat.le_trans hB.size hzj) (by omega) hown' hgrow
      have hc1 := hv1.cell
      have hf1 := hv1.frozen
      have hS1 : Boxed w1 (w.heap.size + 2) 22 (.slice A l.length cap) := (Boxed.alloc ((HBJ.out.block _ hS.lt).trans hS) _).kept hgrow (Boxed.not_row ((HBJ.out.block _ hS.lt).trans hS) (by decide) (owns_below hrow HBJ.out))
      have hM1 : Boxed w1 (w.heap.size + 3) 3 (.int .i64 m) := (Boxed.alloc ((HBJ.out.block _ hM.lt).trans hM) _).kept hgrow (Boxed.not_row ((HBJ.out.block _ hM.lt).trans hM) (by decide) (owns_below hrow HBJ.out))
      have HS1 := hid (hS1.other (show w.heap.size + 2 ≠ w.heap.size + 1 by omega) (.slice (some ⟨g', 0, none⟩) (pre.length + 1) cap'))
      have HM1 := hid (hM1.other (show w.heap.size + 3 ≠ w.heap.size + 1 by omega) (.slice (some ⟨g', 0, none⟩) (pre.length + 1) cap'))
      have HFIN := hid (And.intro hv2 (And.intro hr2 (And.intro hk2 hb2)))
      clear hv1 hv2 hr2 hk2 hb2 hS1 hM1
      refine hK _ _ ?_
      clear hK K
      refine wpAnyIn_ready (rs := [5]) (by kernel_rfl) (by simp) ?_
      refine AllReadyIn.cons rfl (fun K hK => ?_) AllReadyIn.nil
      go_simp
      refine hK _ _ ?_
      clear hK K
      refine wpAnyIn_done (by kernel_rfl) ?_ _
      gi_wp2
      exact ⟨((keeps_below HBJ.out).trans HFIN.out.2.2.1).from _, ⟨HS1.out.cell.trans hS.cell.symm, HM1.out.cell.trans hM.cell.symm⟩, ⟨⟨_, HFIN.out.1, by rw [came_snoc, ← HT.out]; simpa using HFIN.out.2.1, trivial⟩, HS1.out, HM1.out⟩, (hB.drew.trans (HBJ.out.mono hB.size)).trans HFIN.out.2.2.2⟩
    refine AllReadyIn.cons rfl (fun K hK => ?_) ?_
    · go_simp
      refine hK _ _ ?_
      clear hK K
      refine wpAnyIn_ready (rs := [0, 2]) (by kernel_rfl) (by simp) ?_
      refine AllReadyIn.cons rfl (fun K hK => ?_) ?_
      · go_simp
        refine hK _ _ ?_
        clear hK K
        refine wpAnyIn_ready (rs := [2]) (by kernel_rfl) (by simp) ?_
        refine AllReadyIn.cons rfl (fun K hK => ?_) AllReadyIn.nil
        go_simp
        gi_wp2_with (refine ⟨trivial, ?_⟩; gi_at_call 29; refine (CallsIn.inRound lo (callsIn_wide.2 (HJ _ hbd).out)).mono ?_; rintro e wj ⟨rfl, hbj⟩; have hvj : Boxed wj (w.heap.size + 1) 22 v := (hbj.block _ hv.lt).trans hv; have hcj := hvj.cell; have hcja := (hvj.alloc (.cells #[.string t] 9)).cell; have hzj : W.heap.size ≤ wj.heap.size := hbj.size; have HBJ := hid hbj; clear hbj)
        refine wpAnyIn_ready (rs := [3]) (by kernel_rfl) (by simp) ?_
        refine AllReadyIn.cons rfl (fun K hK => ?_) AllReadyIn.nil
        go_simp
        refine hK _ _ ?_
        clear hK K
        refine wpAnyIn_ready (rs := [4]) (by kernel_rfl) (by simp) ?_
        refine AllReadyIn.cons rfl (fun K hK => ?_) AllReadyIn.nil
        refine stepIn_append_own rfl _ _ 22 rfl w.heap.size 9 (.string ⟨#[]⟩) 1 16 Try.underlying22 strInfo rfl (by decide) v pre.length (came m l pre) rfl ((owns_below hrow HBJ.out).alloc _) ⟨wj.heap.size, 0, none⟩ 1 1 [.string t] rfl rfl (cell_one_new _ _ _) (by simp [Value.oneCell']) (by unfold maxLen; omega) (by omega) (by have := hB.size; rw [World.size_alloc]; omega) (fun v' w1 hown' hgrow => ?_)
        obtain ⟨g', cap', rfl⟩ := ownsRow_succ hown'
        obtain ⟨hv1, hv2, hr2, hk2, hb2⟩ := Boxed.appended ((HBJ.out.block _ hv.lt).trans hv) (by decide) (owns_below hrow HBJ.out) (Nat.le_trans hB.size hzj) (by omega) hown' hgrow
        have hc1 := hv1.cell
        have hf1 := hv1.frozen
        have hS1 : Boxed w1 (w.heap.size + 2) 22 (.slice A l.length cap) := (Boxed.alloc ((HBJ.out.block _ hS.lt).trans hS) _).kept hgrow (Boxed.not_row ((HBJ.out.block _ hS.lt).trans hS) (by decide) (owns_below hrow HBJ.out))
        have hM1 : Boxed w1 (w.heap.size + 3) 3 (.int .i64 m) := (Boxed.alloc ((HBJ.out.block _ hM.lt).trans hM) _).kept hgrow (Boxed.not_row ((HBJ.out.block _ hM.lt).trans hM) (by decide) (owns_below hrow HBJ.out))
        have HS1 := hid (hS1.other (show w.heap.size + 2 ≠ w.heap.size + 1 by omega) (.slice (some ⟨g', 0, none⟩) (pre.length + 1) cap'))
        have HM1 := hid (hM1.other (show w.heap.size + 3 ≠ w.heap.size + 1 by omega) (.slice (some ⟨g', 0, none⟩) (pre.length + 1) cap'))
        have HFIN := hid (And.intro hv2 (And.intro hr2 (And.intro hk2 hb2)))
        clear hv1 hv2 hr2 hk2 hb2 hS1 hM1
        refine hK _ _ ?_
        clear hK K
        refine wpAnyIn_ready (rs := [5]) (by kernel_rfl) (by simp) ?_
        refine AllReadyIn.cons rfl (fun K hK => ?_) AllReadyIn.nil
        go_simp
        refine hK _ _ ?_
        clear hK K
        refine wpAnyIn_done (by kernel_rfl) ?_ _
        gi_wp2
        exact ⟨((keeps_below HBJ.out).trans HFIN.out.2.2.1).from _, ⟨HS1.out.cell.trans hS.cell.symm, HM1.out.cell.trans hM.cell.symm⟩, ⟨⟨_, HFIN.out.1, by rw [came_snoc, ← HT.out]; simpa using HFIN.out.2.1, trivial⟩, HS1.out, HM1.out⟩, (hB.drew.trans (HBJ.out.mono hB.size)).trans HFIN.out.2.2.2⟩
      refine AllReadyIn.cons rfl (fun K hK => ?_) ?_
      · go_simp
        gi_wp2_with (refine ⟨trivial, ?_⟩; gi_at_call 29; refine (CallsIn.inRound lo (callsIn_wide.2 (HJ _ hbd).out)).mono ?_; rintro e wj ⟨rfl, hbj⟩; have hvj : Boxed wj (w.heap.size + 1) 22 v := (hbj.block _ hv.lt).trans hv; have hcj := hvj.cell; have hcja := (hvj.alloc (.cells #[.string t] 9)).cell; have hzj : W.heap.size ≤ wj.heap.size := hbj.size; have HBJ := hid hbj; clear hbj)
        refine wpAnyIn_ready (rs := [0, 3]) (by kernel_rfl) (by simp) ?_
        refine AllReadyIn.cons rfl (fun K hK => ?_) ?_
        · go_simp
          refine hK _ _ ?_
          clear hK K
          refine wpAnyIn_ready (rs := [3]) (by kernel_rfl) (by simp) ?_
          refine AllReadyIn.cons rfl (fun K hK => ?_) AllReadyIn.nil
          go_simp
          refine hK _ _ ?_
          clear hK K
          refine wpAnyIn_ready (rs := [4]) (by kernel_rfl) (by simp) ?_
          refine AllReadyIn.cons rfl (fun K hK => ?_) AllReadyIn.nil
          refine stepIn_append_own rfl _ _ 22 rfl w.heap.size 9 (.string ⟨#[]⟩) 1 16 Try.underlying22 strInfo rfl (by decide) v pre.length (came m l pre) rfl ((owns_below hrow HBJ.out).alloc _) ⟨wj.heap.size, 0, none⟩ 1 1 [.string t] rfl rfl (cell_one_new _ _ _) (by simp [Value.oneCell']) (by unfold maxLen; omega) (by omega) (by have := hB.size; rw [World.size_alloc]; omega) (fun v' w1 hown' hgrow => ?_)
          obtain ⟨g', cap', rfl⟩ := ownsRow_succ hown'
          obtain ⟨hv1, hv2, hr2, hk2, hb2⟩ := Boxed.appended ((HBJ.out.block _ hv.lt).trans hv) (by decide) (owns_below hrow HBJ.out) (Nat.le_trans hB.size hzj) (by omega) hown' hgrow
          have hc1 := hv1.cell
          have hf1 := hv1.frozen
          have hS1 : Boxed w1 (w.heap.size + 2) 22 (.slice A l.length cap) := (Boxed.alloc ((HBJ.out.block _ hS.lt).trans hS) _).kept hgrow (Boxed.not_row ((HBJ.out.block _ hS.lt).trans hS) (by decide) (owns_below hrow HBJ.out))
          have hM1 : Boxed w1 (w.heap.size + 3) 3 (.int .i64 m) := (Boxed.alloc ((HBJ.out.block _ hM.lt).trans hM) _).kept hgrow (Boxed.not_row ((HBJ.out.block _ hM.lt).trans hM) (by decide) (owns_below hrow HBJ.out))
          have HS1 := hid (hS1.other (show w.heap.size + 2 ≠ w.heap.size + 1 by omega) (.slice (some ⟨g', 0, none⟩) (pre.length + 1) cap'))
          have HM1 := hid (hM1.other (show w.heap.size + 3 ≠ w.heap.size + 1 by omega) (.slice (some ⟨g', 0, none⟩) (pre.length + 1) cap'))
          have HFIN := hid (And.intro hv2 (And.intro hr2 (And.intro hk2 hb2)))
          clear hv1 hv2 hr2 hk2 hb2 hS1 hM1
          refine hK _ _ ?_
          clear hK K
          refine wpAnyIn_ready (rs := [5]) (by kernel_rfl) (by simp) ?_
          refine AllReadyIn.cons rfl (fun K hK => ?_) AllReadyIn.nil
          go_simp
          refine hK _ _ ?_
          clear hK K
          refine wpAnyIn_done (by kernel_rfl) ?_ _
          gi_wp2
          exact ⟨((keeps_below HBJ.out).trans HFIN.out.2.2.1).from _, ⟨HS1.out.cell.trans hS.cell.symm, HM1.out.cell.trans hM.cell.symm⟩, ⟨⟨_, HFIN.out.1, by rw [came_snoc, ← HT.out]; simpa using HFIN.out.2.1, trivial⟩, HS1.out, HM1.out⟩, (hB.drew.trans (HBJ.out.mono hB.size)).trans HFIN.out.2.2.2⟩
        refine AllReadyIn.cons rfl (fun K hK => ?_) ?_
        · go_simp
          refine hK _ _ ?_
          clear hK K
          refine wpAnyIn_ready (rs := [0]) (by kernel_rfl) (by simp) ?_
          refine AllReadyIn.cons rfl (fun K hK => ?_) AllReadyIn.nil
          go_simp
          refine hK _ _ ?_
          clear hK K
          refine wpAnyIn_ready (rs := [4]) (by kernel_rfl) (by simp) ?_
          refine AllReadyIn.cons rfl (fun K hK => ?_) AllReadyIn.nil
          refine stepIn_append_own rfl _ _ 22 rfl w.heap.size 9 (.string ⟨#[]⟩) 1 16 Try.underlying22 strInfo rfl (by decide) v pre.length (came m l pre) rfl ((owns_below hrow HBJ.out).alloc _) ⟨wj.heap.size, 0, none⟩ 1 1 [.string t] rfl rfl (cell_one_new _ _ _) (by simp [Value.oneCell']) (by unfold maxLen; omega) (by omega) (by have := hB.size; rw [World.size_alloc]; omega) (fun v' w1 hown' hgrow => ?_)
          obtain ⟨g', cap', rfl⟩ := ownsRow_succ hown'
          obtain ⟨hv1, hv2, hr2, hk2, hb2⟩ := Boxed.appended ((HBJ.out.block _ hv.lt).trans hv) (by decide) (owns_below hrow HBJ.out) (Nat.le_trans hB.size hzj) (by omega) hown' hgrow
          have hc1 := hv1.cell
          have hf1 := hv1.frozen
          have hS1 : Boxed w1 (w.heap.size + 2) 22 (.slice A l.length cap) := (Boxed.alloc ((HBJ.out.block _ hS.lt).trans hS) _).kept hgrow (Boxed.not_row ((HBJ.out.block _ hS.lt).trans hS) (by decide) (owns_below hrow HBJ.out))
          have hM1 : Boxed w1 (w.heap.size + 3) 3 (.int .i64 m) := (Boxed.alloc ((HBJ.out.block _ hM.lt).trans hM) _).kept hgrow (Boxed.not_row ((HBJ.out.block _ hM.lt).trans hM) (by decide) (owns_below hrow HBJ.out))
          have HS1 := hid (hS1.other (show w.heap.size + 2 ≠ w.heap.size + 1 by omega) (.slice (some ⟨g', 0, none⟩) (pre.length + 1) cap'))
          have HM1 := hid (hM1.other (show w.heap.size + 3 ≠ w.heap.size + 1 by omega) (.slice (some ⟨g', 0, none⟩) (pre.length + 1) cap'))
          have HFIN := hid (And.intro hv2 (And.intro hr2 (And.intro hk2 hb2)))
          clear hv1 hv2 hr2 hk2 hb2 hS1 hM1
          refine hK _ _ ?_
          clear hK K
          refine wpAnyIn_ready (rs := [5]) (by kernel_rfl) (by simp) ?_
          refine AllReadyIn.cons rfl (fun K hK => ?_) AllReadyIn.nil
          go_simp
          refine hK _ _ ?_
          clear hK K
          refine wpAnyIn_done (by kernel_rfl) ?_ _
          gi_wp2
          exact ⟨((keeps_below HBJ.out).trans HFIN.out.2.2.1).from _, ⟨HS1.out.cell.trans hS.cell.symm, HM1.out.cell.trans hM.cell.symm⟩, ⟨⟨_, HFIN.out.1, by rw [came_snoc, ← HT.out]; simpa using HFIN.out.2.1, trivial⟩, HS1.out, HM1.out⟩, (hB.drew.trans (HBJ.out.mono hB.size)).trans HFIN.out.2.2.2⟩
        exact AllReadyIn.nil
      exact AllReadyIn.nil
    exact AllReadyIn.nil
  case done =>
    rintro D ys W hD hys ⟨⟨⟨v, hv, hrow, _⟩, hS, hM⟩, hB⟩ hK
    have hc := hv.cell
    have hw : (W.putObj D (.deferred none)).ownsRow w.heap.size 9 1 v ys.length ((blocks m l).map .string) := by
      rw [← came_all m l ys hys]; exact ownsRow_putObj hrow _ hK rfl
    have HW := hid hw
    have HBB := hid (hB.trans (belowK_b (w := w) (Nat.le_refl _) W D _ (.deferred none) (by rw [HZ4.out] at hD; omega) hK rfl rfl))
    clear hw hrow
    gi_wp2
    refine ⟨by simp, .inl ⟨_, _, rfl, run_takeDeferred hK, ?_⟩⟩
    refine ⟨.tuple #[v, .int .i64 0], ?_, v, rfl, StrsAt.of_owns HW.out, HBB.out⟩
    simp [results, Try.f12, go_sem]
  case stop =>
    rintro D c pre W _ _ h _
    exact h.elim
end Go.Proofs.Ytllbjabnoicdfaa
