import Derived.Test.YtklbckonlbpbgabSpnT1
import Derived.Test.YtklbckonlbpbgabDevH
import Derived.RegionTactic
import Derived.BigRegion
/-! The parts of a record, one call after the other. -/
namespace Go.Proofs.Ytklbckonlbpbgab
open Go.Lib Go.ChangeShapes Go.WideShapes Go.ChangeAt Go.RowKit
set_option linter.unusedVariables false

/-- what the function that is called until nothing is left has in memory -/
structure PB (w : World) (g : Nat) (room most : Int) (r : ByteArray) (before over : Bool) : Prop where
  room : Row w g 3 [.int .i64 room]
  left : Row w (g + 1) 9 [.string r]
  before : Row w (g + 2) 4 [.bool before]
  over : Row w (g + 3) 4 [.bool over]
  most : Row w (g + 4) 3 [.int .i64 most]
def partsFn (g : Nat) : Value := .func (.func 48) #[] #[.pointer (some ⟨g + 3, 0, none⟩), .pointer (some ⟨g + 4, 0, none⟩), .pointer (some ⟨g + 2, 0, none⟩), .pointer (some ⟨g, 0, none⟩), .pointer (some ⟨g + 1, 0, none⟩)]
theorem PB.upd {F : Nat → Prop} {w w' : World} {g : Nat} {room most : Int} {r : ByteArray} {before over : Bool} (h : PB w g room most r before over) (hu : Upds F w w') (hF : ∀ k, g ≤ k → k < g + 5 → ¬ F k) : PB w' g room most r before over :=
  ⟨h.room.upd hu (hF _ (by omega) (by omega)), h.left.upd hu (hF _ (by omega) (by omega)), h.before.upd hu (hF _ (by omega) (by omega)), h.over.upd hu (hF _ (by omega) (by omega)), h.most.upd hu (hF _ (by omega) (by omega))⟩
theorem PB.below {w w' : World} {g : Nat} {room most : Int} {r : ByteArray} {before over : Bool} (h : PB w g room most r before over) (hb : Below w.heap.size w w') : PB w' g room most r before over :=
  h.upd (F := fun _ => False) (Upds.of_below hb (Nat.le_refl _)) (fun _ _ _ h => h)
theorem PB.lt {w : World} {g : Nat} {room most : Int} {r : ByteArray} {before over : Bool} (h : PB w g room most r before over) : g + 4 < w.heap.size := h.most.lt
set_option maxRecDepth 100000 in
set_option maxHeartbeats 400000 in
theorem parts_any (b : Nat) (hb : b ≤ 1024) (room : Int) (r : ByteArray) (w : World) :
    Calls Try.prog 41 #[.int .i64 b, .int .i64 room, .string r] w (fun e w' => e = .returned (partsFn w.heap.size) ∧ PB w' w.heap.size room ((b : Int) - 8) r false false ∧ Below w.heap.size w w') := by
  go_enter Try.func41, Try.ntmps41
  go_wp2_with fail
  go_ret
  have e1 := Row.new w [.int .i64 room] 3
  have e2 := Row.new (w.alloc (.cells #[.int .i64 room] 3)) [.string r] 9
  have e3 := Row.new ((w.alloc (.cells #[.int .i64 room] 3)).alloc (.cells #[.string r] 9)) [.bool false] 4
  have e4 := Row.new (((w.alloc (.cells #[.int .i64 room] 3)).alloc (.cells #[.string r] 9)).alloc (.cells #[.bool false] 4)) [.bool false] 4
  have e5 := Row.new ((((w.alloc (.cells #[.int .i64 room] 3)).alloc (.cells #[.string r] 9)).alloc (.cells #[.bool false] 4)).alloc (.cells #[.bool false] 4)) [.int .i64 ((b : Int) - 8)] 3
  simp only [World.size_alloc] at e2 e3 e4 e5
  have al : ∀ (W : World) (o : Obj), Upds (fun _ => False) W (W.alloc o) := fun W o => Upds.alloc W o
  refine ⟨rfl, ⟨?_, ?_, ?_, ?_, ?_⟩, ?_⟩
  · exact (((e1.upd (al _ _) (fun h => h)).upd (al _ _) (fun h => h)).upd (al _ _) (fun h => h)).upd (al _ _) (fun h => h)
  · exact ((e2.upd (al _ _) (fun h => h)).upd (al _ _) (fun h => h)).upd (al _ _) (fun h => h)
  · exact (e3.upd (al _ _) (fun h => h)).upd (al _ _) (fun h => h)
  · exact e4.upd (al _ _) (fun h => h)
  · exact e5
  · exact (((((Below.refl _ _).alloc (Nat.le_refl _) _).alloc (by simp) _).alloc (by simp; omega) _).alloc (by simp; omega) _).alloc (by simp; omega) _
/-- the turn of the five cells -/
def PBown (g k : Nat) : Prop := g ≤ k ∧ k < g + 5
set_option maxRecDepth 100000 in
set_option maxHeartbeats 2000000 in
theorem parts1_over (g : Nat) (room most : Int) (r : ByteArray) (before : Bool) (w : World) (h : PB w g room most r before true) :
    Calls Try.prog 48 #[.pointer (some ⟨g + 3, 0, none⟩), .pointer (some ⟨g + 4, 0, none⟩), .pointer (some ⟨g + 2, 0, none⟩), .pointer (some ⟨g, 0, none⟩), .pointer (some ⟨g + 1, 0, none⟩)] w (Gives (.tuple #[Seg.val ⟨false, false, ⟨#[]⟩⟩, .bool false]) w) := by
  obtain ⟨w1, hw1⟩ : ∃ q, q = w.alloc (.cells #[.bool false, .bool false, .string ⟨#[]⟩] 36) := ⟨_, rfl⟩
  have HW1 : Hid (w.alloc (.cells #[.bool false, .bool false, .string ⟨#[]⟩] 36) = w1) := hid hw1.symm
  have hb1 : Below w.heap.size w w1 := by rw [hw1]; exact (Below.refl _ _).alloc (Nat.le_refl _) _
  have hr1 : Row w1 w.heap.size 36 [.bool false, .bool false, .string ⟨#[]⟩] := by rw [hw1]; exact Row.new w [.bool false, .bool false, .string ⟨#[]⟩] _
  have hp1 := h.below hb1
  have s0 := hr1.cell (i := 0) rfl
  have s1 := hr1.cell (i := 1) rfl
  have s2 := hr1.cell (i := 2) rfl
  have t0 := hr1.frozen 0
  have t1 := hr1.frozen 1
  have t2 := hr1.frozen 2
  have HB1 := hid hb1
  have HR1 := hid hr1
  clear hb1 hr1
  have c3 := hp1.over.cell (i := 0) rfl
  clear h hp1 hw1
  go_enter Try.func48, Try.ntmps48
  go_upto_region 1 with fail
  rw [HW1.out]
  go_wp2_with fail
  have hr5 := ((HR1.out.set 0 (.bool false)).set 1 (.bool false)).set 2 (.string ⟨#[]⟩)
  have u1 : Upds (fun k => k = w.heap.size) w1 (w1.setCell ⟨w.heap.size, 0, none⟩ (.bool false)) := Upds.set _ _ _ rfl
  have u2 : Upds (fun k => k = w.heap.size) (w1.setCell ⟨w.heap.size, 0, none⟩ (.bool false)) ((w1.setCell ⟨w.heap.size, 0, none⟩ (.bool false)).setCell ⟨w.heap.size, 1, none⟩ (.bool false)) := Upds.set _ _ _ rfl
  have u3 : Upds (fun k => k = w.heap.size) ((w1.setCell ⟨w.heap.size, 0, none⟩ (.bool false)).setCell ⟨w.heap.size, 1, none⟩ (.bool false)) (((w1.setCell ⟨w.heap.size, 0, none⟩ (.bool false)).setCell ⟨w.heap.size, 1, none⟩ (.bool false)).setCell ⟨w.heap.size, 2, none⟩ (.string ⟨#[]⟩)) := Upds.set _ _ _ rfl
  have q0 := hr5.cell (i := 0) rfl
  have q1 := hr5.cell (i := 1) rfl
  have q2 := hr5.cell (i := 2) rfl
  have hb5 := HB1.out.trans (((u1.trans u2).trans u3).below HB1.out.size (fun k hk => by omega))
  refine bodyPost_ret (v := .tuple #[.agg #[.bool false, .bool false, .string ⟨#[]⟩], .bool false]) ?_ rfl ⟨rfl, hb5⟩
  simp [results, Try.results48, go_sem, q0, q1, q2]
theorem Row.other {w : World} {b k i : Nat} {t : TypeId} {cur : List Value} {v : Value} (h : Row w b t cur) (hk : b ≠ k) : Row (w.setCell ⟨k, i, none⟩ v) b t cur :=
  h.upd (F := fun x => x = k) (Upds.set _ _ _ rfl) (fun e => hk e)
theorem Row.drew' {w : World} {b : Nat} {t : TypeId} {cur : List Value} (h : Row w b t cur) : Row w.drew b t cur := h.upd (F := fun _ => False) (Upds.drew w) (fun h => h)
theorem PB.store {w : World} {g : Nat} {room most : Int} {r : ByteArray} {before over : Bool} (h : PB w g room most r before over) (y : ByteArray) (o : Bool) :
    PB (((w.setCell ⟨g + 1, 0, none⟩ (.string y)).setCell ⟨g + 2, 0, none⟩ (.bool true)).setCell ⟨g + 3, 0, none⟩ (.bool o)).drew g room most y true o ∧
      Upds (PBown g) w (((w.setCell ⟨g + 1, 0, none⟩ (.string y)).setCell ⟨g + 2, 0, none⟩ (.bool true)).setCell ⟨g + 3, 0, none⟩ (.bool o)).drew := by
  refine ⟨⟨?_, ?_, ?_, ?_, ?_⟩, ?_⟩
  · exact (((h.room.other (by omega)).other (by omega)).other (by omega)).drew'
  · exact (((h.left.set 0 (.string y)).other (by omega)).other (by omega)).drew'
  · exact (((h.before.other (by omega)).set 0 (.bool true)).other (by omega)).drew'
  · exact (((h.over.other (by omega)).other (by omega)).set 0 (.bool o)).drew'
  · exact (((h.most.other (by omega)).other (by omega)).other (by omega)).drew'
  · refine ((Upds.set (F := PBown g) _ _ _ ⟨by show g ≤ g + 1; omega, by show g + 1 < g + 5; omega⟩).trans (Upds.set (F := PBown g) _ _ _ ⟨by show g ≤ g + 2; omega, by show g + 2 < g + 5; omega⟩)).trans ((Upds.set (F := PBown g) _ _ _ ⟨by show g ≤ g + 3; omega, by show g + 3 < g + 5; omega⟩).trans (Upds.drew _))
set_option maxRecDepth 100000 in
set_option maxHeartbeats 2000000 in
theorem parts1_aMore (g n : Nat) (room : Int) (most : Nat) (r : ByteArray) (w : World) (h : PB w g room most r false false) (hr : (4 : Int) < room) (hn : room - 4 = (n : Int)) (hnr : n < r.size) (hrs : r.size ≤ 100000) (hnb : n ≤ 100000) :
    Calls Try.prog 48 #[.pointer (some ⟨g + 3, 0, none⟩), .pointer (some ⟨g + 4, 0, none⟩), .pointer (some ⟨g + 2, 0, none⟩), .pointer (some ⟨g, 0, none⟩), .pointer (some ⟨g + 1, 0, none⟩)] w
      (fun e w' => e = .returned (.tuple #[Seg.val ⟨false, true, r.extract 0 n⟩, .bool true]) ∧ PB w' g room most (r.extract n r.size) true false ∧ Upds (PBown g) w w') := by
  have S1 := fun W => sl_to r (n : Int) n rfl (by omega) W
  have S2 := fun W => sl_from r (n : Int) n rfl (by omega) W
  obtain ⟨x, hx⟩ : ∃ x, x = r.extract 0 n := ⟨_, rfl⟩
  obtain ⟨y, hy⟩ : ∃ y, y = r.extract n r.size := ⟨_, rfl⟩
  rw [← hx] at S1 ⊢
  rw [← hy] at S2 ⊢
  obtain ⟨w1, hw1⟩ : ∃ q, q = w.alloc (.cells #[.bool false, .bool false, .string ⟨#[]⟩] 36) := ⟨_, rfl⟩
  have HW1 : Hid (w.alloc (.cells #[.bool false, .bool false, .string ⟨#[]⟩] 36) = w1) := hid hw1.symm
  have hb1 : Below w.heap.size w w1 := by rw [hw1]; exact (Below.refl _ _).alloc (Nat.le_refl _) _
  have hr1 : Row w1 w.heap.size 36 [.bool false, .bool false, .string ⟨#[]⟩] := by rw [hw1]; exact Row.new w [.bool false, .bool false, .string ⟨#[]⟩] _
  have hp1 := h.below hb1
  have s0 := hr1.cell (i := 0) rfl
  have s1 := hr1.cell (i := 1) rfl
  have s2 := hr1.cell (i := 2) rfl
  have t0 := hr1.frozen 0
  have t1 := hr1.frozen 1
  have t2 := hr1.frozen 2
  have HB1 := hid hb1
  have HR1 := hid hr1
  clear hb1 hr1
  have c0 := hp1.room.cell (i := 0) rfl
  have c1 := hp1.left.cell (i := 0) rfl
  have c2 := hp1.before.cell (i := 0) rfl
  have c3 := hp1.over.cell (i := 0) rfl
  have c4 := hp1.most.cell (i := 0) rfl
  have f1 := hp1.left.frozen 0
  have f2 := hp1.before.frozen 0
  have f3 := hp1.over.frozen 0
  have hgl : g + 4 < w.heap.size := h.lt
  have HGL := hid hgl
  have HZ1 : Hid (w1.heap.size = w.heap.size + 1) := hid (by rw [hw1, World.size_alloc])
  have HP := hid hp1
  have HU1 : Hid (Upds (PBown g) w w1) := hid (by rw [hw1]; exact Upds.alloc _ _)
  clear h hx hy hp1 hw1 hgl
  have hlt : (n : Int) < (r.size : Int) := by omega
  go_enter Try.func48, Try.ntmps48
  go_upto_region 1 with fail
  rw [HW1.out]
  go_upto_region 7 with fail
  have HPA := hid ((HP.out.below ((Below.refl _ _).alloc (Nat.le_refl _) (.cells #[.bool false, .bool false, .string ⟨#[]⟩] 36))).below (below_drew _))
  have d1 := HPA.out.left.cell (i := 0) rfl
  have d2 := HPA.out.before.cell (i := 0) rfl
  go_region
  clear d1 d2
  have hr2 := Row.new w1 [.bool false, .bool true, .string x] 36
  have hb2 : Below w1.heap.size w1 (w1.alloc (.cells #[.bool false, .bool true, .string x] 36)).drew := ((Below.refl _ _).alloc (Nat.le_refl _) _).trans ((below_drew _).mono (by simp))
  have hu2 : Upds (PBown g) w1 (w1.alloc (.cells #[.bool false, .bool true, .string x] 36)).drew := (Upds.alloc _ _).trans (Upds.drew _)
  obtain ⟨w2, hw2⟩ : ∃ w2, w2 = (w1.alloc (.cells #[.bool false, .bool true, .string x] 36)).drew := ⟨_, rfl⟩
  have hr2' : Row w2 w1.heap.size 36 [.bool false, .bool true, .string x] := by rw [hw2]; exact hr2
  rw [← hw2] at hb2 hu2 ⊢
  have hp2 := HP.out.below hb2
  have HP2 := hid hp2
  have HR2 := hid hr2'
  have HU2 := hid (HU1.out.trans hu2)
  have HR1B := hid (HR1.out.upd (F := fun _ => False) (Upds.of_below hb2 (Nat.le_refl _)) (fun h => h))
  have x1 := hp2.left.cell (i := 0) rfl
  have x2 := hp2.before.cell (i := 0) rfl
  have x3 := hp2.over.cell (i := 0) rfl
  have d1 := hp2.left.frozen 0
  have d2 := hp2.before.frozen 0
  have d3 := hp2.over.frozen 0
  have e0 := hr2'.cell (i := 0) rfl
  have e1 := hr2'.cell (i := 1) rfl
  have e2 := hr2'.cell (i := 2) rfl
  clear hr2 hr2' hb2 hu2 hw2 hp2 c0 c1 c2 c3 c4 f1 f2 f3 s0 s1 s2 t0 t1 t2 HPA
  go_upto_region 8 with fail
  go_region
  obtain ⟨hp3, hu3⟩ := HP2.out.store y false
  have hr3 : Row (((w2.setCell ⟨g + 1, 0, none⟩ (.string y)).setCell ⟨g + 2, 0, none⟩ (.bool true)).setCell ⟨g + 3, 0, none⟩ (.bool false)).drew w1.heap.size 36 [.bool false, .bool true, .string x] := (((HR2.out.other (by have := HGL.out; have := HZ1.out; omega)).other (by have := HGL.out; have := HZ1.out; omega)).other (by have := HGL.out; have := HZ1.out; omega)).drew'
  have hr4 : Row (((w2.setCell ⟨g + 1, 0, none⟩ (.string y)).setCell ⟨g + 2, 0, none⟩ (.bool true)).setCell ⟨g + 3, 0, none⟩ (.bool false)).drew w.heap.size 36 [.bool false, .bool false, .string ⟨#[]⟩] := (((HR1B.out.other (by have := HGL.out; omega)).other (by have := HGL.out; omega)).other (by have := HGL.out; omega)).drew'
  obtain ⟨w3, hw3⟩ : ∃ w3, w3 = (((w2.setCell ⟨g + 1, 0, none⟩ (.string y)).setCell ⟨g + 2, 0, none⟩ (.bool true)).setCell ⟨g + 3, 0, none⟩ (.bool false)).drew := ⟨_, rfl⟩
  rw [← hw3] at hp3 hu3 hr3 hr4 ⊢
  have HP3 := hid hp3
  have HU3 := hid (HU2.out.trans hu3)
  have HR4 := hid hr4
  have e0 := hr3.cell (i := 0) rfl
  have e1 := hr3.cell (i := 1) rfl
  have e2 := hr3.cell (i := 2) rfl
  have s0 := hr4.cell (i := 0) rfl
  have s1 := hr4.cell (i := 1) rfl
  have s2 := hr4.cell (i := 2) rfl
  have t0 := hr4.frozen 0
  have t1 := hr4.frozen 1
  have t2 := hr4.frozen 2
  clear hp3 hu3 hr3 hr4 hw3 d1 d2 d3 x1 x2 x3
  go_wp2_with fail
  have hr5 := ((HR4.out.set 0 (.bool false)).set 1 (.bool true)).set 2 (.string x)
  have hne : ∀ k, PBown g k → k ≠ w.heap.size := fun k hk e => by have := HGL.out; have := hk.2; omega
  have u1 : Upds (fun k => k = w.heap.size) w3 (w3.setCell ⟨w.heap.size, 0, none⟩ (.bool false)) := Upds.set _ _ _ rfl
  have u2 : Upds (fun k => k = w.heap.size) (w3.setCell ⟨w.heap.size, 0, none⟩ (.bool false)) ((w3.setCell ⟨w.heap.size, 0, none⟩ (.bool false)).setCell ⟨w.heap.size, 1, none⟩ (.bool true)) := Upds.set _ _ _ rfl
  have u3 : Upds (fun k => k = w.heap.size) ((w3.setCell ⟨w.heap.size, 0, none⟩ (.bool false)).setCell ⟨w.heap.size, 1, none⟩ (.bool true)) (((w3.setCell ⟨w.heap.size, 0, none⟩ (.bool false)).setCell ⟨w.heap.size, 1, none⟩ (.bool true)).setCell ⟨w.heap.size, 2, none⟩ (.string x)) := Upds.set _ _ _ rfl
  have hu5 := (u1.trans u2).trans u3
  have q0 := hr5.cell (i := 0) rfl
  have q1 := hr5.cell (i := 1) rfl
  have q2 := hr5.cell (i := 2) rfl
  have hp5 := HP3.out.upd hu5 (fun k h1 h2 => hne k ⟨h1, h2⟩)
  have hu6 : Upds (PBown g) w (((w3.setCell ⟨w.heap.size, 0, none⟩ (.bool false)).setCell ⟨w.heap.size, 1, none⟩ (.bool true)).setCell ⟨w.heap.size, 2, none⟩ (.string x)) := HU3.out.trans' hu5 (fun k hk e => by omega)
  refine bodyPost_ret (v := .tuple #[.agg #[.bool false, .bool true, .string x], .bool true]) ?_ rfl ⟨rfl, hp5, hu6⟩
  simp [results, Try.results48, go_sem, q0, q1, q2]
set_option maxRecDepth 100000 in
set_option maxHeartbeats 2000000 in
theorem parts1_aLast (g n : Nat) (room : Int) (most : Nat) (r : ByteArray) (w : World) (h : PB w g room most r false false) (hr : (4 : Int) < room) (hn : room - 4 = (n : Int)) (hnr : r.size ≤ n) (hrs : r.size ≤ 100000) (hnb : n ≤ 100000) :
    Calls Try.prog 48 #[.pointer (some ⟨g + 3, 0, none⟩), .pointer (some ⟨g + 4, 0, none⟩), .pointer (some ⟨g + 2, 0, none⟩), .pointer (some ⟨g, 0, none⟩), .pointer (some ⟨g + 1, 0, none⟩)] w
      (fun e w' => e = .returned (.tuple #[Seg.val ⟨false, false, r⟩, .bool true]) ∧ PB w' g room most (⟨#[]⟩) true true ∧ Upds (PBown g) w w') := by
  have S1 := fun W => sl_to r (r.size : Int) r.size rfl (Nat.le_refl _) W
  have S2 := fun W => sl_from r (r.size : Int) r.size rfl (Nat.le_refl _) W
  rw [show r.extract 0 r.size = r by apply ByteArray.ext; simp] at S1
  rw [show r.extract r.size r.size = ⟨#[]⟩ from empty_of (by rw [ByteArray.size_extract]; omega)] at S2
  obtain ⟨w1, hw1⟩ : ∃ q, q = w.alloc (.cells #[.bool false, .bool false, .string ⟨#[]⟩] 36) := ⟨_, rfl⟩
  have HW1 : Hid (w.alloc (.cells #[.bool false, .bool false, .string ⟨#[]⟩] 36) = w1) := hid hw1.symm
  have hb1 : Below w.heap.size w w1 := by rw [hw1]; exact (Below.refl _ _).alloc (Nat.le_refl _) _
  have hr1 : Row w1 w.heap.size 36 [.bool false, .bool false, .string ⟨#[]⟩] := by rw [hw1]; exact Row.new w [.bool false, .bool false, .string ⟨#[]⟩] _
  have hp1 := h.below hb1
  have s0 := hr1.cell (i := 0) rfl
  have s1 := hr1.cell (i := 1) rfl
  have s2 := hr1.cell (i := 2) rfl
  have t0 := hr1.frozen 0
  have t1 := hr1.frozen 1
  have t2 := hr1.frozen 2
  have HB1 := hid hb1
  have HR1 := hid hr1
  clear hb1 hr1
  have c0 := hp1.room.cell (i := 0) rfl
  have c1 := hp1.left.cell (i := 0) rfl
  have c2 := hp1.before.cell (i := 0) rfl
  have c3 := hp1.over.cell (i := 0) rfl
  have c4 := hp1.most.cell (i := 0) rfl
  have f1 := hp1.left.frozen 0
  have f2 := hp1.before.frozen 0
  have f3 := hp1.over.frozen 0
  have hgl : g + 4 < w.heap.size := h.lt
  have HGL := hid hgl
  have HZ1 : Hid (w1.heap.size = w.heap.size + 1) := hid (by rw [hw1, World.size_alloc])
  have HP := hid hp1
  have HU1 : Hid (Upds (PBown g) w w1) := hid (by rw [hw1]; exact Upds.alloc _ _)
  clear h hp1 hw1 hgl
  rcases Nat.lt_or_eq_of_le hnr with hlt0 | heq
  · have hlt : (r.size : Int) < (n : Int) := by omega
    go_enter Try.func48, Try.ntmps48
    go_upto_region 1 with fail
    rw [HW1.out]
    go_upto_region 7 with fail
    have HPA := hid ((HP.out.below ((Below.refl _ _).alloc (Nat.le_refl _) (.cells #[.bool false, .bool false, .string ⟨#[]⟩] 36))).below (below_drew _))
    have d1 := HPA.out.left.cell (i := 0) rfl
    have d2 := HPA.out.before.cell (i := 0) rfl
    go_region
    clear d1 d2
    have hr2 := Row.new w1 [.bool false, .bool false, .string r] 36
    have hb2 : Below w1.heap.size w1 (w1.alloc (.cells #[.bool false, .bool false, .string r] 36)).drew := ((Below.refl _ _).alloc (Nat.le_refl _) _).trans ((below_drew _).mono (by simp))
    have hu2 : Upds (PBown g) w1 (w1.alloc (.cells #[.bool false, .bool false, .string r] 36)).drew := (Upds.alloc _ _).trans (Upds.drew _)
    obtain ⟨w2, hw2⟩ : ∃ w2, w2 = (w1.alloc (.cells #[.bool false, .bool false, .string r] 36)).drew := ⟨_, rfl⟩
    have hr2' : Row w2 w1.heap.size 36 [.bool false, .bool false, .string r] := by rw [hw2]; exact hr2
    rw [← hw2] at hb2 hu2 ⊢
    have hp2 := HP.out.below hb2
    have HP2 := hid hp2
    have HR2 := hid hr2'
    have HU2 := hid (HU1.out.trans hu2)
    have HR1B := hid (HR1.out.upd (F := fun _ => False) (Upds.of_below hb2 (Nat.le_refl _)) (fun h => h))
    have x1 := hp2.left.cell (i := 0) rfl
    have x2 := hp2.before.cell (i := 0) rfl
    have x3 := hp2.over.cell (i := 0) rfl
    have d1 := hp2.left.frozen 0
    have d2 := hp2.before.frozen 0
    have d3 := hp2.over.frozen 0
    have e0 := hr2'.cell (i := 0) rfl
    have e1 := hr2'.cell (i := 1) rfl
    have e2 := hr2'.cell (i := 2) rfl
    clear hr2 hr2' hb2 hu2 hw2 hp2 c0 c1 c2 c3 c4 f1 f2 f3 s0 s1 s2 t0 t1 t2 HPA
    go_upto_region 8 with fail
    go_region
    obtain ⟨hp3, hu3⟩ := HP2.out.store ⟨#[]⟩ true
    have hr3 : Row (((w2.setCell ⟨g + 1, 0, none⟩ (.string ⟨#[]⟩)).setCell ⟨g + 2, 0, none⟩ (.bool true)).setCell ⟨g + 3, 0, none⟩ (.bool true)).drew w1.heap.size 36 [.bool false, .bool false, .string r] := (((HR2.out.other (by have := HGL.out; have := HZ1.out; omega)).other (by have := HGL.out; have := HZ1.out; omega)).other (by have := HGL.out; have := HZ1.out; omega)).drew'
    have hr4 : Row (((w2.setCell ⟨g + 1, 0, none⟩ (.string ⟨#[]⟩)).setCell ⟨g + 2, 0, none⟩ (.bool true)).setCell ⟨g + 3, 0, none⟩ (.bool true)).drew w.heap.size 36 [.bool false, .bool false, .string ⟨#[]⟩] := (((HR1B.out.other (by have := HGL.out; omega)).other (by have := HGL.out; omega)).other (by have := HGL.out; omega)).drew'
    obtain ⟨w3, hw3⟩ : ∃ w3, w3 = (((w2.setCell ⟨g + 1, 0, none⟩ (.string ⟨#[]⟩)).setCell ⟨g + 2, 0, none⟩ (.bool true)).setCell ⟨g + 3, 0, none⟩ (.bool true)).drew := ⟨_, rfl⟩
    rw [← hw3] at hp3 hu3 hr3 hr4 ⊢
    have HP3 := hid hp3
    have HU3 := hid (HU2.out.trans hu3)
    have HR4 := hid hr4
    have e0 := hr3.cell (i := 0) rfl
    have e1 := hr3.cell (i := 1) rfl
    have e2 := hr3.cell (i := 2) rfl
    have s0 := hr4.cell (i := 0) rfl
    have s1 := hr4.cell (i := 1) rfl
    have s2 := hr4.cell (i := 2) rfl
    have t0 := hr4.frozen 0
    have t1 := hr4.frozen 1
    have t2 := hr4.frozen 2
    clear hp3 hu3 hr3 hr4 hw3 d1 d2 d3 x1 x2 x3
    go_wp2_with fail
    have hr5 := ((HR4.out.set 0 (.bool false)).set 1 (.bool false)).set 2 (.string r)
    have hne : ∀ k, PBown g k → k ≠ w.heap.size := fun k hk e => by have := HGL.out; have := hk.2; omega
    have u1 : Upds (fun k => k = w.heap.size) w3 (w3.setCell ⟨w.heap.size, 0, none⟩ (.bool false)) := Upds.set _ _ _ rfl
    have u2 : Upds (fun k => k = w.heap.size) (w3.setCell ⟨w.heap.size, 0, none⟩ (.bool false)) ((w3.setCell ⟨w.heap.size, 0, none⟩ (.bool false)).setCell ⟨w.heap.size, 1, none⟩ (.bool false)) := Upds.set _ _ _ rfl
    have u3 : Upds (fun k => k = w.heap.size) ((w3.setCell ⟨w.heap.size, 0, none⟩ (.bool false)).setCell ⟨w.heap.size, 1, none⟩ (.bool false)) (((w3.setCell ⟨w.heap.size, 0, none⟩ (.bool false)).setCell ⟨w.heap.size, 1, none⟩ (.bool false)).setCell ⟨w.heap.size, 2, none⟩ (.string r)) := Upds.set _ _ _ rfl
    have hu5 := (u1.trans u2).trans u3
    have q0 := hr5.cell (i := 0) rfl
    have q1 := hr5.cell (i := 1) rfl
    have q2 := hr5.cell (i := 2) rfl
    have hp5 := HP3.out.upd hu5 (fun k h1 h2 => hne k ⟨h1, h2⟩)
    have hu6 : Upds (PBown g) w (((w3.setCell ⟨w.heap.size, 0, none⟩ (.bool false)).setCell ⟨w.heap.size, 1, none⟩ (.bool false)).setCell ⟨w.heap.size, 2, none⟩ (.string r)) := HU3.out.trans' hu5 (fun k hk e => by omega)
    refine bodyPost_ret (v := .tuple #[.agg #[.bool false, .bool false, .string r], .bool true]) ?_ rfl ⟨rfl, hp5, hu6⟩
    simp [results, Try.results48, go_sem, q0, q1, q2]
  · subst heq
    go_enter Try.func48, Try.ntmps48
    go_upto_region 1 with fail
    rw [HW1.out]
    go_upto_region 7 with fail
    have HPA := hid ((HP.out.below ((Below.refl _ _).alloc (Nat.le_refl _) (.cells #[.bool false, .bool false, .string ⟨#[]⟩] 36))).below (below_drew _))
    have d1 := HPA.out.left.cell (i := 0) rfl
    have d2 := HPA.out.before.cell (i := 0) rfl
    go_region
    clear d1 d2
    have hr2 := Row.new w1 [.bool false, .bool false, .string r] 36
    have hb2 : Below w1.heap.size w1 (w1.alloc (.cells #[.bool false, .bool false, .string r] 36)).drew := ((Below.refl _ _).alloc (Nat.le_refl _) _).trans ((below_drew _).mono (by simp))
    have hu2 : Upds (PBown g) w1 (w1.alloc (.cells #[.bool false, .bool false, .string r] 36)).drew := (Upds.alloc _ _).trans (Upds.drew _)
    obtain ⟨w2, hw2⟩ : ∃ w2, w2 = (w1.alloc (.cells #[.bool false, .bool false, .string r] 36)).drew := ⟨_, rfl⟩
    have hr2' : Row w2 w1.heap.size 36 [.bool false, .bool false, .string r] := by rw [hw2]; exact hr2
    rw [← hw2] at hb2 hu2 ⊢
    have hp2 := HP.out.below hb2
    have HP2 := hid hp2
    have HR2 := hid hr2'
    have HU2 := hid (HU1.out.trans hu2)
    have HR1B := hid (HR1.out.upd (F := fun _ => False) (Upds.of_below hb2 (Nat.le_refl _)) (fun h => h))
    have x1 := hp2.left.cell (i := 0) rfl
    have x2 := hp2.before.cell (i := 0) rfl
    have x3 := hp2.over.cell (i := 0) rfl
    have d1 := hp2.left.frozen 0
    have d2 := hp2.before.frozen 0
    have d3 := hp2.over.frozen 0
    have e0 := hr2'.cell (i := 0) rfl
    have e1 := hr2'.cell (i := 1) rfl
    have e2 := hr2'.cell (i := 2) rfl
    clear hr2 hr2' hb2 hu2 hw2 hp2 c0 c1 c2 c3 c4 f1 f2 f3 s0 s1 s2 t0 t1 t2 HPA
    go_upto_region 8 with fail
    go_region
    obtain ⟨hp3, hu3⟩ := HP2.out.store ⟨#[]⟩ true
    have hr3 : Row (((w2.setCell ⟨g + 1, 0, none⟩ (.string ⟨#[]⟩)).setCell ⟨g + 2, 0, none⟩ (.bool true)).setCell ⟨g + 3, 0, none⟩ (.bool true)).drew w1.heap.size 36 [.bool false, .bool false, .string r] := (((HR2.out.other (by have := HGL.out; have := HZ1.out; omega)).other (by have := HGL.out; have := HZ1.out; omega)).other (by have := HGL.out; have := HZ1.out; omega)).drew'
    have hr4 : Row (((w2.setCell ⟨g + 1, 0, none⟩ (.string ⟨#[]⟩)).setCell ⟨g + 2, 0, none⟩ (.bool true)).setCell ⟨g + 3, 0, none⟩ (.bool true)).drew w.heap.size 36 [.bool false, .bool false, .string ⟨#[]⟩] := (((HR1B.out.other (by have := HGL.out; omega)).other (by have := HGL.out; omega)).other (by have := HGL.out; omega)).drew'
    obtain ⟨w3, hw3⟩ : ∃ w3, w3 = (((w2.setCell ⟨g + 1, 0, none⟩ (.string ⟨#[]⟩)).setCell ⟨g + 2, 0, none⟩ (.bool true)).setCell ⟨g + 3, 0, none⟩ (.bool true)).drew := ⟨_, rfl⟩
    rw [← hw3] at hp3 hu3 hr3 hr4 ⊢
    have HP3 := hid hp3
    have HU3 := hid (HU2.out.trans hu3)
    have HR4 := hid hr4
    have e0 := hr3.cell (i := 0) rfl
    have e1 := hr3.cell (i := 1) rfl
    have e2 := hr3.cell (i := 2) rfl
    have s0 := hr4.cell (i := 0) rfl
    have s1 := hr4.cell (i := 1) rfl
    have s2 := hr4.cell (i := 2) rfl
    have t0 := hr4.frozen 0
    have t1 := hr4.frozen 1
    have t2 := hr4.frozen 2
    clear hp3 hu3 hr3 hr4 hw3 d1 d2 d3 x1 x2 x3
    go_wp2_with fail
    have hr5 := ((HR4.out.set 0 (.bool false)).set 1 (.bool false)).set 2 (.string r)
    have hne : ∀ k, PBown g k → k ≠ w.heap.size := fun k hk e => by have := HGL.out; have := hk.2; omega
    have u1 : Upds (fun k => k = w.heap.size) w3 (w3.setCell ⟨w.heap.size, 0, none⟩ (.bool false)) := Upds.set _ _ _ rfl
    have u2 : Upds (fun k => k = w.heap.size) (w3.setCell ⟨w.heap.size, 0, none⟩ (.bool false)) ((w3.setCell ⟨w.heap.size, 0, none⟩ (.bool false)).setCell ⟨w.heap.size, 1, none⟩ (.bool false)) := Upds.set _ _ _ rfl
    have u3 : Upds (fun k => k = w.heap.size) ((w3.setCell ⟨w.heap.size, 0, none⟩ (.bool false)).setCell ⟨w.heap.size, 1, none⟩ (.bool false)) (((w3.setCell ⟨w.heap.size, 0, none⟩ (.bool false)).setCell ⟨w.heap.size, 1, none⟩ (.bool false)).setCell ⟨w.heap.size, 2, none⟩ (.string r)) := Upds.set _ _ _ rfl
    have hu5 := (u1.trans u2).trans u3
    have q0 := hr5.cell (i := 0) rfl
    have q1 := hr5.cell (i := 1) rfl
    have q2 := hr5.cell (i := 2) rfl
    have hp5 := HP3.out.upd hu5 (fun k h1 h2 => hne k ⟨h1, h2⟩)
    have hu6 : Upds (PBown g) w (((w3.setCell ⟨w.heap.size, 0, none⟩ (.bool false)).setCell ⟨w.heap.size, 1, none⟩ (.bool false)).setCell ⟨w.heap.size, 2, none⟩ (.string r)) := HU3.out.trans' hu5 (fun k hk e => by omega)
    refine bodyPost_ret (v := .tuple #[.agg #[.bool false, .bool false, .string r], .bool true]) ?_ rfl ⟨rfl, hp5, hu6⟩
    simp [results, Try.results48, go_sem, q0, q1, q2]
set_option maxRecDepth 100000 in
set_option maxHeartbeats 2000000 in
theorem parts1_bMore (g n : Nat) (room : Int) (most : Nat) (r : ByteArray) (w : World) (h : PB w g room most r false false) (hr : ¬ (4 : Int) < room) (hn : n = most) (hnr : n < r.size) (hrs : r.size ≤ 100000) (hnb : n ≤ 100000) :
    Calls Try.prog 48 #[.pointer (some ⟨g + 3, 0, none⟩), .pointer (some ⟨g + 4, 0, none⟩), .pointer (some ⟨g + 2, 0, none⟩), .pointer (some ⟨g, 0, none⟩), .pointer (some ⟨g + 1, 0, none⟩)] w
      (fun e w' => e = .returned (.tuple #[Seg.val ⟨false, true, r.extract 0 n⟩, .bool true]) ∧ PB w' g room most (r.extract n r.size) true false ∧ Upds (PBown g) w w') := by
  subst hn
  have S1 := fun W => sl_to r (n : Int) n rfl (by omega) W
  have S2 := fun W => sl_from r (n : Int) n rfl (by omega) W
  obtain ⟨x, hx⟩ : ∃ x, x = r.extract 0 n := ⟨_, rfl⟩
  obtain ⟨y, hy⟩ : ∃ y, y = r.extract n r.size := ⟨_, rfl⟩
  rw [← hx] at S1 ⊢
  rw [← hy] at S2 ⊢
  obtain ⟨w1, hw1⟩ : ∃ q, q = w.alloc (.cells #[.bool false, .bool false, .string ⟨#[]⟩] 36) := ⟨_, rfl⟩
  have HW1 : Hid (w.alloc (.cells #[.bool false, .bool false, .string ⟨#[]⟩] 36) = w1) := hid hw1.symm
  have hb1 : Below w.heap.size w w1 := by rw [hw1]; exact (Below.refl _ _).alloc (Nat.le_refl _) _
  have hr1 : Row w1 w.heap.size 36 [.bool false, .bool false, .string ⟨#[]⟩] := by rw [hw1]; exact Row.new w [.bool false, .bool false, .string ⟨#[]⟩] _
  have hp1 := h.below hb1
  have s0 := hr1.cell (i := 0) rfl
  have s1 := hr1.cell (i := 1) rfl
  have s2 := hr1.cell (i := 2) rfl
  have t0 := hr1.frozen 0
  have t1 := hr1.frozen 1
  have t2 := hr1.frozen 2
  have HB1 := hid hb1
  have HR1 := hid hr1
  clear hb1 hr1
  have c0 := hp1.room.cell (i := 0) rfl
  have c1 := hp1.left.cell (i := 0) rfl
  have c2 := hp1.before.cell (i := 0) rfl
  have c3 := hp1.over.cell (i := 0) rfl
  have c4 := hp1.most.cell (i := 0) rfl
  have f1 := hp1.left.frozen 0
  have f2 := hp1.before.frozen 0
  have f3 := hp1.over.frozen 0
  have hgl : g + 4 < w.heap.size := h.lt
  have HGL := hid hgl
  have HZ1 : Hid (w1.heap.size = w.heap.size + 1) := hid (by rw [hw1, World.size_alloc])
  have HP := hid hp1
  have HU1 : Hid (Upds (PBown g) w w1) := hid (by rw [hw1]; exact Upds.alloc _ _)
  clear h hx hy hp1 hw1 hgl
  have hlt : (n : Int) < (r.size : Int) := by omega
  go_enter Try.func48, Try.ntmps48
  go_upto_region 1 with fail
  rw [HW1.out]
  go_upto_region 7 with fail
  have HPA := hid ((HP.out.below ((Below.refl _ _).alloc (Nat.le_refl _) (.cells #[.bool false, .bool false, .string ⟨#[]⟩] 36))).below (below_drew _))
  have d1 := HPA.out.left.cell (i := 0) rfl
  have d2 := HPA.out.before.cell (i := 0) rfl
  go_region
  clear d1 d2
  have hr2 := Row.new w1 [.bool false, .bool true, .string x] 36
  have hb2 : Below w1.heap.size w1 (w1.alloc (.cells #[.bool false, .bool true, .string x] 36)).drew := ((Below.refl _ _).alloc (Nat.le_refl _) _).trans ((below_drew _).mono (by simp))
  have hu2 : Upds (PBown g) w1 (w1.alloc (.cells #[.bool false, .bool true, .string x] 36)).drew := (Upds.alloc _ _).trans (Upds.drew _)
  obtain ⟨w2, hw2⟩ : ∃ w2, w2 = (w1.alloc (.cells #[.bool false, .bool true, .string x] 36)).drew := ⟨_, rfl⟩
  have hr2' : Row w2 w1.heap.size 36 [.bool false, .bool true, .string x] := by rw [hw2]; exact hr2
  rw [← hw2] at hb2 hu2 ⊢
  have hp2 := HP.out.below hb2
  have HP2 := hid hp2
  have HR2 := hid hr2'
  have HU2 := hid (HU1.out.trans hu2)
  have HR1B := hid (HR1.out.upd (F := fun _ => False) (Upds.of_below hb2 (Nat.le_refl _)) (fun h => h))
  have x1 := hp2.left.cell (i := 0) rfl
  have x2 := hp2.before.cell (i := 0) rfl
  have x3 := hp2.over.cell (i := 0) rfl
  have d1 := hp2.left.frozen 0
  have d2 := hp2.before.frozen 0
  have d3 := hp2.over.frozen 0
  have e0 := hr2'.cell (i := 0) rfl
  have e1 := hr2'.cell (i := 1) rfl
  have e2 := hr2'.cell (i := 2) rfl
  clear hr2 hr2' hb2 hu2 hw2 hp2 c0 c1 c2 c3 c4 f1 f2 f3 s0 s1 s2 t0 t1 t2 HPA
  go_upto_region 8 with fail
  go_region
  obtain ⟨hp3, hu3⟩ := HP2.out.store y false
  have hr3 : Row (((w2.setCell ⟨g + 1, 0, none⟩ (.string y)).setCell ⟨g + 2, 0, none⟩ (.bool true)).setCell ⟨g + 3, 0, none⟩ (.bool false)).drew w1.heap.size 36 [.bool false, .bool true, .string x] := (((HR2.out.other (by have := HGL.out; have := HZ1.out; omega)).other (by have := HGL.out; have := HZ1.out; omega)).other (by have := HGL.out; have := HZ1.out; omega)).drew'
  have hr4 : Row (((w2.setCell ⟨g + 1, 0, none⟩ (.string y)).setCell ⟨g + 2, 0, none⟩ (.bool true)).setCell ⟨g + 3, 0, none⟩ (.bool false)).drew w.heap.size 36 [.bool false, .bool false, .string ⟨#[]⟩] := (((HR1B.out.other (by have := HGL.out; omega)).other (by have := HGL.out; omega)).other (by have := HGL.out; omega)).drew'
  obtain ⟨w3, hw3⟩ : ∃ w3, w3 = (((w2.setCell ⟨g + 1, 0, none⟩ (.string y)).setCell ⟨g + 2, 0, none⟩ (.bool true)).setCell ⟨g + 3, 0, none⟩ (.bool false)).drew := ⟨_, rfl⟩
  rw [← hw3] at hp3 hu3 hr3 hr4 ⊢
  have HP3 := hid hp3
  have HU3 := hid (HU2.out.trans hu3)
  have HR4 := hid hr4
  have e0 := hr3.cell (i := 0) rfl
  have e1 := hr3.cell (i := 1) rfl
  have e2 := hr3.cell (i := 2) rfl
  have s0 := hr4.cell (i := 0) rfl
  have s1 := hr4.cell (i := 1) rfl
  have s2 := hr4.cell (i := 2) rfl
  have t0 := hr4.frozen 0
  have t1 := hr4.frozen 1
  have t2 := hr4.frozen 2
  clear hp3 hu3 hr3 hr4 hw3 d1 d2 d3 x1 x2 x3
  go_wp2_with fail
  have hr5 := ((HR4.out.set 0 (.bool false)).set 1 (.bool true)).set 2 (.string x)
  have hne : ∀ k, PBown g k → k ≠ w.heap.size := fun k hk e => by have := HGL.out; have := hk.2; omega
  have u1 : Upds (fun k => k = w.heap.size) w3 (w3.setCell ⟨w.heap.size, 0, none⟩ (.bool false)) := Upds.set _ _ _ rfl
  have u2 : Upds (fun k => k = w.heap.size) (w3.setCell ⟨w.heap.size, 0, none⟩ (.bool false)) ((w3.setCell ⟨w.heap.size, 0, none⟩ (.bool false)).setCell ⟨w.heap.size, 1, none⟩ (.bool true)) := Upds.set _ _ _ rfl
  have u3 : Upds (fun k => k = w.heap.size) ((w3.setCell ⟨w.heap.size, 0, none⟩ (.bool false)).setCell ⟨w.heap.size, 1, none⟩ (.bool true)) (((w3.setCell ⟨w.heap.size, 0, none⟩ (.bool false)).setCell ⟨w.heap.size, 1, none⟩ (.bool true)).setCell ⟨w.heap.size, 2, none⟩ (.string x)) := Upds.set _ _ _ rfl
  have hu5 := (u1.trans u2).trans u3
  have q0 := hr5.cell (i := 0) rfl
  have q1 := hr5.cell (i := 1) rfl
  have q2 := hr5.cell (i := 2) rfl
  have hp5 := HP3.out.upd hu5 (fun k h1 h2 => hne k ⟨h1, h2⟩)
  have hu6 : Upds (PBown g) w (((w3.setCell ⟨w.heap.size, 0, none⟩ (.bool false)).setCell ⟨w.heap.size, 1, none⟩ (.bool true)).setCell ⟨w.heap.size, 2, none⟩ (.string x)) := HU3.out.trans' hu5 (fun k hk e => by omega)
  refine bodyPost_ret (v := .tuple #[.agg #[.bool false, .bool true, .string x], .bool true]) ?_ rfl ⟨rfl, hp5, hu6⟩
  simp [results, Try.results48, go_sem, q0, q1, q2]
set_option maxRecDepth 100000 in
set_option maxHeartbeats 2000000 in
theorem parts1_bLast (g n : Nat) (room : Int) (most : Nat) (r : ByteArray) (w : World) (h : PB w g room most r false false) (hr : ¬ (4 : Int) < room) (hn : n = most) (hnr : r.size ≤ n) (hrs : r.size ≤ 100000) (hnb : n ≤ 100000) :
    Calls Try.prog 48 #[.pointer (some ⟨g + 3, 0, none⟩), .pointer (some ⟨g + 4, 0, none⟩), .pointer (some ⟨g + 2, 0, none⟩), .pointer (some ⟨g, 0, none⟩), .pointer (some ⟨g + 1, 0, none⟩)] w
      (fun e w' => e = .returned (.tuple #[Seg.val ⟨false, false, r⟩, .bool true]) ∧ PB w' g room most (⟨#[]⟩) true true ∧ Upds (PBown g) w w') := by
  subst hn
  have S1 := fun W => sl_to r (r.size : Int) r.size rfl (Nat.le_refl _) W
  have S2 := fun W => sl_from r (r.size : Int) r.size rfl (Nat.le_refl _) W
  rw [show r.extract 0 r.size = r by apply ByteArray.ext; simp] at S1
  rw [show r.extract r.size r.size = ⟨#[]⟩ from empty_of (by rw [ByteArray.size_extract]; omega)] at S2
  obtain ⟨w1, hw1⟩ : ∃ q, q = w.alloc (.cells #[.bool false, .bool false, .string ⟨#[]⟩] 36) := ⟨_, rfl⟩
  have HW1 : Hid (w.alloc (.cells #[.bool false, .bool false, .string ⟨#[]⟩] 36) = w1) := hid hw1.symm
  have hb1 : Below w.heap.size w w1 := by rw [hw1]; exact (Below.refl _ _).alloc (Nat.le_refl _) _
  have hr1 : Row w1 w.heap.size 36 [.bool false, .bool false, .string ⟨#[]⟩] := by rw [hw1]; exact Row.new w [.bool false, .bool false, .string ⟨#[]⟩] _
  have hp1 := h.below hb1
  have s0 := hr1.cell (i := 0) rfl
  have s1 := hr1.cell (i := 1) rfl
  have s2 := hr1.cell (i := 2) rfl
  have t0 := hr1.frozen 0
  have t1 := hr1.frozen 1
  have t2 := hr1.frozen 2
  have HB1 := hid hb1
  have HR1 := hid hr1
  clear hb1 hr1
  have c0 := hp1.room.cell (i := 0) rfl
  have c1 := hp1.left.cell (i := 0) rfl
  have c2 := hp1.before.cell (i := 0) rfl
  have c3 := hp1.over.cell (i := 0) rfl
  have c4 := hp1.most.cell (i := 0) rfl
  have f1 := hp1.left.frozen 0
  have f2 := hp1.before.frozen 0
  have f3 := hp1.over.frozen 0
  have hgl : g + 4 < w.heap.size := h.lt
  have HGL := hid hgl
  have HZ1 : Hid (w1.heap.size = w.heap.size + 1) := hid (by rw [hw1, World.size_alloc])
  have HP := hid hp1
  have HU1 : Hid (Upds (PBown g) w w1) := hid (by rw [hw1]; exact Upds.alloc _ _)
  clear h hp1 hw1 hgl
  rcases Nat.lt_or_eq_of_le hnr with hlt0 | heq
  · have hlt : (r.size : Int) < (n : Int) := by omega
    go_enter Try.func48, Try.ntmps48
    go_upto_region 1 with fail
    rw [HW1.out]
    go_upto_region 7 with fail
    have HPA := hid ((HP.out.below ((Below.refl _ _).alloc (Nat.le_refl _) (.cells #[.bool false, .bool false, .string ⟨#[]⟩] 36))).below (below_drew _))
    have d1 := HPA.out.left.cell (i := 0) rfl
    have d2 := HPA.out.before.cell (i := 0) rfl
    go_region
    clear d1 d2
    have hr2 := Row.new w1 [.bool false, .bool false, .string r] 36
    have hb2 : Below w1.heap.size w1 (w1.alloc (.cells #[.bool false, .bool false, .string r] 36)).drew := ((Below.refl _ _).alloc (Nat.le_refl _) _).trans ((below_drew _).mono (by simp))
    have hu2 : Upds (PBown g) w1 (w1.alloc (.cells #[.bool false, .bool false, .string r] 36)).drew := (Upds.alloc _ _).trans (Upds.drew _)
    obtain ⟨w2, hw2⟩ : ∃ w2, w2 = (w1.alloc (.cells #[.bool false, .bool false, .string r] 36)).drew := ⟨_, rfl⟩
    have hr2' : Row w2 w1.heap.size 36 [.bool false, .bool false, .string r] := by rw [hw2]; exact hr2
    rw [← hw2] at hb2 hu2 ⊢
    have hp2 := HP.out.below hb2
    have HP2 := hid hp2
    have HR2 := hid hr2'
    have HU2 := hid (HU1.out.trans hu2)
    have HR1B := hid (HR1.out.upd (F := fun _ => False) (Upds.of_below hb2 (Nat.le_refl _)) (fun h => h))
    have x1 := hp2.left.cell (i := 0) rfl
    have x2 := hp2.before.cell (i := 0) rfl
    have x3 := hp2.over.cell (i := 0) rfl
    have d1 := hp2.left.frozen 0
    have d2 := hp2.before.frozen 0
    have d3 := hp2.over.frozen 0
    have e0 := hr2'.cell (i := 0) rfl
    have e1 := hr2'.cell (i := 1) rfl
    have e2 := hr2'.cell (i := 2) rfl
    clear hr2 hr2' hb2 hu2 hw2 hp2 c0 c1 c2 c3 c4 f1 f2 f3 s0 s1 s2 t0 t1 t2 HPA
    go_upto_region 8 with fail
    go_region
    obtain ⟨hp3, hu3⟩ := HP2.out.store ⟨#[]⟩ true
    have hr3 : Row (((w2.setCell ⟨g + 1, 0, none⟩ (.string ⟨#[]⟩)).setCell ⟨g + 2, 0, none⟩ (.bool true)).setCell ⟨g + 3, 0, none⟩ (.bool true)).drew w1.heap.size 36 [.bool false, .bool false, .string r] := (((HR2.out.other (by have := HGL.out; have := HZ1.out; omega)).other (by have := HGL.out; have := HZ1.out; omega)).other (by have := HGL.out; have := HZ1.out; omega)).drew'
    have hr4 : Row (((w2.setCell ⟨g + 1, 0, none⟩ (.string ⟨#[]⟩)).setCell ⟨g + 2, 0, none⟩ (.bool true)).setCell ⟨g + 3, 0, none⟩ (.bool true)).drew w.heap.size 36 [.bool false, .bool false, .string ⟨#[]⟩] := (((HR1B.out.other (by have := HGL.out; omega)).other (by have := HGL.out; omega)).other (by have := HGL.out; omega)).drew'
    obtain ⟨w3, hw3⟩ : ∃ w3, w3 = (((w2.setCell ⟨g + 1, 0, none⟩ (.string ⟨#[]⟩)).setCell ⟨g + 2, 0, none⟩ (.bool true)).setCell ⟨g + 3, 0, none⟩ (.bool true)).drew := ⟨_, rfl⟩
    rw [← hw3] at hp3 hu3 hr3 hr4 ⊢
    have HP3 := hid hp3
    have HU3 := hid (HU2.out.trans hu3)
    have HR4 := hid hr4
    have e0 := hr3.cell (i := 0) rfl
    have e1 := hr3.cell (i := 1) rfl
    have e2 := hr3.cell (i := 2) rfl
    have s0 := hr4.cell (i := 0) rfl
    have s1 := hr4.cell (i := 1) rfl
    have s2 := hr4.cell (i := 2) rfl
    have t0 := hr4.frozen 0
    have t1 := hr4.frozen 1
    have t2 := hr4.frozen 2
    clear hp3 hu3 hr3 hr4 hw3 d1 d2 d3 x1 x2 x3
    go_wp2_with fail
    have hr5 := ((HR4.out.set 0 (.bool false)).set 1 (.bool false)).set 2 (.string r)
    have hne : ∀ k, PBown g k → k ≠ w.heap.size := fun k hk e => by have := HGL.out; have := hk.2; omega
    have u1 : Upds (fun k => k = w.heap.size) w3 (w3.setCell ⟨w.heap.size, 0, none⟩ (.bool false)) := Upds.set _ _ _ rfl
    have u2 : Upds (fun k => k = w.heap.size) (w3.setCell ⟨w.heap.size, 0, none⟩ (.bool false)) ((w3.setCell ⟨w.heap.size, 0, none⟩ (.bool false)).setCell ⟨w.heap.size, 1, none⟩ (.bool false)) := Upds.set _ _ _ rfl
    have u3 : Upds (fun k => k = w.heap.size) ((w3.setCell ⟨w.heap.size, 0, none⟩ (.bool false)).setCell ⟨w.heap.size, 1, none⟩ (.bool false)) (((w3.setCell ⟨w.heap.size, 0, none⟩ (.bool false)).setCell ⟨w.heap.size, 1, none⟩ (.bool false)).setCell ⟨w.heap.size, 2, none⟩ (.string r)) := Upds.set _ _ _ rfl
    have hu5 := (u1.trans u2).trans u3
    have q0 := hr5.cell (i := 0) rfl
    have q1 := hr5.cell (i := 1) rfl
    have q2 := hr5.cell (i := 2) rfl
    have hp5 := HP3.out.upd hu5 (fun k h1 h2 => hne k ⟨h1, h2⟩)
    have hu6 : Upds (PBown g) w (((w3.setCell ⟨w.heap.size, 0, none⟩ (.bool false)).setCell ⟨w.heap.size, 1, none⟩ (.bool false)).setCell ⟨w.heap.size, 2, none⟩ (.string r)) := HU3.out.trans' hu5 (fun k hk e => by omega)
    refine bodyPost_ret (v := .tuple #[.agg #[.bool false, .bool false, .string r], .bool true]) ?_ rfl ⟨rfl, hp5, hu6⟩
    simp [results, Try.results48, go_sem, q0, q1, q2]
  · subst heq
    go_enter Try.func48, Try.ntmps48
    go_upto_region 1 with fail
    rw [HW1.out]
    go_upto_region 7 with fail
    have HPA := hid ((HP.out.below ((Below.refl _ _).alloc (Nat.le_refl _) (.cells #[.bool false, .bool false, .string ⟨#[]⟩] 36))).below (below_drew _))
    have d1 := HPA.out.left.cell (i := 0) rfl
    have d2 := HPA.out.before.cell (i := 0) rfl
    go_region
    clear d1 d2
    have hr2 := Row.new w1 [.bool false, .bool false, .string r] 36
    have hb2 : Below w1.heap.size w1 (w1.alloc (.cells #[.bool false, .bool false, .string r] 36)).drew := ((Below.refl _ _).alloc (Nat.le_refl _) _).trans ((below_drew _).mono (by simp))
    have hu2 : Upds (PBown g) w1 (w1.alloc (.cells #[.bool false, .bool false, .string r] 36)).drew := (Upds.alloc _ _).trans (Upds.drew _)
    obtain ⟨w2, hw2⟩ : ∃ w2, w2 = (w1.alloc (.cells #[.bool false, .bool false, .string r] 36)).drew := ⟨_, rfl⟩
    have hr2' : Row w2 w1.heap.size 36 [.bool false, .bool false, .string r] := by rw [hw2]; exact hr2
    rw [← hw2] at hb2 hu2 ⊢
    have hp2 := HP.out.below hb2
    have HP2 := hid hp2
    have HR2 := hid hr2'
    have HU2 := hid (HU1.out.trans hu2)
    have HR1B := hid (HR1.out.upd (F := fun _ => False) (Upds.of_below hb2 (Nat.le_refl _)) (fun h => h))
    have x1 := hp2.left.cell (i := 0) rfl
    have x2 := hp2.before.cell (i := 0) rfl
    have x3 := hp2.over.cell (i := 0) rfl
    have d1 := hp2.left.frozen 0
    have d2 := hp2.before.frozen 0
    have d3 := hp2.over.frozen 0
    have e0 := hr2'.cell (i := 0) rfl
    have e1 := hr2'.cell (i := 1) rfl
    have e2 := hr2'.cell (i := 2) rfl
    clear hr2 hr2' hb2 hu2 hw2 hp2 c0 c1 c2 c3 c4 f1 f2 f3 s0 s1 s2 t0 t1 t2 HPA
    go_upto_region 8 with fail
    go_region
    obtain ⟨hp3, hu3⟩ := HP2.out.store ⟨#[]⟩ true
    have hr3 : Row (((w2.setCell ⟨g + 1, 0, none⟩ (.string ⟨#[]⟩)).setCell ⟨g + 2, 0, none⟩ (.bool true)).setCell ⟨g + 3, 0, none⟩ (.bool true)).drew w1.heap.size 36 [.bool false, .bool false, .string r] := (((HR2.out.other (by have := HGL.out; have := HZ1.out; omega)).other (by have := HGL.out; have := HZ1.out; omega)).other (by have := HGL.out; have := HZ1.out; omega)).drew'
    have hr4 : Row (((w2.setCell ⟨g + 1, 0, none⟩ (.string ⟨#[]⟩)).setCell ⟨g + 2, 0, none⟩ (.bool true)).setCell ⟨g + 3, 0, none⟩ (.bool true)).drew w.heap.size 36 [.bool false, .bool false, .string ⟨#[]⟩] := (((HR1B.out.other (by have := HGL.out; omega)).other (by have := HGL.out; omega)).other (by have := HGL.out; omega)).drew'
    obtain ⟨w3, hw3⟩ : ∃ w3, w3 = (((w2.setCell ⟨g + 1, 0, none⟩ (.string ⟨#[]⟩)).setCell ⟨g + 2, 0, none⟩ (.bool true)).setCell ⟨g + 3, 0, none⟩ (.bool true)).drew := ⟨_, rfl⟩
    rw [← hw3] at hp3 hu3 hr3 hr4 ⊢
    have HP3 := hid hp3
    have HU3 := hid (HU2.out.trans hu3)
    have HR4 := hid hr4
    have e0 := hr3.cell (i := 0) rfl
    have e1 := hr3.cell (i := 1) rfl
    have e2 := hr3.cell (i := 2) rfl
    have s0 := hr4.cell (i := 0) rfl
    have s1 := hr4.cell (i := 1) rfl
    have s2 := hr4.cell (i := 2) rfl
    have t0 := hr4.frozen 0
    have t1 := hr4.frozen 1
    have t2 := hr4.frozen 2
    clear hp3 hu3 hr3 hr4 hw3 d1 d2 d3 x1 x2 x3
    go_wp2_with fail
    have hr5 := ((HR4.out.set 0 (.bool false)).set 1 (.bool false)).set 2 (.string r)
    have hne : ∀ k, PBown g k → k ≠ w.heap.size := fun k hk e => by have := HGL.out; have := hk.2; omega
    have u1 : Upds (fun k => k = w.heap.size) w3 (w3.setCell ⟨w.heap.size, 0, none⟩ (.bool false)) := Upds.set _ _ _ rfl
    have u2 : Upds (fun k => k = w.heap.size) (w3.setCell ⟨w.heap.size, 0, none⟩ (.bool false)) ((w3.setCell ⟨w.heap.size, 0, none⟩ (.bool false)).setCell ⟨w.heap.size, 1, none⟩ (.bool false)) := Upds.set _ _ _ rfl
    have u3 : Upds (fun k => k = w.heap.size) ((w3.setCell ⟨w.heap.size, 0, none⟩ (.bool false)).setCell ⟨w.heap.size, 1, none⟩ (.bool false)) (((w3.setCell ⟨w.heap.size, 0, none⟩ (.bool false)).setCell ⟨w.heap.size, 1, none⟩ (.bool false)).setCell ⟨w.heap.size, 2, none⟩ (.string r)) := Upds.set _ _ _ rfl
    have hu5 := (u1.trans u2).trans u3
    have q0 := hr5.cell (i := 0) rfl
    have q1 := hr5.cell (i := 1) rfl
    have q2 := hr5.cell (i := 2) rfl
    have hp5 := HP3.out.upd hu5 (fun k h1 h2 => hne k ⟨h1, h2⟩)
    have hu6 : Upds (PBown g) w (((w3.setCell ⟨w.heap.size, 0, none⟩ (.bool false)).setCell ⟨w.heap.size, 1, none⟩ (.bool false)).setCell ⟨w.heap.size, 2, none⟩ (.string r)) := HU3.out.trans' hu5 (fun k hk e => by omega)
    refine bodyPost_ret (v := .tuple #[.agg #[.bool false, .bool false, .string r], .bool true]) ?_ rfl ⟨rfl, hp5, hu6⟩
    simp [results, Try.results48, go_sem, q0, q1, q2]
set_option maxRecDepth 100000 in
set_option maxHeartbeats 2000000 in
theorem parts1_cMore (g n : Nat) (room : Int) (most : Nat) (r : ByteArray) (w : World) (h : PB w g room most r true false) (hn : n = most) (hnr : n < r.size) (hrs : r.size ≤ 100000) (hnb : n ≤ 100000) :
    Calls Try.prog 48 #[.pointer (some ⟨g + 3, 0, none⟩), .pointer (some ⟨g + 4, 0, none⟩), .pointer (some ⟨g + 2, 0, none⟩), .pointer (some ⟨g, 0, none⟩), .pointer (some ⟨g + 1, 0, none⟩)] w
      (fun e w' => e = .returned (.tuple #[Seg.val ⟨true, true, r.extract 0 n⟩, .bool true]) ∧ PB w' g room most (r.extract n r.size) true false ∧ Upds (PBown g) w w') := by
  subst hn
  have S1 := fun W => sl_to r (n : Int) n rfl (by omega) W
  have S2 := fun W => sl_from r (n : Int) n rfl (by omega) W
  obtain ⟨x, hx⟩ : ∃ x, x = r.extract 0 n := ⟨_, rfl⟩
  obtain ⟨y, hy⟩ : ∃ y, y = r.extract n r.size := ⟨_, rfl⟩
  rw [← hx] at S1 ⊢
  rw [← hy] at S2 ⊢
  obtain ⟨w1, hw1⟩ : ∃ q, q = w.alloc (.cells #[.bool false, .bool false, .string ⟨#[]⟩] 36) := ⟨_, rfl⟩
  have HW1 : Hid (w.alloc (.cells #[.bool false, .bool false, .string ⟨#[]⟩] 36) = w1) := hid hw1.symm
  have hb1 : Below w.heap.size w w1 := by rw [hw1]; exact (Below.refl _ _).alloc (Nat.le_refl _) _
  have hr1 : Row w1 w.heap.size 36 [.bool false, .bool false, .string ⟨#[]⟩] := by rw [hw1]; exact Row.new w [.bool false, .bool false, .string ⟨#[]⟩] _
  have hp1 := h.below hb1
  have s0 := hr1.cell (i := 0) rfl
  have s1 := hr1.cell (i := 1) rfl
  have s2 := hr1.cell (i := 2) rfl
  have t0 := hr1.frozen 0
  have t1 := hr1.frozen 1
  have t2 := hr1.frozen 2
  have HB1 := hid hb1
  have HR1 := hid hr1
  clear hb1 hr1
  have c0 := hp1.room.cell (i := 0) rfl
  have c1 := hp1.left.cell (i := 0) rfl
  have c2 := hp1.before.cell (i := 0) rfl
  have c3 := hp1.over.cell (i := 0) rfl
  have c4 := hp1.most.cell (i := 0) rfl
  have f1 := hp1.left.frozen 0
  have f2 := hp1.before.frozen 0
  have f3 := hp1.over.frozen 0
  have hgl : g + 4 < w.heap.size := h.lt
  have HGL := hid hgl
  have HZ1 : Hid (w1.heap.size = w.heap.size + 1) := hid (by rw [hw1, World.size_alloc])
  have HP := hid hp1
  have HU1 : Hid (Upds (PBown g) w w1) := hid (by rw [hw1]; exact Upds.alloc _ _)
  clear h hx hy hp1 hw1 hgl
  have hlt : (n : Int) < (r.size : Int) := by omega
  go_enter Try.func48, Try.ntmps48
  go_upto_region 1 with fail
  rw [HW1.out]
  go_upto_region 7 with fail
  have HPA := hid ((HP.out.below ((Below.refl _ _).alloc (Nat.le_refl _) (.cells #[.bool false, .bool false, .string ⟨#[]⟩] 36))).below (below_drew _))
  have d1 := HPA.out.left.cell (i := 0) rfl
  have d2 := HPA.out.before.cell (i := 0) rfl
  go_region
  clear d1 d2
  have hr2 := Row.new w1 [.bool true, .bool true, .string x] 36
  have hb2 : Below w1.heap.size w1 (w1.alloc (.cells #[.bool true, .bool true, .string x] 36)).drew := ((Below.refl _ _).alloc (Nat.le_refl _) _).trans ((below_drew _).mono (by simp))
  have hu2 : Upds (PBown g) w1 (w1.alloc (.cells #[.bool true, .bool true, .string x] 36)).drew := (Upds.alloc _ _).trans (Upds.drew _)
  obtain ⟨w2, hw2⟩ : ∃ w2, w2 = (w1.alloc (.cells #[.bool true, .bool true, .string x] 36)).drew := ⟨_, rfl⟩
  have hr2' : Row w2 w1.heap.size 36 [.bool true, .bool true, .string x] := by rw [hw2]; exact hr2
  rw [← hw2] at hb2 hu2 ⊢
  have hp2 := HP.out.below hb2
  have HP2 := hid hp2
  have HR2 := hid hr2'
  have HU2 := hid (HU1.out.trans hu2)
  have HR1B := hid (HR1.out.upd (F := fun _ => False) (Upds.of_below hb2 (Nat.le_refl _)) (fun h => h))
  have x1 := hp2.left.cell (i := 0) rfl
  have x2 := hp2.before.cell (i := 0) rfl
  have x3 := hp2.over.cell (i := 0) rfl
  have d1 := hp2.left.frozen 0
  have d2 := hp2.before.frozen 0
  have d3 := hp2.over.frozen 0
  have e0 := hr2'.cell (i := 0) rfl
  have e1 := hr2'.cell (i := 1) rfl
  have e2 := hr2'.cell (i := 2) rfl
  clear hr2 hr2' hb2 hu2 hw2 hp2 c0 c1 c2 c3 c4 f1 f2 f3 s0 s1 s2 t0 t1 t2 HPA
  go_upto_region 8 with fail
  go_region
  obtain ⟨hp3, hu3⟩ := HP2.out.store y false
  have hr3 : Row (((w2.setCell ⟨g + 1, 0, none⟩ (.string y)).setCell ⟨g + 2, 0, none⟩ (.bool true)).setCell ⟨g + 3, 0, none⟩ (.bool false)).drew w1.heap.size 36 [.bool true, .bool true, .string x] := (((HR2.out.other (by have := HGL.out; have := HZ1.out; omega)).other (by have := HGL.out; have := HZ1.out; omega)).other (by have := HGL.out; have := HZ1.out; omega)).drew'
  have hr4 : Row (((w2.setCell ⟨g + 1, 0, none⟩ (.string y)).setCell ⟨g + 2, 0, none⟩ (.bool true)).setCell ⟨g + 3, 0, none⟩ (.bool false)).drew w.heap.size 36 [.bool false, .bool false, .string ⟨#[]⟩] := (((HR1B.out.other (by have := HGL.out; omega)).other (by have := HGL.out; omega)).other (by have := HGL.out; omega)).drew'
  obtain ⟨w3, hw3⟩ : ∃ w3, w3 = (((w2.setCell ⟨g + 1, 0, none⟩ (.string y)).setCell ⟨g + 2, 0, none⟩ (.bool true)).setCell ⟨g + 3, 0, none⟩ (.bool false)).drew := ⟨_, rfl⟩
  rw [← hw3] at hp3 hu3 hr3 hr4 ⊢
  have HP3 := hid hp3
  have HU3 := hid (HU2.out.trans hu3)
  have HR4 := hid hr4
  have e0 := hr3.cell (i := 0) rfl
  have e1 := hr3.cell (i := 1) rfl
  have e2 := hr3.cell (i := 2) rfl
  have s0 := hr4.cell (i := 0) rfl
  have s1 := hr4.cell (i := 1) rfl
  have s2 := hr4.cell (i := 2) rfl
  have t0 := hr4.frozen 0
  have t1 := hr4.frozen 1
  have t2 := hr4.frozen 2
  clear hp3 hu3 hr3 hr4 hw3 d1 d2 d3 x1 x2 x3
  go_wp2_with fail
  have hr5 := ((HR4.out.set 0 (.bool true)).set 1 (.bool true)).set 2 (.string x)
  have hne : ∀ k, PBown g k → k ≠ w.heap.size := fun k hk e => by have := HGL.out; have := hk.2; omega
  have u1 : Upds (fun k => k = w.heap.size) w3 (w3.setCell ⟨w.heap.size, 0, none⟩ (.bool true)) := Upds.set _ _ _ rfl
  have u2 : Upds (fun k => k = w.heap.size) (w3.setCell ⟨w.heap.size, 0, none⟩ (.bool true)) ((w3.setCell ⟨w.heap.size, 0, none⟩ (.bool true)).setCell ⟨w.heap.size, 1, none⟩ (.bool true)) := Upds.set _ _ _ rfl
  have u3 : Upds (fun k => k = w.heap.size) ((w3.setCell ⟨w.heap.size, 0, none⟩ (.bool true)).setCell ⟨w.heap.size, 1, none⟩ (.bool true)) (((w3.setCell ⟨w.heap.size, 0, none⟩ (.bool true)).setCell ⟨w.heap.size, 1, none⟩ (.bool true)).setCell ⟨w.heap.size, 2, none⟩ (.string x)) := Upds.set _ _ _ rfl
  have hu5 := (u1.trans u2).trans u3
  have q0 := hr5.cell (i := 0) rfl
  have q1 := hr5.cell (i := 1) rfl
  have q2 := hr5.cell (i := 2) rfl
  have hp5 := HP3.out.upd hu5 (fun k h1 h2 => hne k ⟨h1, h2⟩)
  have hu6 : Upds (PBown g) w (((w3.setCell ⟨w.heap.size, 0, none⟩ (.bool true)).setCell ⟨w.heap.size, 1, none⟩ (.bool true)).setCell ⟨w.heap.size, 2, none⟩ (.string x)) := HU3.out.trans' hu5 (fun k hk e => by omega)
  refine bodyPost_ret (v := .tuple #[.agg #[.bool true, .bool true, .string x], .bool true]) ?_ rfl ⟨rfl, hp5, hu6⟩
  simp [results, Try.results48, go_sem, q0, q1, q2]
set_option maxRecDepth 100000 in
set_option maxHeartbeats 2000000 in
theorem parts1_cLast (g n : Nat) (room : Int) (most : Nat) (r : ByteArray) (w : World) (h : PB w g room most r true false) (hn : n = most) (hnr : r.size ≤ n) (hrs : r.size ≤ 100000) (hnb : n ≤ 100000) :
    Calls Try.prog 48 #[.pointer (some ⟨g + 3, 0, none⟩), .pointer (some ⟨g + 4, 0, none⟩), .pointer (some ⟨g + 2, 0, none⟩), .pointer (some ⟨g, 0, none⟩), .pointer (some ⟨g + 1, 0, none⟩)] w
      (fun e w' => e = .returned (.tuple #[Seg.val ⟨true, false, r⟩, .bool true]) ∧ PB w' g room most (⟨#[]⟩) true true ∧ Upds (PBown g) w w') := by
  subst hn
  have S1 := fun W => sl_to r (r.size : Int) r.size rfl (Nat.le_refl _) W
  have S2 := fun W => sl_from r (r.size : Int) r.size rfl (Nat.le_refl _) W
  rw [show r.extract 0 r.size = r by apply ByteArray.ext; simp] at S1
  rw [show r.extract r.size r.size = ⟨#[]⟩ from empty_of (by rw [ByteArray.size_extract]; omega)] at S2
  obtain ⟨w1, hw1⟩ : ∃ q, q = w.alloc (.cells #[.bool false, .bool false, .string ⟨#[]⟩] 36) := ⟨_, rfl⟩
  have HW1 : Hid (w.alloc (.cells #[.bool false, .bool false, .string ⟨#[]⟩] 36) = w1) := hid hw1.symm
  have hb1 : Below w.heap.size w w1 := by rw [hw1]; exact (Below.refl _ _).alloc (Nat.le_refl _) _
  have hr1 : Row w1 w.heap.size 36 [.bool false, .bool false, .string ⟨#[]⟩] := by rw [hw1]; exact Row.new w [.bool false, .bool false, .string ⟨#[]⟩] _
  have hp1 := h.below hb1
  have s0 := hr1.cell (i := 0) rfl
  have s1 := hr1.cell (i := 1) rfl
  have s2 := hr1.cell (i := 2) rfl
  have t0 := hr1.frozen 0
  have t1 := hr1.frozen 1
  have t2 := hr1.frozen 2
  have HB1 := hid hb1
  have HR1 := hid hr1
  clear hb1 hr1
  have c0 := hp1.room.cell (i := 0) rfl
  have c1 := hp1.left.cell (i := 0) rfl
  have c2 := hp1.before.cell (i := 0) rfl
  have c3 := hp1.over.cell (i := 0) rfl
  have c4 := hp1.most.cell (i := 0) rfl
  have f1 := hp1.left.frozen 0
  have f2 := hp1.before.frozen 0
  have f3 := hp1.over.frozen 0
  have hgl : g + 4 < w.heap.size := h.lt
  have HGL := hid hgl
  have HZ1 : Hid (w1.heap.size = w.heap.size + 1) := hid (by rw [hw1, World.size_alloc])
  have HP := hid hp1
  have HU1 : Hid (Upds (PBown g) w w1) := hid (by rw [hw1]; exact Upds.alloc _ _)
  clear h hp1 hw1 hgl
  rcases Nat.lt_or_eq_of_le hnr with hlt0 | heq
  · have hlt : (r.size : Int) < (n : Int) := by omega
    go_enter Try.func48, Try.ntmps48
    go_upto_region 1 with fail
    rw [HW1.out]
    go_upto_region 7 with fail
    have HPA := hid ((HP.out.below ((Below.refl _ _).alloc (Nat.le_refl _) (.cells #[.bool false, .bool false, .string ⟨#[]⟩] 36))).below (below_drew _))
    have d1 := HPA.out.left.cell (i := 0) rfl
    have d2 := HPA.out.before.cell (i := 0) rfl
    go_region
    clear d1 d2
    have hr2 := Row.new w1 [.bool true, .bool false, .string r] 36
    have hb2 : Below w1.heap.size w1 (w1.alloc (.cells #[.bool true, .bool false, .string r] 36)).drew := ((Below.refl _ _).alloc (Nat.le_refl _) _).trans ((below_drew _).mono (by simp))
    have hu2 : Upds (PBown g) w1 (w1.alloc (.cells #[.bool true, .bool false, .string r] 36)).drew := (Upds.alloc _ _).trans (Upds.drew _)
    obtain ⟨w2, hw2⟩ : ∃ w2, w2 = (w1.alloc (.cells #[.bool true, .bool false, .string r] 36)).drew := ⟨_, rfl⟩
    have hr2' : Row w2 w1.heap.size 36 [.bool true, .bool false, .string r] := by rw [hw2]; exact hr2
    rw [← hw2] at hb2 hu2 ⊢
    have hp2 := HP.out.below hb2
    have HP2 := hid hp2
    have HR2 := hid hr2'
    have HU2 := hid (HU1.out.trans hu2)
    have HR1B := hid (HR1.out.upd (F := fun _ => False) (Upds.of_below hb2 (Nat.le_refl _)) (fun h => h))
    have x1 := hp2.left.cell (i := 0) rfl
    have x2 := hp2.before.cell (i := 0) rfl
    have x3 := hp2.over.cell (i := 0) rfl
    have d1 := hp2.left.frozen 0
    have d2 := hp2.before.frozen 0
    have d3 := hp2.over.frozen 0
    have e0 := hr2'.cell (i := 0) rfl
    have e1 := hr2'.cell (i := 1) rfl
    have e2 := hr2'.cell (i := 2) rfl
    clear hr2 hr2' hb2 hu2 hw2 hp2 c0 c1 c2 c3 c4 f1 f2 f3 s0 s1 s2 t0 t1 t2 HPA
    go_upto_region 8 with fail
    go_region
    obtain ⟨hp3, hu3⟩ := HP2.out.store ⟨#[]⟩ true
    have hr3 : Row (((w2.setCell ⟨g + 1, 0, none⟩ (.string ⟨#[]⟩)).setCell ⟨g + 2, 0, none⟩ (.bool true)).setCell ⟨g + 3, 0, none⟩ (.bool true)).drew w1.heap.size 36 [.bool true, .bool false, .string r] := (((HR2.out.other (by have := HGL.out; have := HZ1.out; omega)).other (by have := HGL.out; have := HZ1.out; omega)).other (by have := HGL.out; have := HZ1.out; omega)).drew'
    have hr4 : Row (((w2.setCell ⟨g + 1, 0, none⟩ (.string ⟨#[]⟩)).setCell ⟨g + 2, 0, none⟩ (.bool true)).setCell ⟨g + 3, 0, none⟩ (.bool true)).drew w.heap.size 36 [.bool false, .bool false, .string ⟨#[]⟩] := (((HR1B.out.other (by have := HGL.out; omega)).other (by have := HGL.out; omega)).other (by have := HGL.out; omega)).drew'
    obtain ⟨w3, hw3⟩ : ∃ w3, w3 = (((w2.setCell ⟨g + 1, 0, none⟩ (.string ⟨#[]⟩)).setCell ⟨g + 2, 0, none⟩ (.bool true)).setCell ⟨g + 3, 0, none⟩ (.bool true)).drew := ⟨_, rfl⟩
    rw [← hw3] at hp3 hu3 hr3 hr4 ⊢
    have HP3 := hid hp3
    have HU3 := hid (HU2.out.trans hu3)
    have HR4 := hid hr4
    have e0 := hr3.cell (i := 0) rfl
    have e1 := hr3.cell (i := 1) rfl
    have e2 := hr3.cell (i := 2) rfl
    have s0 := hr4.cell (i := 0) rfl
    have s1 := hr4.cell (i := 1) rfl
    have s2 := hr4.cell (i := 2) rfl
    have t0 := hr4.frozen 0
    have t1 := hr4.frozen 1
    have t2 := hr4.frozen 2
    clear hp3 hu3 hr3 hr4 hw3 d1 d2 d3 x1 x2 x3
    go_wp2_with fail
    have hr5 := ((HR4.out.set 0 (.bool true)).set 1 (.bool false)).set 2 (.string r)
    have hne : ∀ k, PBown g k → k ≠ w.heap.size := fun k hk e => by have := HGL.out; have := hk.2; omega
    have u1 : Upds (fun k => k = w.heap.size) w3 (w3.setCell ⟨w.heap.size, 0, none⟩ (.bool true)) := Upds.set _ _ _ rfl
    have u2 : Upds (fun k => k = w.heap.size) (w3.setCell ⟨w.heap.size, 0, none⟩ (.bool true)) ((w3.setCell ⟨w.heap.size, 0, none⟩ (.bool true)).setCell ⟨w.heap.size, 1, none⟩ (.bool false)) := Upds.set _ _ _ rfl
    have u3 : Upds (fun k => k = w.heap.size) ((w3.setCell ⟨w.heap.size, 0, none⟩ (.bool true)).setCell ⟨w.heap.size, 1, none⟩ (.bool false)) (((w3.setCell ⟨w.heap.size, 0, none⟩ (.bool true)).setCell ⟨w.heap.size, 1, none⟩ (.bool false)).setCell ⟨w.heap.size, 2, none⟩ (.string r)) := Upds.set _ _ _ rfl
    have hu5 := (u1.trans u2).trans u3
    have q0 := hr5.cell (i := 0) rfl
    have q1 := hr5.cell (i := 1) rfl
    have q2 := hr5.cell (i := 2) rfl
    have hp5 := HP3.out.upd hu5 (fun k h1 h2 => hne k ⟨h1, h2⟩)
    have hu6 : Upds (PBown g) w (((w3.setCell ⟨w.heap.size, 0, none⟩ (.bool true)).setCell ⟨w.heap.size, 1, none⟩ (.bool false)).setCell ⟨w.heap.size, 2, none⟩ (.string r)) := HU3.out.trans' hu5 (fun k hk e => by omega)
    refine bodyPost_ret (v := .tuple #[.agg #[.bool true, .bool false, .string r], .bool true]) ?_ rfl ⟨rfl, hp5, hu6⟩
    simp [results, Try.results48, go_sem, q0, q1, q2]
  · subst heq
    go_enter Try.func48, Try.ntmps48
    go_upto_region 1 with fail
    rw [HW1.out]
    go_upto_region 7 with fail
    have HPA := hid ((HP.out.below ((Below.refl _ _).alloc (Nat.le_refl _) (.cells #[.bool false, .bool false, .string ⟨#[]⟩] 36))).below (below_drew _))
    have d1 := HPA.out.left.cell (i := 0) rfl
    have d2 := HPA.out.before.cell (i := 0) rfl
    go_region
    clear d1 d2
    have hr2 := Row.new w1 [.bool true, .bool false, .string r] 36
    have hb2 : Below w1.heap.size w1 (w1.alloc (.cells #[.bool true, .bool false, .string r] 36)).drew := ((Below.refl _ _).alloc (Nat.le_refl _) _).trans ((below_drew _).mono (by simp))
    have hu2 : Upds (PBown g) w1 (w1.alloc (.cells #[.bool true, .bool false, .string r] 36)).drew := (Upds.alloc _ _).trans (Upds.drew _)
    obtain ⟨w2, hw2⟩ : ∃ w2, w2 = (w1.alloc (.cells #[.bool true, .bool false, .string r] 36)).drew := ⟨_, rfl⟩
    have hr2' : Row w2 w1.heap.size 36 [.bool true, .bool false, .string r] := by rw [hw2]; exact hr2
    rw [← hw2] at hb2 hu2 ⊢
    have hp2 := HP.out.below hb2
    have HP2 := hid hp2
    have HR2 := hid hr2'
    have HU2 := hid (HU1.out.trans hu2)
    have HR1B := hid (HR1.out.upd (F := fun _ => False) (Upds.of_below hb2 (Nat.le_refl _)) (fun h => h))
    have x1 := hp2.left.cell (i := 0) rfl
    have x2 := hp2.before.cell (i := 0) rfl
    have x3 := hp2.over.cell (i := 0) rfl
    have d1 := hp2.left.frozen 0
    have d2 := hp2.before.frozen 0
    have d3 := hp2.over.frozen 0
    have e0 := hr2'.cell (i := 0) rfl
    have e1 := hr2'.cell (i := 1) rfl
    have e2 := hr2'.cell (i := 2) rfl
    clear hr2 hr2' hb2 hu2 hw2 hp2 c0 c1 c2 c3 c4 f1 f2 f3 s0 s1 s2 t0 t1 t2 HPA
    go_upto_region 8 with fail
    go_region
    obtain ⟨hp3, hu3⟩ := HP2.out.store ⟨#[]⟩ true
    have hr3 : Row (((w2.setCell ⟨g + 1, 0, none⟩ (.string ⟨#[]⟩)).setCell ⟨g + 2, 0, none⟩ (.bool true)).setCell ⟨g + 3, 0, none⟩ (.bool true)).drew w1.heap.size 36 [.bool true, .bool false, .string r] := (((HR2.out.other (by have := HGL.out; have := HZ1.out; omega)).other (by have := HGL.out; have := HZ1.out; omega)).other (by have := HGL.out; have := HZ1.out; omega)).drew'
    have hr4 : Row (((w2.setCell ⟨g + 1, 0, none⟩ (.string ⟨#[]⟩)).setCell ⟨g + 2, 0, none⟩ (.bool true)).setCell ⟨g + 3, 0, none⟩ (.bool true)).drew w.heap.size 36 [.bool false, .bool false, .string ⟨#[]⟩] := (((HR1B.out.other (by have := HGL.out; omega)).other (by have := HGL.out; omega)).other (by have := HGL.out; omega)).drew'
    obtain ⟨w3, hw3⟩ : ∃ w3, w3 = (((w2.setCell ⟨g + 1, 0, none⟩ (.string ⟨#[]⟩)).setCell ⟨g + 2, 0, none⟩ (.bool true)).setCell ⟨g + 3, 0, none⟩ (.bool true)).drew := ⟨_, rfl⟩
    rw [← hw3] at hp3 hu3 hr3 hr4 ⊢
    have HP3 := hid hp3
    have HU3 := hid (HU2.out.trans hu3)
    have HR4 := hid hr4
    have e0 := hr3.cell (i := 0) rfl
    have e1 := hr3.cell (i := 1) rfl
    have e2 := hr3.cell (i := 2) rfl
    have s0 := hr4.cell (i := 0) rfl
    have s1 := hr4.cell (i := 1) rfl
    have s2 := hr4.cell (i := 2) rfl
    have t0 := hr4.frozen 0
    have t1 := hr4.frozen 1
    have t2 := hr4.frozen 2
    clear hp3 hu3 hr3 hr4 hw3 d1 d2 d3 x1 x2 x3
    go_wp2_with fail
    have hr5 := ((HR4.out.set 0 (.bool true)).set 1 (.bool false)).set 2 (.string r)
    have hne : ∀ k, PBown g k → k ≠ w.heap.size := fun k hk e => by have := HGL.out; have := hk.2; omega
    have u1 : Upds (fun k => k = w.heap.size) w3 (w3.setCell ⟨w.heap.size, 0, none⟩ (.bool true)) := Upds.set _ _ _ rfl
    have u2 : Upds (fun k => k = w.heap.size) (w3.setCell ⟨w.heap.size, 0, none⟩ (.bool true)) ((w3.setCell ⟨w.heap.size, 0, none⟩ (.bool true)).setCell ⟨w.heap.size, 1, none⟩ (.bool false)) := Upds.set _ _ _ rfl
    have u3 : Upds (fun k => k = w.heap.size) ((w3.setCell ⟨w.heap.size, 0, none⟩ (.bool true)).setCell ⟨w.heap.size, 1, none⟩ (.bool false)) (((w3.setCell ⟨w.heap.size, 0, none⟩ (.bool true)).setCell ⟨w.heap.size, 1, none⟩ (.bool false)).setCell ⟨w.heap.size, 2, none⟩ (.string r)) := Upds.set _ _ _ rfl
    have hu5 := (u1.trans u2).trans u3
    have q0 := hr5.cell (i := 0) rfl
    have q1 := hr5.cell (i := 1) rfl
    have q2 := hr5.cell (i := 2) rfl
    have hp5 := HP3.out.upd hu5 (fun k h1 h2 => hne k ⟨h1, h2⟩)
    have hu6 : Upds (PBown g) w (((w3.setCell ⟨w.heap.size, 0, none⟩ (.bool true)).setCell ⟨w.heap.size, 1, none⟩ (.bool false)).setCell ⟨w.heap.size, 2, none⟩ (.string r)) := HU3.out.trans' hu5 (fun k hk e => by omega)
    refine bodyPost_ret (v := .tuple #[.agg #[.bool true, .bool false, .string r], .bool true]) ?_ rfl ⟨rfl, hp5, hu6⟩
    simp [results, Try.results48, go_sem, q0, q1, q2]
end Go.Proofs.Ytklbckonlbpbgab
