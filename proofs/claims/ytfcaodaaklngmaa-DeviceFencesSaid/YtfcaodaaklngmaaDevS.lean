import Derived.Test.YtfcaodaaklngmaaDevQ
import Derived.Test.YtfcaodaaklngmaaDevT6
/-! do: an operation on a device. -/
namespace Go.Proofs.Ytfcaodaaklngmaa
open Go.Lib Go.ChangeShapes Go.WideShapes Go.ChangeAt Go.RowKit
set_option linter.unusedVariables false

abbrev opV (o : OpD) : Value := .agg #[.int .u8 o.kind, .int .i64 o.sys, .int .i64 o.ep, .int .i64 o.sec, .string o.dat, .int .i64 o.n, .int .u8 o.mask, .slice o.sa o.sur.length o.sc]
theorem DevTo.pre {w w1 w' : World} {base : Nat} {L : Lay} {D' : DS} (hu : Upds (fun _ => False) w w1) (h : DevTo w1 base L D' w') : DevTo w base L D' w' := by
  obtain ⟨L', h1, h2, h3, h4⟩ := h
  exact ⟨L', h1, h2, (hu.mono (fun _ h => h.elim)).trans h3, fun k hk => (h4 k hk).elim .inl (fun h => .inr (Nat.le_trans hu.size h))⟩
/-- the box of an operation -/
theorem op_box (w : World) (o : OpD) : Row (w.alloc (.cells #[.int .u8 o.kind, .int .i64 o.sys, .int .i64 o.ep, .int .i64 o.sec, .string o.dat, .int .i64 o.n, .int .u8 o.mask, .slice o.sa o.sur.length o.sc] 44)) w.heap.size 44 o.cells := Row.new w o.cells _
set_option maxRecDepth 100000 in
set_option maxHeartbeats 2000000 in
theorem do_write (base : Nat) (L : Lay) (D : DS) (o : OpD) (hk : o.kind % 8 = 0) (w : World) (hD : Dev w base L D) (hw : base ≤ w.heap.size) (few : D.pend.length + 1 ≤ 100000) (ho : OpOk w o) :
    Calls Try.prog 17 #[.pointer (some ⟨L.b, 0, none⟩), opV o] w (OpPost base L w (D.write o.sys o.ep o.sec o.dat)) := by
  obtain ⟨w1, hw1⟩ : ∃ w1, w1 = w.alloc (.cells #[.int .u8 o.kind, .int .i64 o.sys, .int .i64 o.ep, .int .i64 o.sec, .string o.dat, .int .i64 o.n, .int .u8 o.mask, .slice o.sa o.sur.length o.sc] 44) := ⟨_, rfl⟩
  have hr := op_box w o
  rw [← hw1] at hr
  have hu : Upds (fun _ => False) w w1 := by rw [hw1]; exact Upds.alloc _ _
  have hbl : Below w.heap.size w w1 := hu.below (Nat.le_refl _) (fun _ h => h.elim)
  have hd1 := hD.calm hu
  have ho1 := ho.below hbl
  have hw2 : base ≤ w1.heap.size := by have := hu.size; omega
  have HC := hid (write_any base L D o.sys o.ep o.sec o.dat w1 hd1 hw2 few)
  have HU := hid hu
  have c0 := hr.cell (i := 0) rfl
  have c1 := hr.cell (i := 1) rfl
  have c2 := hr.cell (i := 2) rfl
  have c3 := hr.cell (i := 3) rfl
  have c4 := hr.cell (i := 4) rfl
  have c5 := hr.cell (i := 5) rfl
  have c6 := hr.cell (i := 6) rfl
  have c7 := hr.cell (i := 7) rfl
  have HW := hid hw1
  have hk0 := ho.kind.1
  have hd : (o.kind % 8 == 0) = true := by rw [hk]; rfl
  have hd2 : (o.kind.tmod 8 == 0) = true := by rw [Int.tmod_eq_emod_of_nonneg hk0, hk]; rfl
  clear hw1 hr hu hd1 hD ho hbl ho1 hw2 hk
  go_enter Try.func17, Try.ntmps17
  go_upto_region 1 with fail
  rw [← HW.out]
  go_wp2_with fail
  refine HC.out.mono ?_
  rintro e w2 ⟨rfl, hd⟩
  have HD := hid (DevTo.pre HU.out hd)
  clear hd
  go_wp2_with fail
  go_ret
  exact ⟨rfl, HD.out⟩
set_option maxRecDepth 100000 in
set_option maxHeartbeats 2000000 in
theorem do_sync (base : Nat) (L : Lay) (D : DS) (o : OpD) (hk : o.kind % 8 = 1) (w : World) (hD : Dev w base L D) (hw : base ≤ w.heap.size) (ho : OpOk w o) :
    Calls Try.prog 17 #[.pointer (some ⟨L.b, 0, none⟩), opV o] w (OpPost base L w (D.sync o.sys o.ep)) := by
  obtain ⟨w1, hw1⟩ : ∃ w1, w1 = w.alloc (.cells #[.int .u8 o.kind, .int .i64 o.sys, .int .i64 o.ep, .int .i64 o.sec, .string o.dat, .int .i64 o.n, .int .u8 o.mask, .slice o.sa o.sur.length o.sc] 44) := ⟨_, rfl⟩
  have hr := op_box w o
  rw [← hw1] at hr
  have hu : Upds (fun _ => False) w w1 := by rw [hw1]; exact Upds.alloc _ _
  have hbl : Below w.heap.size w w1 := hu.below (Nat.le_refl _) (fun _ h => h.elim)
  have hd1 := hD.calm hu
  have ho1 := ho.below hbl
  have hw2 : base ≤ w1.heap.size := by have := hu.size; omega
  have HC := hid (sync_any base L D o.sys o.ep w1 hd1 hw2)
  have HU := hid hu
  have c0 := hr.cell (i := 0) rfl
  have c1 := hr.cell (i := 1) rfl
  have c2 := hr.cell (i := 2) rfl
  have c3 := hr.cell (i := 3) rfl
  have c4 := hr.cell (i := 4) rfl
  have c5 := hr.cell (i := 5) rfl
  have c6 := hr.cell (i := 6) rfl
  have c7 := hr.cell (i := 7) rfl
  have HW := hid hw1
  have hkt : o.kind.tmod 8 = 1 := by rw [Int.tmod_eq_emod_of_nonneg ho.kind.1, hk]
  clear hw1 hr hu hd1 hD ho hbl ho1 hw2 hk
  go_enter Try.func17, Try.ntmps17
  go_upto_region 1 with fail
  rw [← HW.out]
  go_wp2_with fail
  refine HC.out.mono ?_
  rintro e w2 ⟨rfl, hd⟩
  have HD := hid (DevTo.pre HU.out hd)
  clear hd
  go_wp2_with fail
  go_ret
  exact ⟨rfl, HD.out⟩
set_option maxRecDepth 100000 in
set_option maxHeartbeats 2000000 in
theorem do_crash (base : Nat) (L : Lay) (D : DS) (o : OpD) (hk : o.kind % 8 = 2) (w : World) (hD : Dev w base L D) (hw : base ≤ w.heap.size) (hsb : ∀ x, o.sa = some x → 0 < o.sur.length → x.block < base) (ho : OpOk w o) :
    Calls Try.prog 17 #[.pointer (some ⟨L.b, 0, none⟩), opV o] w (OpPost base L w ((0, D.crash o.sys o.sur))) := by
  obtain ⟨w1, hw1⟩ : ∃ w1, w1 = w.alloc (.cells #[.int .u8 o.kind, .int .i64 o.sys, .int .i64 o.ep, .int .i64 o.sec, .string o.dat, .int .i64 o.n, .int .u8 o.mask, .slice o.sa o.sur.length o.sc] 44) := ⟨_, rfl⟩
  have hr := op_box w o
  rw [← hw1] at hr
  have hu : Upds (fun _ => False) w w1 := by rw [hw1]; exact Upds.alloc _ _
  have hbl : Below w.heap.size w w1 := hu.below (Nat.le_refl _) (fun _ h => h.elim)
  have hd1 := hD.calm hu
  have ho1 := ho.below hbl
  have hw2 : base ≤ w1.heap.size := by have := hu.size; omega
  have HC := hid (crash_any base L D o.sys o.sa o.sc o.sur (by have := ho.sur.cap; omega) w1 hd1 hw2 ho1.sur.at_ (fun x e h0 hk => by have := hd1.below _ hk; have := hsb x e h0; omega))
  have HU := hid hu
  have c0 := hr.cell (i := 0) rfl
  have c1 := hr.cell (i := 1) rfl
  have c2 := hr.cell (i := 2) rfl
  have c3 := hr.cell (i := 3) rfl
  have c4 := hr.cell (i := 4) rfl
  have c5 := hr.cell (i := 5) rfl
  have c6 := hr.cell (i := 6) rfl
  have c7 := hr.cell (i := 7) rfl
  have HW := hid hw1
  have hkt : o.kind.tmod 8 = 2 := by rw [Int.tmod_eq_emod_of_nonneg ho.kind.1, hk]
  clear hw1 hr hu hd1 hD ho hbl ho1 hw2 hk
  go_enter Try.func17, Try.ntmps17
  go_upto_region 1 with fail
  rw [← HW.out]
  go_wp2_with fail
  refine HC.out.mono ?_
  rintro e w2 ⟨rfl, hd⟩
  have HD := hid (DevTo.pre HU.out hd)
  clear hd
  go_wp2_with fail
  go_ret
  exact ⟨rfl, HD.out⟩
set_option maxRecDepth 100000 in
set_option maxHeartbeats 2000000 in
theorem do_fence (base : Nat) (L : Lay) (D : DS) (o : OpD) (hk : o.kind % 8 = 3) (w : World) (hD : Dev w base L D) (hw : base ≤ w.heap.size) (ho : OpOk w o) :
    Calls Try.prog 17 #[.pointer (some ⟨L.b, 0, none⟩), opV o] w (OpPost base L w ((0, D.fence o.sys o.ep))) := by
  obtain ⟨w1, hw1⟩ : ∃ w1, w1 = w.alloc (.cells #[.int .u8 o.kind, .int .i64 o.sys, .int .i64 o.ep, .int .i64 o.sec, .string o.dat, .int .i64 o.n, .int .u8 o.mask, .slice o.sa o.sur.length o.sc] 44) := ⟨_, rfl⟩
  have hr := op_box w o
  rw [← hw1] at hr
  have hu : Upds (fun _ => False) w w1 := by rw [hw1]; exact Upds.alloc _ _
  have hbl : Below w.heap.size w w1 := hu.below (Nat.le_refl _) (fun _ h => h.elim)
  have hd1 := hD.calm hu
  have ho1 := ho.below hbl
  have hw2 : base ≤ w1.heap.size := by have := hu.size; omega
  have HC := hid (fence_any base L D o.sys o.ep ho.ep.2 w1 hd1)
  have HU := hid hu
  have c0 := hr.cell (i := 0) rfl
  have c1 := hr.cell (i := 1) rfl
  have c2 := hr.cell (i := 2) rfl
  have c3 := hr.cell (i := 3) rfl
  have c4 := hr.cell (i := 4) rfl
  have c5 := hr.cell (i := 5) rfl
  have c6 := hr.cell (i := 6) rfl
  have c7 := hr.cell (i := 7) rfl
  have HW := hid hw1
  have hkt : o.kind.tmod 8 = 3 := by rw [Int.tmod_eq_emod_of_nonneg ho.kind.1, hk]
  clear hw1 hr hu hd1 hD ho hbl ho1 hw2 hk
  go_enter Try.func17, Try.ntmps17
  go_upto_region 1 with fail
  rw [← HW.out]
  go_wp2_with fail
  refine HC.out.mono ?_
  rintro e w2 ⟨rfl, hd⟩
  have HD := hid (DevTo.pre HU.out hd)
  clear hd
  go_wp2_with fail
  go_ret
  exact ⟨rfl, HD.out⟩
set_option maxRecDepth 100000 in
set_option maxHeartbeats 2000000 in
theorem do_repair (base : Nat) (L : Lay) (D : DS) (o : OpD) (hk : o.kind % 8 = 5) (w : World) (hD : Dev w base L D) (hw : base ≤ w.heap.size) (ho : OpOk w o) :
    Calls Try.prog 17 #[.pointer (some ⟨L.b, 0, none⟩), opV o] w (OpPost base L w ((0, D.repair))) := by
  obtain ⟨w1, hw1⟩ : ∃ w1, w1 = w.alloc (.cells #[.int .u8 o.kind, .int .i64 o.sys, .int .i64 o.ep, .int .i64 o.sec, .string o.dat, .int .i64 o.n, .int .u8 o.mask, .slice o.sa o.sur.length o.sc] 44) := ⟨_, rfl⟩
  have hr := op_box w o
  rw [← hw1] at hr
  have hu : Upds (fun _ => False) w w1 := by rw [hw1]; exact Upds.alloc _ _
  have hbl : Below w.heap.size w w1 := hu.below (Nat.le_refl _) (fun _ h => h.elim)
  have hd1 := hD.calm hu
  have ho1 := ho.below hbl
  have hw2 : base ≤ w1.heap.size := by have := hu.size; omega
  have HC := hid (repair_any base L D w1 hd1)
  have HU := hid hu
  have c0 := hr.cell (i := 0) rfl
  have c1 := hr.cell (i := 1) rfl
  have c2 := hr.cell (i := 2) rfl
  have c3 := hr.cell (i := 3) rfl
  have c4 := hr.cell (i := 4) rfl
  have c5 := hr.cell (i := 5) rfl
  have c6 := hr.cell (i := 6) rfl
  have c7 := hr.cell (i := 7) rfl
  have HW := hid hw1
  have hkt : o.kind.tmod 8 = 5 := by rw [Int.tmod_eq_emod_of_nonneg ho.kind.1, hk]
  clear hw1 hr hu hd1 hD ho hbl ho1 hw2 hk
  go_enter Try.func17, Try.ntmps17
  go_upto_region 1 with fail
  rw [← HW.out]
  go_wp2_with fail
  refine HC.out.mono ?_
  rintro e w2 ⟨rfl, hd⟩
  have HD := hid (DevTo.pre HU.out hd)
  clear hd
  go_wp2_with fail
  go_ret
  exact ⟨rfl, HD.out⟩
set_option maxRecDepth 100000 in
set_option maxHeartbeats 2000000 in
theorem do_damage (base : Nat) (L : Lay) (D : DS) (o : OpD) (hk : o.kind % 8 = 6) (w : World) (hD : Dev w base L D) (hw : base ≤ w.heap.size) (ho : OpOk w o) :
    Calls Try.prog 17 #[.pointer (some ⟨L.b, 0, none⟩), opV o] w (OpPost base L w (D.damage o.sec o.n o.mask)) := by
  obtain ⟨w1, hw1⟩ : ∃ w1, w1 = w.alloc (.cells #[.int .u8 o.kind, .int .i64 o.sys, .int .i64 o.ep, .int .i64 o.sec, .string o.dat, .int .i64 o.n, .int .u8 o.mask, .slice o.sa o.sur.length o.sc] 44) := ⟨_, rfl⟩
  have hr := op_box w o
  rw [← hw1] at hr
  have hu : Upds (fun _ => False) w w1 := by rw [hw1]; exact Upds.alloc _ _
  have hbl : Below w.heap.size w w1 := hu.below (Nat.le_refl _) (fun _ h => h.elim)
  have hd1 := hD.calm hu
  have ho1 := ho.below hbl
  have hw2 : base ≤ w1.heap.size := by have := hu.size; omega
  have HC := hid (damage_any base L D o.sec o.n o.mask ho.mask w1 hd1 hw2)
  have HU := hid hu
  have c0 := hr.cell (i := 0) rfl
  have c1 := hr.cell (i := 1) rfl
  have c2 := hr.cell (i := 2) rfl
  have c3 := hr.cell (i := 3) rfl
  have c4 := hr.cell (i := 4) rfl
  have c5 := hr.cell (i := 5) rfl
  have c6 := hr.cell (i := 6) rfl
  have c7 := hr.cell (i := 7) rfl
  have HW := hid hw1
  have hkt : o.kind.tmod 8 = 6 := by rw [Int.tmod_eq_emod_of_nonneg ho.kind.1, hk]
  clear hw1 hr hu hd1 hD ho hbl ho1 hw2 hk
  go_enter Try.func17, Try.ntmps17
  go_upto_region 1 with fail
  rw [← HW.out]
  go_wp2_with fail
  refine HC.out.mono ?_
  rintro e w2 ⟨rfl, hd⟩
  have HD := hid (DevTo.pre HU.out hd)
  clear hd
  go_wp2_with fail
  go_ret
  exact ⟨rfl, HD.out⟩
set_option maxRecDepth 100000 in
set_option maxHeartbeats 2000000 in
theorem do_return (base : Nat) (L : Lay) (D : DS) (o : OpD) (hk : o.kind % 8 = 7) (w : World) (hD : Dev w base L D) (hw : base ≤ w.heap.size) (ho : OpOk w o) :
    Calls Try.prog 17 #[.pointer (some ⟨L.b, 0, none⟩), opV o] w (OpPost base L w (D.ret o.sec o.n)) := by
  obtain ⟨w1, hw1⟩ : ∃ w1, w1 = w.alloc (.cells #[.int .u8 o.kind, .int .i64 o.sys, .int .i64 o.ep, .int .i64 o.sec, .string o.dat, .int .i64 o.n, .int .u8 o.mask, .slice o.sa o.sur.length o.sc] 44) := ⟨_, rfl⟩
  have hr := op_box w o
  rw [← hw1] at hr
  have hu : Upds (fun _ => False) w w1 := by rw [hw1]; exact Upds.alloc _ _
  have hbl : Below w.heap.size w w1 := hu.below (Nat.le_refl _) (fun _ h => h.elim)
  have hd1 := hD.calm hu
  have ho1 := ho.below hbl
  have hw2 : base ≤ w1.heap.size := by have := hu.size; omega
  have HC := hid (return_any base L D o.sec o.n w1 hd1)
  have HU := hid hu
  have c0 := hr.cell (i := 0) rfl
  have c1 := hr.cell (i := 1) rfl
  have c2 := hr.cell (i := 2) rfl
  have c3 := hr.cell (i := 3) rfl
  have c4 := hr.cell (i := 4) rfl
  have c5 := hr.cell (i := 5) rfl
  have c6 := hr.cell (i := 6) rfl
  have c7 := hr.cell (i := 7) rfl
  have HW := hid hw1
  have hkt : o.kind.tmod 8 = 7 := by rw [Int.tmod_eq_emod_of_nonneg ho.kind.1, hk]
  clear hw1 hr hu hd1 hD ho hbl ho1 hw2 hk
  go_enter Try.func17, Try.ntmps17
  go_upto_region 1 with fail
  rw [← HW.out]
  go_wp2_with fail
  refine HC.out.mono ?_
  rintro e w2 ⟨rfl, hd⟩
  have HD := hid (DevTo.pre HU.out hd)
  clear hd
  go_wp2_with fail
  go_ret
  exact ⟨rfl, HD.out⟩
end Go.Proofs.Ytfcaodaaklngmaa
