import Derived.Test.YtklbckonlbpbgabSpnT3
/-! A record is put behind blocks. -/
namespace Go.Proofs.Ytklbckonlbpbgab
open Go.Lib Go.ChangeShapes Go.WideShapes Go.ChangeAt Go.RowKit
set_option linter.unusedVariables false

def Seg.cells (s : Seg) : List Value := [.bool s.before, .bool s.after, .string s.data]
theorem outs_next (y : ByteArray) (room : Nat) (d : List Seg) (p : Seg) (h : d = [] → ¬ (sform p).size ≤ room) : outs y room (d ++ [p]) = outs y room d ++ [sblk p] := by
  by_cases hd : d = []
  · subst hd
    rw [outs_one, if_neg (h rfl)]; rfl
  · exact outs_more y room d hd p
/-- what holds at the head of the loop -/
def AddInv (w w1 : World) (g m room K J : Nat) (y : ByteArray) (ps : List Seg) (len : Nat) (gk kk rm h : Nat) (u : Value) (ok : Bool) (wr : World) : Prop :=
  ∃ (done : List Seg) (cur : Seg) (todo : List Seg) (left : ByteArray) (over : Bool),
    ((done = [] ∧ rm = room ∧ kk = K) ∨ (done ≠ [] ∧ rm = 0 ∧ kk = K - J)) ∧
    ((ok = true ∧ ps = done ++ cur :: todo ∧ After m left over todo ∧ cur.data.size ≤ 1024 ∧ left.size ≤ len ∧ PB wr g room m left true over ∧ gk = todo.length + 1) ∨ (ok = false ∧ ps = done)) ∧
    Row wr h 36 cur.cells ∧ OwnStrs wr u (outs y room done) ∧ Fresh w1 u ∧ w1.heap.size ≤ h ∧ Below w.heap.size w wr
set_option maxRecDepth 100000 in
set_option maxHeartbeats 2000000 in
theorem add_nil (B : Nat) (hB : 9 ≤ B) (hB2 : B ≤ 1024) (A : Option Addr) (cap : Nat) (r : ByteArray) (hr : r.size ≤ 1500) (w : World) :
    Calls Try.prog 34 #[.int .i64 B, .slice A 0 cap, .string r] w (fun e w' => ∃ u, e = .returned (.tuple #[.int .i64 ((0 - (if joins 0 (parts (B - 8) (firstN B 0) false r) = true then 1 else 0) : Nat) : Int), u]) ∧ OwnStrs w' u (outs ⟨#[]⟩ 0 (parts (B - 8) (firstN B 0) false r)) ∧ Fresh w u ∧ Below w.heap.size w w') := by
  obtain ⟨room, hroom0⟩ : ∃ room : Nat, (0 : Nat) = room := ⟨_, rfl⟩
  obtain ⟨K, hK0⟩ : ∃ K : Nat, (0 : Nat) = K := ⟨_, rfl⟩
  obtain ⟨y, hy0⟩ : ∃ y : ByteArray, (⟨#[]⟩ : ByteArray) = y := ⟨_, rfl⟩
  have hroom : room ≤ 1024 := by omega
  have hys : y.size ≤ 1024 := by rw [← hy0]; show 0 ≤ 1024; omega
  have HGOAL : Hid (∀ e w', (∃ u, e = Ending.returned (.tuple #[.int .i64 ((K - (if joins room (parts (B - 8) (firstN B room) false r) = true then 1 else 0) : Nat) : Int), u]) ∧ OwnStrs w' u (outs y room (parts (B - 8) (firstN B room) false r)) ∧ Fresh w u ∧ Below w.heap.size w w') → (∃ u, e = Ending.returned (.tuple #[.int .i64 ((0 - (if joins 0 (parts (B - 8) (firstN B 0) false r) = true then 1 else 0) : Nat) : Int), u]) ∧ OwnStrs w' u (outs ⟨#[]⟩ 0 (parts (B - 8) (firstN B 0) false r)) ∧ Fresh w u ∧ Below w.heap.size w w')) := hid (fun e w' h => by subst hroom0 hK0 hy0; exact h)
  refine Calls.mono (R := fun e w' => (∃ u, e = Ending.returned (.tuple #[.int .i64 ((K - (if joins room (parts (B - 8) (firstN B room) false r) = true then 1 else 0) : Nat) : Int), u]) ∧ OwnStrs w' u (outs y room (parts (B - 8) (firstN B room) false r)) ∧ Fresh w u ∧ Below w.heap.size w w')) ?_ HGOAL.out
  have HKZ := hid hK0
  have HRZ := hid hroom0
  have HYZ := hid hy0
  clear hroom0 hK0 hy0 HGOAL
  obtain ⟨ps, hps0⟩ : ∃ ps, ps = parts (B - 8) (firstN B room) false r := ⟨_, rfl⟩
  have HPL : Hid (ps.length ≤ 2000) := hid (by rw [hps0]; have := parts_len (B - 8) (by omega) (firstN B room) (by unfold firstN; split <;> omega) false r; omega)
  have HPNE : Hid (ps ≠ []) := hid (by rw [hps0]; exact parts_ne _ _ _ _)
  rw [← hps0]
  obtain ⟨J, hJ⟩ : ∃ J, J = (if joins room ps = true then 1 else 0) := ⟨_, rfl⟩
  rw [← hJ]
  have HJ := hid hJ
  clear hJ
  have HPS00 : Hid (parts (B - 8) (firstN B room) false r = ps) := hid hps0.symm
  clear hps0
  go_enter Try.func34, Try.ntmps34
  go_wp2_with fail
  obtain ⟨m, hmm⟩ : ∃ m, m = B - 8 := ⟨_, rfl⟩
  have hm1 : 1 ≤ m := by omega
  have hm2 : m ≤ 1024 := by omega
  refine (parts_any B hB2 0 r _).mono ?_
  rintro e w1 ⟨rfl, hp1, hb1⟩
  replace hp1 : PB w1 w.heap.size (room : Int) ((B : Int) - 8) r false false := by rw [← HRZ.out]; exact hp1
  have HB1 := hid hb1
  obtain ⟨g, hg⟩ : ∃ g, g = w.heap.size := ⟨_, rfl⟩
  have HG0 : Hid (w.heap.size ≤ g) := hid (by rw [hg]; exact Nat.le_refl _)
  have HG1 : Hid (g + 5 ≤ w1.heap.size) := hid (by have := hp1.lt; rw [hg]; omega)
  rw [← hg] at hp1
  rw [← hg]
  dsimp only [partsFn]
  have FS := hid (first_some g B hB hB2 room hroom r (by omega) w1 hp1)
  rw [HPS00.out] at FS
  rw [← hmm] at FS
  clear hp1 hb1 hg hmm
  go_wp2_with fail
  refine FS.out.mono ?_
  rintro e w2 ⟨c, todo, left, over, hps, rfl, hpb, haf, hcs, hls, hu⟩
  dsimp only [Seg.val]
  have HPS0 := hid hps
  have HPB0 := hid hpb
  have HAF0 := hid haf
  have HLS0 := hid hls
  have HBW2 := hid (HB1.out.trans (hu.below HB1.out.size (fun k hk => by have := hk.1; have := HG0.out; omega)))
  have HS2 : Hid (w1.heap.size ≤ w2.heap.size) := hid hu.size
  clear hps hpb haf hls hu FS
  go_upto_region 8 with fail
  have hrn := Row.new w2 c.cells 36
  go_loopg [8, 10, 13, 14, 15] (todo.length + 1) (fun gk s8 s10 s13 s14 s15 wr => ∃ (kk rm h : Nat) (u' : Value) (ok : Bool), u' = s13 ∧ s8 = .int .i64 kk ∧ s10 = .int .i64 rm ∧ s14 = .pointer (some ⟨h, 0, none⟩) ∧ s15 = .bool ok ∧ AddInv w w1 g m room K J y ps r.size gk kk rm h u' ok wr)
  case atStart => exact ⟨K, room, w2.heap.size, _, true, rfl, (by rw [← HKZ.out]; rfl), (by rw [← HRZ.out]; rfl), rfl, rfl, [], c, todo, left, over, .inl ⟨rfl, rfl, rfl⟩, .inl ⟨rfl, HPS0.out, HAF0.out, hcs, HLS0.out, HPB0.out.below ((Below.refl _ _).alloc (Nat.le_refl _) _), rfl⟩, hrn, OwnStrs.nil _ _, Fresh.nil _, HS2.out, HBW2.out.alloc HBW2.out.size _⟩
  case round =>
    clear hrn HPS0 HPB0 HAF0 HLS0 HBW2 HS2 hcs
    obtain ⟨kk, rm, h, u, ok, rfl, rfl, rfl, rfl, rfl, done, cur, todo, left, over, hcase, hok, hrow, ho, hfr, hwh, hb⟩ := hrel
    have HB := hid hb
    have HF := hid hfr
    have HO := hid ho
    have HR := hid hrow
    rcases hok with ⟨rfl, hps, haf, hcs, hls, hpb, hgk⟩ | ⟨rfl, hps⟩
    · have HGK := hid hgk
      have HP := hid hpb
      have HLL := hid hls
      have HS : Hid (w1.heap.size ≤ wr.heap.size) := hid (by have := hrow.lt; omega)
      have hlen9 : left.size ≤ 100000 := by omega
      have HOL : Hid ((outs y room done).length ≤ 100000) := hid (by rw [outs_len]; have h1' := HPL.out; rw [hps] at h1'; simp at h1'; omega)
      have c0 := hrow.cell (i := 0) rfl
      have c1 := hrow.cell (i := 1) rfl
      have c2 := hrow.cell (i := 2) rfl
      have FORM : ∀ W, Hid (Calls Try.prog 42 #[.agg #[.bool cur.before, .bool cur.after, .string cur.data]] W (Gives (.string (sform cur)) W)) := fun W => hid (sform_any cur (by omega) W)
      obtain ⟨f, hf⟩ : ∃ f, f = sform cur := ⟨_, rfl⟩
      have hfs : f.size = 4 + cur.data.size := by rw [hf, sform_size]
      have hf4 : 4 ≤ f.size := by omega
      have hf9 : f.size ≤ 1028 := by omega
      rw [← hf] at FORM
      have HWH := hid hwh
      clear hfs ho hfr hrow hb hgk hpb hls hwh
      by_cases hj : f.size ≤ rm
      · clear HWH
        exact absurd hj (by rcases hcase with ⟨_, h', _⟩ | ⟨_, h', _⟩ <;> (have := HRZ.out; omega))
      · clear HWH
        have hno : done = [] → ¬ (sform cur).size ≤ room := fun e => by
          rcases hcase with h' | h'
          · rw [← hf, ← h'.2.1]; exact hj
          · exact absurd e h'.1
        have HKK : Hid (kk = K - J) := hid (by
          rcases hcase with ⟨h1', h2', h3'⟩ | ⟨_, _, h3'⟩
          · rw [HJ.out, hps, h1']
            show kk = K - (if decide ((sform cur).size ≤ room) = true then 1 else 0)
            rw [decide_eq_false (hno h1')]; rw [h3']; rfl
          · exact h3')
        have HOUTS : Hid (outs y room (done ++ [cur]) = outs y room done ++ [sblk cur]) := hid (outs_next y room done cur hno)
        have WW := fun W => hid (word_nat (4 + f.size) (by omega) W)
        rw [show ((4 + f.size : Nat) : Int) = 4 + (f.size : Int) by omega] at WW
        obtain ⟨q, hq⟩ : ∃ q, q = word (4 + f.size) := ⟨_, rfl⟩
        have hqs : q.size ≤ 4 := by rw [hq, word_size]; omega
        have HV : Hid (sblk cur = q ++ f) := hid (by rw [hq, hf]; rfl)
        rw [← hq] at WW
        obtain ⟨z, hz⟩ : ∃ z, z = q ++ f := ⟨_, rfl⟩
        rw [← hz] at HV
        rw [HV.out] at HOUTS
        have HZ := hid hz
        have hjI : ¬ ((f.size : Int) ≤ (rm : Int)) := by omega
        have HPS := hid hps
        have HFF := hid hf
        clear hcase hps hf hj hq hz 
        go_wp2_with fail
        refine (FORM _).out.mono ?_
        rintro e w5 ⟨rfl, hb⟩
        have HR5 := hid (HR.out.upd (F := fun _ => False) (Upds.of_below hb (Nat.le_refl _)) (fun h => h))
        have HP5 := hid (HP.out.below hb)
        have HO5 := hid (HO.out.below hb (Nat.le_refl _))
        have HB5 := hid (HB.out.trans (hb.mono HB.out.size))
        have HS5 : Hid (w1.heap.size ≤ w5.heap.size) := hid (Nat.le_trans HS.out hb.size)
        clear hb
        go_wp2_with fail
        (with_reducible refine (WW _).out.mono ?_)
        rintro e w7 ⟨rfl, hb⟩
        have HR7 := hid ((HR5.out.upd (F := fun _ => False) (Upds.of_below hb (Nat.le_refl _)) (fun h => h)).alloc (.cells #[.string z] 9))
        have HP7 := hid ((HP5.out.below hb).below ((Below.refl _ _).alloc (Nat.le_refl _) (.cells #[.string z] 9)))
        have HO7 := hid ((HO5.out.below hb (Nat.le_refl _)).alloc (.cells #[.string z] 9))
        have HB7 := hid ((HB5.out.trans (hb.mono HB5.out.size)).alloc (HB5.out.trans (hb.mono HB5.out.size)).size (.cells #[.string z] 9))
        have HS7 : Hid (w1.heap.size ≤ (w7.alloc (.cells #[.string z] 9)).heap.size) := hid (by have h1' := HS5.out; have h2' := hb.size; simp; omega)
        clear hb
        go_upto_region 15 with (at_builtin; (try rw [← HZ.out]); refine wpList_append_strs (by rfl) (.tmp 58) (.tmp 65) rfl u _ rfl HO7.out _ [z] rfl (strs_new1 _ z _ (by simp)) HOL.out (by simp) ?_; intro u8 w8 hs8 hu8 hh8)
        rcases haf with ⟨rfl, rfl⟩ | ⟨rfl, htodo⟩
        · have HR8 := hid (HR7.out.upd hu8.out (fun hk => by obtain ⟨cu, hcu⟩ := SliceIs.row HO7.out h hk; exact absurd rfl (hcu.ne HR7.out (by decide))))
          have HP8 := hid (HP7.out.upd hu8.out (fun k k1 k2 hk => by have := HF.out k hk; have := HG1.out; omega))
          have HB8 := hid (HB7.out.trans (hu8.out.below HB7.out.size (fun k hk => by have := HF.out k hk; have := HG1.out; have := HG0.out; omega)))
          have HF8 : Hid (Fresh w1 u8) := hid (fun k hk => (hh8.out k hk).elim (HF.out k) (fun h' => by have := HS7.out; omega))
          have HS8 : Hid (w1.heap.size ≤ w8.heap.size) := hid (Nat.le_trans HS7.out hu8.out.size)
          have c0 := HR8.out.cell (i := 0) rfl
          have c1 := HR8.out.cell (i := 1) rfl
          have c2 := HR8.out.cell (i := 2) rfl
          go_upto_region 9 with fail
          have hrn := Row.new w8 cur.cells 36
          obtain ⟨w9, hw9⟩ : ∃ w9, w9 = w8.alloc (.cells cur.cells.toArray 36) := ⟨_, rfl⟩
          have HW9 : Hid (w8.alloc (.cells #[.bool cur.before, .bool cur.after, .string cur.data] 36) = w9) := hid (by rw [hw9]; rfl)
          rw [← hw9] at hrn
          have HR9 := hid hrn
          have hb9 : Below w8.heap.size w8 w9 := by rw [hw9]; exact (Below.refl _ _).alloc (Nat.le_refl _) _
          have HP9 := hid (HP8.out.below hb9)
          have HO9 := hid (hs8.out.below hb9 (Nat.le_refl _))
          have HB9 := hid (HB8.out.trans (hb9.mono HB8.out.size))
          obtain ⟨h2, hh2⟩ : ∃ h2, h2 = w8.heap.size := ⟨_, rfl⟩
          have HH2 : Hid (w1.heap.size ≤ h2) := hid (by rw [hh2]; exact HS8.out)
          rw [← hh2] at HR9
          rw [HW9.out, ← hh2]
          clear hrn hw9 hb9 hh2 c0 c1 c2 HW9
          go_wp2_with fail
          refine (parts1_over g _ m left true _ HP9.out).mono ?_
          rintro e wa ⟨rfl, hb⟩
          have HRA := hid (HR9.out.upd (F := fun _ => False) (Upds.of_below hb (Nat.le_refl _)) (fun h => h))
          have HOA := hid (HO9.out.below hb (Nat.le_refl _))
          have HBA := hid (HB9.out.trans (hb.mono HB9.out.size))
          clear hb
          dsimp only [Seg.val]
          have c0 := HRA.out.cell (i := 0) rfl
          have c1 := HRA.out.cell (i := 1) rfl
          have c2 := HRA.out.cell (i := 2) rfl
          have f0 := HRA.out.frozen 0
          have f1 := HRA.out.frozen 1
          have f2 := HRA.out.frozen 2
          go_wp2_with fail
          have u1 : Upds (fun k => k = h2) wa (wa.setCell ⟨h2, 0, none⟩ (.bool false)) := Upds.set _ _ _ rfl
          have u2 : Upds (fun k => k = h2) (wa.setCell ⟨h2, 0, none⟩ (.bool false)) ((wa.setCell ⟨h2, 0, none⟩ (.bool false)).setCell ⟨h2, 1, none⟩ (.bool false)) := Upds.set _ _ _ rfl
          have u3 : Upds (fun k => k = h2) ((wa.setCell ⟨h2, 0, none⟩ (.bool false)).setCell ⟨h2, 1, none⟩ (.bool false)) (((wa.setCell ⟨h2, 0, none⟩ (.bool false)).setCell ⟨h2, 1, none⟩ (.bool false)).setCell ⟨h2, 2, none⟩ (.string ⟨#[]⟩)) := Upds.set _ _ _ rfl
          have hu5 := (u1.trans u2).trans u3
          have hr5 := ((HRA.out.set 0 (.bool false)).set 1 (.bool false)).set 2 (.string ⟨#[]⟩)
          have ho5 := SliceIs.upd HOA.out hu5 (fun k hk e => by subst e; obtain ⟨cu, hcu⟩ := SliceIs.row HOA.out k hk; exact absurd rfl (hcu.ne HRA.out (by decide)))
          have hb5 := HBA.out.trans (hu5.below HBA.out.size (fun k hk => by have := HH2.out; have := HG1.out; have := HG0.out; omega))
          go_roundg 0
          case measure => have := HGK.out; omega
          case rel => exact ⟨kk, 0, h2, u8, false, rfl, rfl, rfl, rfl, rfl, done ++ [cur], ⟨false, false, ⟨#[]⟩⟩, [], left, true, .inr ⟨by simp, rfl, HKK.out⟩, .inr ⟨rfl, HPS.out⟩, hr5, by rw [HOUTS.out]; exact ho5, HF8.out, HH2.out, hb5⟩
        · have HTODO := hid htodo
          clear htodo
          have HR8 := hid (HR7.out.upd hu8.out (fun hk => by obtain ⟨cu, hcu⟩ := SliceIs.row HO7.out h hk; exact absurd rfl (hcu.ne HR7.out (by decide))))
          have HP8 := hid (HP7.out.upd hu8.out (fun k k1 k2 hk => by have := HF.out k hk; have := HG1.out; omega))
          have HB8 := hid (HB7.out.trans (hu8.out.below HB7.out.size (fun k hk => by have := HF.out k hk; have := HG1.out; have := HG0.out; omega)))
          have HF8 : Hid (Fresh w1 u8) := hid (fun k hk => (hh8.out k hk).elim (HF.out k) (fun h' => by have := HS7.out; omega))
          have HS8 : Hid (w1.heap.size ≤ w8.heap.size) := hid (Nat.le_trans HS7.out hu8.out.size)
          have c0 := HR8.out.cell (i := 0) rfl
          have c1 := HR8.out.cell (i := 1) rfl
          have c2 := HR8.out.cell (i := 2) rfl
          go_upto_region 9 with fail
          have hrn := Row.new w8 cur.cells 36
          obtain ⟨w9, hw9⟩ : ∃ w9, w9 = w8.alloc (.cells cur.cells.toArray 36) := ⟨_, rfl⟩
          have HW9 : Hid (w8.alloc (.cells #[.bool cur.before, .bool cur.after, .string cur.data] 36) = w9) := hid (by rw [hw9]; rfl)
          rw [← hw9] at hrn
          have HR9 := hid hrn
          have hb9 : Below w8.heap.size w8 w9 := by rw [hw9]; exact (Below.refl _ _).alloc (Nat.le_refl _) _
          have HP9 := hid (HP8.out.below hb9)
          have HO9 := hid (hs8.out.below hb9 (Nat.le_refl _))
          have HB9 := hid (HB8.out.trans (hb9.mono HB8.out.size))
          obtain ⟨h2, hh2⟩ : ∃ h2, h2 = w8.heap.size := ⟨_, rfl⟩
          have HH2 : Hid (w1.heap.size ≤ h2) := hid (by rw [hh2]; exact HS8.out)
          rw [← hh2] at HR9
          rw [HW9.out, ← hh2]
          clear hrn hw9 hb9 hh2 c0 c1 c2 HW9
          go_wp2_with fail
          refine (next_some g m hm1 hm2 _ left hlen9 _ HP9.out).mono ?_
          rintro e wa ⟨c', todo', left', over', hps', rfl, hpa, haf', hcs', hls', hua⟩
          have HRA := hid (HR9.out.upd hua (fun hk => by have := hk.2; have := HH2.out; have := HG1.out; omega))
          have HOA := hid (SliceIs.upd HO9.out hua (fun k hk h' => by have := h'.2; have := HF8.out k hk; have := HG1.out; omega))
          have HBA := hid (HB9.out.trans (hua.below HB9.out.size (fun k hk => by have := hk.1; have := HG0.out; omega)))
          have HPA := hid hpa
          have HPS' := hid hps'
          have HAF' := hid haf'
          have HLS' := hid hls'
          clear hua hpa hps' haf' hls'
          dsimp only [Seg.val]
          have c0 := HRA.out.cell (i := 0) rfl
          have c1 := HRA.out.cell (i := 1) rfl
          have c2 := HRA.out.cell (i := 2) rfl
          have f0 := HRA.out.frozen 0
          have f1 := HRA.out.frozen 1
          have f2 := HRA.out.frozen 2
          go_wp2_with fail
          have u1 : Upds (fun k => k = h2) wa (wa.setCell ⟨h2, 0, none⟩ (.bool c'.before)) := Upds.set _ _ _ rfl
          have u2 : Upds (fun k => k = h2) (wa.setCell ⟨h2, 0, none⟩ (.bool c'.before)) ((wa.setCell ⟨h2, 0, none⟩ (.bool c'.before)).setCell ⟨h2, 1, none⟩ (.bool c'.after)) := Upds.set _ _ _ rfl
          have u3 : Upds (fun k => k = h2) ((wa.setCell ⟨h2, 0, none⟩ (.bool c'.before)).setCell ⟨h2, 1, none⟩ (.bool c'.after)) (((wa.setCell ⟨h2, 0, none⟩ (.bool c'.before)).setCell ⟨h2, 1, none⟩ (.bool c'.after)).setCell ⟨h2, 2, none⟩ (.string c'.data)) := Upds.set _ _ _ rfl
          have hu5 := (u1.trans u2).trans u3
          have hr5 := ((HRA.out.set 0 (.bool c'.before)).set 1 (.bool c'.after)).set 2 (.string c'.data)
          have ho5 := SliceIs.upd HOA.out hu5 (fun k hk e => by subst e; obtain ⟨cu, hcu⟩ := SliceIs.row HOA.out k hk; exact absurd rfl (hcu.ne HRA.out (by decide)))
          have hb5 := HBA.out.trans (hu5.below HBA.out.size (fun k hk => by have := HH2.out; have := HG1.out; have := HG0.out; omega))
          have hp5 := HPA.out.upd hu5 (fun k h1 h3 e => by have := HH2.out; have := HG1.out; omega)
          go_roundg (todo'.length + 1)
          case measure => have := HGK.out; have := congrArg List.length (HTODO.out.trans HPS'.out); simp only [List.length_cons] at this; omega
          case rel => exact ⟨kk, 0, h2, u8, true, rfl, rfl, rfl, rfl, rfl, done ++ [cur], c', todo', left', over', .inr ⟨by simp, rfl, HKK.out⟩, .inl ⟨rfl, by rw [HPS.out, HTODO.out, HPS'.out]; simp, HAF'.out, by omega, Nat.le_trans HLS'.out HLL.out, hp5, rfl⟩, hr5, by rw [HOUTS.out]; exact ho5, HF8.out, HH2.out, hb5⟩
    · have hd : done ≠ [] ∧ rm = 0 ∧ kk = K - J := hcase.resolve_left (fun h' => HPNE.out (hps.trans h'.1))
      have HKK := hid hd.2.2
      have HPS := hid hps
      clear hcase hd hps ho hfr hrow hb hwh
      go_wp2_with fail
      go_ret2
      exact ⟨_, by rw [HKK.out]; rfl, by rw [HPS.out]; exact HO.out, fun k hk => Nat.le_trans (by have := HG0.out; have := HG1.out; omega) (HF.out k hk), HB.out⟩
set_option maxRecDepth 100000 in
set_option maxHeartbeats 2000000 in
theorem add_more (B : Nat) (hB : 9 ≤ B) (hB2 : B ≤ 1024) (A : Option Addr) (cap : Nat) (bl : List ByteArray) (hbl : bl.length ≤ 100000) (hne : bl ≠ []) (hlast : 4 ≤ (bl.getLast hne).size ∧ (bl.getLast hne).size ≤ B) (r : ByteArray) (hr : r.size ≤ 1500) (w : World) (hs : StrsAt w (.slice A bl.length cap) bl) :
    Calls Try.prog 34 #[.int .i64 B, .slice A bl.length cap, .string r] w (fun e w' => ∃ u, e = .returned (.tuple #[.int .i64 ((bl.length - (if joins (B - (bl.getLast hne).size) (parts (B - 8) (firstN B (B - (bl.getLast hne).size)) false r) = true then 1 else 0) : Nat) : Int), u]) ∧ OwnStrs w' u (outs ((bl.getLast hne).extract 4 (bl.getLast hne).size) (B - (bl.getLast hne).size) (parts (B - 8) (firstN B (B - (bl.getLast hne).size)) false r)) ∧ Fresh w u ∧ Below w.heap.size w w') := by
  obtain ⟨last, hla⟩ : ∃ last, last = bl.getLast hne := ⟨_, rfl⟩
  rw [← hla] at hlast ⊢
  have hlp : 0 < bl.length := List.length_pos_iff.2 hne
  have hix : last = bl[bl.length - 1]'(by omega) := by rw [hla, List.getLast_eq_getElem]
  obtain ⟨b0, off, rfl, hb0, c0⟩ := hs.round (k := bl.length - 1) (by omega)
  rw [← hix] at c0
  have HCAP := hs.shape
  obtain ⟨_, _, hsh, hcap1, hcap2⟩ := HCAP
  simp only [Value.slice.injEq] at hsh
  obtain ⟨rfl, _, rfl⟩ := hsh
  have S1 := fun W => sl_from last 4 4 rfl hlast.1 W
  obtain ⟨y, hy⟩ : ∃ y, y = last.extract 4 last.size := ⟨_, rfl⟩
  have hys : y.size ≤ 1024 := by rw [hy, ByteArray.size_extract]; omega
  rw [← hy] at S1 ⊢
  obtain ⟨room, hrm⟩ : ∃ room, room = B - last.size := ⟨_, rfl⟩
  have hroom : room ≤ 1024 := by omega
  have hri : (B : Int) - (last.size : Int) = (room : Int) := by have := hlast.2; omega
  rw [← hrm]
  obtain ⟨K, hK⟩ : ∃ K, K = bl.length := ⟨_, rfl⟩
  have HK1 : Hid (0 < room → 1 ≤ K) := hid (fun h => by omega)
  have hKp : 0 < K := by omega
  have hKb : K ≤ 100000 := by omega
  rw [← hK] at c0 hcap1 ⊢
  obtain ⟨k1, hk0⟩ : ∃ k1, k1 = K - 1 := ⟨_, rfl⟩
  rw [← hk0] at c0
  have hk1 : (K : Int) - 1 = (k1 : Int) := by omega
  have hk2 : (k1 : Int) < (K : Int) := by omega
  clear hk0
  have HSL := hid hlast
  clear hs hla hix hy hrm hK hlp hlast hbl
  obtain ⟨ps, hps0⟩ : ∃ ps, ps = parts (B - 8) (firstN B room) false r := ⟨_, rfl⟩
  have HPL : Hid (ps.length ≤ 2000) := hid (by rw [hps0]; have := parts_len (B - 8) (by omega) (firstN B room) (by unfold firstN; split <;> omega) false r; omega)
  have HPNE : Hid (ps ≠ []) := hid (by rw [hps0]; exact parts_ne _ _ _ _)
  rw [← hps0]
  obtain ⟨J, hJ⟩ : ∃ J, J = (if joins room ps = true then 1 else 0) := ⟨_, rfl⟩
  rw [← hJ]
  have HJ := hid hJ
  clear hJ
  have HPS00 : Hid (parts (B - 8) (firstN B room) false r = ps) := hid hps0.symm
  clear hps0
  go_enter Try.func34, Try.ntmps34
  go_wp2_with fail
  obtain ⟨m, hmm⟩ : ∃ m, m = B - 8 := ⟨_, rfl⟩
  have hm1 : 1 ≤ m := by omega
  have hm2 : m ≤ 1024 := by omega
  refine (parts_any B hB2 room r _).mono ?_
  rintro e w1 ⟨rfl, hp1, hb1⟩
  have HB1 := hid hb1
  obtain ⟨g, hg⟩ : ∃ g, g = w.heap.size := ⟨_, rfl⟩
  have HG0 : Hid (w.heap.size ≤ g) := hid (by rw [hg]; exact Nat.le_refl _)
  have HG1 : Hid (g + 5 ≤ w1.heap.size) := hid (by have := hp1.lt; rw [hg]; omega)
  rw [← hg] at hp1
  rw [← hg]
  dsimp only [partsFn]
  have FS := hid (first_some g B hB hB2 room hroom r (by omega) w1 hp1)
  rw [HPS00.out] at FS
  rw [← hmm] at FS
  clear hp1 hb1 hg hmm
  go_wp2_with fail
  refine FS.out.mono ?_
  rintro e w2 ⟨c, todo, left, over, hps, rfl, hpb, haf, hcs, hls, hu⟩
  dsimp only [Seg.val]
  have HPS0 := hid hps
  have HPB0 := hid hpb
  have HAF0 := hid haf
  have HLS0 := hid hls
  have HBW2 := hid (HB1.out.trans (hu.below HB1.out.size (fun k hk => by have := hk.1; have := HG0.out; omega)))
  have HS2 : Hid (w1.heap.size ≤ w2.heap.size) := hid hu.size
  clear hps hpb haf hls hu FS
  go_upto_region 8 with fail
  have hrn := Row.new w2 c.cells 36
  go_loopg [8, 10, 13, 14, 15] (todo.length + 1) (fun gk s8 s10 s13 s14 s15 wr => ∃ (kk rm h : Nat) (u' : Value) (ok : Bool), u' = s13 ∧ s8 = .int .i64 kk ∧ s10 = .int .i64 rm ∧ s14 = .pointer (some ⟨h, 0, none⟩) ∧ s15 = .bool ok ∧ AddInv w w1 g m room K J y ps r.size gk kk rm h u' ok wr)
  case atStart => exact ⟨K, room, w2.heap.size, _, true, rfl, rfl, rfl, rfl, rfl, [], c, todo, left, over, .inl ⟨rfl, rfl, rfl⟩, .inl ⟨rfl, HPS0.out, HAF0.out, hcs, HLS0.out, HPB0.out.below ((Below.refl _ _).alloc (Nat.le_refl _) _), rfl⟩, hrn, OwnStrs.nil _ _, Fresh.nil _, HS2.out, HBW2.out.alloc HBW2.out.size _⟩
  case round =>
    clear hrn HPS0 HPB0 HAF0 HLS0 HBW2 HS2 hcs hk1
    obtain ⟨kk, rm, h, u, ok, rfl, rfl, rfl, rfl, rfl, done, cur, todo, left, over, hcase, hok, hrow, ho, hfr, hwh, hb⟩ := hrel
    have HB := hid hb
    have HF := hid hfr
    have HO := hid ho
    have HR := hid hrow
    rcases hok with ⟨rfl, hps, haf, hcs, hls, hpb, hgk⟩ | ⟨rfl, hps⟩
    · have HGK := hid hgk
      have HP := hid hpb
      have HLL := hid hls
      have HS : Hid (w1.heap.size ≤ wr.heap.size) := hid (by have := hrow.lt; omega)
      have hlen9 : left.size ≤ 100000 := by omega
      have HOL : Hid ((outs y room done).length ≤ 100000) := hid (by rw [outs_len]; have h1' := HPL.out; rw [hps] at h1'; simp at h1'; omega)
      have c0 := hrow.cell (i := 0) rfl
      have c1 := hrow.cell (i := 1) rfl
      have c2 := hrow.cell (i := 2) rfl
      have FORM : ∀ W, Hid (Calls Try.prog 42 #[.agg #[.bool cur.before, .bool cur.after, .string cur.data]] W (Gives (.string (sform cur)) W)) := fun W => hid (sform_any cur (by omega) W)
      obtain ⟨f, hf⟩ : ∃ f, f = sform cur := ⟨_, rfl⟩
      have hfs : f.size = 4 + cur.data.size := by rw [hf, sform_size]
      have hf4 : 4 ≤ f.size := by omega
      have hf9 : f.size ≤ 1028 := by omega
      rw [← hf] at FORM
      have HWH := hid hwh
      clear hfs ho hfr hrow hb hgk hpb hls hwh
      by_cases hj : f.size ≤ rm
      · clear HWH
        have hd : done = [] ∧ rm = room ∧ kk = K := hcase.resolve_right (fun h' => by have := h'.2.1; omega)
        obtain ⟨rfl, rfl, rfl⟩ := hd
        have HKK : Hid (kk - 1 = kk - J) := hid (by rw [HJ.out, hps]; show kk - 1 = kk - (if decide ((sform cur).size ≤ rm) = true then 1 else 0); rw [decide_eq_true (by rw [← hf]; exact hj)]; rfl)
        have HOUTS : Hid (outs y rm ([] ++ [cur]) = outs y rm [] ++ [vform (y ++ f)]) := hid (by rw [outs_one, ← hf, if_pos hj]; rfl)
        obtain ⟨fy, hfy⟩ : ∃ fy, fy = y ++ f := ⟨_, rfl⟩
        have hfz : fy.size ≤ 4000 := by rw [hfy, ByteArray.size_append]; omega
        rw [← hfy] at HOUTS
        have WW := fun W => hid (word_nat (4 + fy.size) (by omega) W)
        rw [show ((4 + fy.size : Nat) : Int) = 4 + ((y.size : Int) + (f.size : Int)) by rw [hfy, ByteArray.size_append]; omega] at WW
        obtain ⟨q, hq⟩ : ∃ q, q = word (4 + fy.size) := ⟨_, rfl⟩
        have hqs : q.size ≤ 4 := by rw [hq, word_size]; omega
        have HV : Hid (vform fy = q ++ fy) := hid (by rw [hq]; rfl)
        rw [← hq] at WW
        obtain ⟨z, hz⟩ : ∃ z, z = q ++ fy := ⟨_, rfl⟩
        rw [← hz] at HV
        rw [HV.out] at HOUTS
        have HZ := hid hz
        have HFY := hid hfy
        have hkk1 : (kk : Int) - 1 = ((kk - 1 : Nat) : Int) := by have := HK1.out (by omega); omega
        have hjI : (f.size : Int) ≤ (rm : Int) := by omega
        have HPS := hid hps
        have HFF := hid hf
        clear hcase hps hf hj hq hz hfy
        go_wp2_with fail
        refine (FORM _).out.mono ?_
        rintro e w5 ⟨rfl, hb⟩
        have HR5 := hid (HR.out.upd (F := fun _ => False) (Upds.of_below hb (Nat.le_refl _)) (fun h => h))
        have HP5 := hid (HP.out.below hb)
        have HO5 := hid (HO.out.below hb (Nat.le_refl _))
        have HB5 := hid (HB.out.trans (hb.mono HB.out.size))
        have HS5 : Hid (w1.heap.size ≤ w5.heap.size) := hid (Nat.le_trans HS.out hb.size)
        clear hb
        go_wp2_with fail
        (try rw [← HFY.out])
        (with_reducible refine (WW _).out.mono ?_)
        rintro e w7 ⟨rfl, hb⟩
        have HR7 := hid ((HR5.out.upd (F := fun _ => False) (Upds.of_below hb (Nat.le_refl _)) (fun h => h)).alloc (.cells #[.string z] 9))
        have HP7 := hid ((HP5.out.below hb).below ((Below.refl _ _).alloc (Nat.le_refl _) (.cells #[.string z] 9)))
        have HO7 := hid ((HO5.out.below hb (Nat.le_refl _)).alloc (.cells #[.string z] 9))
        have HB7 := hid ((HB5.out.trans (hb.mono HB5.out.size)).alloc (HB5.out.trans (hb.mono HB5.out.size)).size (.cells #[.string z] 9))
        have HS7 : Hid (w1.heap.size ≤ (w7.alloc (.cells #[.string z] 9)).heap.size) := hid (by have h1' := HS5.out; have h2' := hb.size; simp; omega)
        clear hb
        go_upto_region 15 with (at_builtin; (try rw [← HZ.out]); refine wpList_append_strs (by rfl) (.tmp 58) (.tmp 65) rfl u _ rfl HO7.out _ [z] rfl (strs_new1 _ z _ (by simp)) HOL.out (by simp) ?_; intro u8 w8 hs8 hu8 hh8)
        rcases haf with ⟨rfl, rfl⟩ | ⟨rfl, htodo⟩
        · have HR8 := hid (HR7.out.upd hu8.out (fun hk => by obtain ⟨cu, hcu⟩ := SliceIs.row HO7.out h hk; exact absurd rfl (hcu.ne HR7.out (by decide))))
          have HP8 := hid (HP7.out.upd hu8.out (fun k k1 k2 hk => by have := HF.out k hk; have := HG1.out; omega))
          have HB8 := hid (HB7.out.trans (hu8.out.below HB7.out.size (fun k hk => by have := HF.out k hk; have := HG1.out; have := HG0.out; omega)))
          have HF8 : Hid (Fresh w1 u8) := hid (fun k hk => (hh8.out k hk).elim (HF.out k) (fun h' => by have := HS7.out; omega))
          have HS8 : Hid (w1.heap.size ≤ w8.heap.size) := hid (Nat.le_trans HS7.out hu8.out.size)
          have c0 := HR8.out.cell (i := 0) rfl
          have c1 := HR8.out.cell (i := 1) rfl
          have c2 := HR8.out.cell (i := 2) rfl
          go_upto_region 9 with fail
          have hrn := Row.new w8 cur.cells 36
          obtain ⟨w9, hw9⟩ : ∃ w9, w9 = w8.alloc (.cells cur.cells.toArray 36) := ⟨_, rfl⟩
          have HW9 : Hid (w8.alloc (.cells #[.bool cur.before, .bool cur.after, .string cur.data] 36) = w9) := hid (by rw [hw9]; rfl)
          rw [← hw9] at hrn
          have HR9 := hid hrn
          have hb9 : Below w8.heap.size w8 w9 := by rw [hw9]; exact (Below.refl _ _).alloc (Nat.le_refl _) _
          have HP9 := hid (HP8.out.below hb9)
          have HO9 := hid (hs8.out.below hb9 (Nat.le_refl _))
          have HB9 := hid (HB8.out.trans (hb9.mono HB8.out.size))
          obtain ⟨h2, hh2⟩ : ∃ h2, h2 = w8.heap.size := ⟨_, rfl⟩
          have HH2 : Hid (w1.heap.size ≤ h2) := hid (by rw [hh2]; exact HS8.out)
          rw [← hh2] at HR9
          rw [HW9.out, ← hh2]
          clear hrn hw9 hb9 hh2 c0 c1 c2 HW9
          go_wp2_with fail
          refine (parts1_over g _ m left true _ HP9.out).mono ?_
          rintro e wa ⟨rfl, hb⟩
          have HRA := hid (HR9.out.upd (F := fun _ => False) (Upds.of_below hb (Nat.le_refl _)) (fun h => h))
          have HOA := hid (HO9.out.below hb (Nat.le_refl _))
          have HBA := hid (HB9.out.trans (hb.mono HB9.out.size))
          clear hb
          dsimp only [Seg.val]
          have c0 := HRA.out.cell (i := 0) rfl
          have c1 := HRA.out.cell (i := 1) rfl
          have c2 := HRA.out.cell (i := 2) rfl
          have f0 := HRA.out.frozen 0
          have f1 := HRA.out.frozen 1
          have f2 := HRA.out.frozen 2
          go_wp2_with fail
          have u1 : Upds (fun k => k = h2) wa (wa.setCell ⟨h2, 0, none⟩ (.bool false)) := Upds.set _ _ _ rfl
          have u2 : Upds (fun k => k = h2) (wa.setCell ⟨h2, 0, none⟩ (.bool false)) ((wa.setCell ⟨h2, 0, none⟩ (.bool false)).setCell ⟨h2, 1, none⟩ (.bool false)) := Upds.set _ _ _ rfl
          have u3 : Upds (fun k => k = h2) ((wa.setCell ⟨h2, 0, none⟩ (.bool false)).setCell ⟨h2, 1, none⟩ (.bool false)) (((wa.setCell ⟨h2, 0, none⟩ (.bool false)).setCell ⟨h2, 1, none⟩ (.bool false)).setCell ⟨h2, 2, none⟩ (.string ⟨#[]⟩)) := Upds.set _ _ _ rfl
          have hu5 := (u1.trans u2).trans u3
          have hr5 := ((HRA.out.set 0 (.bool false)).set 1 (.bool false)).set 2 (.string ⟨#[]⟩)
          have ho5 := SliceIs.upd HOA.out hu5 (fun k hk e => by subst e; obtain ⟨cu, hcu⟩ := SliceIs.row HOA.out k hk; exact absurd rfl (hcu.ne HRA.out (by decide)))
          have hb5 := HBA.out.trans (hu5.below HBA.out.size (fun k hk => by have := HH2.out; have := HG1.out; have := HG0.out; omega))
          go_roundg 0
          case measure => have := HGK.out; omega
          case rel => exact ⟨kk - 1, 0, h2, u8, false, rfl, rfl, rfl, rfl, rfl, [] ++ [cur], ⟨false, false, ⟨#[]⟩⟩, [], left, true, .inr ⟨by simp, rfl, HKK.out⟩, .inr ⟨rfl, HPS.out⟩, hr5, by rw [HOUTS.out]; exact ho5, HF8.out, HH2.out, hb5⟩
        · have HTODO := hid htodo
          clear htodo
          have HR8 := hid (HR7.out.upd hu8.out (fun hk => by obtain ⟨cu, hcu⟩ := SliceIs.row HO7.out h hk; exact absurd rfl (hcu.ne HR7.out (by decide))))
          have HP8 := hid (HP7.out.upd hu8.out (fun k k1 k2 hk => by have := HF.out k hk; have := HG1.out; omega))
          have HB8 := hid (HB7.out.trans (hu8.out.below HB7.out.size (fun k hk => by have := HF.out k hk; have := HG1.out; have := HG0.out; omega)))
          have HF8 : Hid (Fresh w1 u8) := hid (fun k hk => (hh8.out k hk).elim (HF.out k) (fun h' => by have := HS7.out; omega))
          have HS8 : Hid (w1.heap.size ≤ w8.heap.size) := hid (Nat.le_trans HS7.out hu8.out.size)
          have c0 := HR8.out.cell (i := 0) rfl
          have c1 := HR8.out.cell (i := 1) rfl
          have c2 := HR8.out.cell (i := 2) rfl
          go_upto_region 9 with fail
          have hrn := Row.new w8 cur.cells 36
          obtain ⟨w9, hw9⟩ : ∃ w9, w9 = w8.alloc (.cells cur.cells.toArray 36) := ⟨_, rfl⟩
          have HW9 : Hid (w8.alloc (.cells #[.bool cur.before, .bool cur.after, .string cur.data] 36) = w9) := hid (by rw [hw9]; rfl)
          rw [← hw9] at hrn
          have HR9 := hid hrn
          have hb9 : Below w8.heap.size w8 w9 := by rw [hw9]; exact (Below.refl _ _).alloc (Nat.le_refl _) _
          have HP9 := hid (HP8.out.below hb9)
          have HO9 := hid (hs8.out.below hb9 (Nat.le_refl _))
          have HB9 := hid (HB8.out.trans (hb9.mono HB8.out.size))
          obtain ⟨h2, hh2⟩ : ∃ h2, h2 = w8.heap.size := ⟨_, rfl⟩
          have HH2 : Hid (w1.heap.size ≤ h2) := hid (by rw [hh2]; exact HS8.out)
          rw [← hh2] at HR9
          rw [HW9.out, ← hh2]
          clear hrn hw9 hb9 hh2 c0 c1 c2 HW9
          go_wp2_with fail
          refine (next_some g m hm1 hm2 _ left hlen9 _ HP9.out).mono ?_
          rintro e wa ⟨c', todo', left', over', hps', rfl, hpa, haf', hcs', hls', hua⟩
          have HRA := hid (HR9.out.upd hua (fun hk => by have := hk.2; have := HH2.out; have := HG1.out; omega))
          have HOA := hid (SliceIs.upd HO9.out hua (fun k hk h' => by have := h'.2; have := HF8.out k hk; have := HG1.out; omega))
          have HBA := hid (HB9.out.trans (hua.below HB9.out.size (fun k hk => by have := hk.1; have := HG0.out; omega)))
          have HPA := hid hpa
          have HPS' := hid hps'
          have HAF' := hid haf'
          have HLS' := hid hls'
          clear hua hpa hps' haf' hls'
          dsimp only [Seg.val]
          have c0 := HRA.out.cell (i := 0) rfl
          have c1 := HRA.out.cell (i := 1) rfl
          have c2 := HRA.out.cell (i := 2) rfl
          have f0 := HRA.out.frozen 0
          have f1 := HRA.out.frozen 1
          have f2 := HRA.out.frozen 2
          go_wp2_with fail
          have u1 : Upds (fun k => k = h2) wa (wa.setCell ⟨h2, 0, none⟩ (.bool c'.before)) := Upds.set _ _ _ rfl
          have u2 : Upds (fun k => k = h2) (wa.setCell ⟨h2, 0, none⟩ (.bool c'.before)) ((wa.setCell ⟨h2, 0, none⟩ (.bool c'.before)).setCell ⟨h2, 1, none⟩ (.bool c'.after)) := Upds.set _ _ _ rfl
          have u3 : Upds (fun k => k = h2) ((wa.setCell ⟨h2, 0, none⟩ (.bool c'.before)).setCell ⟨h2, 1, none⟩ (.bool c'.after)) (((wa.setCell ⟨h2, 0, none⟩ (.bool c'.before)).setCell ⟨h2, 1, none⟩ (.bool c'.after)).setCell ⟨h2, 2, none⟩ (.string c'.data)) := Upds.set _ _ _ rfl
          have hu5 := (u1.trans u2).trans u3
          have hr5 := ((HRA.out.set 0 (.bool c'.before)).set 1 (.bool c'.after)).set 2 (.string c'.data)
          have ho5 := SliceIs.upd HOA.out hu5 (fun k hk e => by subst e; obtain ⟨cu, hcu⟩ := SliceIs.row HOA.out k hk; exact absurd rfl (hcu.ne HRA.out (by decide)))
          have hb5 := HBA.out.trans (hu5.below HBA.out.size (fun k hk => by have := HH2.out; have := HG1.out; have := HG0.out; omega))
          have hp5 := HPA.out.upd hu5 (fun k h1 h3 e => by have := HH2.out; have := HG1.out; omega)
          go_roundg (todo'.length + 1)
          case measure => have := HGK.out; have := congrArg List.length (HTODO.out.trans HPS'.out); simp only [List.length_cons] at this; omega
          case rel => exact ⟨kk - 1, 0, h2, u8, true, rfl, rfl, rfl, rfl, rfl, [] ++ [cur], c', todo', left', over', .inr ⟨by simp, rfl, HKK.out⟩, .inl ⟨rfl, by rw [HPS.out, HTODO.out, HPS'.out]; simp, HAF'.out, by omega, Nat.le_trans HLS'.out HLL.out, hp5, rfl⟩, hr5, by rw [HOUTS.out]; exact ho5, HF8.out, HH2.out, hb5⟩
      · clear HWH
        have hno : done = [] → ¬ (sform cur).size ≤ room := fun e => by
          rcases hcase with h' | h'
          · rw [← hf, ← h'.2.1]; exact hj
          · exact absurd e h'.1
        have HKK : Hid (kk = K - J) := hid (by
          rcases hcase with ⟨h1', h2', h3'⟩ | ⟨_, _, h3'⟩
          · rw [HJ.out, hps, h1']
            show kk = K - (if decide ((sform cur).size ≤ room) = true then 1 else 0)
            rw [decide_eq_false (hno h1')]; rw [h3']; rfl
          · exact h3')
        have HOUTS : Hid (outs y room (done ++ [cur]) = outs y room done ++ [sblk cur]) := hid (outs_next y room done cur hno)
        have WW := fun W => hid (word_nat (4 + f.size) (by omega) W)
        rw [show ((4 + f.size : Nat) : Int) = 4 + (f.size : Int) by omega] at WW
        obtain ⟨q, hq⟩ : ∃ q, q = word (4 + f.size) := ⟨_, rfl⟩
        have hqs : q.size ≤ 4 := by rw [hq, word_size]; omega
        have HV : Hid (sblk cur = q ++ f) := hid (by rw [hq, hf]; rfl)
        rw [← hq] at WW
        obtain ⟨z, hz⟩ : ∃ z, z = q ++ f := ⟨_, rfl⟩
        rw [← hz] at HV
        rw [HV.out] at HOUTS
        have HZ := hid hz
        have hjI : ¬ ((f.size : Int) ≤ (rm : Int)) := by omega
        have HPS := hid hps
        have HFF := hid hf
        clear hcase hps hf hj hq hz 
        go_wp2_with fail
        refine (FORM _).out.mono ?_
        rintro e w5 ⟨rfl, hb⟩
        have HR5 := hid (HR.out.upd (F := fun _ => False) (Upds.of_below hb (Nat.le_refl _)) (fun h => h))
        have HP5 := hid (HP.out.below hb)
        have HO5 := hid (HO.out.below hb (Nat.le_refl _))
        have HB5 := hid (HB.out.trans (hb.mono HB.out.size))
        have HS5 : Hid (w1.heap.size ≤ w5.heap.size) := hid (Nat.le_trans HS.out hb.size)
        clear hb
        go_wp2_with fail
        (with_reducible refine (WW _).out.mono ?_)
        rintro e w7 ⟨rfl, hb⟩
        have HR7 := hid ((HR5.out.upd (F := fun _ => False) (Upds.of_below hb (Nat.le_refl _)) (fun h => h)).alloc (.cells #[.string z] 9))
        have HP7 := hid ((HP5.out.below hb).below ((Below.refl _ _).alloc (Nat.le_refl _) (.cells #[.string z] 9)))
        have HO7 := hid ((HO5.out.below hb (Nat.le_refl _)).alloc (.cells #[.string z] 9))
        have HB7 := hid ((HB5.out.trans (hb.mono HB5.out.size)).alloc (HB5.out.trans (hb.mono HB5.out.size)).size (.cells #[.string z] 9))
        have HS7 : Hid (w1.heap.size ≤ (w7.alloc (.cells #[.string z] 9)).heap.size) := hid (by have h1' := HS5.out; have h2' := hb.size; simp; omega)
        clear hb
        go_upto_region 15 with (at_builtin; (try rw [← HZ.out]); refine wpList_append_strs (by rfl) (.tmp 58) (.tmp 65) rfl u _ rfl HO7.out _ [z] rfl (strs_new1 _ z _ (by simp)) HOL.out (by simp) ?_; intro u8 w8 hs8 hu8 hh8)
        rcases haf with ⟨rfl, rfl⟩ | ⟨rfl, htodo⟩
        · have HR8 := hid (HR7.out.upd hu8.out (fun hk => by obtain ⟨cu, hcu⟩ := SliceIs.row HO7.out h hk; exact absurd rfl (hcu.ne HR7.out (by decide))))
          have HP8 := hid (HP7.out.upd hu8.out (fun k k1 k2 hk => by have := HF.out k hk; have := HG1.out; omega))
          have HB8 := hid (HB7.out.trans (hu8.out.below HB7.out.size (fun k hk => by have := HF.out k hk; have := HG1.out; have := HG0.out; omega)))
          have HF8 : Hid (Fresh w1 u8) := hid (fun k hk => (hh8.out k hk).elim (HF.out k) (fun h' => by have := HS7.out; omega))
          have HS8 : Hid (w1.heap.size ≤ w8.heap.size) := hid (Nat.le_trans HS7.out hu8.out.size)
          have c0 := HR8.out.cell (i := 0) rfl
          have c1 := HR8.out.cell (i := 1) rfl
          have c2 := HR8.out.cell (i := 2) rfl
          go_upto_region 9 with fail
          have hrn := Row.new w8 cur.cells 36
          obtain ⟨w9, hw9⟩ : ∃ w9, w9 = w8.alloc (.cells cur.cells.toArray 36) := ⟨_, rfl⟩
          have HW9 : Hid (w8.alloc (.cells #[.bool cur.before, .bool cur.after, .string cur.data] 36) = w9) := hid (by rw [hw9]; rfl)
          rw [← hw9] at hrn
          have HR9 := hid hrn
          have hb9 : Below w8.heap.size w8 w9 := by rw [hw9]; exact (Below.refl _ _).alloc (Nat.le_refl _) _
          have HP9 := hid (HP8.out.below hb9)
          have HO9 := hid (hs8.out.below hb9 (Nat.le_refl _))
          have HB9 := hid (HB8.out.trans (hb9.mono HB8.out.size))
          obtain ⟨h2, hh2⟩ : ∃ h2, h2 = w8.heap.size := ⟨_, rfl⟩
          have HH2 : Hid (w1.heap.size ≤ h2) := hid (by rw [hh2]; exact HS8.out)
          rw [← hh2] at HR9
          rw [HW9.out, ← hh2]
          clear hrn hw9 hb9 hh2 c0 c1 c2 HW9
          go_wp2_with fail
          refine (parts1_over g _ m left true _ HP9.out).mono ?_
          rintro e wa ⟨rfl, hb⟩
          have HRA := hid (HR9.out.upd (F := fun _ => False) (Upds.of_below hb (Nat.le_refl _)) (fun h => h))
          have HOA := hid (HO9.out.below hb (Nat.le_refl _))
          have HBA := hid (HB9.out.trans (hb.mono HB9.out.size))
          clear hb
          dsimp only [Seg.val]
          have c0 := HRA.out.cell (i := 0) rfl
          have c1 := HRA.out.cell (i := 1) rfl
          have c2 := HRA.out.cell (i := 2) rfl
          have f0 := HRA.out.frozen 0
          have f1 := HRA.out.frozen 1
          have f2 := HRA.out.frozen 2
          go_wp2_with fail
          have u1 : Upds (fun k => k = h2) wa (wa.setCell ⟨h2, 0, none⟩ (.bool false)) := Upds.set _ _ _ rfl
          have u2 : Upds (fun k => k = h2) (wa.setCell ⟨h2, 0, none⟩ (.bool false)) ((wa.setCell ⟨h2, 0, none⟩ (.bool false)).setCell ⟨h2, 1, none⟩ (.bool false)) := Upds.set _ _ _ rfl
          have u3 : Upds (fun k => k = h2) ((wa.setCell ⟨h2, 0, none⟩ (.bool false)).setCell ⟨h2, 1, none⟩ (.bool false)) (((wa.setCell ⟨h2, 0, none⟩ (.bool false)).setCell ⟨h2, 1, none⟩ (.bool false)).setCell ⟨h2, 2, none⟩ (.string ⟨#[]⟩)) := Upds.set _ _ _ rfl
          have hu5 := (u1.trans u2).trans u3
          have hr5 := ((HRA.out.set 0 (.bool false)).set 1 (.bool false)).set 2 (.string ⟨#[]⟩)
          have ho5 := SliceIs.upd HOA.out hu5 (fun k hk e => by subst e; obtain ⟨cu, hcu⟩ := SliceIs.row HOA.out k hk; exact absurd rfl (hcu.ne HRA.out (by decide)))
          have hb5 := HBA.out.trans (hu5.below HBA.out.size (fun k hk => by have := HH2.out; have := HG1.out; have := HG0.out; omega))
          go_roundg 0
          case measure => have := HGK.out; omega
          case rel => exact ⟨kk, 0, h2, u8, false, rfl, rfl, rfl, rfl, rfl, done ++ [cur], ⟨false, false, ⟨#[]⟩⟩, [], left, true, .inr ⟨by simp, rfl, HKK.out⟩, .inr ⟨rfl, HPS.out⟩, hr5, by rw [HOUTS.out]; exact ho5, HF8.out, HH2.out, hb5⟩
        · have HTODO := hid htodo
          clear htodo
          have HR8 := hid (HR7.out.upd hu8.out (fun hk => by obtain ⟨cu, hcu⟩ := SliceIs.row HO7.out h hk; exact absurd rfl (hcu.ne HR7.out (by decide))))
          have HP8 := hid (HP7.out.upd hu8.out (fun k k1 k2 hk => by have := HF.out k hk; have := HG1.out; omega))
          have HB8 := hid (HB7.out.trans (hu8.out.below HB7.out.size (fun k hk => by have := HF.out k hk; have := HG1.out; have := HG0.out; omega)))
          have HF8 : Hid (Fresh w1 u8) := hid (fun k hk => (hh8.out k hk).elim (HF.out k) (fun h' => by have := HS7.out; omega))
          have HS8 : Hid (w1.heap.size ≤ w8.heap.size) := hid (Nat.le_trans HS7.out hu8.out.size)
          have c0 := HR8.out.cell (i := 0) rfl
          have c1 := HR8.out.cell (i := 1) rfl
          have c2 := HR8.out.cell (i := 2) rfl
          go_upto_region 9 with fail
          have hrn := Row.new w8 cur.cells 36
          obtain ⟨w9, hw9⟩ : ∃ w9, w9 = w8.alloc (.cells cur.cells.toArray 36) := ⟨_, rfl⟩
          have HW9 : Hid (w8.alloc (.cells #[.bool cur.before, .bool cur.after, .string cur.data] 36) = w9) := hid (by rw [hw9]; rfl)
          rw [← hw9] at hrn
          have HR9 := hid hrn
          have hb9 : Below w8.heap.size w8 w9 := by rw [hw9]; exact (Below.refl _ _).alloc (Nat.le_refl _) _
          have HP9 := hid (HP8.out.below hb9)
          have HO9 := hid (hs8.out.below hb9 (Nat.le_refl _))
          have HB9 := hid (HB8.out.trans (hb9.mono HB8.out.size))
          obtain ⟨h2, hh2⟩ : ∃ h2, h2 = w8.heap.size := ⟨_, rfl⟩
          have HH2 : Hid (w1.heap.size ≤ h2) := hid (by rw [hh2]; exact HS8.out)
          rw [← hh2] at HR9
          rw [HW9.out, ← hh2]
          clear hrn hw9 hb9 hh2 c0 c1 c2 HW9
          go_wp2_with fail
          refine (next_some g m hm1 hm2 _ left hlen9 _ HP9.out).mono ?_
          rintro e wa ⟨c', todo', left', over', hps', rfl, hpa, haf', hcs', hls', hua⟩
          have HRA := hid (HR9.out.upd hua (fun hk => by have := hk.2; have := HH2.out; have := HG1.out; omega))
          have HOA := hid (SliceIs.upd HO9.out hua (fun k hk h' => by have := h'.2; have := HF8.out k hk; have := HG1.out; omega))
          have HBA := hid (HB9.out.trans (hua.below HB9.out.size (fun k hk => by have := hk.1; have := HG0.out; omega)))
          have HPA := hid hpa
          have HPS' := hid hps'
          have HAF' := hid haf'
          have HLS' := hid hls'
          clear hua hpa hps' haf' hls'
          dsimp only [Seg.val]
          have c0 := HRA.out.cell (i := 0) rfl
          have c1 := HRA.out.cell (i := 1) rfl
          have c2 := HRA.out.cell (i := 2) rfl
          have f0 := HRA.out.frozen 0
          have f1 := HRA.out.frozen 1
          have f2 := HRA.out.frozen 2
          go_wp2_with fail
          have u1 : Upds (fun k => k = h2) wa (wa.setCell ⟨h2, 0, none⟩ (.bool c'.before)) := Upds.set _ _ _ rfl
          have u2 : Upds (fun k => k = h2) (wa.setCell ⟨h2, 0, none⟩ (.bool c'.before)) ((wa.setCell ⟨h2, 0, none⟩ (.bool c'.before)).setCell ⟨h2, 1, none⟩ (.bool c'.after)) := Upds.set _ _ _ rfl
          have u3 : Upds (fun k => k = h2) ((wa.setCell ⟨h2, 0, none⟩ (.bool c'.before)).setCell ⟨h2, 1, none⟩ (.bool c'.after)) (((wa.setCell ⟨h2, 0, none⟩ (.bool c'.before)).setCell ⟨h2, 1, none⟩ (.bool c'.after)).setCell ⟨h2, 2, none⟩ (.string c'.data)) := Upds.set _ _ _ rfl
          have hu5 := (u1.trans u2).trans u3
          have hr5 := ((HRA.out.set 0 (.bool c'.before)).set 1 (.bool c'.after)).set 2 (.string c'.data)
          have ho5 := SliceIs.upd HOA.out hu5 (fun k hk e => by subst e; obtain ⟨cu, hcu⟩ := SliceIs.row HOA.out k hk; exact absurd rfl (hcu.ne HRA.out (by decide)))
          have hb5 := HBA.out.trans (hu5.below HBA.out.size (fun k hk => by have := HH2.out; have := HG1.out; have := HG0.out; omega))
          have hp5 := HPA.out.upd hu5 (fun k h1 h3 e => by have := HH2.out; have := HG1.out; omega)
          go_roundg (todo'.length + 1)
          case measure => have := HGK.out; have := congrArg List.length (HTODO.out.trans HPS'.out); simp only [List.length_cons] at this; omega
          case rel => exact ⟨kk, 0, h2, u8, true, rfl, rfl, rfl, rfl, rfl, done ++ [cur], c', todo', left', over', .inr ⟨by simp, rfl, HKK.out⟩, .inl ⟨rfl, by rw [HPS.out, HTODO.out, HPS'.out]; simp, HAF'.out, by omega, Nat.le_trans HLS'.out HLL.out, hp5, rfl⟩, hr5, by rw [HOUTS.out]; exact ho5, HF8.out, HH2.out, hb5⟩
    · have hd : done ≠ [] ∧ rm = 0 ∧ kk = K - J := hcase.resolve_left (fun h' => HPNE.out (hps.trans h'.1))
      have HKK := hid hd.2.2
      have HPS := hid hps
      clear hcase hd hps ho hfr hrow hb hwh
      go_wp2_with fail
      go_ret2
      exact ⟨_, by rw [HKK.out]; rfl, by rw [HPS.out]; exact HO.out, fun k hk => Nat.le_trans (by have := HG0.out; have := HG1.out; omega) (HF.out k hk), HB.out⟩
end Go.Proofs.Ytklbckonlbpbgab
