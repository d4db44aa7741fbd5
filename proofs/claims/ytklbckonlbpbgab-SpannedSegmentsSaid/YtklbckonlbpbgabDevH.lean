import Derived.Below
import Derived.WalkKit
import Derived.Laws.CopyOwn
import Derived.Deep.Draws
/-! What a call has turned: blocks of a set F, and nothing else that was there. -/
namespace Go.Proofs.Ytklbckonlbpbgab
open Go.RowKit

structure Upds (F : Nat → Prop) (w w' : World) : Prop where
  os : w'.os = w.os
  tape : w'.tape = w.tape
  output : w'.output = w.output
  size : w.heap.size ≤ w'.heap.size
  block : ∀ k, k < w.heap.size → ¬ F k → w'.heap[k]? = w.heap[k]?
namespace Upds
variable {F G : Nat → Prop} {u v w w' : World}
theorem refl (F : Nat → Prop) (w : World) : Upds F w w := ⟨rfl, rfl, rfl, Nat.le_refl _, fun _ _ _ => rfl⟩
theorem trans (h : Upds F u v) (k : Upds F v w) : Upds F u w :=
  ⟨k.os.trans h.os, k.tape.trans h.tape, k.output.trans h.output, Nat.le_trans h.size k.size, fun i hi hb => (k.block i (Nat.lt_of_lt_of_le hi h.size) hb).trans (h.block i hi hb)⟩
theorem trans' (h : Upds F u v) (k : Upds G v w) (hG : ∀ i, i < u.heap.size → G i → F i) : Upds F u w :=
  ⟨k.os.trans h.os, k.tape.trans h.tape, k.output.trans h.output, Nat.le_trans h.size k.size, fun i hi hb => (k.block i (Nat.lt_of_lt_of_le hi h.size) (fun g => hb (hG i hi g))).trans (h.block i hi hb)⟩
theorem mono (h : Upds F w w') (hG : ∀ i, F i → G i) : Upds G w w' := ⟨h.os, h.tape, h.output, h.size, fun k hk hb => h.block k hk (fun f => hb (hG k f))⟩
theorem set (w : World) (a : Addr) (v : Value) (h : F a.block) : Upds F w (w.setCell a v) :=
  ⟨rfl, rfl, rfl, by simp [World.setCell], fun k _ hb => Below.heap_setCell w _ _ _ (fun e => hb (e ▸ h))⟩
theorem setNew (h : Upds F w w') (a : Addr) (v : Value) (hb : w.heap.size ≤ a.block) : Upds F w (w'.setCell a v) :=
  ⟨h.os, h.tape, h.output, by simpa [World.setCell] using h.size, fun k hk hf => (Below.heap_setCell w' _ _ _ (by omega)).trans (h.block k hk hf)⟩
theorem set1 (w : World) (b o : Nat) (v : Value) : Upds (fun k => k = b) w (w.setCell ⟨b, o, none⟩ v) := set w ⟨b, o, none⟩ v rfl
theorem row (w : World) (g : Nat) (cs : Array Value) (h : F g) : Upds F w (w.setRow g cs) :=
  ⟨rfl, rfl, rfl, by simp, fun k _ hb => setRow_other w g k cs (fun e => hb (e ▸ h))⟩
theorem alloc (w : World) (o : Obj) : Upds F w (w.alloc o) := ⟨rfl, rfl, rfl, by simp, fun k hk _ => Below.heap_alloc w o k hk⟩
theorem drewN (w : World) (n : Nat) : Upds F w (w.drewN n) := ⟨rfl, rfl, rfl, Nat.le_refl _, fun _ _ _ => rfl⟩
theorem drew (w : World) : Upds F w w.drew := ⟨rfl, rfl, rfl, Nat.le_refl _, fun _ _ _ => rfl⟩
theorem of_below {B : Nat} (h : Below B w w') (hB : w.heap.size ≤ B) : Upds F w w' := ⟨h.os, h.tape, h.output, h.size, fun k hk _ => h.block k (by omega)⟩
theorem of_grown {row : Option Nat} (h : w.grownBy w' row) (hr : ∀ k, row = some k → F k) : Upds F w w' :=
  ⟨h.os, h.tape, h.output, h.size, fun k hk hb => h.block k hk (fun e => hb (hr k e.symm))⟩
theorem below {B : Nat} (h : Upds F w w') (hB : B ≤ w.heap.size) (hF : ∀ k, F k → B ≤ k) : Below B w w' :=
  ⟨h.os, h.tape, h.output, h.size, fun k hk => h.block k (by omega) (fun f => by have := hF k f; omega)⟩
theorem cell (h : Upds F w w') {b o : Nat} (hb : ¬ F b) {x : Value} (hc : w.cell? ⟨b, o, none⟩ = some x) : w'.cell? ⟨b, o, none⟩ = some x := by
  rw [← hc]; exact World.cell?_of_block (w := w) (h.block b (World.block_lt_of_cell? w ⟨b, o, none⟩ hc) hb)
theorem obj (h : Upds F w w') {b : Nat} (hb : ¬ F b) {o : Obj} (hc : w.heap[b]? = some o) : w'.heap[b]? = some o := by
  rw [← hc]; exact h.block b (lt_of_block hc) hb
end Upds

/-- a block that is a row of cells, none frozen -/
def Row (w : World) (b : Nat) (t : TypeId) (cur : List Value) : Prop := w.heap[b]? = some (.cells cur.toArray t (0, 0))
namespace Row
variable {w w' : World} {b : Nat} {t : TypeId} {cur : List Value}
theorem cell (h : Row w b t cur) {i : Nat} {v : Value} (hv : cur[i]? = some v) : w.cell? ⟨b, i, none⟩ = some v := by unfold Row at h; simp [World.cell?, h, hv]
theorem frozen (h : Row w b t cur) (i : Nat) : w.frozen? ⟨b, i, none⟩ = false := by unfold Row at h; simp [World.frozen?, h]
theorem lt (h : Row w b t cur) : b < w.heap.size := lt_of_block h
theorem set (h : Row w b t cur) (i : Nat) (v : Value) : Row (w.setCell ⟨b, i, none⟩ v) b t (cur.set i v) := by
  unfold Row at h ⊢; simp [World.setCell, Array.getElem?_modify, h]
theorem upd (h : Row w b t cur) {F : Nat → Prop} (hu : Upds F w w') (hb : ¬ F b) : Row w' b t cur := hu.obj hb h
theorem alloc (h : Row w b t cur) (o : Obj) : Row (w.alloc o) b t cur := (Below.heap_alloc w o b h.lt).trans h
theorem setOther (h : Row w b t cur) {a : Addr} (ha : b ≠ a.block) (v : Value) : Row (w.setCell a v) b t cur := (Below.heap_setCell w a v b ha).trans h
theorem setRow (h : Row w b t cur) (cs : List Value) : Row (w.setRow b cs.toArray) b t cs := setRow_heap w b _ _ t _ h
theorem new (w : World) (cur : List Value) (t : TypeId) : Row (w.alloc (.cells cur.toArray t)) w.heap.size t cur := heap_alloc_new w _
theorem ne {c : Nat} {t' : TypeId} {cur' : List Value} (h : Row w b t cur) (h' : Row w c t' cur') (ht : t ≠ t') : b ≠ c := by
  rintro rfl
  unfold Row at h h'
  rw [h] at h'
  injection h' with e
  injection e with e1 e2
  exact ht e2
end Row
end Go.Proofs.Ytklbckonlbpbgab
