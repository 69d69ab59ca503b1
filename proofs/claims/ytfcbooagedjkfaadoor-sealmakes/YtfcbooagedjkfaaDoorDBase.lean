/-
  A block of cells in memory, as a whole; worlds that differ in one block alone.
-/
import Derived.Test.YtfcbooagedjkfaaDoorDMath
import Derived.WalkKit
import Derived.Deep.Draws
import Derived.Laws.Rows
import Derived.Laws.Tables
import Derived.Laws.CopyRow
import Derived.Laws.BitsLemmas
import Derived.Laws.Bits64
set_option linter.unusedVariables false
set_option linter.unusedSimpArgs false
namespace Go.Proofs.YtfcbooagedjkfaaDoor
open Go.RowKit

/-- block g of w has just these cells, none of them frozen -/
def Blk (w : World) (g : Nat) (t : TypeId) (cs : Array Value) : Prop := w.heap[g]? = some (.cells cs t (0, 0))

theorem Blk.lt {w : World} {g : Nat} {t : TypeId} {cs : Array Value} (h : Blk w g t cs) : g < w.heap.size := (Array.getElem?_eq_some_iff.1 h).1
theorem Blk.cell {w : World} {g : Nat} {t : TypeId} {cs : Array Value} (h : Blk w g t cs) (j : Nat) : w.cell? ⟨g, j, none⟩ = cs[j]? := cell_of_row w g j cs t _ h
theorem Blk.frozen {w : World} {g : Nat} {t : TypeId} {cs : Array Value} (h : Blk w g t cs) (j : Nat) : w.frozen? ⟨g, j, none⟩ = false := frozen_of_row w g j cs t h
theorem Blk.set {w : World} {g : Nat} {t : TypeId} {cs : Array Value} (h : Blk w g t cs) (i : Nat) (v : Value) : Blk (w.setCell ⟨g, i, none⟩ v) g t (cs.setIfInBounds i v) := heap_setCell_same w g i cs t v h
theorem Blk.below {w w' : World} {g : Nat} {t : TypeId} {cs : Array Value} (h : Blk w g t cs) {B : Nat} (b : Below B w w') (hg : g < B) : Blk w' g t cs := (b.block g hg).trans h
theorem Blk.below' {w w' : World} {g : Nat} {t : TypeId} {cs : Array Value} (h : Blk w g t cs) (b : Below w.heap.size w w') : Blk w' g t cs := h.below b h.lt
theorem blk_new (w : World) (t : TypeId) (cs : Array Value) : Blk (w.alloc (.cells cs t)) w.heap.size t cs := heap_alloc_new w _

/-- w' is w but for block g -/
structure But (g : Nat) (w w' : World) : Prop where
  os : w'.os = w.os
  tape : w'.tape = w.tape
  output : w'.output = w.output
  size : w.heap.size ≤ w'.heap.size
  block : ∀ k, k < w.heap.size → k ≠ g → w'.heap[k]? = w.heap[k]?

theorem But.refl (g : Nat) (w : World) : But g w w := ⟨rfl, rfl, rfl, Nat.le_refl _, fun _ _ _ => rfl⟩
theorem But.trans {g : Nat} {a b c : World} (h : But g a b) (k : But g b c) : But g a c :=
  ⟨k.os.trans h.os, k.tape.trans h.tape, k.output.trans h.output, Nat.le_trans h.size k.size, fun i hi hg => (k.block i (Nat.lt_of_lt_of_le hi h.size) hg).trans (h.block i hi hg)⟩
theorem But.of_below {g : Nat} {a b : World} (h : Below a.heap.size a b) : But g a b := ⟨h.os, h.tape, h.output, h.size, fun i hi _ => h.block i hi⟩
theorem But.then {g : Nat} {a b c : World} (h : But g a b) (k : Below b.heap.size b c) : But g a c := h.trans (.of_below k)
theorem But.set {g : Nat} {a b : World} (h : But g a b) (i : Nat) (v : Value) : But g a (b.setCell ⟨g, i, none⟩ v) :=
  h.trans ⟨rfl, rfl, rfl, by simp [World.setCell], fun k _ hk => Below.heap_setCell _ _ _ _ hk⟩
theorem But.drew {g : Nat} {a b : World} (h : But g a b) : But g a b.drew := h.trans ⟨rfl, rfl, rfl, Nat.le_refl _, fun _ _ _ => rfl⟩
theorem But.drewN {g : Nat} {a b : World} (h : But g a b) (n : Nat) : But g a (b.drewN n) := h.trans ⟨rfl, rfl, rfl, Nat.le_refl _, fun _ _ _ => rfl⟩
theorem But.row {g : Nat} {a b : World} (h : But g a b) (cs : Array Value) : But g a (b.setRow g cs) :=
  h.trans ⟨rfl, rfl, rfl, by simp, fun k _ hk => setRow_other _ _ _ _ hk⟩
theorem But.alloc {g : Nat} {a b : World} (h : But g a b) (o : Obj) : But g a (b.alloc o) := h.then ((Below.refl _ _).alloc (Nat.le_refl _) o)
theorem But.other {g : Nat} {a b : World} (h : But g a b) {k : Nat} {t : TypeId} {cs : Array Value} (hk : Blk a k t cs) (hg : k ≠ g) : Blk b k t cs := (h.block k hk.lt hg).trans hk
/-- a world that differs in a block which is new -/
theorem But.to_below {g B : Nat} {a b : World} (h : But g a b) (hB : B ≤ a.heap.size) (hg : B ≤ g) : Below B a b :=
  ⟨h.os, h.tape, h.output, h.size, fun k hk => h.block k (by omega) (by omega)⟩
theorem Blk.row {w : World} {g : Nat} {t : TypeId} {cs : Array Value} (h : Blk w g t cs) (cs' : Array Value) : Blk (w.setRow g cs') g t cs' := setRow_heap w g cs cs' t _ h

theorem bthen {a b c : World} (h : Below a.heap.size a b) (k : Below b.heap.size b c) : Below a.heap.size a c := h.trans (k.mono h.size)
/-- a number, as the walk leaves it -/
theorem int_i64 {a b : Int} (h : a = b) (h0 : -9223372036854775808 ≤ b) (h1 : b ≤ 9223372036854775807) : Value.int .i64 (IntKind.i64.wrap a) = .int .i64 b := by
  rw [IntKind.wrap_i64, h]
  congr 1
  omega
theorem int_u32 {a b : Int} (h : a % 4294967296 = b) : Value.int .u32 (IntKind.u32.wrap a) = .int .u32 b := by
  rw [IntKind.wrap_u32, h]
theorem int_u64 {a b : Int} (h : a % 18446744073709551616 = b) : Value.int .u64 (IntKind.u64.wrap a) = .int .u64 b := by
  rw [IntKind.wrap_u64, h]
theorem hide {p : Prop} (h : p) : Hid p := h

abbrev w32 (x : Int) : Value := .int .u32 x
abbrev b8 (x : Int) : Value := .int .u8 x
/-- words, as cells -/
def wds (l : List Int) : Array Value := (l.map w32).toArray
theorem wds_size (l : List Int) : (wds l).size = l.length := by simp [wds]
theorem wds_at {l : List Int} {i : Nat} (h : i < l.length) : (wds l)[i]? = some (w32 (l[i]?.getD 0)) := by simp [wds, h]
theorem wds_set (l : List Int) (i : Nat) (x : Int) : (wds l).setIfInBounds i (w32 x) = wds (l.set i x) := by simp [wds, List.map_set]
theorem wds_one (l : List Int) : (wds l).all (·.oneCell') = true := by
  rw [Array.all_eq_true_iff_forall_mem]
  intro x hx
  simp only [wds, List.mem_toArray, List.mem_map] at hx
  obtain ⟨y, _, rfl⟩ := hx
  rfl
/-- bytes in a row from o on -/
def Rd (w : World) (b o : Nat) (bs : List Int) : Prop := ∀ i, i < bs.length → w.cell? ⟨b, o + i, none⟩ = some (b8 (bs[i]?.getD 0))
theorem Rd.lt {w : World} {b o : Nat} {bs : List Int} (h : Rd w b o bs) (h0 : 0 < bs.length) : b < w.heap.size := block_lt_of_cell (h 0 h0)
theorem Rd.below {w w' : World} {b o : Nat} {bs : List Int} (h : Rd w b o bs) (k : Below w.heap.size w w') : Rd w' b o bs := fun i hi => (k.cell (p := ⟨b, o + i, none⟩) (block_lt_of_cell (h i hi))).trans (h i hi)
theorem Rd.but {w w' : World} {b o g : Nat} {bs : List Int} (h : Rd w b o bs) (k : But g w w') (hg : b ≠ g) : Rd w' b o bs := fun i hi => by
  have hb : b < w.heap.size := block_lt_of_cell (h i hi)
  exact (World.cell?_of_block (w := w) (k.block b hb hg)).trans (h i hi)

end Go.Proofs.YtfcbooagedjkfaaDoor
