/-
  Small slices of bytes that are written out, turned into strings.
-/
import Derived.Test.YtlkfdmcgcenliaaLawBack
import Derived.Laws.BytesArg
set_option linter.unusedVariables false
set_option linter.unusedSimpArgs false
namespace Go.Proofs.Ytlkfdmcgcenliaa
open Go.RowKit

theorem conv_lit (w : World) (xs : List Int) :
    (convert 22 9 (.slice (some ⟨w.heap.size, 0, none⟩) xs.length xs.length)).run Try.prog (w.alloc (.cells (xs.map (Value.int .u8)).toArray 5)) =
      .ok (.string ⟨(xs.map fun z => z.toNat.toUInt8).toArray⟩) (w.alloc (.cells (xs.map (Value.int .u8)).toArray 5)) := by
  have h := run_convert_bytes_arg (P := Try.prog) (w.alloc (.cells (xs.map (Value.int .u8)).toArray 5)) 22 5 Try.underlying22 Try.underlying5 w.heap.size 0 xs.length xs.length xs rfl
    (fun i hi => by
      simp only [World.cell?, World.alloc, Array.getElem?_push_size]
      simp [hi]) 9 Try.underlying9
  rw [h]
  rfl
theorem conv1 (w : World) (x : Int) :
    (convert 22 9 (.slice (some ⟨w.heap.size, 0, none⟩) 1 1)).run Try.prog (w.alloc (.cells #[Value.int .u8 x] 5)) =
      .ok (.string ⟨#[x.toNat.toUInt8]⟩) (w.alloc (.cells #[Value.int .u8 x] 5)) := conv_lit w [x]
theorem conv2 (w : World) (x y : Int) :
    (convert 22 9 (.slice (some ⟨w.heap.size, 0, none⟩) 2 2)).run Try.prog (w.alloc (.cells #[Value.int .u8 x, Value.int .u8 y] 5)) =
      .ok (.string ⟨#[x.toNat.toUInt8, y.toNat.toUInt8]⟩) (w.alloc (.cells #[Value.int .u8 x, Value.int .u8 y] 5)) := conv_lit w [x, y]
theorem conv3 (w : World) (x y z : Int) :
    (convert 22 9 (.slice (some ⟨w.heap.size, 0, none⟩) 3 3)).run Try.prog (w.alloc (.cells #[Value.int .u8 x, Value.int .u8 y, Value.int .u8 z] 5)) =
      .ok (.string ⟨#[x.toNat.toUInt8, y.toNat.toUInt8, z.toNat.toUInt8]⟩) (w.alloc (.cells #[Value.int .u8 x, Value.int .u8 y, Value.int .u8 z] 5)) := conv_lit w [x, y, z]
theorem conv4 (w : World) (x y z u : Int) :
    (convert 22 9 (.slice (some ⟨w.heap.size, 0, none⟩) 4 4)).run Try.prog (w.alloc (.cells #[Value.int .u8 x, Value.int .u8 y, Value.int .u8 z, Value.int .u8 u] 5)) =
      .ok (.string ⟨#[x.toNat.toUInt8, y.toNat.toUInt8, z.toNat.toUInt8, u.toNat.toUInt8]⟩) (w.alloc (.cells #[Value.int .u8 x, Value.int .u8 y, Value.int .u8 z, Value.int .u8 u] 5)) := conv_lit w [x, y, z, u]
theorem conv4_drew (w : World) (x y z u : Int) :
    (convert 22 9 (.slice (some ⟨w.heap.size, 0, none⟩) 4 4)).run Try.prog (w.alloc (.cells #[Value.int .u8 x, Value.int .u8 y, Value.int .u8 z, Value.int .u8 u] 5)).drew =
      .ok (.string ⟨#[x.toNat.toUInt8, y.toNat.toUInt8, z.toNat.toUInt8, u.toNat.toUInt8]⟩) (w.alloc (.cells #[Value.int .u8 x, Value.int .u8 y, Value.int .u8 z, Value.int .u8 u] 5)).drew := conv4 w.drew x y z u
theorem conv3_drew (w : World) (x y z : Int) :
    (convert 22 9 (.slice (some ⟨w.heap.size, 0, none⟩) 3 3)).run Try.prog (w.alloc (.cells #[Value.int .u8 x, Value.int .u8 y, Value.int .u8 z] 5)).drew =
      .ok (.string ⟨#[x.toNat.toUInt8, y.toNat.toUInt8, z.toNat.toUInt8]⟩) (w.alloc (.cells #[Value.int .u8 x, Value.int .u8 y, Value.int .u8 z] 5)).drew := conv3 w.drew x y z
theorem conv2_drew (w : World) (x y : Int) :
    (convert 22 9 (.slice (some ⟨w.heap.size, 0, none⟩) 2 2)).run Try.prog (w.alloc (.cells #[Value.int .u8 x, Value.int .u8 y] 5)).drew =
      .ok (.string ⟨#[x.toNat.toUInt8, y.toNat.toUInt8]⟩) (w.alloc (.cells #[Value.int .u8 x, Value.int .u8 y] 5)).drew := conv2 w.drew x y
theorem conv1_drew (w : World) (x : Int) :
    (convert 22 9 (.slice (some ⟨w.heap.size, 0, none⟩) 1 1)).run Try.prog (w.alloc (.cells #[Value.int .u8 x] 5)).drew =
      .ok (.string ⟨#[x.toNat.toUInt8]⟩) (w.alloc (.cells #[Value.int .u8 x] 5)).drew := conv1 w.drew x

end Go.Proofs.Ytlkfdmcgcenliaa
