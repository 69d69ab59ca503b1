/-
  Three keys laid into an empty object, in whatever order (for the law ValueOrder).
-/
import Derived.Test.YteijnkdfacndoaaVMathB

set_option linter.unusedVariables false
namespace Go.Proofs.Yteijnkdfacndoaa
open Go.RowKit

namespace V
def ordKey (i : Nat) : ByteArray := #[(⟨#[97]⟩ : ByteArray), ⟨#[98]⟩, ⟨#[195, 169]⟩, ⟨#[97, 98]⟩, ⟨#[]⟩, ⟨#[122]⟩].getD i ByteArray.empty
/-- what three keys make, laid in either order -/
def Ord3 (a b c : ByteArray) (x y : V) : Prop :=
  ∃ ks l, withV (withV (withV none5 a x) b y) c x = ⟨5, 0, ⟨#[]⟩, ks, l⟩ ∧ withV (withV (withV none5 c x) a x) b y = ⟨5, 0, ⟨#[]⟩, ks, l⟩ ∧ ks.length = 3 ∧ keysOk 5 ks 3 = true ∧ (l = [x, x, y] ∨ l = [x, y, x] ∨ l = [y, x, x])
theorem ord_012 (x y : V) : Ord3 ⟨#[97]⟩ ⟨#[98]⟩ ⟨#[195, 169]⟩ x y := ⟨[⟨#[97]⟩, ⟨#[98]⟩, ⟨#[195, 169]⟩], [x, y, x], by kernel_rfl, by kernel_rfl, rfl, by kernel_rfl, .inr (.inl rfl)⟩
theorem ord_013 (x y : V) : Ord3 ⟨#[97]⟩ ⟨#[98]⟩ ⟨#[97, 98]⟩ x y := ⟨[⟨#[97]⟩, ⟨#[97, 98]⟩, ⟨#[98]⟩], [x, x, y], by kernel_rfl, by kernel_rfl, rfl, by kernel_rfl, .inl rfl⟩
theorem ord_014 (x y : V) : Ord3 ⟨#[97]⟩ ⟨#[98]⟩ ⟨#[]⟩ x y := ⟨[⟨#[]⟩, ⟨#[97]⟩, ⟨#[98]⟩], [x, x, y], by kernel_rfl, by kernel_rfl, rfl, by kernel_rfl, .inl rfl⟩
theorem ord_015 (x y : V) : Ord3 ⟨#[97]⟩ ⟨#[98]⟩ ⟨#[122]⟩ x y := ⟨[⟨#[97]⟩, ⟨#[98]⟩, ⟨#[122]⟩], [x, y, x], by kernel_rfl, by kernel_rfl, rfl, by kernel_rfl, .inr (.inl rfl)⟩
theorem ord_021 (x y : V) : Ord3 ⟨#[97]⟩ ⟨#[195, 169]⟩ ⟨#[98]⟩ x y := ⟨[⟨#[97]⟩, ⟨#[98]⟩, ⟨#[195, 169]⟩], [x, x, y], by kernel_rfl, by kernel_rfl, rfl, by kernel_rfl, .inl rfl⟩
theorem ord_023 (x y : V) : Ord3 ⟨#[97]⟩ ⟨#[195, 169]⟩ ⟨#[97, 98]⟩ x y := ⟨[⟨#[97]⟩, ⟨#[97, 98]⟩, ⟨#[195, 169]⟩], [x, x, y], by kernel_rfl, by kernel_rfl, rfl, by kernel_rfl, .inl rfl⟩
theorem ord_024 (x y : V) : Ord3 ⟨#[97]⟩ ⟨#[195, 169]⟩ ⟨#[]⟩ x y := ⟨[⟨#[]⟩, ⟨#[97]⟩, ⟨#[195, 169]⟩], [x, x, y], by kernel_rfl, by kernel_rfl, rfl, by kernel_rfl, .inl rfl⟩
theorem ord_025 (x y : V) : Ord3 ⟨#[97]⟩ ⟨#[195, 169]⟩ ⟨#[122]⟩ x y := ⟨[⟨#[97]⟩, ⟨#[122]⟩, ⟨#[195, 169]⟩], [x, x, y], by kernel_rfl, by kernel_rfl, rfl, by kernel_rfl, .inl rfl⟩
theorem ord_031 (x y : V) : Ord3 ⟨#[97]⟩ ⟨#[97, 98]⟩ ⟨#[98]⟩ x y := ⟨[⟨#[97]⟩, ⟨#[97, 98]⟩, ⟨#[98]⟩], [x, y, x], by kernel_rfl, by kernel_rfl, rfl, by kernel_rfl, .inr (.inl rfl)⟩
theorem ord_032 (x y : V) : Ord3 ⟨#[97]⟩ ⟨#[97, 98]⟩ ⟨#[195, 169]⟩ x y := ⟨[⟨#[97]⟩, ⟨#[97, 98]⟩, ⟨#[195, 169]⟩], [x, y, x], by kernel_rfl, by kernel_rfl, rfl, by kernel_rfl, .inr (.inl rfl)⟩
theorem ord_034 (x y : V) : Ord3 ⟨#[97]⟩ ⟨#[97, 98]⟩ ⟨#[]⟩ x y := ⟨[⟨#[]⟩, ⟨#[97]⟩, ⟨#[97, 98]⟩], [x, x, y], by kernel_rfl, by kernel_rfl, rfl, by kernel_rfl, .inl rfl⟩
theorem ord_035 (x y : V) : Ord3 ⟨#[97]⟩ ⟨#[97, 98]⟩ ⟨#[122]⟩ x y := ⟨[⟨#[97]⟩, ⟨#[97, 98]⟩, ⟨#[122]⟩], [x, y, x], by kernel_rfl, by kernel_rfl, rfl, by kernel_rfl, .inr (.inl rfl)⟩
theorem ord_041 (x y : V) : Ord3 ⟨#[97]⟩ ⟨#[]⟩ ⟨#[98]⟩ x y := ⟨[⟨#[]⟩, ⟨#[97]⟩, ⟨#[98]⟩], [y, x, x], by kernel_rfl, by kernel_rfl, rfl, by kernel_rfl, .inr (.inr rfl)⟩
theorem ord_042 (x y : V) : Ord3 ⟨#[97]⟩ ⟨#[]⟩ ⟨#[195, 169]⟩ x y := ⟨[⟨#[]⟩, ⟨#[97]⟩, ⟨#[195, 169]⟩], [y, x, x], by kernel_rfl, by kernel_rfl, rfl, by kernel_rfl, .inr (.inr rfl)⟩
theorem ord_043 (x y : V) : Ord3 ⟨#[97]⟩ ⟨#[]⟩ ⟨#[97, 98]⟩ x y := ⟨[⟨#[]⟩, ⟨#[97]⟩, ⟨#[97, 98]⟩], [y, x, x], by kernel_rfl, by kernel_rfl, rfl, by kernel_rfl, .inr (.inr rfl)⟩
theorem ord_045 (x y : V) : Ord3 ⟨#[97]⟩ ⟨#[]⟩ ⟨#[122]⟩ x y := ⟨[⟨#[]⟩, ⟨#[97]⟩, ⟨#[122]⟩], [y, x, x], by kernel_rfl, by kernel_rfl, rfl, by kernel_rfl, .inr (.inr rfl)⟩
theorem ord_051 (x y : V) : Ord3 ⟨#[97]⟩ ⟨#[122]⟩ ⟨#[98]⟩ x y := ⟨[⟨#[97]⟩, ⟨#[98]⟩, ⟨#[122]⟩], [x, x, y], by kernel_rfl, by kernel_rfl, rfl, by kernel_rfl, .inl rfl⟩
theorem ord_052 (x y : V) : Ord3 ⟨#[97]⟩ ⟨#[122]⟩ ⟨#[195, 169]⟩ x y := ⟨[⟨#[97]⟩, ⟨#[122]⟩, ⟨#[195, 169]⟩], [x, y, x], by kernel_rfl, by kernel_rfl, rfl, by kernel_rfl, .inr (.inl rfl)⟩
theorem ord_053 (x y : V) : Ord3 ⟨#[97]⟩ ⟨#[122]⟩ ⟨#[97, 98]⟩ x y := ⟨[⟨#[97]⟩, ⟨#[97, 98]⟩, ⟨#[122]⟩], [x, x, y], by kernel_rfl, by kernel_rfl, rfl, by kernel_rfl, .inl rfl⟩
theorem ord_054 (x y : V) : Ord3 ⟨#[97]⟩ ⟨#[122]⟩ ⟨#[]⟩ x y := ⟨[⟨#[]⟩, ⟨#[97]⟩, ⟨#[122]⟩], [x, x, y], by kernel_rfl, by kernel_rfl, rfl, by kernel_rfl, .inl rfl⟩
theorem ord_102 (x y : V) : Ord3 ⟨#[98]⟩ ⟨#[97]⟩ ⟨#[195, 169]⟩ x y := ⟨[⟨#[97]⟩, ⟨#[98]⟩, ⟨#[195, 169]⟩], [y, x, x], by kernel_rfl, by kernel_rfl, rfl, by kernel_rfl, .inr (.inr rfl)⟩
theorem ord_103 (x y : V) : Ord3 ⟨#[98]⟩ ⟨#[97]⟩ ⟨#[97, 98]⟩ x y := ⟨[⟨#[97]⟩, ⟨#[97, 98]⟩, ⟨#[98]⟩], [y, x, x], by kernel_rfl, by kernel_rfl, rfl, by kernel_rfl, .inr (.inr rfl)⟩
theorem ord_104 (x y : V) : Ord3 ⟨#[98]⟩ ⟨#[97]⟩ ⟨#[]⟩ x y := ⟨[⟨#[]⟩, ⟨#[97]⟩, ⟨#[98]⟩], [x, y, x], by kernel_rfl, by kernel_rfl, rfl, by kernel_rfl, .inr (.inl rfl)⟩
theorem ord_105 (x y : V) : Ord3 ⟨#[98]⟩ ⟨#[97]⟩ ⟨#[122]⟩ x y := ⟨[⟨#[97]⟩, ⟨#[98]⟩, ⟨#[122]⟩], [y, x, x], by kernel_rfl, by kernel_rfl, rfl, by kernel_rfl, .inr (.inr rfl)⟩
theorem ord_120 (x y : V) : Ord3 ⟨#[98]⟩ ⟨#[195, 169]⟩ ⟨#[97]⟩ x y := ⟨[⟨#[97]⟩, ⟨#[98]⟩, ⟨#[195, 169]⟩], [x, x, y], by kernel_rfl, by kernel_rfl, rfl, by kernel_rfl, .inl rfl⟩
theorem ord_123 (x y : V) : Ord3 ⟨#[98]⟩ ⟨#[195, 169]⟩ ⟨#[97, 98]⟩ x y := ⟨[⟨#[97, 98]⟩, ⟨#[98]⟩, ⟨#[195, 169]⟩], [x, x, y], by kernel_rfl, by kernel_rfl, rfl, by kernel_rfl, .inl rfl⟩
theorem ord_124 (x y : V) : Ord3 ⟨#[98]⟩ ⟨#[195, 169]⟩ ⟨#[]⟩ x y := ⟨[⟨#[]⟩, ⟨#[98]⟩, ⟨#[195, 169]⟩], [x, x, y], by kernel_rfl, by kernel_rfl, rfl, by kernel_rfl, .inl rfl⟩
theorem ord_125 (x y : V) : Ord3 ⟨#[98]⟩ ⟨#[195, 169]⟩ ⟨#[122]⟩ x y := ⟨[⟨#[98]⟩, ⟨#[122]⟩, ⟨#[195, 169]⟩], [x, x, y], by kernel_rfl, by kernel_rfl, rfl, by kernel_rfl, .inl rfl⟩
theorem ord_130 (x y : V) : Ord3 ⟨#[98]⟩ ⟨#[97, 98]⟩ ⟨#[97]⟩ x y := ⟨[⟨#[97]⟩, ⟨#[97, 98]⟩, ⟨#[98]⟩], [x, y, x], by kernel_rfl, by kernel_rfl, rfl, by kernel_rfl, .inr (.inl rfl)⟩
theorem ord_132 (x y : V) : Ord3 ⟨#[98]⟩ ⟨#[97, 98]⟩ ⟨#[195, 169]⟩ x y := ⟨[⟨#[97, 98]⟩, ⟨#[98]⟩, ⟨#[195, 169]⟩], [y, x, x], by kernel_rfl, by kernel_rfl, rfl, by kernel_rfl, .inr (.inr rfl)⟩
theorem ord_134 (x y : V) : Ord3 ⟨#[98]⟩ ⟨#[97, 98]⟩ ⟨#[]⟩ x y := ⟨[⟨#[]⟩, ⟨#[97, 98]⟩, ⟨#[98]⟩], [x, y, x], by kernel_rfl, by kernel_rfl, rfl, by kernel_rfl, .inr (.inl rfl)⟩
theorem ord_135 (x y : V) : Ord3 ⟨#[98]⟩ ⟨#[97, 98]⟩ ⟨#[122]⟩ x y := ⟨[⟨#[97, 98]⟩, ⟨#[98]⟩, ⟨#[122]⟩], [y, x, x], by kernel_rfl, by kernel_rfl, rfl, by kernel_rfl, .inr (.inr rfl)⟩
theorem ord_140 (x y : V) : Ord3 ⟨#[98]⟩ ⟨#[]⟩ ⟨#[97]⟩ x y := ⟨[⟨#[]⟩, ⟨#[97]⟩, ⟨#[98]⟩], [y, x, x], by kernel_rfl, by kernel_rfl, rfl, by kernel_rfl, .inr (.inr rfl)⟩
theorem ord_142 (x y : V) : Ord3 ⟨#[98]⟩ ⟨#[]⟩ ⟨#[195, 169]⟩ x y := ⟨[⟨#[]⟩, ⟨#[98]⟩, ⟨#[195, 169]⟩], [y, x, x], by kernel_rfl, by kernel_rfl, rfl, by kernel_rfl, .inr (.inr rfl)⟩
theorem ord_143 (x y : V) : Ord3 ⟨#[98]⟩ ⟨#[]⟩ ⟨#[97, 98]⟩ x y := ⟨[⟨#[]⟩, ⟨#[97, 98]⟩, ⟨#[98]⟩], [y, x, x], by kernel_rfl, by kernel_rfl, rfl, by kernel_rfl, .inr (.inr rfl)⟩
theorem ord_145 (x y : V) : Ord3 ⟨#[98]⟩ ⟨#[]⟩ ⟨#[122]⟩ x y := ⟨[⟨#[]⟩, ⟨#[98]⟩, ⟨#[122]⟩], [y, x, x], by kernel_rfl, by kernel_rfl, rfl, by kernel_rfl, .inr (.inr rfl)⟩
theorem ord_150 (x y : V) : Ord3 ⟨#[98]⟩ ⟨#[122]⟩ ⟨#[97]⟩ x y := ⟨[⟨#[97]⟩, ⟨#[98]⟩, ⟨#[122]⟩], [x, x, y], by kernel_rfl, by kernel_rfl, rfl, by kernel_rfl, .inl rfl⟩
theorem ord_152 (x y : V) : Ord3 ⟨#[98]⟩ ⟨#[122]⟩ ⟨#[195, 169]⟩ x y := ⟨[⟨#[98]⟩, ⟨#[122]⟩, ⟨#[195, 169]⟩], [x, y, x], by kernel_rfl, by kernel_rfl, rfl, by kernel_rfl, .inr (.inl rfl)⟩
theorem ord_153 (x y : V) : Ord3 ⟨#[98]⟩ ⟨#[122]⟩ ⟨#[97, 98]⟩ x y := ⟨[⟨#[97, 98]⟩, ⟨#[98]⟩, ⟨#[122]⟩], [x, x, y], by kernel_rfl, by kernel_rfl, rfl, by kernel_rfl, .inl rfl⟩
theorem ord_154 (x y : V) : Ord3 ⟨#[98]⟩ ⟨#[122]⟩ ⟨#[]⟩ x y := ⟨[⟨#[]⟩, ⟨#[98]⟩, ⟨#[122]⟩], [x, x, y], by kernel_rfl, by kernel_rfl, rfl, by kernel_rfl, .inl rfl⟩
theorem ord_201 (x y : V) : Ord3 ⟨#[195, 169]⟩ ⟨#[97]⟩ ⟨#[98]⟩ x y := ⟨[⟨#[97]⟩, ⟨#[98]⟩, ⟨#[195, 169]⟩], [y, x, x], by kernel_rfl, by kernel_rfl, rfl, by kernel_rfl, .inr (.inr rfl)⟩
theorem ord_203 (x y : V) : Ord3 ⟨#[195, 169]⟩ ⟨#[97]⟩ ⟨#[97, 98]⟩ x y := ⟨[⟨#[97]⟩, ⟨#[97, 98]⟩, ⟨#[195, 169]⟩], [y, x, x], by kernel_rfl, by kernel_rfl, rfl, by kernel_rfl, .inr (.inr rfl)⟩
theorem ord_204 (x y : V) : Ord3 ⟨#[195, 169]⟩ ⟨#[97]⟩ ⟨#[]⟩ x y := ⟨[⟨#[]⟩, ⟨#[97]⟩, ⟨#[195, 169]⟩], [x, y, x], by kernel_rfl, by kernel_rfl, rfl, by kernel_rfl, .inr (.inl rfl)⟩
theorem ord_205 (x y : V) : Ord3 ⟨#[195, 169]⟩ ⟨#[97]⟩ ⟨#[122]⟩ x y := ⟨[⟨#[97]⟩, ⟨#[122]⟩, ⟨#[195, 169]⟩], [y, x, x], by kernel_rfl, by kernel_rfl, rfl, by kernel_rfl, .inr (.inr rfl)⟩
theorem ord_210 (x y : V) : Ord3 ⟨#[195, 169]⟩ ⟨#[98]⟩ ⟨#[97]⟩ x y := ⟨[⟨#[97]⟩, ⟨#[98]⟩, ⟨#[195, 169]⟩], [x, y, x], by kernel_rfl, by kernel_rfl, rfl, by kernel_rfl, .inr (.inl rfl)⟩
theorem ord_213 (x y : V) : Ord3 ⟨#[195, 169]⟩ ⟨#[98]⟩ ⟨#[97, 98]⟩ x y := ⟨[⟨#[97, 98]⟩, ⟨#[98]⟩, ⟨#[195, 169]⟩], [x, y, x], by kernel_rfl, by kernel_rfl, rfl, by kernel_rfl, .inr (.inl rfl)⟩
theorem ord_214 (x y : V) : Ord3 ⟨#[195, 169]⟩ ⟨#[98]⟩ ⟨#[]⟩ x y := ⟨[⟨#[]⟩, ⟨#[98]⟩, ⟨#[195, 169]⟩], [x, y, x], by kernel_rfl, by kernel_rfl, rfl, by kernel_rfl, .inr (.inl rfl)⟩
theorem ord_215 (x y : V) : Ord3 ⟨#[195, 169]⟩ ⟨#[98]⟩ ⟨#[122]⟩ x y := ⟨[⟨#[98]⟩, ⟨#[122]⟩, ⟨#[195, 169]⟩], [y, x, x], by kernel_rfl, by kernel_rfl, rfl, by kernel_rfl, .inr (.inr rfl)⟩
theorem ord_230 (x y : V) : Ord3 ⟨#[195, 169]⟩ ⟨#[97, 98]⟩ ⟨#[97]⟩ x y := ⟨[⟨#[97]⟩, ⟨#[97, 98]⟩, ⟨#[195, 169]⟩], [x, y, x], by kernel_rfl, by kernel_rfl, rfl, by kernel_rfl, .inr (.inl rfl)⟩
theorem ord_231 (x y : V) : Ord3 ⟨#[195, 169]⟩ ⟨#[97, 98]⟩ ⟨#[98]⟩ x y := ⟨[⟨#[97, 98]⟩, ⟨#[98]⟩, ⟨#[195, 169]⟩], [y, x, x], by kernel_rfl, by kernel_rfl, rfl, by kernel_rfl, .inr (.inr rfl)⟩
theorem ord_234 (x y : V) : Ord3 ⟨#[195, 169]⟩ ⟨#[97, 98]⟩ ⟨#[]⟩ x y := ⟨[⟨#[]⟩, ⟨#[97, 98]⟩, ⟨#[195, 169]⟩], [x, y, x], by kernel_rfl, by kernel_rfl, rfl, by kernel_rfl, .inr (.inl rfl)⟩
theorem ord_235 (x y : V) : Ord3 ⟨#[195, 169]⟩ ⟨#[97, 98]⟩ ⟨#[122]⟩ x y := ⟨[⟨#[97, 98]⟩, ⟨#[122]⟩, ⟨#[195, 169]⟩], [y, x, x], by kernel_rfl, by kernel_rfl, rfl, by kernel_rfl, .inr (.inr rfl)⟩
theorem ord_240 (x y : V) : Ord3 ⟨#[195, 169]⟩ ⟨#[]⟩ ⟨#[97]⟩ x y := ⟨[⟨#[]⟩, ⟨#[97]⟩, ⟨#[195, 169]⟩], [y, x, x], by kernel_rfl, by kernel_rfl, rfl, by kernel_rfl, .inr (.inr rfl)⟩
theorem ord_241 (x y : V) : Ord3 ⟨#[195, 169]⟩ ⟨#[]⟩ ⟨#[98]⟩ x y := ⟨[⟨#[]⟩, ⟨#[98]⟩, ⟨#[195, 169]⟩], [y, x, x], by kernel_rfl, by kernel_rfl, rfl, by kernel_rfl, .inr (.inr rfl)⟩
theorem ord_243 (x y : V) : Ord3 ⟨#[195, 169]⟩ ⟨#[]⟩ ⟨#[97, 98]⟩ x y := ⟨[⟨#[]⟩, ⟨#[97, 98]⟩, ⟨#[195, 169]⟩], [y, x, x], by kernel_rfl, by kernel_rfl, rfl, by kernel_rfl, .inr (.inr rfl)⟩
theorem ord_245 (x y : V) : Ord3 ⟨#[195, 169]⟩ ⟨#[]⟩ ⟨#[122]⟩ x y := ⟨[⟨#[]⟩, ⟨#[122]⟩, ⟨#[195, 169]⟩], [y, x, x], by kernel_rfl, by kernel_rfl, rfl, by kernel_rfl, .inr (.inr rfl)⟩
theorem ord_250 (x y : V) : Ord3 ⟨#[195, 169]⟩ ⟨#[122]⟩ ⟨#[97]⟩ x y := ⟨[⟨#[97]⟩, ⟨#[122]⟩, ⟨#[195, 169]⟩], [x, y, x], by kernel_rfl, by kernel_rfl, rfl, by kernel_rfl, .inr (.inl rfl)⟩
theorem ord_251 (x y : V) : Ord3 ⟨#[195, 169]⟩ ⟨#[122]⟩ ⟨#[98]⟩ x y := ⟨[⟨#[98]⟩, ⟨#[122]⟩, ⟨#[195, 169]⟩], [x, y, x], by kernel_rfl, by kernel_rfl, rfl, by kernel_rfl, .inr (.inl rfl)⟩
theorem ord_253 (x y : V) : Ord3 ⟨#[195, 169]⟩ ⟨#[122]⟩ ⟨#[97, 98]⟩ x y := ⟨[⟨#[97, 98]⟩, ⟨#[122]⟩, ⟨#[195, 169]⟩], [x, y, x], by kernel_rfl, by kernel_rfl, rfl, by kernel_rfl, .inr (.inl rfl)⟩
theorem ord_254 (x y : V) : Ord3 ⟨#[195, 169]⟩ ⟨#[122]⟩ ⟨#[]⟩ x y := ⟨[⟨#[]⟩, ⟨#[122]⟩, ⟨#[195, 169]⟩], [x, y, x], by kernel_rfl, by kernel_rfl, rfl, by kernel_rfl, .inr (.inl rfl)⟩
theorem ord_301 (x y : V) : Ord3 ⟨#[97, 98]⟩ ⟨#[97]⟩ ⟨#[98]⟩ x y := ⟨[⟨#[97]⟩, ⟨#[97, 98]⟩, ⟨#[98]⟩], [y, x, x], by kernel_rfl, by kernel_rfl, rfl, by kernel_rfl, .inr (.inr rfl)⟩
theorem ord_302 (x y : V) : Ord3 ⟨#[97, 98]⟩ ⟨#[97]⟩ ⟨#[195, 169]⟩ x y := ⟨[⟨#[97]⟩, ⟨#[97, 98]⟩, ⟨#[195, 169]⟩], [y, x, x], by kernel_rfl, by kernel_rfl, rfl, by kernel_rfl, .inr (.inr rfl)⟩
theorem ord_304 (x y : V) : Ord3 ⟨#[97, 98]⟩ ⟨#[97]⟩ ⟨#[]⟩ x y := ⟨[⟨#[]⟩, ⟨#[97]⟩, ⟨#[97, 98]⟩], [x, y, x], by kernel_rfl, by kernel_rfl, rfl, by kernel_rfl, .inr (.inl rfl)⟩
theorem ord_305 (x y : V) : Ord3 ⟨#[97, 98]⟩ ⟨#[97]⟩ ⟨#[122]⟩ x y := ⟨[⟨#[97]⟩, ⟨#[97, 98]⟩, ⟨#[122]⟩], [y, x, x], by kernel_rfl, by kernel_rfl, rfl, by kernel_rfl, .inr (.inr rfl)⟩
theorem ord_310 (x y : V) : Ord3 ⟨#[97, 98]⟩ ⟨#[98]⟩ ⟨#[97]⟩ x y := ⟨[⟨#[97]⟩, ⟨#[97, 98]⟩, ⟨#[98]⟩], [x, x, y], by kernel_rfl, by kernel_rfl, rfl, by kernel_rfl, .inl rfl⟩
theorem ord_312 (x y : V) : Ord3 ⟨#[97, 98]⟩ ⟨#[98]⟩ ⟨#[195, 169]⟩ x y := ⟨[⟨#[97, 98]⟩, ⟨#[98]⟩, ⟨#[195, 169]⟩], [x, y, x], by kernel_rfl, by kernel_rfl, rfl, by kernel_rfl, .inr (.inl rfl)⟩
theorem ord_314 (x y : V) : Ord3 ⟨#[97, 98]⟩ ⟨#[98]⟩ ⟨#[]⟩ x y := ⟨[⟨#[]⟩, ⟨#[97, 98]⟩, ⟨#[98]⟩], [x, x, y], by kernel_rfl, by kernel_rfl, rfl, by kernel_rfl, .inl rfl⟩
theorem ord_315 (x y : V) : Ord3 ⟨#[97, 98]⟩ ⟨#[98]⟩ ⟨#[122]⟩ x y := ⟨[⟨#[97, 98]⟩, ⟨#[98]⟩, ⟨#[122]⟩], [x, y, x], by kernel_rfl, by kernel_rfl, rfl, by kernel_rfl, .inr (.inl rfl)⟩
theorem ord_320 (x y : V) : Ord3 ⟨#[97, 98]⟩ ⟨#[195, 169]⟩ ⟨#[97]⟩ x y := ⟨[⟨#[97]⟩, ⟨#[97, 98]⟩, ⟨#[195, 169]⟩], [x, x, y], by kernel_rfl, by kernel_rfl, rfl, by kernel_rfl, .inl rfl⟩
theorem ord_321 (x y : V) : Ord3 ⟨#[97, 98]⟩ ⟨#[195, 169]⟩ ⟨#[98]⟩ x y := ⟨[⟨#[97, 98]⟩, ⟨#[98]⟩, ⟨#[195, 169]⟩], [x, x, y], by kernel_rfl, by kernel_rfl, rfl, by kernel_rfl, .inl rfl⟩
theorem ord_324 (x y : V) : Ord3 ⟨#[97, 98]⟩ ⟨#[195, 169]⟩ ⟨#[]⟩ x y := ⟨[⟨#[]⟩, ⟨#[97, 98]⟩, ⟨#[195, 169]⟩], [x, x, y], by kernel_rfl, by kernel_rfl, rfl, by kernel_rfl, .inl rfl⟩
theorem ord_325 (x y : V) : Ord3 ⟨#[97, 98]⟩ ⟨#[195, 169]⟩ ⟨#[122]⟩ x y := ⟨[⟨#[97, 98]⟩, ⟨#[122]⟩, ⟨#[195, 169]⟩], [x, x, y], by kernel_rfl, by kernel_rfl, rfl, by kernel_rfl, .inl rfl⟩
theorem ord_340 (x y : V) : Ord3 ⟨#[97, 98]⟩ ⟨#[]⟩ ⟨#[97]⟩ x y := ⟨[⟨#[]⟩, ⟨#[97]⟩, ⟨#[97, 98]⟩], [y, x, x], by kernel_rfl, by kernel_rfl, rfl, by kernel_rfl, .inr (.inr rfl)⟩
theorem ord_341 (x y : V) : Ord3 ⟨#[97, 98]⟩ ⟨#[]⟩ ⟨#[98]⟩ x y := ⟨[⟨#[]⟩, ⟨#[97, 98]⟩, ⟨#[98]⟩], [y, x, x], by kernel_rfl, by kernel_rfl, rfl, by kernel_rfl, .inr (.inr rfl)⟩
theorem ord_342 (x y : V) : Ord3 ⟨#[97, 98]⟩ ⟨#[]⟩ ⟨#[195, 169]⟩ x y := ⟨[⟨#[]⟩, ⟨#[97, 98]⟩, ⟨#[195, 169]⟩], [y, x, x], by kernel_rfl, by kernel_rfl, rfl, by kernel_rfl, .inr (.inr rfl)⟩
theorem ord_345 (x y : V) : Ord3 ⟨#[97, 98]⟩ ⟨#[]⟩ ⟨#[122]⟩ x y := ⟨[⟨#[]⟩, ⟨#[97, 98]⟩, ⟨#[122]⟩], [y, x, x], by kernel_rfl, by kernel_rfl, rfl, by kernel_rfl, .inr (.inr rfl)⟩
theorem ord_350 (x y : V) : Ord3 ⟨#[97, 98]⟩ ⟨#[122]⟩ ⟨#[97]⟩ x y := ⟨[⟨#[97]⟩, ⟨#[97, 98]⟩, ⟨#[122]⟩], [x, x, y], by kernel_rfl, by kernel_rfl, rfl, by kernel_rfl, .inl rfl⟩
theorem ord_351 (x y : V) : Ord3 ⟨#[97, 98]⟩ ⟨#[122]⟩ ⟨#[98]⟩ x y := ⟨[⟨#[97, 98]⟩, ⟨#[98]⟩, ⟨#[122]⟩], [x, x, y], by kernel_rfl, by kernel_rfl, rfl, by kernel_rfl, .inl rfl⟩
theorem ord_352 (x y : V) : Ord3 ⟨#[97, 98]⟩ ⟨#[122]⟩ ⟨#[195, 169]⟩ x y := ⟨[⟨#[97, 98]⟩, ⟨#[122]⟩, ⟨#[195, 169]⟩], [x, y, x], by kernel_rfl, by kernel_rfl, rfl, by kernel_rfl, .inr (.inl rfl)⟩
theorem ord_354 (x y : V) : Ord3 ⟨#[97, 98]⟩ ⟨#[122]⟩ ⟨#[]⟩ x y := ⟨[⟨#[]⟩, ⟨#[97, 98]⟩, ⟨#[122]⟩], [x, x, y], by kernel_rfl, by kernel_rfl, rfl, by kernel_rfl, .inl rfl⟩
theorem ord_401 (x y : V) : Ord3 ⟨#[]⟩ ⟨#[97]⟩ ⟨#[98]⟩ x y := ⟨[⟨#[]⟩, ⟨#[97]⟩, ⟨#[98]⟩], [x, y, x], by kernel_rfl, by kernel_rfl, rfl, by kernel_rfl, .inr (.inl rfl)⟩
theorem ord_402 (x y : V) : Ord3 ⟨#[]⟩ ⟨#[97]⟩ ⟨#[195, 169]⟩ x y := ⟨[⟨#[]⟩, ⟨#[97]⟩, ⟨#[195, 169]⟩], [x, y, x], by kernel_rfl, by kernel_rfl, rfl, by kernel_rfl, .inr (.inl rfl)⟩
theorem ord_403 (x y : V) : Ord3 ⟨#[]⟩ ⟨#[97]⟩ ⟨#[97, 98]⟩ x y := ⟨[⟨#[]⟩, ⟨#[97]⟩, ⟨#[97, 98]⟩], [x, y, x], by kernel_rfl, by kernel_rfl, rfl, by kernel_rfl, .inr (.inl rfl)⟩
theorem ord_405 (x y : V) : Ord3 ⟨#[]⟩ ⟨#[97]⟩ ⟨#[122]⟩ x y := ⟨[⟨#[]⟩, ⟨#[97]⟩, ⟨#[122]⟩], [x, y, x], by kernel_rfl, by kernel_rfl, rfl, by kernel_rfl, .inr (.inl rfl)⟩
theorem ord_410 (x y : V) : Ord3 ⟨#[]⟩ ⟨#[98]⟩ ⟨#[97]⟩ x y := ⟨[⟨#[]⟩, ⟨#[97]⟩, ⟨#[98]⟩], [x, x, y], by kernel_rfl, by kernel_rfl, rfl, by kernel_rfl, .inl rfl⟩
theorem ord_412 (x y : V) : Ord3 ⟨#[]⟩ ⟨#[98]⟩ ⟨#[195, 169]⟩ x y := ⟨[⟨#[]⟩, ⟨#[98]⟩, ⟨#[195, 169]⟩], [x, y, x], by kernel_rfl, by kernel_rfl, rfl, by kernel_rfl, .inr (.inl rfl)⟩
theorem ord_413 (x y : V) : Ord3 ⟨#[]⟩ ⟨#[98]⟩ ⟨#[97, 98]⟩ x y := ⟨[⟨#[]⟩, ⟨#[97, 98]⟩, ⟨#[98]⟩], [x, x, y], by kernel_rfl, by kernel_rfl, rfl, by kernel_rfl, .inl rfl⟩
theorem ord_415 (x y : V) : Ord3 ⟨#[]⟩ ⟨#[98]⟩ ⟨#[122]⟩ x y := ⟨[⟨#[]⟩, ⟨#[98]⟩, ⟨#[122]⟩], [x, y, x], by kernel_rfl, by kernel_rfl, rfl, by kernel_rfl, .inr (.inl rfl)⟩
theorem ord_420 (x y : V) : Ord3 ⟨#[]⟩ ⟨#[195, 169]⟩ ⟨#[97]⟩ x y := ⟨[⟨#[]⟩, ⟨#[97]⟩, ⟨#[195, 169]⟩], [x, x, y], by kernel_rfl, by kernel_rfl, rfl, by kernel_rfl, .inl rfl⟩
theorem ord_421 (x y : V) : Ord3 ⟨#[]⟩ ⟨#[195, 169]⟩ ⟨#[98]⟩ x y := ⟨[⟨#[]⟩, ⟨#[98]⟩, ⟨#[195, 169]⟩], [x, x, y], by kernel_rfl, by kernel_rfl, rfl, by kernel_rfl, .inl rfl⟩
theorem ord_423 (x y : V) : Ord3 ⟨#[]⟩ ⟨#[195, 169]⟩ ⟨#[97, 98]⟩ x y := ⟨[⟨#[]⟩, ⟨#[97, 98]⟩, ⟨#[195, 169]⟩], [x, x, y], by kernel_rfl, by kernel_rfl, rfl, by kernel_rfl, .inl rfl⟩
theorem ord_425 (x y : V) : Ord3 ⟨#[]⟩ ⟨#[195, 169]⟩ ⟨#[122]⟩ x y := ⟨[⟨#[]⟩, ⟨#[122]⟩, ⟨#[195, 169]⟩], [x, x, y], by kernel_rfl, by kernel_rfl, rfl, by kernel_rfl, .inl rfl⟩
theorem ord_430 (x y : V) : Ord3 ⟨#[]⟩ ⟨#[97, 98]⟩ ⟨#[97]⟩ x y := ⟨[⟨#[]⟩, ⟨#[97]⟩, ⟨#[97, 98]⟩], [x, x, y], by kernel_rfl, by kernel_rfl, rfl, by kernel_rfl, .inl rfl⟩
theorem ord_431 (x y : V) : Ord3 ⟨#[]⟩ ⟨#[97, 98]⟩ ⟨#[98]⟩ x y := ⟨[⟨#[]⟩, ⟨#[97, 98]⟩, ⟨#[98]⟩], [x, y, x], by kernel_rfl, by kernel_rfl, rfl, by kernel_rfl, .inr (.inl rfl)⟩
theorem ord_432 (x y : V) : Ord3 ⟨#[]⟩ ⟨#[97, 98]⟩ ⟨#[195, 169]⟩ x y := ⟨[⟨#[]⟩, ⟨#[97, 98]⟩, ⟨#[195, 169]⟩], [x, y, x], by kernel_rfl, by kernel_rfl, rfl, by kernel_rfl, .inr (.inl rfl)⟩
theorem ord_435 (x y : V) : Ord3 ⟨#[]⟩ ⟨#[97, 98]⟩ ⟨#[122]⟩ x y := ⟨[⟨#[]⟩, ⟨#[97, 98]⟩, ⟨#[122]⟩], [x, y, x], by kernel_rfl, by kernel_rfl, rfl, by kernel_rfl, .inr (.inl rfl)⟩
theorem ord_450 (x y : V) : Ord3 ⟨#[]⟩ ⟨#[122]⟩ ⟨#[97]⟩ x y := ⟨[⟨#[]⟩, ⟨#[97]⟩, ⟨#[122]⟩], [x, x, y], by kernel_rfl, by kernel_rfl, rfl, by kernel_rfl, .inl rfl⟩
theorem ord_451 (x y : V) : Ord3 ⟨#[]⟩ ⟨#[122]⟩ ⟨#[98]⟩ x y := ⟨[⟨#[]⟩, ⟨#[98]⟩, ⟨#[122]⟩], [x, x, y], by kernel_rfl, by kernel_rfl, rfl, by kernel_rfl, .inl rfl⟩
theorem ord_452 (x y : V) : Ord3 ⟨#[]⟩ ⟨#[122]⟩ ⟨#[195, 169]⟩ x y := ⟨[⟨#[]⟩, ⟨#[122]⟩, ⟨#[195, 169]⟩], [x, y, x], by kernel_rfl, by kernel_rfl, rfl, by kernel_rfl, .inr (.inl rfl)⟩
theorem ord_453 (x y : V) : Ord3 ⟨#[]⟩ ⟨#[122]⟩ ⟨#[97, 98]⟩ x y := ⟨[⟨#[]⟩, ⟨#[97, 98]⟩, ⟨#[122]⟩], [x, x, y], by kernel_rfl, by kernel_rfl, rfl, by kernel_rfl, .inl rfl⟩
theorem ord_501 (x y : V) : Ord3 ⟨#[122]⟩ ⟨#[97]⟩ ⟨#[98]⟩ x y := ⟨[⟨#[97]⟩, ⟨#[98]⟩, ⟨#[122]⟩], [y, x, x], by kernel_rfl, by kernel_rfl, rfl, by kernel_rfl, .inr (.inr rfl)⟩
theorem ord_502 (x y : V) : Ord3 ⟨#[122]⟩ ⟨#[97]⟩ ⟨#[195, 169]⟩ x y := ⟨[⟨#[97]⟩, ⟨#[122]⟩, ⟨#[195, 169]⟩], [y, x, x], by kernel_rfl, by kernel_rfl, rfl, by kernel_rfl, .inr (.inr rfl)⟩
theorem ord_503 (x y : V) : Ord3 ⟨#[122]⟩ ⟨#[97]⟩ ⟨#[97, 98]⟩ x y := ⟨[⟨#[97]⟩, ⟨#[97, 98]⟩, ⟨#[122]⟩], [y, x, x], by kernel_rfl, by kernel_rfl, rfl, by kernel_rfl, .inr (.inr rfl)⟩
theorem ord_504 (x y : V) : Ord3 ⟨#[122]⟩ ⟨#[97]⟩ ⟨#[]⟩ x y := ⟨[⟨#[]⟩, ⟨#[97]⟩, ⟨#[122]⟩], [x, y, x], by kernel_rfl, by kernel_rfl, rfl, by kernel_rfl, .inr (.inl rfl)⟩
theorem ord_510 (x y : V) : Ord3 ⟨#[122]⟩ ⟨#[98]⟩ ⟨#[97]⟩ x y := ⟨[⟨#[97]⟩, ⟨#[98]⟩, ⟨#[122]⟩], [x, y, x], by kernel_rfl, by kernel_rfl, rfl, by kernel_rfl, .inr (.inl rfl)⟩
theorem ord_512 (x y : V) : Ord3 ⟨#[122]⟩ ⟨#[98]⟩ ⟨#[195, 169]⟩ x y := ⟨[⟨#[98]⟩, ⟨#[122]⟩, ⟨#[195, 169]⟩], [y, x, x], by kernel_rfl, by kernel_rfl, rfl, by kernel_rfl, .inr (.inr rfl)⟩
theorem ord_513 (x y : V) : Ord3 ⟨#[122]⟩ ⟨#[98]⟩ ⟨#[97, 98]⟩ x y := ⟨[⟨#[97, 98]⟩, ⟨#[98]⟩, ⟨#[122]⟩], [x, y, x], by kernel_rfl, by kernel_rfl, rfl, by kernel_rfl, .inr (.inl rfl)⟩
theorem ord_514 (x y : V) : Ord3 ⟨#[122]⟩ ⟨#[98]⟩ ⟨#[]⟩ x y := ⟨[⟨#[]⟩, ⟨#[98]⟩, ⟨#[122]⟩], [x, y, x], by kernel_rfl, by kernel_rfl, rfl, by kernel_rfl, .inr (.inl rfl)⟩
theorem ord_520 (x y : V) : Ord3 ⟨#[122]⟩ ⟨#[195, 169]⟩ ⟨#[97]⟩ x y := ⟨[⟨#[97]⟩, ⟨#[122]⟩, ⟨#[195, 169]⟩], [x, x, y], by kernel_rfl, by kernel_rfl, rfl, by kernel_rfl, .inl rfl⟩
theorem ord_521 (x y : V) : Ord3 ⟨#[122]⟩ ⟨#[195, 169]⟩ ⟨#[98]⟩ x y := ⟨[⟨#[98]⟩, ⟨#[122]⟩, ⟨#[195, 169]⟩], [x, x, y], by kernel_rfl, by kernel_rfl, rfl, by kernel_rfl, .inl rfl⟩
theorem ord_523 (x y : V) : Ord3 ⟨#[122]⟩ ⟨#[195, 169]⟩ ⟨#[97, 98]⟩ x y := ⟨[⟨#[97, 98]⟩, ⟨#[122]⟩, ⟨#[195, 169]⟩], [x, x, y], by kernel_rfl, by kernel_rfl, rfl, by kernel_rfl, .inl rfl⟩
theorem ord_524 (x y : V) : Ord3 ⟨#[122]⟩ ⟨#[195, 169]⟩ ⟨#[]⟩ x y := ⟨[⟨#[]⟩, ⟨#[122]⟩, ⟨#[195, 169]⟩], [x, x, y], by kernel_rfl, by kernel_rfl, rfl, by kernel_rfl, .inl rfl⟩
theorem ord_530 (x y : V) : Ord3 ⟨#[122]⟩ ⟨#[97, 98]⟩ ⟨#[97]⟩ x y := ⟨[⟨#[97]⟩, ⟨#[97, 98]⟩, ⟨#[122]⟩], [x, y, x], by kernel_rfl, by kernel_rfl, rfl, by kernel_rfl, .inr (.inl rfl)⟩
theorem ord_531 (x y : V) : Ord3 ⟨#[122]⟩ ⟨#[97, 98]⟩ ⟨#[98]⟩ x y := ⟨[⟨#[97, 98]⟩, ⟨#[98]⟩, ⟨#[122]⟩], [y, x, x], by kernel_rfl, by kernel_rfl, rfl, by kernel_rfl, .inr (.inr rfl)⟩
theorem ord_532 (x y : V) : Ord3 ⟨#[122]⟩ ⟨#[97, 98]⟩ ⟨#[195, 169]⟩ x y := ⟨[⟨#[97, 98]⟩, ⟨#[122]⟩, ⟨#[195, 169]⟩], [y, x, x], by kernel_rfl, by kernel_rfl, rfl, by kernel_rfl, .inr (.inr rfl)⟩
theorem ord_534 (x y : V) : Ord3 ⟨#[122]⟩ ⟨#[97, 98]⟩ ⟨#[]⟩ x y := ⟨[⟨#[]⟩, ⟨#[97, 98]⟩, ⟨#[122]⟩], [x, y, x], by kernel_rfl, by kernel_rfl, rfl, by kernel_rfl, .inr (.inl rfl)⟩
theorem ord_540 (x y : V) : Ord3 ⟨#[122]⟩ ⟨#[]⟩ ⟨#[97]⟩ x y := ⟨[⟨#[]⟩, ⟨#[97]⟩, ⟨#[122]⟩], [y, x, x], by kernel_rfl, by kernel_rfl, rfl, by kernel_rfl, .inr (.inr rfl)⟩
theorem ord_541 (x y : V) : Ord3 ⟨#[122]⟩ ⟨#[]⟩ ⟨#[98]⟩ x y := ⟨[⟨#[]⟩, ⟨#[98]⟩, ⟨#[122]⟩], [y, x, x], by kernel_rfl, by kernel_rfl, rfl, by kernel_rfl, .inr (.inr rfl)⟩
theorem ord_542 (x y : V) : Ord3 ⟨#[122]⟩ ⟨#[]⟩ ⟨#[195, 169]⟩ x y := ⟨[⟨#[]⟩, ⟨#[122]⟩, ⟨#[195, 169]⟩], [y, x, x], by kernel_rfl, by kernel_rfl, rfl, by kernel_rfl, .inr (.inr rfl)⟩
theorem ord_543 (x y : V) : Ord3 ⟨#[122]⟩ ⟨#[]⟩ ⟨#[97, 98]⟩ x y := ⟨[⟨#[]⟩, ⟨#[97, 98]⟩, ⟨#[122]⟩], [y, x, x], by kernel_rfl, by kernel_rfl, rfl, by kernel_rfl, .inr (.inr rfl)⟩
theorem ord_all (x y : V) (i j k : Nat) (hi : i < 6) (hj : j < 6) (hk : k < 6) (h1 : ordKey i ≠ ordKey j) (h2 : ordKey j ≠ ordKey k) (h3 : ordKey i ≠ ordKey k) : Ord3 (ordKey i) (ordKey j) (ordKey k) x y := by
  have ci : i = 0 ∨ i = 1 ∨ i = 2 ∨ i = 3 ∨ i = 4 ∨ i = 5 := by omega
  have cj : j = 0 ∨ j = 1 ∨ j = 2 ∨ j = 3 ∨ j = 4 ∨ j = 5 := by omega
  have ck : k = 0 ∨ k = 1 ∨ k = 2 ∨ k = 3 ∨ k = 4 ∨ k = 5 := by omega
  rcases ci with rfl | rfl | rfl | rfl | rfl | rfl
  · rcases cj with rfl | rfl | rfl | rfl | rfl | rfl
    · exact absurd rfl h1
    · rcases ck with rfl | rfl | rfl | rfl | rfl | rfl
      · exact absurd rfl h3
      · exact absurd rfl h2
      · exact ord_012 x y
      · exact ord_013 x y
      · exact ord_014 x y
      · exact ord_015 x y
    · rcases ck with rfl | rfl | rfl | rfl | rfl | rfl
      · exact absurd rfl h3
      · exact ord_021 x y
      · exact absurd rfl h2
      · exact ord_023 x y
      · exact ord_024 x y
      · exact ord_025 x y
    · rcases ck with rfl | rfl | rfl | rfl | rfl | rfl
      · exact absurd rfl h3
      · exact ord_031 x y
      · exact ord_032 x y
      · exact absurd rfl h2
      · exact ord_034 x y
      · exact ord_035 x y
    · rcases ck with rfl | rfl | rfl | rfl | rfl | rfl
      · exact absurd rfl h3
      · exact ord_041 x y
      · exact ord_042 x y
      · exact ord_043 x y
      · exact absurd rfl h2
      · exact ord_045 x y
    · rcases ck with rfl | rfl | rfl | rfl | rfl | rfl
      · exact absurd rfl h3
      · exact ord_051 x y
      · exact ord_052 x y
      · exact ord_053 x y
      · exact ord_054 x y
      · exact absurd rfl h2
  · rcases cj with rfl | rfl | rfl | rfl | rfl | rfl
    · rcases ck with rfl | rfl | rfl | rfl | rfl | rfl
      · exact absurd rfl h2
      · exact absurd rfl h3
      · exact ord_102 x y
      · exact ord_103 x y
      · exact ord_104 x y
      · exact ord_105 x y
    · exact absurd rfl h1
    · rcases ck with rfl | rfl | rfl | rfl | rfl | rfl
      · exact ord_120 x y
      · exact absurd rfl h3
      · exact absurd rfl h2
      · exact ord_123 x y
      · exact ord_124 x y
      · exact ord_125 x y
    · rcases ck with rfl | rfl | rfl | rfl | rfl | rfl
      · exact ord_130 x y
      · exact absurd rfl h3
      · exact ord_132 x y
      · exact absurd rfl h2
      · exact ord_134 x y
      · exact ord_135 x y
    · rcases ck with rfl | rfl | rfl | rfl | rfl | rfl
      · exact ord_140 x y
      · exact absurd rfl h3
      · exact ord_142 x y
      · exact ord_143 x y
      · exact absurd rfl h2
      · exact ord_145 x y
    · rcases ck with rfl | rfl | rfl | rfl | rfl | rfl
      · exact ord_150 x y
      · exact absurd rfl h3
      · exact ord_152 x y
      · exact ord_153 x y
      · exact ord_154 x y
      · exact absurd rfl h2
  · rcases cj with rfl | rfl | rfl | rfl | rfl | rfl
    · rcases ck with rfl | rfl | rfl | rfl | rfl | rfl
      · exact absurd rfl h2
      · exact ord_201 x y
      · exact absurd rfl h3
      · exact ord_203 x y
      · exact ord_204 x y
      · exact ord_205 x y
    · rcases ck with rfl | rfl | rfl | rfl | rfl | rfl
      · exact ord_210 x y
      · exact absurd rfl h2
      · exact absurd rfl h3
      · exact ord_213 x y
      · exact ord_214 x y
      · exact ord_215 x y
    · exact absurd rfl h1
    · rcases ck with rfl | rfl | rfl | rfl | rfl | rfl
      · exact ord_230 x y
      · exact ord_231 x y
      · exact absurd rfl h3
      · exact absurd rfl h2
      · exact ord_234 x y
      · exact ord_235 x y
    · rcases ck with rfl | rfl | rfl | rfl | rfl | rfl
      · exact ord_240 x y
      · exact ord_241 x y
      · exact absurd rfl h3
      · exact ord_243 x y
      · exact absurd rfl h2
      · exact ord_245 x y
    · rcases ck with rfl | rfl | rfl | rfl | rfl | rfl
      · exact ord_250 x y
      · exact ord_251 x y
      · exact absurd rfl h3
      · exact ord_253 x y
      · exact ord_254 x y
      · exact absurd rfl h2
  · rcases cj with rfl | rfl | rfl | rfl | rfl | rfl
    · rcases ck with rfl | rfl | rfl | rfl | rfl | rfl
      · exact absurd rfl h2
      · exact ord_301 x y
      · exact ord_302 x y
      · exact absurd rfl h3
      · exact ord_304 x y
      · exact ord_305 x y
    · rcases ck with rfl | rfl | rfl | rfl | rfl | rfl
      · exact ord_310 x y
      · exact absurd rfl h2
      · exact ord_312 x y
      · exact absurd rfl h3
      · exact ord_314 x y
      · exact ord_315 x y
    · rcases ck with rfl | rfl | rfl | rfl | rfl | rfl
      · exact ord_320 x y
      · exact ord_321 x y
      · exact absurd rfl h2
      · exact absurd rfl h3
      · exact ord_324 x y
      · exact ord_325 x y
    · exact absurd rfl h1
    · rcases ck with rfl | rfl | rfl | rfl | rfl | rfl
      · exact ord_340 x y
      · exact ord_341 x y
      · exact ord_342 x y
      · exact absurd rfl h3
      · exact absurd rfl h2
      · exact ord_345 x y
    · rcases ck with rfl | rfl | rfl | rfl | rfl | rfl
      · exact ord_350 x y
      · exact ord_351 x y
      · exact ord_352 x y
      · exact absurd rfl h3
      · exact ord_354 x y
      · exact absurd rfl h2
  · rcases cj with rfl | rfl | rfl | rfl | rfl | rfl
    · rcases ck with rfl | rfl | rfl | rfl | rfl | rfl
      · exact absurd rfl h2
      · exact ord_401 x y
      · exact ord_402 x y
      · exact ord_403 x y
      · exact absurd rfl h3
      · exact ord_405 x y
    · rcases ck with rfl | rfl | rfl | rfl | rfl | rfl
      · exact ord_410 x y
      · exact absurd rfl h2
      · exact ord_412 x y
      · exact ord_413 x y
      · exact absurd rfl h3
      · exact ord_415 x y
    · rcases ck with rfl | rfl | rfl | rfl | rfl | rfl
      · exact ord_420 x y
      · exact ord_421 x y
      · exact absurd rfl h2
      · exact ord_423 x y
      · exact absurd rfl h3
      · exact ord_425 x y
    · rcases ck with rfl | rfl | rfl | rfl | rfl | rfl
      · exact ord_430 x y
      · exact ord_431 x y
      · exact ord_432 x y
      · exact absurd rfl h2
      · exact absurd rfl h3
      · exact ord_435 x y
    · exact absurd rfl h1
    · rcases ck with rfl | rfl | rfl | rfl | rfl | rfl
      · exact ord_450 x y
      · exact ord_451 x y
      · exact ord_452 x y
      · exact ord_453 x y
      · exact absurd rfl h3
      · exact absurd rfl h2
  · rcases cj with rfl | rfl | rfl | rfl | rfl | rfl
    · rcases ck with rfl | rfl | rfl | rfl | rfl | rfl
      · exact absurd rfl h2
      · exact ord_501 x y
      · exact ord_502 x y
      · exact ord_503 x y
      · exact ord_504 x y
      · exact absurd rfl h3
    · rcases ck with rfl | rfl | rfl | rfl | rfl | rfl
      · exact ord_510 x y
      · exact absurd rfl h2
      · exact ord_512 x y
      · exact ord_513 x y
      · exact ord_514 x y
      · exact absurd rfl h3
    · rcases ck with rfl | rfl | rfl | rfl | rfl | rfl
      · exact ord_520 x y
      · exact ord_521 x y
      · exact absurd rfl h2
      · exact ord_523 x y
      · exact ord_524 x y
      · exact absurd rfl h3
    · rcases ck with rfl | rfl | rfl | rfl | rfl | rfl
      · exact ord_530 x y
      · exact ord_531 x y
      · exact ord_532 x y
      · exact absurd rfl h2
      · exact ord_534 x y
      · exact absurd rfl h3
    · rcases ck with rfl | rfl | rfl | rfl | rfl | rfl
      · exact ord_540 x y
      · exact ord_541 x y
      · exact ord_542 x y
      · exact ord_543 x y
      · exact absurd rfl h2
      · exact absurd rfl h3
    · exact absurd rfl h1

theorem ord_right {a b c : ByteArray} {x y : V} (h : Ord3 a b c x y) : right (withV (withV (withV none5 a x) b y) c x) = (right x && right y) := by
  obtain ⟨ks, l, h1, _, _, h4, h5⟩ := h
  rw [h1, right_mk]
  have hl : l.length = 3 := by rcases h5 with rfl | rfl | rfl <;> rfl
  rw [hl, h4]
  have e1 : kindOk 5 = true := by decide
  have e2 : numOk 5 0 = true := by decide
  have e3 : textOk 5 ⟨#[]⟩ = true := by kernel_rfl
  rw [e1, e2, e3]
  rcases h5 with rfl | rfl | rfl <;> simp only [List.all_cons, List.all_nil] <;> cases right x <;> cases right y <;> rfl
theorem ord_deep {a b c : ByteArray} {x y : V} (h : Ord3 a b c x y) : deep (withV (withV (withV none5 a x) b y) c x) = 1 + max (deep x) (deep y) := by
  obtain ⟨ks, l, h1, _, _, _, h5⟩ := h
  rw [h1, deep_mk, if_pos (.inr rfl)]
  rcases h5 with rfl | rfl | rfl <;> rw [deepL_cons, deepL_cons, deepL_cons, deepL_nil] <;> omega
theorem ord_same {a b c : ByteArray} {x y : V} (h : Ord3 a b c x y) : withV (withV (withV none5 a x) b y) c x = withV (withV (withV none5 c x) a x) b y := by
  obtain ⟨ks, l, h1, h2, _⟩ := h
  rw [h1, h2]
theorem ord_len {a b c : ByteArray} {x y : V} (h : Ord3 a b c x y) : (withV (withV (withV none5 a x) b y) c x).keys.length = 3 := by
  obtain ⟨ks, l, h1, _, h3, _⟩ := h
  rw [h1, h3]
end V

end Go.Proofs.Yteijnkdfacndoaa
