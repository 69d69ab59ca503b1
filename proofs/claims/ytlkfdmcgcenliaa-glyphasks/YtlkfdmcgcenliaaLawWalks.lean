/-
  THE WALKS over what the laws of layer 1 share: known, Text, Raw.
-/
import Derived.Test.YtlkfdmcgcenliaaGlyphWalksG
import Derived.Test.YtlkfdmcgcenliaaLawMath
import Derived.OpenShut
set_option linter.unusedVariables false
set_option linter.unusedSimpArgs false
namespace Go.Proofs.Ytlkfdmcgcenliaa
open Go.RowKit

/-- a slice of integers that came in -/
def IsRow (k : IntKind) (w : World) (a : Option Addr) (len cap : Nat) (zs : List Int) : Prop :=
  (a = none ∧ len = 0 ∧ cap = 0 ∧ zs = []) ∨
  ∃ x, a = some x ∧ len ≤ cap ∧ cap ≤ maxLen ∧ zs.length = cap ∧ (∀ i, i < zs.length → w.cell? (x.add i) = some (.int k (zs.getD i 0))) ∧ ∀ n ∈ zs, (Lit.int k n).wf = true

theorem IsRow.below {k : IntKind} {w w' : World} {a : Option Addr} {len cap : Nat} {zs : List Int} (h : IsRow k w a len cap zs) (hb : Below w.heap.size w w') : IsRow k w' a len cap zs := by
  rcases h with h | ⟨x, ha, hl, hm, hz, hcell, hwz⟩
  · exact .inl h
  · exact .inr ⟨x, ha, hl, hm, hz, fun i hi => cell_later hb (hcell i hi), hwz⟩

theorem unquote_is (s : ByteArray) (t : List UInt8) (k : Nat) (w : World) (hs : s.size ≤ 17592186044416) (h : Gm.unquote s.data.toList = some (t, k)) :
    Calls Try.prog 16 #[.string s] w fun e w' => e = .returned (.tuple #[.string ⟨t.toArray⟩, .int .i64 k]) ∧ Below w.heap.size w w' := by
  have := unquote_any s w hs
  rw [h] at this
  exact this
theorem unquote_none (s : ByteArray) (w : World) (hs : s.size ≤ 17592186044416) (h : Gm.unquote s.data.toList = none) :
    Calls Try.prog 16 #[.string s] w fun e w' => e = .returned (.tuple #[.string ⟨#[]⟩, .int .i64 0]) ∧ Below w.heap.size w w' := by
  have := unquote_any s w hs
  rw [h] at this
  exact this
theorem quote_is (s : ByteArray) (q : List UInt8) (w : World) (hs : s.size ≤ 17592186044416) (h : Gm.quote s.data.toList = q) :
    Calls Try.prog 15 #[.string s] w fun e w' => e = .returned (.string ⟨q.toArray⟩) ∧ Below w.heap.size w w' := by
  subst h; exact quote_any s w hs
theorem check_is (s : ByteArray) (z : Int) (w : World) (hs : s.size ≤ maxLen) (h : Gm.checkZ s.data.toList = z) :
    Calls Try.prog 17 #[.string s] w fun e w' => e = .returned (.int .i64 z) ∧ Below w.heap.size w w' := by
  subst h; exact check_any s w hs
theorem runes_is (s : ByteArray) (n : Nat) (w : World) (hs : s.size ≤ maxLen) (h : Gm.runes s.data.toList = n) :
    Calls Try.prog 21 #[.string s] w fun e w' => e = .returned (.int .i64 n) ∧ Below w.heap.size w w' := by
  subst h; exact runes_any s w hs
theorem less_is (a b : ByteArray) (r : Bool) (w : World) (h : Op.bytesLess a.toList b.toList = r) :
    Calls Try.prog 20 #[.string a, .string b] w fun e w' => e = .returned (.bool r) ∧ w' = w := by
  subst h; exact less_any a b w

theorem k_un1 : Gm.unquote (⟨#[34, 92, 117, 48, 48, 101, 57, 34, 120]⟩ : ByteArray).data.toList = some ([195, 169], 8) := by decide +kernel
theorem k_un2 : Gm.unquote (⟨#[34, 97]⟩ : ByteArray).data.toList = none := by decide +kernel
theorem k_qu : Gm.quote (⟨#[97, 34, 1]⟩ : ByteArray).data.toList = [34, 97, 92, 34, 92, 117, 48, 48, 48, 49, 34] := by decide +kernel
theorem k_ch : Gm.checkZ (⟨#[97, 255]⟩ : ByteArray).data.toList = 1 := by decide +kernel
theorem k_ru : Gm.runes (⟨#[195, 169, 97]⟩ : ByteArray).data.toList = 2 := by decide +kernel
theorem k_le : Op.bytesLess (⟨#[97]⟩ : ByteArray).toList (⟨#[97, 98]⟩ : ByteArray).toList = true := by
  rw [Lib.toList_data, Lib.toList_data]; rfl

theorem known_any (w : World) :
    Calls Try.prog 11 #[] w fun e w' => e = .returned (.bool true) ∧ Below w.heap.size w w' := by
  go_enter Try.func11, Try.ntmps11
  go_wp2_with fail
  refine (unquote_is _ _ _ _ (by decide) k_un1).mono ?_
  rintro e w1 ⟨rfl, b1⟩
  go_wp2_with fail
  refine (unquote_none _ _ (by decide) k_un2).mono ?_
  rintro e w2 ⟨rfl, b2⟩
  go_wp2_with fail
  refine (quote_is _ _ _ (by decide) k_qu).mono ?_
  rintro e w3 ⟨rfl, b3⟩
  go_wp2_with fail
  refine (less_is _ _ _ _ k_le).mono ?_
  rintro e w3 ⟨rfl, rfl⟩
  go_wp2_with fail
  refine (check_is _ _ _ (by decide) k_ch).mono ?_
  rintro e w4 ⟨rfl, b4⟩
  go_wp2_with fail
  refine (runes_is _ _ _ (by decide) k_ru).mono ?_
  rintro e w5 ⟨rfl, b5⟩
  go_wp2
  go_ret
  exact ⟨rfl, b1.trans ((b2.mono b1.size).trans ((b3.mono (Nat.le_trans b1.size b2.size)).trans ((b4.mono (Nat.le_trans b1.size (Nat.le_trans b2.size b3.size))).trans (b5.mono (Nat.le_trans b1.size (Nat.le_trans b2.size (Nat.le_trans b3.size b4.size)))))))⟩

end Go.Proofs.Ytlkfdmcgcenliaa
