/-
  THE WALK over the law GlyphAsks.
-/
import Derived.Test.YtlkfdmcgcenliaaRefWalksG
set_option linter.unusedVariables false
set_option linter.unusedSimpArgs false
namespace Go.Proofs.Ytlkfdmcgcenliaa
open Go.RowKit

theorem glyphAsks_walk (S : ByteArray) (T : ByteArray) (a2 : Option Addr) (len2 cap2 : Nat) (z2 : List Int) (a3 : Option Addr) (len3 cap3 : Nat) (z3 : List Int) (w : World) (w0 : S.size ≤ 140737488355328) (w1 : T.size ≤ 140737488355328) (w2 : IsRow .u8 w a2 len2 cap2 z2) (w3 : IsRow .u8 w a3 len3 cap3 z3) :
    Calls Try.prog 3 #[.string S, .string T, .slice a2 len2 cap2, .slice a3 len3 cap3] w fun e w' => e = .returned (.bool true) ∧ Below w.heap.size w w' := by
  by_cases h300 : 300 < S.size + T.size
  · have h300' : (300 : Int) < (S.size : Int) + T.size := by omega
    go_enter Try.func3, Try.ntmps3
    go_wp2_with fail
    refine (known_any _).mono ?_
    rintro e W1 ⟨rfl, b1⟩
    go_wp2
    go_ret
    exact ⟨rfl, b1⟩
  · have h300' : ¬ (300 : Int) < (S.size : Int) + T.size := by omega
    have hA := Gm.pick_text_le z2 (min len2 40)
    have hf1 := flatten_size (Gm.pick Gm.textTab z2 (min len2 40))
    have hB := Gm.pick_raw_le z3 (min len3 30)
    have hf2 := flatten_size (Gm.pick Gm.rawTab z3 (min len3 30))
    have hSs : S.size ≤ 300 := by omega
    have hTs : T.size ≤ 300 := by omega
    go_enter Try.func3, Try.ntmps3
    go_wp2_with fail
    refine (known_any _).mono ?_
    rintro e W1 ⟨rfl, b1⟩
    go_wp2_with fail
    refine (text_any a2 len2 cap2 z2 _ (w2.below b1)).mono ?_
    rintro e W2 ⟨rfl, b2⟩
    generalize (⟨(Gm.pick Gm.textTab z2 (min len2 40)).toArray⟩ : ByteArray) = X at *
    go_wp2_with fail
    refine (raw_any a3 len3 cap3 z3 _ (w3.below (bthen b1 b2))).mono ?_
    rintro e W3 ⟨rfl, b3⟩
    generalize (⟨(Gm.pick Gm.rawTab z3 (min len3 30)).toArray⟩ : ByteArray) = Y at *
    have hXs : X.size ≤ 160 := by omega
    have hYs : Y.size ≤ 360 := by omega
    have hq1 : (⟨#[34]⟩ ++ Y ++ ⟨#[34]⟩ : ByteArray).size ≤ 17592186044416 := by
      rw [size_append, size_append]
      have e1 : (⟨#[34]⟩ : ByteArray).size = 1 := rfl
      omega
    have hq2 : (⟨#[34]⟩ ++ S : ByteArray).size ≤ 17592186044416 := by
      rw [size_append]
      have e1 : (⟨#[34]⟩ : ByteArray).size = 1 := rfl
      omega
    have hq3 : (⟨#[34]⟩ ++ S ++ ⟨#[34]⟩ : ByteArray).size ≤ 17592186044416 := by
      rw [size_append, size_append]
      have e1 : (⟨#[34]⟩ : ByteArray).size = 1 := rfl
      omega
    clear hA hf1 hB hf2 w2 w3
    go_wp2_with fail
    refine (asks_any S T _ (by omega) (by omega)).mono ?_
    rintro e W4 ⟨rfl, b4⟩
    go_wp2_with fail
    refine (asks_any X S _ (by omega) (by omega)).mono ?_
    rintro e W5 ⟨rfl, b5⟩
    go_wp2_with fail
    refine (asks_any _ X _ hq1 (by omega)).mono ?_
    rintro e W6 ⟨rfl, b6⟩
    go_wp2_with fail
    refine (asks_any _ T _ hq2 (by omega)).mono ?_
    rintro e W7 ⟨rfl, b7⟩
    go_wp2_with fail
    refine (asks_any _ X _ hq3 (by omega)).mono ?_
    rintro e W8 ⟨rfl, b8⟩
    go_wp2
    go_ret
    exact ⟨rfl, bthen (bthen (bthen (bthen (bthen (bthen (bthen b1 b2) b3) b4) b5) b6) b7) b8⟩

end Go.Proofs.Ytlkfdmcgcenliaa
