/-
  THE WALKS over package glyph's small functions: what each call gives.
-/
import Derived.Test.YtlkfdmcgcenliaaChecked
import Derived.Test.YtlkfdmcgcenliaaShelf
import Derived.Test.YtlkfdmcgcenliaaGlyphMath
import Derived.WalkKit
import Derived.WalkSpells
import Derived.WalkLawsBesides
import Derived.BigCall
set_option linter.unusedVariables false
set_option linter.unusedSimpArgs false
namespace Go.Proofs.Ytlkfdmcgcenliaa
open Go.RowKit

theorem less_any (a b : ByteArray) (w : World) :
    Calls Try.prog 20 #[.string a, .string b] w fun e w' => e = .returned (.bool (Op.bytesLess a.toList b.toList)) ∧ w' = w := by
  go_enter Try.func20, Try.ntmps20
  go_wp2
  go_ret
  exact ⟨rfl, rfl⟩

theorem second_any (r : Int) (w : World) :
    Calls Try.prog 50 #[.int .i32 r] w fun e w' => e = .returned (.bool (Gm.second r)) ∧ w' = w := by
  by_cases h1 : 56320 ≤ r
  · by_cases h2 : r ≤ 57343
    · have hs : Gm.second r = true := by simp [Gm.second, h1, h2]
      rw [hs]
      go_enter Try.func50, Try.ntmps50
      go_wp2
      go_ret
      exact ⟨rfl, rfl⟩
    · have hs : Gm.second r = false := by simp [Gm.second, h2]
      rw [hs]
      go_enter Try.func50, Try.ntmps50
      go_wp2
      go_ret
      exact ⟨rfl, rfl⟩
  · have hs : Gm.second r = false := by simp [Gm.second, h1]
    rw [hs]
    go_enter Try.func50, Try.ntmps50
    go_wp2
    go_ret
    exact ⟨rfl, rfl⟩

theorem first_any (r : Int) (w : World) :
    Calls Try.prog 51 #[.int .i32 r] w fun e w' => e = .returned (.bool (Gm.first r)) ∧ w' = w := by
  by_cases h1 : 55296 ≤ r
  · by_cases h2 : r ≤ 56319
    · have hs : Gm.first r = true := by simp [Gm.first, h1, h2]
      rw [hs]
      go_enter Try.func51, Try.ntmps51
      go_wp2
      go_ret
      exact ⟨rfl, rfl⟩
    · have hs : Gm.first r = false := by simp [Gm.first, h2]
      rw [hs]
      go_enter Try.func51, Try.ntmps51
      go_wp2
      go_ret
      exact ⟨rfl, rfl⟩
  · have hs : Gm.first r = false := by simp [Gm.first, h1]
    rw [hs]
    go_enter Try.func51, Try.ntmps51
    go_wp2
    go_ret
    exact ⟨rfl, rfl⟩

theorem digit_some (r d : Int) (w : World) (h : Gm.digit r = some d) :
    Calls Try.prog 52 #[.int .i32 r] w fun e w' => e = .returned (.tuple #[.int .i32 d, .bool true]) ∧ w' = w := by
  unfold Gm.digit at h
  split at h
  · rename_i hc
    obtain ⟨h1, h2⟩ := hc
    have hd : r - 48 = d := Option.some.inj h
    subst hd
    clear h
    go_enter Try.func52, Try.ntmps52
    go_wp2
    go_ret2
    exact ⟨rfl, rfl⟩
  · split at h
    · rename_i hn hc
      obtain ⟨h1, h2⟩ := hc
      have hd : r - 87 = d := Option.some.inj h
      have hd2 : r - 97 + 10 = d := by omega
      subst hd2
      clear h hd
      have h3 : 48 ≤ r := by omega
      have h4 : ¬ r ≤ 57 := by omega
      clear hn
      go_enter Try.func52, Try.ntmps52
      go_wp2
      go_ret2
      exact ⟨rfl, rfl⟩
    · split at h
      · rename_i hn1 hn2 hc
        obtain ⟨h1, h2⟩ := hc
        have hd : r - 55 = d := Option.some.inj h
        have hd2 : r - 65 + 10 = d := by omega
        subst hd2
        clear h hd
        have h3 : 48 ≤ r := by omega
        have h4 : ¬ r ≤ 57 := by omega
        have h5 : ¬ 97 ≤ r := by omega
        clear hn1 hn2
        go_enter Try.func52, Try.ntmps52
        go_wp2
        go_ret2
        exact ⟨rfl, rfl⟩
      · cases h

theorem digit_none (r : Int) (w : World) (h : Gm.digit r = none) :
    Calls Try.prog 52 #[.int .i32 r] w fun e w' => e = .returned (.tuple #[.int .i32 0, .bool false]) ∧ w' = w := by
  have hc : r < 48 ∨ (57 < r ∧ r < 65) ∨ (70 < r ∧ r < 97) ∨ 102 < r := by
    unfold Gm.digit at h
    split at h
    · cases h
    · split at h
      · cases h
      · split at h
        · cases h
        · omega
  clear h
  rcases hc with h1 | ⟨h1, h2⟩ | ⟨h1, h2⟩ | h1
  · have a1 : ¬ 48 ≤ r := by omega
    have a2 : ¬ 97 ≤ r := by omega
    have a3 : ¬ 65 ≤ r := by omega
    go_enter Try.func52, Try.ntmps52
    go_wp2
    go_ret2
    exact ⟨rfl, rfl⟩
  · have a0 : 48 ≤ r := by omega
    have a1 : ¬ r ≤ 57 := by omega
    have a2 : ¬ 97 ≤ r := by omega
    have a3 : ¬ 65 ≤ r := by omega
    go_enter Try.func52, Try.ntmps52
    go_wp2
    go_ret2
    exact ⟨rfl, rfl⟩
  · have a0 : 48 ≤ r := by omega
    have a1 : ¬ r ≤ 57 := by omega
    have a2 : ¬ 97 ≤ r := by omega
    have a3 : 65 ≤ r := by omega
    have a4 : ¬ r ≤ 70 := by omega
    go_enter Try.func52, Try.ntmps52
    go_wp2
    go_ret2
    exact ⟨rfl, rfl⟩
  · have a0 : 48 ≤ r := by omega
    have a1 : ¬ r ≤ 57 := by omega
    have a2 : 97 ≤ r := by omega
    have a2b : ¬ r ≤ 102 := by omega
    have a3 : 65 ≤ r := by omega
    have a4 : ¬ r ≤ 70 := by omega
    go_enter Try.func52, Try.ntmps52
    go_wp2
    go_ret2
    exact ⟨rfl, rfl⟩

theorem broken_any (s : ByteArray) (r : Int) (w : World) :
    Calls Try.prog 34 #[.string s, .int .i32 r] w fun e w' => e = .returned (.bool ((r == 65533) && !(Lib.hasPrefix s.data.toList [239, 191, 189]))) ∧ w' = w := by
  cases hb : (r == 65533) with
  | true =>
    go_enter Try.func34, Try.ntmps34
    go_wp2_with (go_at_call 31; refine (Try.strings_HasPrefix _ _ _).mono ?_; rintro e w' ⟨rfl, rfl⟩)
    go_ret
    exact ⟨rfl, rfl⟩
  | false =>
    go_enter Try.func34, Try.ntmps34
    go_wp2_with (go_at_call 31; refine (Try.strings_HasPrefix _ _ _).mono ?_; rintro e w' ⟨rfl, rfl⟩)
    go_ret
    exact ⟨rfl, rfl⟩

end Go.Proofs.Ytlkfdmcgcenliaa
