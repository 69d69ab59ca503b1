/-
  THE WALK over the law GlyphTold.
-/
import Derived.Test.YtlkfdmcgcenliaaLawBack
import Derived.Test.YtlkfdmcgcenliaaGlyphMathD
set_option linter.unusedVariables false
set_option linter.unusedSimpArgs false
namespace Go.Proofs.Ytlkfdmcgcenliaa
open Go.RowKit

theorem bthen {w a b : World} (h : Below w.heap.size w a) (k : Below a.heap.size a b) : Below w.heap.size w b := h.trans (k.mono h.size)

theorem glyphTold_walk (a0 : Option Addr) (len0 cap0 : Nat) (z0 : List Int) (w : World) (w0 : IsRow .u8 w a0 len0 cap0 z0) :
    Calls Try.prog 5 #[.slice a0 len0 cap0] w fun e w' => e = .returned (.bool true) ∧ Below w.heap.size w w' := by
  have hA := Gm.pick_raw_le z0 (min len0 30)
  have hf1 := flatten_size (Gm.pick Gm.rawTab z0 (min len0 30))
  go_enter Try.func5, Try.ntmps5
  go_wp2_with fail
  refine (raw_any a0 len0 cap0 z0 _ w0).mono ?_
  rintro e W1 ⟨rfl, b1⟩
  generalize (⟨(Gm.pick Gm.rawTab z0 (min len0 30)).toArray⟩ : ByteArray) = S at *
  have hSs : S.size ≤ 360 := by omega
  clear hA hf1 w0
  have hqsz : ((⟨#[34]⟩ ++ S ++ ⟨#[34]⟩ : ByteArray)).size = S.size + 2 := by
    rw [size_append, size_append]
    have e1 : (⟨#[34]⟩ : ByteArray).size = 1 := rfl
    omega
  have hsum : ¬ 9223372036854775807 < 1 + S.size := by omega
  go_wp2_with fail
  generalize (⟨#[34]⟩ ++ S ++ ⟨#[34]⟩ : ByteArray) = B at *
  cases hu : Gm.unquote B.data.toList with
  | none =>
    have HU : Hid _ := hu
    clear hu
    refine (unquote_none _ _ (by omega) HU.out).mono ?_
    rintro e W2 ⟨rfl, b2⟩
    go_wp2_with fail
    refine (known_any _).mono ?_
    rintro e W3 ⟨rfl, b3⟩
    go_wp2
    go_ret
    exact ⟨rfl, (b1.trans (b2.mono b1.size)).trans (b3.mono (Nat.le_trans b1.size b2.size))⟩
  | some x =>
    obtain ⟨t, n⟩ := x
    obtain ⟨h1, h2, h3, h4, h5, h6⟩ := Gm.told _ t n hu
    rw [← Lib.size_eq, hqsz] at h2
    obtain ⟨T, hT⟩ : ∃ T : ByteArray, T.data.toList = t := ⟨⟨t.toArray⟩, by simp⟩
    have hTs : T.size ≤ 1448 := by rw [Lib.size_eq, hT]; omega
    rw [← hT] at hu h4
    obtain ⟨Q, hQ⟩ : ∃ Q : ByteArray, Q.data.toList = Gm.quote T.data.toList := ⟨⟨(Gm.quote T.data.toList).toArray⟩, by simp⟩
    have hQs : Q.size ≤ 8690 := by
      rw [Lib.size_eq, hQ]
      have := quote_le T.data.toList
      rw [← Lib.size_eq] at this
      omega
    have hQ2 : 2 ≤ Q.size := by
      rw [Lib.size_eq, hQ]
      have := Gm.quote_len T.data.toList
      omega
    have hb : Gm.unquote Q.data.toList = some (T.data.toList, Q.size) := by
      have := Gm.back T.data.toList [] h4
      rw [List.append_nil] at this
      rw [hQ, this, Lib.size_eq Q, hQ]
    have hz : Gm.checkZ T.data.toList = -1 := checkZ_none h4
    have hcut : Gm.unquote (B.extract 0 (n - 1)).data.toList = none := by
      rw [Lib.extract_data, List.drop_zero, Nat.sub_zero]
      exact h5
    have hcs : (B.extract 0 (n - 1)).size ≤ 17592186044416 := by
      simp only [ByteArray.size_extract]
      omega
    have hlt : n - 1 < B.size := by omega
    have hlast := nth_of _ (n - 1) hlt
    rw [h3] at hlast
    have hn0 : ((n : Int) == 0) = false := by simp; omega
    have hQp : (0 : Int) < Q.size := by omega
    have HU : Hid _ := hu
    have HQ : Hid _ := hQ
    have HB : Hid _ := hb
    have HZ : Hid _ := hz
    have HC : Hid _ := hcut
    have HL : Hid _ := hlast
    clear hu hQ hb hz hcut hlast h3 h4 h5 h6 hT
    refine (unquote_str _ T n _ (by omega) HU.out).mono ?_
    rintro e W2 ⟨rfl, b2⟩
    go_wp2_with fail
    refine (quote_str T Q _ (by omega) HQ.out).mono ?_
    rintro e W3 ⟨rfl, b3⟩
    go_wp2_with fail
    refine (unquote_str Q T Q.size _ (by omega) HB.out).mono ?_
    rintro e W4 ⟨rfl, b4⟩
    go_wp2_with fail
    refine (unquote_none _ _ hcs HC.out).mono ?_
    rintro e W5 ⟨rfl, b5⟩
    go_wp2_with fail
    refine (known_any _).mono ?_
    rintro e W6 ⟨rfl, b6⟩
    go_wp2_with fail
    refine (check_is T (-1) _ (by unfold maxLen; omega) HZ.out).mono ?_
    rintro e W7 ⟨rfl, b7⟩
    have hl2 : (((B[n - 1]'hlt).toNat : Int) == 34) = true := by rw [← HL.out]; rfl
    go_wp2
    go_ret
    exact ⟨rfl, bthen (bthen (bthen (bthen (bthen (bthen b1 b2) b3) b4) b5) b6) b7⟩

end Go.Proofs.Ytlkfdmcgcenliaa
