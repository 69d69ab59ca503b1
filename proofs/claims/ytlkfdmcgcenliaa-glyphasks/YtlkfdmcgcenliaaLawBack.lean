/-
  THE WALK over the law GlyphBack; contracts in the words of strings.
-/
import Derived.Test.YtlkfdmcgcenliaaLawText
import Derived.Test.YtlkfdmcgcenliaaGlyphMathC
set_option linter.unusedVariables false
set_option linter.unusedSimpArgs false
namespace Go.Proofs.Ytlkfdmcgcenliaa
open Go.RowKit

theorem ret_bool {a b : Bool} (h : a = b) : Ending.returned (.bool a) = .returned (.bool b) := by rw [h]
theorem str_eta (s : ByteArray) : (⟨s.data.toList.toArray⟩ : ByteArray) = s := by simp
theorem unquote_str (s T : ByteArray) (k : Nat) (w : World) (hs : s.size ≤ 17592186044416) (h : Gm.unquote s.data.toList = some (T.data.toList, k)) :
    Calls Try.prog 16 #[.string s] w fun e w' => e = .returned (.tuple #[.string T, .int .i64 k]) ∧ Below w.heap.size w w' := by
  have := unquote_is s _ k w hs h
  rw [str_eta] at this
  exact this
theorem quote_str (s Q : ByteArray) (w : World) (hs : s.size ≤ 17592186044416) (h : Q.data.toList = Gm.quote s.data.toList) :
    Calls Try.prog 15 #[.string s] w fun e w' => e = .returned (.string Q) ∧ Below w.heap.size w w' := by
  have := quote_any s w hs
  rw [← h, str_eta] at this
  exact this
theorem data_append (a b : ByteArray) : (a ++ b).data.toList = a.data.toList ++ b.data.toList := by
  rw [ByteArray.data_append]; simp
theorem size_append (a b : ByteArray) : (a ++ b).size = a.size + b.size := by
  rw [Lib.size_eq, data_append, List.length_append, ← Lib.size_eq, ← Lib.size_eq]
theorem quote_le (l : List UInt8) : (Gm.quote l).length ≤ 2 + 6 * l.length := by
  have h1 := Gm.quoteTo_le l l.length
  rw [← Gm.quoteTo_all l l.length (Nat.le_refl _), List.length_append, List.length_singleton]
  omega

theorem glyphBack_walk (a0 : Option Addr) (len0 cap0 : Nat) (z0 : List Int) (M : ByteArray) (w : World) (w0 : IsRow .u8 w a0 len0 cap0 z0) (w1 : M.size ≤ maxLen) :
    Calls Try.prog 4 #[.slice a0 len0 cap0, .string M] w fun e w' => e = .returned (.bool true) ∧ Below w.heap.size w w' := by
  have hA := Gm.pick_text_le z0 (min len0 40)
  have hf1 := flatten_size (Gm.pick Gm.textTab z0 (min len0 40))
  unfold maxLen at w1
  go_enter Try.func4, Try.ntmps4
  go_wp2_with fail
  refine (text_any a0 len0 cap0 z0 _ w0).mono ?_
  rintro e W1 ⟨rfl, b1⟩
  generalize (⟨(Gm.pick Gm.textTab z0 (min len0 40)).toArray⟩ : ByteArray) = S at *
  have hSs : S.size ≤ 160 := by omega
  clear hA hf1 w0
  by_cases h100 : 100 < M.size
  · have h100' : (100 : Int) < M.size := by omega
    go_wp2_with fail
    refine (known_any _).mono ?_
    rintro e W3 ⟨rfl, b3⟩
    go_wp2
    go_ret
    exact ⟨rfl, b1.trans (b3.mono b1.size)⟩
  · have h100' : ¬ (100 : Int) < M.size := by omega
    obtain ⟨Q, hQ⟩ : ∃ Q : ByteArray, Q.data.toList = Gm.quote S.data.toList := ⟨⟨(Gm.quote S.data.toList).toArray⟩, by simp⟩
    have hQs : Q.size ≤ 962 := by
      rw [Lib.size_eq, hQ]
      have := quote_le S.data.toList
      rw [← Lib.size_eq] at this
      omega
    have hQl : S.size + 2 ≤ Q.size := by
      rw [Lib.size_eq Q, hQ, Lib.size_eq S]
      exact Gm.quote_len _
    have hQM : (Q ++ M).data.toList = Gm.quote S.data.toList ++ M.data.toList := by rw [data_append, hQ]
    have hsz : (Q ++ M).size ≤ 17592186044416 := by rw [size_append]; omega
    cases hc : Gm.check S.data.toList with
    | none =>
      have hu : Gm.unquote (Q ++ M).data.toList = some (S.data.toList, Q.size) := by
        rw [hQM, Gm.back _ _ hc, Lib.size_eq Q, hQ]
      have hz : Gm.checkZ S.data.toList = -1 := checkZ_none hc
      have HQ : Hid _ := hQ
      have HU : Hid _ := hu
      have HZ : Hid _ := hz
      clear hQ hu hz hc hQM
      go_wp2_with fail
      refine (quote_str S Q _ (by omega) HQ.out).mono ?_
      rintro e W2 ⟨rfl, b2⟩
      go_wp2_with fail
      refine (unquote_str _ S Q.size _ hsz HU.out).mono ?_
      rintro e W3 ⟨rfl, b3⟩
      go_wp2_with fail
      refine (check_is S (-1) _ (by unfold maxLen; omega) HZ.out).mono ?_
      rintro e W4 ⟨rfl, b4⟩
      go_wp2_with fail
      refine (known_any _).mono ?_
      rintro e W5 ⟨rfl, b5⟩
      go_wp2
      go_ret
      have c2 := Nat.le_trans b1.size b2.size
      have c3 := Nat.le_trans c2 b3.size
      have c4 := Nat.le_trans c3 b4.size
      exact ⟨ret_bool (by simp; omega), (((b1.trans (b2.mono b1.size)).trans (b3.mono c2)).trans (b4.mono c3)).trans (b5.mono c4)⟩
    | some k =>
      have hu : Gm.unquote (Q ++ M).data.toList = none := by
        rw [hQM, Gm.back_no _ _ (by rw [hc]; simp)]
      have hz : Gm.checkZ S.data.toList = k := checkZ_some hc
      have HQ : Hid _ := hQ
      have HU : Hid _ := hu
      have HZ : Hid _ := hz
      clear hQ hu hz hc hQM
      go_wp2_with fail
      refine (quote_str S Q _ (by omega) HQ.out).mono ?_
      rintro e W2 ⟨rfl, b2⟩
      go_wp2_with fail
      refine (unquote_none _ _ hsz HU.out).mono ?_
      rintro e W3 ⟨rfl, b3⟩
      go_wp2_with fail
      refine (check_is S k _ (by unfold maxLen; omega) HZ.out).mono ?_
      rintro e W4 ⟨rfl, b4⟩
      go_wp2_with fail
      refine (known_any _).mono ?_
      rintro e W5 ⟨rfl, b5⟩
      go_wp2
      go_ret
      have c2 := Nat.le_trans b1.size b2.size
      have c3 := Nat.le_trans c2 b3.size
      have c4 := Nat.le_trans c3 b4.size
      exact ⟨rfl, (((b1.trans (b2.mono b1.size)).trans (b3.mono c2)).trans (b4.mono c3)).trans (b5.mono c4)⟩

end Go.Proofs.Ytlkfdmcgcenliaa
