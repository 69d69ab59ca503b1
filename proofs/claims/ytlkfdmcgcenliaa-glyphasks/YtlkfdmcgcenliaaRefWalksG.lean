/-
  THE WALK over the document's own answer for layer 1: Unquote.
-/
import Derived.Test.YtlkfdmcgcenliaaRefWalksF
import Derived.Test.YtlkfdmcgcenliaaLawShort
set_option linter.unusedVariables false
set_option linter.unusedSimpArgs false
namespace Go.Proofs.Ytlkfdmcgcenliaa
open Go.RowKit

theorem refEscape_none (s : ByteArray) (w : World) (hs : s.size ≤ maxLen) (h : Gm.escape s.data.toList = none) :
    Calls Try.prog 36 #[.string s] w fun e w' => e = .returned (.tuple #[.string ⟨#[]⟩, .int .i64 0]) ∧ Below w.heap.size w w' := by
  have := refEscape_any s w hs
  rw [h] at this
  exact this
theorem refEscape_some (s T : ByteArray) (r : Int) (n : Nat) (w : World) (hs : s.size ≤ maxLen) (h : Gm.escape s.data.toList = some (r, n)) (hT : T = ⟨(Lib.encodeRune r).toArray⟩) :
    Calls Try.prog 36 #[.string s] w fun e w' => e = .returned (.tuple #[.string T, .int .i64 n]) ∧ Below w.heap.size w w' := by
  subst hT
  have := refEscape_any s w hs
  rw [h] at this
  exact this
theorem enc_le (r : Int) : (Lib.encodeRune r).length ≤ 4 := by
  have hz := Lib.encodeRuneZ_length r
  unfold Lib.encodeRune; rw [List.length_map]; exact hz.2

theorem refUnquote_empty (s : ByteArray) (w : World) (h : s.toList.isEmpty = true) :
    Calls Try.prog 23 #[.string s] w fun e w' => e = unR none ∧ Below w.heap.size w w' := by
  go_enter Try.func23, Try.ntmps23
  go_wp2
  go_ret2
  exact ⟨rfl, Below.refl _ _⟩
theorem refUnquote_no (s : ByteArray) (w : World) (hp : 0 < s.size) (h : s.toList.isEmpty = false) (hn : (s[0]'hp).toNat ≠ 34) :
    Calls Try.prog 23 #[.string s] w fun e w' => e = unR none ∧ Below w.heap.size w w' := by
  have hn' : (((s[0]'hp).toNat : Int) != 34) = true := by rw [bne_iff_ne]; omega
  go_enter Try.func23, Try.ntmps23
  go_wp2
  go_ret2
  exact ⟨rfl, Below.refl _ _⟩

set_option maxHeartbeats 2000000 in
theorem refUnquote_yes (s : ByteArray) (w : World) (hs : s.size ≤ 17592186044416) (hp0 : 0 < s.size) (h : s.toList.isEmpty = false) (hn : (s[0]'hp0).toNat = 34) :
    Calls Try.prog 23 #[.string s] w fun e w' => e = unR (Gm.unquote s.data.toList) ∧ Below w.heap.size w w' := by
  have hn0 := nth_of s 0 hp0
  have hmx : s.size ≤ maxLen := by unfold maxLen; omega
  have hun : Gm.unquote s.data.toList = (Gm.unqL (s.data.toList.drop 1)).map fun x => (x.1, x.2 + 1) := by
    unfold Gm.unquote; rw [if_pos (by rw [hn0]; exact hn)]
  generalize hR : Gm.unquote s.data.toList = R at *
  have HUN : Hid _ := hun
  have hn' : (((s[0]'hp0).toNat : Int) != 34) = false := by rw [hn]; rfl
  clear hun hR hn hn0
  go_enter Try.func23, Try.ntmps23
  go_wp2
  go_loopw [4, 5] (fun o a wr => ∃ (pos : Nat) (acc : List UInt8), a = .int .i64 pos ∧ o = .string ⟨acc.toArray⟩ ∧ pos ≤ s.size ∧ acc.length ≤ 4 * pos ∧ Below w.heap.size w wr ∧ (Gm.unqL (s.data.toList.drop pos)).map (fun x => (acc ++ x.1, x.2 + pos)) = R) (fun _ a _ => s.size - (intOf a).toNat)
  case atStart => exact ⟨1, [], rfl, rfl, by omega, by simp, Below.refl _ _, by rw [HUN.out]; rfl⟩
  case round =>
    obtain ⟨pos, acc, rfl, rfl, hps, hal, hbel, huq⟩ := hrel
    have HQ : Hid _ := huq
    clear huq HUN
    by_cases hp : pos < s.size
    · have hp' : (pos : Int) < s.size := by omega
      have hne := drop_ne s pos hp
      have hn0 := nth_of s pos hp
      have hnd : Gm.nth (s.data.toList.drop pos) 0 = (s[pos]'hp).toNat := by rw [Gm.nth_drop, Nat.add_zero, hn0]
      have hb : (s[pos]'hp).toNat < 256 := (s[pos]'hp).toNat_lt
      have heq := Gm.unqL_eq _ hne
      have hes : (s.extract pos s.size).size ≤ maxLen := by unfold maxLen; simp [ByteArray.size_extract]; omega
      have hed := toList_drop_end s pos
      by_cases h34 : (s[pos]'hp).toNat = 34
      · have hd : Gm.dec (s.data.toList.drop pos) = (34, 1) := by rw [Gm.dec_ascii _ (by omega), hnd, h34]
        have huq := HQ.out
        rw [heq, hd, if_pos rfl] at huq
        have HQ2 : Hid _ := huq
        have t1 : (((s[pos]'hp).toNat : Int) != 34) = false := by rw [h34]; rfl
        have t2 : ¬ (s.size : Int) ≤ pos := by omega
        clear hd huq heq hed hnd hn0 h34 HQ
        go_wp2
        go_ret2
        refine ⟨?_, hbel⟩
        rw [← HQ2.out]
        simp [unR]
        omega
      · have t1 : (((s[pos]'hp).toNat : Int) != 34) = true := by rw [bne_iff_ne]; omega
        by_cases h92 : (s[pos]'hp).toNat = 92
        · have hd : Gm.dec (s.data.toList.drop pos) = (92, 1) := by rw [Gm.dec_ascii _ (by omega), hnd, h92]
          have hpc : Gm.piece (s.data.toList.drop pos) = Gm.escape (s.data.toList.drop pos) := by unfold Gm.piece; rw [hd, if_pos rfl]
          have huq := HQ.out
          rw [heq, hd, if_neg (by simp), hpc] at huq
          have t2 : (((s[pos]'hp).toNat : Int) == 92) = true := by rw [h92]; rfl
          have hne' := hne
          have h0' : Gm.nth (s.data.toList.drop pos) 0 < 128 := by omega
          have hwid : ∀ n, Gm.width (s.data.toList.drop pos) n = n := by intro n; unfold Gm.width; rw [hd, if_pos rfl]
          cases hx : Gm.escape (s.data.toList.drop pos) with
          | none =>
            rw [hx] at huq
            have HQ2 : Hid _ := huq
            have HX : Hid (Gm.escape (s.extract pos s.size).data.toList = none) := by rw [hed]; exact hx
            clear hd huq heq hed hnd hn0 h34 h92 HQ hpc hx hwid
            go_wp2_with fail
            refine (refEscape_none _ _ hes HX.out).mono ?_
            rintro e W1 ⟨rfl, b1⟩
            go_wp2
            go_ret2
            refine ⟨?_, bthen hbel b1⟩
            rw [← HQ2.out]
            rfl
          | some x =>
            obtain ⟨r, n⟩ := x
            obtain ⟨n2, nl, _, _, _⟩ := Gm.escape_n h0' hx
            rw [List.length_drop, ← Lib.size_eq] at nl
            rw [hx] at huq
            simp only [hwid] at huq
            have HQ2 : Hid _ := huq
            have HX : Hid (Gm.escape (s.extract pos s.size).data.toList = some (r, n)) := by rw [hed]; exact hx
            have hel := enc_le r
            obtain ⟨T, hT⟩ : ∃ T : ByteArray, T = ⟨(Lib.encodeRune r).toArray⟩ := ⟨_, rfl⟩
            have hTs : T.size ≤ 4 := by rw [hT, flatten_size]; exact hel
            have HT : Hid _ := hT
            have hn0' : ((n : Int) == 0) = false := by simp; omega
            have hsum : ¬ 9223372036854775807 < acc.length + T.size := by omega
            clear hd huq heq hed hnd hn0 h34 h92 HQ hpc hx hwid hT h0'
            go_wp2_with fail
            refine (refEscape_some _ T r n _ hes HX.out HT.out).mono ?_
            rintro e W1 ⟨rfl, b1⟩
            go_wp2
            go_roundw
            case rel =>
              refine ⟨pos + n, acc ++ Lib.encodeRune r, by go_num, ?_, by omega, by rw [List.length_append]; omega, bthen hbel b1, ?_⟩
              · rw [HT.out, str_app]
              · have h1 := HQ2.out
                simp only [Option.map_map] at h1
                rw [← h1, drop_drop']
                congr 1
                funext x
                simp [Function.comp]
                omega
            case measure => simp [intOf]; omega
        · have t2 : (((s[pos]'hp).toNat : Int) == 92) = false := by simp; omega
          have hd34 : (Gm.dec (s.data.toList.drop pos)).1 ≠ 34 := by
            intro e; have := Gm.dec_92 (by omega) e; omega
          have hd92 : (Gm.dec (s.data.toList.drop pos)).1 ≠ 92 := by
            intro e; have := Gm.dec_92 (by omega) e; omega
          have huq := HQ.out
          rw [heq, if_neg hd34] at huq
          cases hbad : Gm.bad (s.data.toList.drop pos) with
          | true =>
            have hpc : Gm.piece (s.data.toList.drop pos) = none := by unfold Gm.piece; rw [if_neg hd92, if_pos (Or.inr hbad)]
            rw [hpc] at huq
            have HQ2 : Hid _ := huq
            have HO : Hid (Gm.one (s.extract pos s.size).data.toList = 0) := by rw [hed]; exact one_bad hne hbad
            clear huq heq hed hnd hn0 h34 h92 HQ hpc hbad hd34 hd92
            go_wp2_with fail
            refine (one_is _ 0 _ hes HO.out).mono ?_
            rintro e W1 ⟨rfl, b1⟩
            go_wp2
            go_ret2
            refine ⟨?_, bthen hbel b1⟩
            rw [← HQ2.out]
            rfl
          | false =>
            have hw := Gm.dec_w (s.data.toList.drop pos)
            have hwl := Gm.dec_w_len _ hne
            rw [List.length_drop, ← Lib.size_eq] at hwl
            have HO : Hid (Gm.one (s.extract pos s.size).data.toList = (Gm.dec (s.data.toList.drop pos)).2) := by rw [hed]; exact one_good hne hbad
            by_cases h32 : (s[pos]'hp).toNat < 32
            · have h32' : ((s[pos]'hp).toNat : Int) < 32 := by omega
              have hd1 : (Gm.dec (s.data.toList.drop pos)).1 < 32 := by rw [Gm.dec_ascii _ (by omega)]; simp only; omega
              have hpc : Gm.piece (s.data.toList.drop pos) = none := by unfold Gm.piece; rw [if_neg hd92, if_pos (Or.inl hd1)]
              rw [hpc] at huq
              have HQ2 : Hid _ := huq
              generalize hwd : (Gm.dec (s.data.toList.drop pos)).2 = wd at *
              have hw0 : ((wd : Int) == 0) = false := by simp; omega
              clear huq heq hed hnd hn0 h34 h92 HQ hpc hbad hd34 hd92 hd1 hwd
              go_wp2_with fail
              refine (one_is _ wd _ hes HO.out).mono ?_
              rintro e W1 ⟨rfl, b1⟩
              go_wp2
              go_ret2
              refine ⟨?_, bthen hbel b1⟩
              rw [← HQ2.out]
              rfl
            · have h32' : ¬ ((s[pos]'hp).toNat : Int) < 32 := by omega
              have hd1 : ¬ (Gm.dec (s.data.toList.drop pos)).1 < 32 := by
                by_cases ha : (s[pos]'hp).toNat < 128
                · rw [Gm.dec_ascii _ (by omega)]; simp only; omega
                · have := Gm.dec_high _ (show 128 ≤ Gm.nth (s.data.toList.drop pos) 0 by omega); omega
              have hpc : Gm.piece (s.data.toList.drop pos) = some (((Gm.dec (s.data.toList.drop pos)).1 : Int), 1) := by
                unfold Gm.piece; rw [if_neg hd92, if_neg (by rw [hbad]; simp; omega)]
              have hwid : Gm.width (s.data.toList.drop pos) 1 = (Gm.dec (s.data.toList.drop pos)).2 := by unfold Gm.width; rw [if_neg hd92]
              have henc := Gm.encode_dec _ hne hbad
              rw [hpc] at huq
              simp only [hwid, henc] at huq
              generalize hwd : (Gm.dec (s.data.toList.drop pos)).2 = wd at *
              have hw0 : ((wd : Int) == 0) = false := by simp; omega
              have hxs : (s.extract pos (pos + wd)).size = wd := by simp [ByteArray.size_extract]; omega
              have HXD : Hid _ := Lib.extract_data s pos (pos + wd)
              have HQ2 : Hid _ := huq
              have hle : (pos : Int) + wd ≤ s.size := by omega
              have hxs' : (s.extract pos (pos + wd)).size ≤ 4 := by omega
              have hsum : ¬ 9223372036854775807 < acc.length + (s.extract pos (pos + wd)).size := by omega
              clear huq heq hed hnd hn0 h34 h92 HQ hpc hbad hd34 hd92 hd1 hwd hwid henc
              go_wp2_with fail
              refine (one_is _ wd _ hes HO.out).mono ?_
              rintro e W1 ⟨rfl, b1⟩
              go_wp2
              go_roundw
              case rel =>
                refine ⟨pos + wd, acc ++ (s.data.toList.drop pos).take wd, by go_num, ?_, by omega, ?_, bthen hbel b1, ?_⟩
                · have e1 : s.extract pos (pos + wd) = ⟨((s.data.toList.drop pos).take wd).toArray⟩ := by
                    have := HXD.out
                    rw [show pos + wd - pos = wd from by omega] at this
                    rw [← this, str_eta]
                  rw [e1, str_app]
                · rw [List.length_append]
                  have : ((s.data.toList.drop pos).take wd).length ≤ wd := List.length_take_le _ _
                  omega
                · have h1 := HQ2.out
                  simp only [Option.map_map] at h1
                  rw [← h1, drop_drop']
                  congr 1
                  funext x
                  simp [Function.comp]
                  omega
              case measure => simp [intOf]; omega
    · have hp' : decide ((pos : Int) < s.size) = false := by simp; omega
      have t2 : (s.size : Int) ≤ pos := by omega
      have huq := HQ.out
      rw [drop_nil s pos hp, Gm.unqL_nil] at huq
      have HQ2 : Hid _ := huq
      clear huq HQ
      go_wp2
      go_ret2
      refine ⟨?_, hbel⟩
      rw [← HQ2.out]
      rfl

theorem refUnquote_any (s : ByteArray) (w : World) (hs : s.size ≤ 17592186044416) :
    Calls Try.prog 23 #[.string s] w fun e w' => e = unR (Gm.unquote s.data.toList) ∧ Below w.heap.size w w' := by
  by_cases hp : 0 < s.size
  · have h := isEmpty_false s hp
    have hn0 := nth_of s 0 hp
    by_cases hn : (s[0]'hp).toNat = 34
    · exact refUnquote_yes s w hs hp h hn
    · have e : Gm.unquote s.data.toList = none := by unfold Gm.unquote; rw [if_neg (by omega)]
      rw [e]
      exact refUnquote_no s w hp h hn
  · have he : s.data.toList = [] := List.length_eq_zero_iff.1 (by rw [← Lib.size_eq]; omega)
    have e : Gm.unquote s.data.toList = none := by rw [he]; rfl
    rw [e]
    exact refUnquote_empty s w (isEmpty_true s hp)

theorem refUnquote_pair (s T : ByteArray) (n : Nat) (w : World) (hs : s.size ≤ 17592186044416) (h1 : (⟨(Gm.unText (Gm.unquote s.data.toList)).toArray⟩ : ByteArray) = T) (h2 : Gm.unLen (Gm.unquote s.data.toList) = n) :
    Calls Try.prog 23 #[.string s] w fun e w' => e = .returned (.tuple #[.string T, .int .i64 n]) ∧ Below w.heap.size w w' := by
  subst h1 h2
  have := refUnquote_any s w hs
  cases hc : Gm.unquote s.data.toList with
  | none => rw [hc] at this; exact this
  | some x => rw [hc] at this; exact this

theorem asks_any (s t : ByteArray) (w : World) (hs : s.size ≤ 17592186044416) (ht : t.size ≤ 17592186044416) :
    Calls Try.prog 14 #[.string s, .string t] w fun e w' => e = .returned (.bool true) ∧ Below w.heap.size w w' := by
  have hs2 : s.size ≤ maxLen := by unfold maxLen; omega
  have ht2 : t.size ≤ maxLen := by unfold maxLen; omega
  obtain ⟨U, hU⟩ : ∃ U : ByteArray, (⟨(Gm.unText (Gm.unquote s.data.toList)).toArray⟩ : ByteArray) = U := ⟨_, rfl⟩
  obtain ⟨un, hn⟩ : ∃ n, Gm.unLen (Gm.unquote s.data.toList) = n := ⟨_, rfl⟩
  obtain ⟨Q, hQ⟩ : ∃ Q : ByteArray, (⟨(Gm.quote s.data.toList).toArray⟩ : ByteArray) = Q := ⟨_, rfl⟩
  obtain ⟨z, hz⟩ : ∃ z, Gm.checkZ s.data.toList = z := ⟨_, rfl⟩
  obtain ⟨r, hr⟩ : ∃ r, Gm.runes s.data.toList = r := ⟨_, rfl⟩
  obtain ⟨b1', hb1⟩ : ∃ b, Op.bytesLess s.toList t.toList = b := ⟨_, rfl⟩
  obtain ⟨b2', hb2⟩ : ∃ b, Op.bytesLess t.toList s.toList = b := ⟨_, rfl⟩
  have c1 := quote_any s
  have c2 := refQuote_any s
  rw [hQ] at c1 c2
  have c3 := check_any s
  have c4 := refCheck_any s
  rw [hz] at c3 c4
  have c5 := runes_any s
  have c6 := refRunes_any s
  rw [hr] at c5 c6
  have c7 := less_any s t
  have c8 := refLess_any s t
  rw [hb1] at c7 c8
  have c9 := less_any t s
  have c10 := refLess_any t s
  rw [hb2] at c9 c10
  have C1 : Hid _ := c1
  have C2 : Hid _ := c2
  have C3 : Hid _ := c3
  have C4 : Hid _ := c4
  have C5 : Hid _ := c5
  have C6 : Hid _ := c6
  have C7 : Hid _ := c7
  have C8 : Hid _ := c8
  have C9 : Hid _ := c9
  have C10 : Hid _ := c10
  have HU : Hid _ := hU
  have HN : Hid _ := hn
  clear c1 c2 c3 c4 c5 c6 c7 c8 c9 c10 hU hn hQ hz hr hb1 hb2
  go_enter Try.func14, Try.ntmps14
  go_wp2_with fail
  refine (unquote_pair s U un _ hs HU.out HN.out).mono ?_
  rintro e W1 ⟨rfl, b1⟩
  go_wp2_with fail
  refine (refUnquote_pair s U un _ hs HU.out HN.out).mono ?_
  rintro e W2 ⟨rfl, b2⟩
  go_wp2_with fail
  refine (C1.out _ hs).mono ?_
  rintro e W3 ⟨rfl, b3⟩
  go_wp2_with fail
  refine (C2.out _ hs).mono ?_
  rintro e W4 ⟨rfl, b4⟩
  go_wp2_with fail
  refine (C3.out _ hs2).mono ?_
  rintro e W5 ⟨rfl, b5⟩
  go_wp2_with fail
  refine (C4.out _ hs2).mono ?_
  rintro e W6 ⟨rfl, b6⟩
  go_wp2_with fail
  refine (C5.out _ hs2).mono ?_
  rintro e W7 ⟨rfl, b7⟩
  go_wp2_with fail
  refine (C6.out _ hs2).mono ?_
  rintro e W8 ⟨rfl, b8⟩
  go_wp2_with fail
  refine (C7.out _).mono ?_
  rintro e W8 ⟨rfl, rfl⟩
  go_wp2_with fail
  refine (C8.out _ hs2 ht2).mono ?_
  rintro e W9 ⟨rfl, b9⟩
  go_wp2_with fail
  refine (C9.out _).mono ?_
  rintro e W9 ⟨rfl, rfl⟩
  go_wp2_with fail
  refine (C10.out _ ht2 hs2).mono ?_
  rintro e W10 ⟨rfl, b10⟩
  go_wp2
  go_ret
  exact ⟨rfl, bthen (bthen (bthen (bthen (bthen (bthen (bthen (bthen (bthen b1 b2) b3) b4) b5) b6) b7) b8) b9) b10⟩

end Go.Proofs.Ytlkfdmcgcenliaa
