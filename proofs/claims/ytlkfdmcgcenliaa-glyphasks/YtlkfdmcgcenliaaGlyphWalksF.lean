/-
  THE WALKS over package glyph: escapeOf, Quote.
-/
import Derived.Test.YtlkfdmcgcenliaaGlyphWalksE
import Derived.Deep.QuietTactic
import Derived.BigQuiet
set_option linter.unusedVariables false
set_option linter.unusedSimpArgs false
namespace Go.Proofs.Ytlkfdmcgcenliaa
open Go.RowKit

theorem esc_text0 : ∀ n ∈ List.range 32, (n = 8 ∨ n = 9 ∨ n = 10 ∨ n = 12 ∨ n = 13) ∨
    (⟨#[92, 117, 48, 48]⟩ ++ (⟨#[48, 49, 50, 51, 52, 53, 54, 55, 56, 57, 97, 98, 99, 100, 101, 102]⟩ : ByteArray).extract (n / 16) (n / 16 + 1) ++
      (⟨#[48, 49, 50, 51, 52, 53, 54, 55, 56, 57, 97, 98, 99, 100, 101, 102]⟩ : ByteArray).extract (n % 16) (n % 16 + 1)).data.toList = Gm.escOf n := by
  decide +kernel
theorem esc_text (n : Nat) (h : n < 32) (c3 : n ≠ 8) (c4 : n ≠ 9) (c5 : n ≠ 10) (c6 : n ≠ 12) (c7 : n ≠ 13) :
    (⟨#[92, 117, 48, 48]⟩ ++ (⟨#[48, 49, 50, 51, 52, 53, 54, 55, 56, 57, 97, 98, 99, 100, 101, 102]⟩ : ByteArray).extract (n / 16) (n / 16 + 1) ++
      (⟨#[48, 49, 50, 51, 52, 53, 54, 55, 56, 57, 97, 98, 99, 100, 101, 102]⟩ : ByteArray).extract (n % 16) (n % 16 + 1)) = (⟨(Gm.escOf n).toArray⟩ : ByteArray) := by
  rcases esc_text0 n (List.mem_range.2 h) with hc | hc
  · omega
  · rw [← hc]
theorem ret_str {a b : ByteArray} (h : a = b) : Ending.returned (.string a) = .returned (.string b) := by rw [h]

theorem escapeOf_low (n : Nat) (w : World) (h1 : n < 32) (c3 : n ≠ 8) (c4 : n ≠ 9) (c5 : n ≠ 10) (c6 : n ≠ 12) (c7 : n ≠ 13) :
    Calls Try.prog 28 #[.int .i32 n] w fun e w' => e = .returned (.string ⟨(Gm.escOf n).toArray⟩) ∧ ∃ n, w' = w.drewN n := by
  have ht := esc_text n h1 c3 c4 c5 c6 c7
  have HT : Hid _ := ht
  clear ht
  have d1 : ((n : Int) == 34) = false := by simp; omega
  have d2 : ((n : Int) == 92) = false := by simp; omega
  have d3 : ((n : Int) == 8) = false := by simp; omega
  have d4 : ((n : Int) == 9) = false := by simp; omega
  have d5 : ((n : Int) == 10) = false := by simp; omega
  have d6 : ((n : Int) == 12) = false := by simp; omega
  have d7 : ((n : Int) == 13) = false := by simp; omega
  go_enter Try.func28, Try.ntmps28
  go_wp2
  go_quiet (fail)
  go_wp2
  go_ret
  refine ⟨ret_str ?_, _, rfl⟩
  rw [← HT.out]

theorem escapeOf_any (n : Nat) (w : World) (hn : n ≤ 2147483647) :
    Calls Try.prog 28 #[.int .i32 n] w fun e w' => e = .returned (.string ⟨(Gm.escOf n).toArray⟩) ∧ ∃ n, w' = w.drewN n := by
  by_cases h : n = 34 ∨ n = 92 ∨ n = 8 ∨ n = 9 ∨ n = 10 ∨ n = 12 ∨ n = 13
  · rcases h with rfl | rfl | rfl | rfl | rfl | rfl | rfl
    all_goals
      go_enter Try.func28, Try.ntmps28
      go_wp2
      go_ret
      exact ⟨rfl, 0, rfl⟩
  · by_cases h32 : n < 32
    · exact escapeOf_low n w h32 (by omega) (by omega) (by omega) (by omega) (by omega)
    · have he : Gm.escOf n = [] := by
        unfold Gm.escOf
        rw [if_neg (by omega), if_neg (by omega), if_neg (by omega), if_neg (by omega), if_neg (by omega), if_neg (by omega), if_neg (by omega), if_pos (by omega)]
      rw [he]
      have d1 : ((n : Int) == 34) = false := by simp; omega
      have d2 : ((n : Int) == 92) = false := by simp; omega
      have d3 : ((n : Int) == 8) = false := by simp; omega
      have d4 : ((n : Int) == 9) = false := by simp; omega
      have d5 : ((n : Int) == 10) = false := by simp; omega
      have d6 : ((n : Int) == 12) = false := by simp; omega
      have d7 : ((n : Int) == 13) = false := by simp; omega
      have d8 : 32 ≤ (n : Int) := by omega
      clear h h32 he
      go_enter Try.func28, Try.ntmps28
      go_wp2
      go_ret
      exact ⟨rfl, 0, rfl⟩


theorem escapeOf_none (n : Nat) (w : World) (hn : n ≤ 2147483647) (h : Gm.escOf n = []) :
    Calls Try.prog 28 #[.int .i32 n] w fun e w' => e = .returned (.string ⟨#[]⟩) ∧ ∃ n, w' = w.drewN n := by
  refine (escapeOf_any n w hn).mono ?_
  rw [h]
  exact fun e w' h => h
theorem escapeOf_some (n : Nat) (ev : ByteArray) (w : World) (hn : n ≤ 2147483647) (h : (⟨(Gm.escOf n).toArray⟩ : ByteArray) = ev) :
    Calls Try.prog 28 #[.int .i32 n] w fun e w' => e = .returned (.string ev) ∧ ∃ n, w' = w.drewN n := by
  subst h
  exact escapeOf_any n w hn

theorem flatten_size (l : List UInt8) : (⟨l.toArray⟩ : ByteArray).size = l.length := by
  show l.toArray.size = _
  simp

set_option maxHeartbeats 2000000 in
theorem quote_any (s : ByteArray) (w : World) (hs : s.size ≤ 17592186044416) :
    Calls Try.prog 15 #[.string s] w fun e w' => e = .returned (.string ⟨(Gm.quote s.data.toList).toArray⟩) ∧ Below w.heap.size w w' := by
  go_enter Try.func15, Try.ntmps15
  go_wp2_with fail
  refine (Try.Builder_WriteByte_k w.heap.size w.heap.size [] 34 _ (Lib.IsBuilderF.of (Lib.fresh_isBuilder 41 5 w)) (by simp) (by simp)).mono ?_
  rintro e W0 ⟨rfl, h0, b0, k0⟩
  have hsz0 : w.heap.size + 1 ≤ W0.heap.size := by have := b0.size; simpa using this
  have hb0 : Below w.heap.size w W0 := ((Below.refl _ w).alloc (Nat.le_refl _) _).trans b0
  clear b0 k0
  go_wp2
  go_loopw [4] (fun fr wr => ∃ (pos fro : Nat) (acc : List UInt8), fr = .int .i64 fro ∧ Lib.IsBuilderF 41 5 w.heap.size w.heap.size (Lib.byteCells acc) wr ∧ wr.heap[W0.heap.size]? = some (.stringIter s pos) ∧ Below w.heap.size w wr ∧ fro ≤ pos ∧ pos ≤ s.size ∧ acc = Gm.quoteTo s.data.toList fro ∧ Gm.plain ((s.data.toList.drop fro).take (pos - fro))) (fun _ wr => s.size - wr.iterPos W0.heap.size)
  case atStart =>
    refine ⟨0, 0, [34], rfl, ?_, World.iter_heap W0 s 0, hb0.alloc (by omega) _, by omega, by omega, rfl, ?_⟩
    · exact Lib.IsBuilderF.alloc (Or.inr h0) _
    · intro c hc; simp at hc
  case round =>
    obtain ⟨pos, fro, acc, rfl, hI, hit, hbw, hfp, hps, hacc, hpl⟩ := hrel
    have hal : acc.length ≤ 1 + 6 * fro := by rw [hacc]; exact Gm.quoteTo_le _ _
    have hsz : W0.heap.size < wr.heap.size := (Array.getElem?_eq_some_iff.1 hit).1
    have HACC : Hid _ := hacc
    have HPL : Hid _ := hpl
    clear hacc hpl h0 hb0
    by_cases hp : pos < s.size
    · have hnx : ∀ ty, (Instr.next (.pointer (some ⟨W0.heap.size, 0, none⟩)) true ty).run Try.prog wr = _ := fun ty => Lib.run_next_any_at wr W0.heap.size s pos ty hit hp
      have hd := Gm.dec_eq s pos
      have hw := Gm.dec_w (s.data.toList.drop pos)
      have hwl := Gm.dec_w_len _ (drop_ne s pos hp)
      have hrl := Gm.dec_le (s.data.toList.drop pos)
      rw [List.length_drop, ← Lib.size_eq] at hwl
      rw [← hd] at hw hrl hwl
      have hI2 := hI.iterAt hit (pos + (Utf8.decode s pos).2)
      have hit2 := Lib.iterAt_heap wr W0.heap.size s pos (pos + (Utf8.decode s pos).2) hit
      have hbw2 := Lib.below_iterAt hbw (k := W0.heap.size) (by omega) s (pos + (Utf8.decode s pos).2)
      have hsz2 : w.heap.size ≤ (wr.iterAt W0.heap.size s (pos + (Utf8.decode s pos).2)).heap.size := by rw [Lib.iterAt_size]; omega
      have HD : Hid _ := hd
      clear hd
      by_cases he : Gm.escOf ((Utf8.decode s pos).1 : Int) = []
      · have HE : Hid _ := he
        clear he
        go_wp2_with fail
        refine (escapeOf_none _ _ (by omega) HE.out).mono ?_
        rintro e W1 ⟨rfl, q1, rfl⟩
        go_wp2
        go_roundw
        case rel =>
          refine ⟨pos + (Utf8.decode s pos).2, fro, acc, rfl, hI2, hit2, below_drewN hbw2 _, by omega, by omega, HACC.out, ?_⟩
          rw [Gm.seg_append _ _ _ _ hfp]
          refine Gm.plain_append HPL.out ?_
          rw [HD.out]
          exact Gm.plain_rune _ (by rw [← HD.out]; exact HE.out)
        case measure =>
          have e1 : (wr.iterAt W0.heap.size s (pos + (Utf8.decode s pos).2)).iterPos W0.heap.size = pos + (Utf8.decode s pos).2 := by simp only [World.iterPos, hit2]
          have e2 : wr.iterPos W0.heap.size = pos := by simp only [World.iterPos, hit]
          show s.size - (wr.iterAt W0.heap.size s (pos + (Utf8.decode s pos).2)).iterPos W0.heap.size < _
          rw [e1, e2]
          omega
      · have HE : Hid _ := he
        clear he
        generalize hev : (⟨(Gm.escOf ((Utf8.decode s pos).1 : Int)).toArray⟩ : ByteArray) = ev
        have HEV : Hid _ := hev
        have hevs : ev.size ≤ 6 := by
          rw [← hev, flatten_size]
          have hr := Gm.escOf_low HE.out
          have e1 : Gm.esc (Utf8.decode s pos).1.toUInt8 = Gm.escOf ((Utf8.decode s pos).1.toUInt8.toNat : Int) := by
            apply Gm.esc_some
            have : (Utf8.decode s pos).1.toUInt8.toNat = (Utf8.decode s pos).1 := by simp; omega
            rw [this]; exact HE.out
          have e2 : (Utf8.decode s pos).1.toUInt8.toNat = (Utf8.decode s pos).1 := by simp; omega
          rw [e2] at e1
          rw [← e1]
          exact Gm.esc_le _
        have hem : (!ev.toList.isEmpty) = true := by
          rw [← hev]
          have h1 : (⟨(Gm.escOf ((Utf8.decode s pos).1 : Int)).toArray⟩ : ByteArray).toList = Gm.escOf ((Utf8.decode s pos).1 : Int) := by
            rw [Lib.toList_data]
          rw [h1]
          have h2 := HE.out
          cases hx : Gm.escOf ((Utf8.decode s pos).1 : Int) with
          | nil => exact absurd hx h2
          | cons a b => rfl
        clear hev
        have hfp' : (fro : Int) ≤ (pos : Int) := by omega
        have hexs : (s.extract fro pos).size = pos - fro := by simp [ByteArray.size_extract]; omega
        have HX : Hid _ := hexs
        clear hexs
        go_wp2_with fail
        refine (escapeOf_some _ ev _ (by omega) HEV.out).mono ?_
        rintro e W1 ⟨rfl, q1, rfl⟩
        go_wp2_with fail
        refine (Try.Builder_WriteString_k w.heap.size w.heap.size (Lib.byteCells acc) (s.extract fro pos) _ (by exact hI2) (by rw [Lib.byteCells_length, HX.out]; omega) (by exact hsz2)).mono ?_
        rintro e W2 ⟨rfl, h2, b2, k2⟩
        have hit3 := k2.iter (k := W0.heap.size) (s := s) (pos := pos + (Utf8.decode s pos).2) (by exact hit2) (by omega)
        have hbw3 : Below w.heap.size w W2 := (below_drewN hbw2 q1).trans b2
        have hsz3 : w.heap.size ≤ W2.heap.size := hbw3.size
        go_wp2_with fail
        refine (Try.Builder_WriteString_k w.heap.size w.heap.size _ ev _ (Or.inr h2) (by rw [List.length_append, Lib.byteCells_length, Lib.strCells_length, HX.out]; omega) hsz3).mono ?_
        rintro e W3 ⟨rfl, h3, b3, k3⟩
        have hit4 := k3.iter hit3 (by omega)
        have hbw4 : Below w.heap.size w W3 := hbw3.trans b3
        go_wp2
        go_roundw
        case rel =>
          have hr := Gm.escOf_low HE.out
          have hasc : Gm.nth (s.data.toList.drop pos) 0 < 128 := by
            by_cases hh : 128 ≤ Gm.nth (s.data.toList.drop pos) 0
            · have := Gm.dec_high _ hh
              rw [← HD.out] at this
              omega
            · omega
          have hdd := HD.out
          rw [Gm.dec_ascii _ hasc] at hdd
          have hw1 : (Utf8.decode s pos).2 = 1 := by rw [hdd]
          have hr1 : (Utf8.decode s pos).1 = Gm.nth s.data.toList pos := by rw [hdd, Gm.nth_drop, Nat.add_zero]
          have hescs : Gm.esc (s.data.toList.getD pos 0) = Gm.escOf ((Utf8.decode s pos).1 : Int) := by
            rw [hr1]
            exact Gm.esc_some _ (by have := HE.out; rw [hr1] at this; exact this)
          refine ⟨pos + 1, pos + 1, Gm.quoteTo s.data.toList (pos + 1), by go_num, ?_, by rw [hw1] at hit4; exact hit4, hbw4, by omega, by omega, rfl, ?_⟩
          · have e1 : Lib.byteCells (Gm.quoteTo s.data.toList (pos + 1)) = Lib.byteCells acc ++ Lib.strCells (s.extract fro pos) ++ Lib.strCells ev := by
              rw [Gm.quoteTo_succ _ _ (by rw [← Lib.size_eq]; omega), hescs, Gm.quoteTo_plain s.data.toList fro pos hfp HPL.out, ← HACC.out, Lib.strCells_eq, Lib.strCells_eq, Lib.extract_data, ← HEV.out, Lib.byteCells_append, Lib.byteCells_append]
            rw [e1]
            exact Or.inr h3
          · intro c hc; simp at hc
        case measure =>
          simp only [World.iterPos, hit4, hit]
          omega
    · have hnx : ∀ ty, (Instr.next (.pointer (some ⟨W0.heap.size, 0, none⟩)) true ty).run Try.prog wr = _ := fun ty => Lib.run_next_end_at wr W0.heap.size s pos ty hit hp
      have hexs : (s.extract fro s.size).size = s.size - fro := by simp [ByteArray.size_extract]
      have HX : Hid _ := hexs
      clear hexs
      go_wp2_with fail
      refine (Try.Builder_WriteString_k w.heap.size w.heap.size (Lib.byteCells acc) (s.extract fro s.size) _ hI (by rw [Lib.byteCells_length, HX.out]; omega) (by omega)).mono ?_
      rintro e W2 ⟨rfl, h2, b2, k2⟩
      have hbw3 : Below w.heap.size w W2 := hbw.trans b2
      have hsz3 : w.heap.size ≤ W2.heap.size := hbw3.size
      go_wp2_with fail
      refine (Try.Builder_WriteByte_k w.heap.size w.heap.size _ 34 _ (Or.inr h2) (by rw [List.length_append, Lib.byteCells_length, Lib.strCells_length, HX.out]; omega) hsz3).mono ?_
      rintro e W3 ⟨rfl, h3, b3, k3⟩
      have hbw4 : Below w.heap.size w W3 := hbw3.trans b3
      have h4 : Lib.IsBuilderF 41 5 w.heap.size w.heap.size (Lib.byteCells (Gm.quote s.data.toList)) W3 := by
        have e1 : Lib.byteCells (Gm.quote s.data.toList) = Lib.byteCells acc ++ Lib.strCells (s.extract fro s.size) ++ [Value.int .u8 34] := by
          rw [Lib.strCells_eq, toList_drop_end, ← Gm.quoteTo_all s.data.toList pos (by rw [← Lib.size_eq]; omega), Gm.quoteTo_plain s.data.toList fro pos hfp HPL.out, ← HACC.out]
          rw [List.take_of_length_le (by rw [List.length_drop, ← Lib.size_eq]; omega), Lib.byteCells_append, Lib.byteCells_append]
          rfl
        rw [e1]
        exact Or.inr h3
      go_wp2_with fail
      refine (Try.Builder_String_any_k w.heap.size w.heap.size (Gm.quote s.data.toList) _ h4 (by have := hbw4.size; omega)).mono ?_
      rintro e W4 ⟨rfl, _, b5, _⟩
      go_wp2
      go_ret
      exact ⟨rfl, hbw4.trans b5⟩

end Go.Proofs.Ytlkfdmcgcenliaa
