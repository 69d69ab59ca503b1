/-
  THE WALKS over package glyph: Check, Runes, and the reading of an escape of four digits.
-/
import Derived.Test.YtlkfdmcgcenliaaGlyphWalks
set_option linter.unusedVariables false
set_option linter.unusedSimpArgs false
namespace Go.Proofs.Ytlkfdmcgcenliaa
open Go.RowKit

theorem toList_drop_end (s : ByteArray) (i : Nat) : (s.extract i s.size).data.toList = s.data.toList.drop i := by
  rw [Lib.extract_data, List.take_of_length_le]
  rw [List.length_drop, ← Lib.size_eq]
  exact Nat.le_refl _
theorem drop_ne (s : ByteArray) (i : Nat) (h : i < s.size) : s.data.toList.drop i ≠ [] := by
  intro e
  have := congrArg List.length e
  rw [List.length_drop, ← Lib.size_eq] at this
  simp at this
  omega
theorem drop_nil (s : ByteArray) (i : Nat) (h : ¬ i < s.size) : s.data.toList.drop i = [] := by
  apply List.drop_eq_nil_of_le
  rw [← Lib.size_eq]
  omega
theorem ret_int {k : IntKind} {a b : Int} (h : a = b) : Ending.returned (.int k a) = .returned (.int k b) := by rw [h]
theorem checkZ_none {l : List UInt8} (h : Gm.check l = none) : Gm.checkZ l = -1 := by unfold Gm.checkZ; rw [h]
theorem checkZ_some {l : List UInt8} {n : Nat} (h : Gm.check l = some n) : Gm.checkZ l = n := by unfold Gm.checkZ; rw [h]

theorem broken_dec (s : ByteArray) (pos : Nat) (w : World) (b : Bool) (h : Gm.bad (s.data.toList.drop pos) = b) :
    Calls Try.prog 34 #[.string (s.extract pos s.size), .int .i32 (Utf8.decode s pos).1] w fun e w' => e = .returned (.bool b) ∧ w' = w := by
  refine (broken_any _ _ w).mono ?_
  rintro e w' ⟨rfl, rfl⟩
  refine ⟨?_, rfl⟩
  rw [← h, Gm.bad_iff, toList_drop_end, Gm.dec_eq]
  congr 3
  rw [Bool.eq_iff_iff]
  simp only [beq_iff_eq]
  omega
theorem drop_drop' (l : List UInt8) (i j : Nat) : (l.drop i).drop j = l.drop (i + j) := by rw [List.drop_drop]

set_option maxHeartbeats 1000000 in
theorem check_any (s : ByteArray) (w : World) (hs : s.size ≤ maxLen) :
    Calls Try.prog 17 #[.string s] w fun e w' => e = .returned (.int .i64 (Gm.checkZ s.data.toList)) ∧ Below w.heap.size w w' := by
  unfold maxLen at hs
  go_enter Try.func17, Try.ntmps17
  go_wp2
  go_loopw [] (fun wr => ∃ (pos : Nat), wr = w.iter s pos ∧ (Gm.check (s.data.toList.drop pos)).map (fun n => n + pos) = Gm.check s.data.toList) (fun wr => s.size - wr.iterPos w.heap.size)
  case atStart => exact ⟨0, rfl, by simp⟩
  case round =>
    obtain ⟨pos, rfl, hc⟩ := hrel
    have HC : Hid _ := hc
    clear hc
    by_cases hp : pos < s.size
    · have hnx : ∀ ty, (Instr.next (.pointer (some ⟨w.heap.size, 0, none⟩)) true ty).run Try.prog (w.iter s pos) = _ := fun ty => run_next_any w s pos ty hp
      have hd := Gm.dec_eq s pos
      have hne := drop_ne s pos hp
      have hce := Gm.check_eq _ hne
      have hw := Gm.dec_w (s.data.toList.drop pos)
      rw [← hd] at hw
      have HD : Hid _ := hd
      have HE : Hid _ := hce
      clear hd hce
      cases hb : Gm.bad (s.data.toList.drop pos) with
      | true =>
        have HB : Hid _ := hb
        clear hb
        go_wp2_with fail
        refine (broken_dec s pos _ true HB.out).mono ?_
        rintro e w' ⟨rfl, rfl⟩
        go_wp2
        go_ret
        refine ⟨ret_int ?_, (Below.refl _ _).alloc (Nat.le_refl _) _⟩
        have h1 := HC.out
        rw [HE.out, HB.out] at h1
        have h2 := checkZ_some h1.symm
        rw [h2]
        simp
      | false =>
        have HB : Hid _ := hb
        clear hb
        go_wp2_with fail
        refine (broken_dec s pos _ false HB.out).mono ?_
        rintro e w' ⟨rfl, rfl⟩
        go_wp2
        go_roundw
        case rel =>
          refine ⟨_, rfl, ?_⟩
          have h1 := HC.out
          rw [HE.out, HB.out, ← HD.out, drop_drop'] at h1
          rw [← h1]
          simp only [Bool.false_eq_true, if_false, Option.map_map]
          congr 1
          funext n
          simp only [Function.comp]
          omega
        case measure =>
          rw [World.iterPos_iter, World.iterPos_iter]
          omega
    · have hnx : ∀ ty, (Instr.next (.pointer (some ⟨w.heap.size, 0, none⟩)) true ty).run Try.prog (w.iter s pos) = _ := fun ty => run_next_end w s pos ty hp
      go_wp2
      go_ret
      refine ⟨ret_int ?_, (Below.refl _ _).alloc (Nat.le_refl _) _⟩
      have h1 := HC.out
      rw [drop_nil s pos hp, Gm.check_nil] at h1
      exact (checkZ_none h1.symm).symm

set_option maxHeartbeats 1000000 in
theorem runes_any (s : ByteArray) (w : World) (hs : s.size ≤ maxLen) :
    Calls Try.prog 21 #[.string s] w fun e w' => e = .returned (.int .i64 (Gm.runes s.data.toList)) ∧ Below w.heap.size w w' := by
  unfold maxLen at hs
  have hle := Gm.runes_le s.data.toList
  rw [← Lib.size_eq] at hle
  go_enter Try.func21, Try.ntmps21
  go_wp2
  go_loopw [3] (fun n wr => ∃ (pos k : Nat), wr = w.iter s pos ∧ n = .int .i64 k ∧ k + Gm.runes (s.data.toList.drop pos) = Gm.runes s.data.toList) (fun _ wr => s.size - wr.iterPos w.heap.size)
  case atStart => exact ⟨0, 0, rfl, rfl, by simp⟩
  case round =>
    obtain ⟨pos, k, rfl, rfl, hc⟩ := hrel
    have hk : k ≤ s.size := by omega
    have HC : Hid _ := hc
    clear hc
    by_cases hp : pos < s.size
    · have hnx : ∀ ty, (Instr.next (.pointer (some ⟨w.heap.size, 0, none⟩)) true ty).run Try.prog (w.iter s pos) = _ := fun ty => run_next_any w s pos ty hp
      have hd := Gm.dec_eq s pos
      have hne := drop_ne s pos hp
      have hce := Gm.runes_eq _ hne
      have hw := Gm.dec_w (s.data.toList.drop pos)
      rw [← hd] at hw
      have HD : Hid _ := hd
      have HE : Hid _ := hce
      clear hd hce
      have hk2 : k + 1 ≤ s.size := by
        have h1 := HC.out
        rw [HE.out] at h1
        omega
      go_wp2
      go_roundw
      case rel =>
        refine ⟨_, k + 1, rfl, by go_num, ?_⟩
        have h1 := HC.out
        rw [HE.out, ← HD.out, drop_drop'] at h1
        omega
      case measure =>
        rw [World.iterPos_iter, World.iterPos_iter]
        omega
    · have hnx : ∀ ty, (Instr.next (.pointer (some ⟨w.heap.size, 0, none⟩)) true ty).run Try.prog (w.iter s pos) = _ := fun ty => run_next_end w s pos ty hp
      go_wp2
      go_ret
      refine ⟨ret_int ?_, (Below.refl _ _).alloc (Nat.le_refl _) _⟩
      have h1 := HC.out
      rw [drop_nil s pos hp, Gm.runes_nil] at h1
      omega

end Go.Proofs.Ytlkfdmcgcenliaa
