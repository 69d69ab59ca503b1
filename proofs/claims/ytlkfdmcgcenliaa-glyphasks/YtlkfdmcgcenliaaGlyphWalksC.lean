/-
  THE WALKS over package glyph: the reading of escapes.
-/
import Derived.Test.YtlkfdmcgcenliaaGlyphWalksB
set_option linter.unusedVariables false
set_option linter.unusedSimpArgs false
namespace Go.Proofs.Ytlkfdmcgcenliaa
open Go.RowKit

theorem prefix2 (l : List UInt8) : Lib.hasPrefix l [92, 117] = true ↔ (2 ≤ l.length ∧ Gm.nth l 0 = 92 ∧ Gm.nth l 1 = 117) := by
  unfold Lib.hasPrefix Gm.nth
  match l with
  | [] => simp [List.isPrefixOf]
  | [a] => simp [List.isPrefixOf]
  | a :: b :: t =>
    simp only [List.isPrefixOf, Bool.and_eq_true, beq_iff_eq, List.getD_cons_zero, List.getD_cons_succ, List.length_cons]
    constructor
    · rintro ⟨rfl, rfl, _⟩
      exact ⟨by omega, rfl, rfl⟩
    · rintro ⟨_, h0, h1⟩
      exact ⟨(UInt8.toNat_inj.1 h0).symm, (UInt8.toNat_inj.1 h1).symm, trivial⟩

theorem four_short (s : ByteArray) (w : World) (h : s.size < 6) :
    Calls Try.prog 49 #[.string s] w fun e w' => e = .returned (.tuple #[.int .i32 0, .bool false]) ∧ Below w.heap.size w w' := by
  go_enter Try.func49, Try.ntmps49
  go_wp2_with (go_at_call 31; refine (Try.strings_HasPrefix _ _ _).mono ?_; rintro e w ⟨rfl, rfl⟩)
  go_ret2
  exact ⟨rfl, Below.refl _ _⟩

theorem four_noPre (s : ByteArray) (w : World) (hs : s.size ≤ maxLen) (h : 6 ≤ s.size) (hp : Lib.hasPrefix s.data.toList [92, 117] = false) :
    Calls Try.prog 49 #[.string s] w fun e w' => e = .returned (.tuple #[.int .i32 0, .bool false]) ∧ Below w.heap.size w w' := by
  unfold maxLen at hs
  have h6 : ¬ ((s.size : Int) < 6) := by omega
  go_enter Try.func49, Try.ntmps49
  go_wp2_with (go_at_call 31; refine (Try.strings_HasPrefix _ _ _).mono ?_; rintro e w ⟨rfl, rfl⟩)
  go_ret2
  exact ⟨rfl, Below.refl _ _⟩

/-- the result as values -/
def fourR (o : Option Int) : Ending := match o with
  | none => .returned (.tuple #[.int .i32 0, .bool false])
  | some n => .returned (.tuple #[.int .i32 n, .bool true])

theorem sub_nth (s : ByteArray) (k : Nat) (h : k < 4) : Gm.nth ((s.extract 2 6).data.toList.drop k) 0 = Gm.nth s.data.toList (2 + k) := by
  rw [Lib.extract_data, Gm.nth_drop, Nat.add_zero, Gm.nth_take _ _ _ (by omega), Gm.nth_drop]

set_option maxHeartbeats 1000000 in
theorem four_pre (s : ByteArray) (w : World) (hs : s.size ≤ maxLen) (h : 6 ≤ s.size) (hp : Lib.hasPrefix s.data.toList [92, 117] = true) :
    Calls Try.prog 49 #[.string s] w fun e w' => e = fourR (Gm.fourTo s.data.toList 4) ∧ Below w.heap.size w w' := by
  unfold maxLen at hs
  have h6 : ¬ ((s.size : Int) < 6) := by omega
  have hsz : (s.extract 2 6).size = 4 := by simp [ByteArray.size_extract]; omega
  go_enter Try.func49, Try.ntmps49
  go_wp2_with (go_at_call 31; refine (Try.strings_HasPrefix _ _ _).mono ?_; rintro e w ⟨rfl, rfl⟩)
  go_loopw [4] (fun n wr => ∃ (k : Nat) (v : Int), wr = w.iter (s.extract 2 6) k ∧ n = .int .i32 v ∧ k ≤ 4 ∧ Gm.fourTo s.data.toList k = some v) (fun _ wr => 4 - wr.iterPos w.heap.size)
  case atStart => exact ⟨0, 0, rfl, rfl, by omega, rfl⟩
  case round =>
    obtain ⟨k, v, rfl, rfl, hk, hc⟩ := hrel
    have hbd := Gm.fourTo_bd s.data.toList k v hk hc
    have HC : Hid _ := hc
    clear hc
    by_cases hlt : k < 4
    · have hkk : k < (s.extract 2 6).size := by omega
      have hnx : ∀ ty, (Instr.next (.pointer (some ⟨w.heap.size, 0, none⟩)) true ty).run Try.prog (w.iter (s.extract 2 6) k) = _ := fun ty => run_next_any w (s.extract 2 6) k ty hkk
      have hn := sub_nth s k hlt
      have hv0 : 0 ≤ v := hbd.1
      have hv1 : v < 4096 := by
        have : (16 : Int) ^ k ≤ 16 ^ 3 := by
          have : k = 0 ∨ k = 1 ∨ k = 2 ∨ k = 3 := by omega
          rcases this with rfl | rfl | rfl | rfl <;> decide
        have e : (16 : Int) ^ 3 = 4096 := by decide
        omega
      clear hbd
      by_cases hasc : Gm.nth s.data.toList (2 + k) < 128
      · have hd := Gm.dec_eq (s.extract 2 6) k
        rw [Gm.dec_ascii _ (by rw [hn]; exact hasc), hn] at hd
        rw [hd] at hnx
        have HD : Hid _ := hd
        have HN : Hid _ := hn
        clear hd hn
        cases hdg : Gm.digit (Gm.nth s.data.toList (2 + k)) with
        | none =>
          have HG : Hid _ := hdg
          clear hdg
          generalize hz : (Gm.nth s.data.toList (2 + k)) = z at *
          go_wp2_with fail
          refine (digit_none _ _ HG.out).mono ?_
          rintro e w' ⟨rfl, rfl⟩
          go_wp2
          go_ret2
          refine ⟨?_, (Below.refl _ _).alloc (Nat.le_refl _) _⟩
          have : Gm.fourTo s.data.toList 4 = none := by
            have h1 := Gm.fourTo_none s.data.toList (k + 1) (3 - k) (Gm.fourTo_bad _ _ (by rw [hz]; exact HG.out))
            rw [show k + 1 + (3 - k) = 4 from by omega] at h1
            exact h1
          rw [this]
          rfl
        | some d =>
          have hdb := Gm.digit_bd hdg
          have HG : Hid _ := hdg
          clear hdg
          obtain ⟨hd0, hd1, _, _⟩ := hdb
          generalize hz : (Gm.nth s.data.toList (2 + k)) = z at *
          have HZ : Hid _ := hz
          clear hz
          go_wp2_with fail
          refine (digit_some _ d _ HG.out).mono ?_
          rintro e w' ⟨rfl, rfl⟩
          go_wp2
          go_roundw
          case rel => exact ⟨k + 1, v * 16 + d, rfl, rfl, by omega, Gm.fourTo_step _ _ _ _ HC.out (by rw [HZ.out]; exact HG.out)⟩
          case measure =>
            rw [World.iterPos_iter, World.iterPos_iter]
            omega
      · have hd := Gm.dec_eq (s.extract 2 6) k
        have hhi := Gm.dec_high ((s.extract 2 6).data.toList.drop k) (by rw [hn]; omega)
        rw [← hd] at hhi
        have hz : Gm.digit ((Utf8.decode (s.extract 2 6) k).1 : Int) = none := Gm.digit_high _ (by omega)
        have HZ : Hid _ := hz
        have HN : Hid _ := hn
        clear hd hz hn hhi
        go_wp2_with fail
        refine (digit_none _ _ HZ.out).mono ?_
        rintro e w' ⟨rfl, rfl⟩
        go_wp2
        go_ret2
        refine ⟨?_, (Below.refl _ _).alloc (Nat.le_refl _) _⟩
        have : Gm.fourTo s.data.toList 4 = none := by
          have h1 := Gm.fourTo_none s.data.toList (k + 1) (3 - k) (Gm.fourTo_bad _ _ (Gm.digit_high _ (by omega)))
          rw [show k + 1 + (3 - k) = 4 from by omega] at h1
          exact h1
        rw [this]
        rfl
    · have hkk : ¬ k < (s.extract 2 6).size := by omega
      have hnx : ∀ ty, (Instr.next (.pointer (some ⟨w.heap.size, 0, none⟩)) true ty).run Try.prog (w.iter (s.extract 2 6) k) = _ := fun ty => run_next_end w (s.extract 2 6) k ty hkk
      go_wp2
      go_ret2
      refine ⟨?_, (Below.refl _ _).alloc (Nat.le_refl _) _⟩
      have h4 : k = 4 := by omega
      have h1 := HC.out
      rw [h4] at h1
      rw [h1]
      rfl

theorem four_any (s : ByteArray) (w : World) (hs : s.size ≤ maxLen) :
    Calls Try.prog 49 #[.string s] w fun e w' => e = fourR (Gm.four s.data.toList) ∧ Below w.heap.size w w' := by
  by_cases h : s.size < 6
  · have e : Gm.four s.data.toList = none := by
      unfold Gm.four
      rw [if_neg (by rw [← Lib.size_eq]; omega)]
    rw [e]
    exact four_short s w h
  · cases hp : Lib.hasPrefix s.data.toList [92, 117] with
    | false =>
      have e : Gm.four s.data.toList = none := by
        unfold Gm.four
        rw [if_neg ?_]
        rintro ⟨a, b, c⟩
        have := (prefix2 s.data.toList).2 ⟨by omega, b, c⟩
        rw [hp] at this
        cases this
      rw [e]
      exact four_noPre s w hs (by omega) hp
    | true =>
      have e : Gm.four s.data.toList = Gm.fourTo s.data.toList 4 := by
        unfold Gm.four
        have := (prefix2 s.data.toList).1 hp
        rw [if_pos ⟨by rw [← Lib.size_eq]; omega, this.2⟩]
      rw [e]
      exact four_pre s w hs (by omega) hp

end Go.Proofs.Ytlkfdmcgcenliaa
