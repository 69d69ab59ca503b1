/-
  THE WALKS over the document's own answer for layer 1: Runes, Less, short, Quote.
-/
import Derived.Test.YtlkfdmcgcenliaaRefWalksB
import Derived.Test.YtlkfdmcgcenliaaLawPairs
import Derived.Test.YtlkfdmcgcenliaaLawLess
set_option linter.unusedVariables false
set_option linter.unusedSimpArgs false
namespace Go.Proofs.Ytlkfdmcgcenliaa
open Go.RowKit

def strLen (v : Value) : Nat := match v with | .string s => s.size | _ => 0
theorem isEmpty_false (T : ByteArray) (h : 0 < T.size) : T.toList.isEmpty = false := by
  rw [Lib.toList_data]
  cases hx : T.data.toList with
  | nil => rw [Lib.size_eq, hx] at h; simp at h
  | cons _ _ => rfl
theorem isEmpty_true (T : ByteArray) (h : ¬ 0 < T.size) : T.toList.isEmpty = true := by
  rw [Lib.toList_data]
  cases hx : T.data.toList with
  | nil => rfl
  | cons _ _ => rw [Lib.size_eq, hx] at h; simp at h
theorem ne_of_pos (T : ByteArray) (h : 0 < T.size) : T.data.toList ≠ [] := by
  intro e
  rw [Lib.size_eq, e] at h
  simp at h

set_option maxHeartbeats 1000000 in
theorem refRunes_any (s : ByteArray) (w : World) (hs : s.size ≤ maxLen) :
    Calls Try.prog 25 #[.string s] w fun e w' => e = .returned (.int .i64 (Gm.runes s.data.toList)) ∧ Below w.heap.size w w' := by
  unfold maxLen at hs
  have hle := Gm.runes_le s.data.toList
  rw [← Lib.size_eq] at hle
  go_enter Try.func25, Try.ntmps25
  go_wp2
  go_loopw [0, 3] (fun t n wr => ∃ (T : ByteArray) (k : Nat), t = .string T ∧ n = .int .i64 k ∧ T.size ≤ s.size ∧ k + Gm.runes T.data.toList = Gm.runes s.data.toList ∧ Below w.heap.size w wr) (fun t _ _ => strLen t)
  case atStart => exact ⟨s, 0, rfl, rfl, by omega, by omega, Below.refl _ _⟩
  case round =>
    obtain ⟨T, k, rfl, rfl, hT, hc, hbel⟩ := hrel
    have hk : k ≤ s.size := by omega
    have HC : Hid _ := hc
    clear hc
    by_cases hp : 0 < T.size
    · have hie := isEmpty_false T hp
      have hne := ne_of_pos T hp
      have hre := Gm.runes_eq _ hne
      have hw := Gm.dec_w T.data.toList
      have hwl := Gm.dec_w_len _ hne
      rw [← Lib.size_eq] at hwl
      have hk1 : k + 1 ≤ s.size := by
        have h1 := HC.out
        rw [hre] at h1
        omega
      have HR : Hid _ := hre
      cases hb : Gm.bad T.data.toList with
      | true =>
        have hd1 : (Gm.dec T.data.toList).2 = 1 := by
          have : Gm.dec T.data.toList = (65533, 1) := by simpa [Gm.bad] using hb
          rw [this]
        have HO : Hid _ := one_bad hne hb
        have HD : Hid _ := hd1
        clear hb hre hd1 hne
        go_wp2_with fail
        refine (one_is _ 0 _ (by unfold maxLen; omega) HO.out).mono ?_
        rintro e W1 ⟨rfl, b1⟩
        go_wp2
        go_roundw
        case rel =>
          refine ⟨T.extract 1 T.size, k + 1, rfl, by go_num, by simp [ByteArray.size_extract]; omega, ?_, bthen hbel b1⟩
          have h1 := HC.out
          rw [HR.out, HD.out] at h1
          rw [toList_drop_end]
          omega
        case measure => simp [strLen, ByteArray.size_extract]; omega
      | false =>
        have HO : Hid _ := one_good hne hb
        clear hb hre hne
        generalize hwd : (Gm.dec T.data.toList).2 = wd at *
        have HWD : Hid _ := hwd
        clear hwd
        have hw1 : 1 ≤ (wd : Int) := by omega
        have hwT : (wd : Int) ≤ T.size := by omega
        go_wp2_with fail
        refine (one_is _ wd _ (by unfold maxLen; omega) HO.out).mono ?_
        rintro e W1 ⟨rfl, b1⟩
        go_wp2
        rw [show (max (wd : Int) 1).toNat = wd from by omega]
        go_roundw
        case rel =>
          refine ⟨T.extract wd T.size, k + 1, rfl, by go_num, by simp [ByteArray.size_extract]; omega, ?_, bthen hbel b1⟩
          have h1 := HC.out
          rw [HR.out] at h1
          rw [toList_drop_end]
          omega
        case measure => simp [strLen, ByteArray.size_extract]; omega
    · have hie := isEmpty_true T hp
      go_wp2
      go_ret
      refine ⟨ret_int ?_, hbel⟩
      have h1 := HC.out
      have he : T.data.toList = [] := List.length_eq_zero_iff.1 (by rw [← Lib.size_eq]; omega)
      rw [he, Gm.runes_nil] at h1
      omega

theorem less_step (a b : List UInt8) (k : Nat) (ha : k < a.length) (hb : k < b.length) (h : Gm.nth a k = Gm.nth b k) :
    Op.bytesLess (a.drop k) (b.drop k) = Op.bytesLess (a.drop (k + 1)) (b.drop (k + 1)) := by
  rw [List.drop_eq_getElem_cons ha, List.drop_eq_getElem_cons hb]
  have e : a[k] = b[k] := by
    apply UInt8.toNat_inj.1
    unfold Gm.nth at h
    simpa [List.getD_eq_getElem?_getD, ha, hb] using h
  simp only [Op.bytesLess]
  rw [e]
  simp
theorem less_diff (a b : List UInt8) (k : Nat) (ha : k < a.length) (hb : k < b.length) (h : Gm.nth a k ≠ Gm.nth b k) :
    Op.bytesLess (a.drop k) (b.drop k) = decide (Gm.nth a k < Gm.nth b k) := by
  rw [List.drop_eq_getElem_cons ha, List.drop_eq_getElem_cons hb]
  have ea : Gm.nth a k = a[k].toNat := by unfold Gm.nth; simp [List.getD_eq_getElem?_getD, ha]
  have eb : Gm.nth b k = b[k].toNat := by unfold Gm.nth; simp [List.getD_eq_getElem?_getD, hb]
  rw [ea, eb] at h ⊢
  have hne : (a[k] == b[k]) = false := by
    simp only [beq_eq_false_iff_ne, ne_eq]
    intro e
    exact h (by rw [e])
  simp only [Op.bytesLess, hne, Bool.false_and, Bool.or_false]
  rw [Bool.eq_iff_iff]
  simp [UInt8.lt_iff_toNat_lt]

set_option maxHeartbeats 1000000 in
theorem refLess_any (a b : ByteArray) (w : World) (ha : a.size ≤ maxLen) (hb : b.size ≤ maxLen) :
    Calls Try.prog 26 #[.string a, .string b] w fun e w' => e = .returned (.bool (Op.bytesLess a.toList b.toList)) ∧ Below w.heap.size w w' := by
  unfold maxLen at ha hb
  rw [Lib.toList_data, Lib.toList_data]
  generalize hR : Op.bytesLess a.data.toList b.data.toList = R
  have HR : Hid _ := hR
  clear hR
  go_enter Try.func26, Try.ntmps26
  go_wp2
  go_loopw [5] (fun i wr => ∃ k : Nat, i = .int .i64 k ∧ k ≤ a.size ∧ k ≤ b.size ∧ Op.bytesLess (a.data.toList.drop k) (b.data.toList.drop k) = R ∧ Below w.heap.size w wr) (fun i _ => a.size - (intOf i).toNat)
  case atStart => exact ⟨0, rfl, by omega, by omega, by simpa using HR.out, Below.refl _ _⟩
  case round =>
    obtain ⟨k, rfl, hka, hkb, hc, hbel⟩ := hrel
    have HC : Hid _ := hc
    clear hc
    have hla := Lib.size_eq a
    have hlb := Lib.size_eq b
    by_cases h1 : k < a.size
    · have h1' : (k : Int) < a.size := by omega
      by_cases h2 : k < b.size
      · have h2' : (k : Int) < b.size := by omega
        have na := nth_of a k h1
        have nb := nth_of b k h2
        have ca : (a[k]'h1).toNat < 256 := (a[k]'h1).toNat_lt
        have cb : (b[k]'h2).toNat < 256 := (b[k]'h2).toNat_lt
        have NA : Hid _ := na
        have NB : Hid _ := nb
        have LA : Hid _ := hla
        have LB : Hid _ := hlb
        clear na nb hla hlb
        by_cases he : (a[k]'h1).toNat = (b[k]'h2).toNat
        · have HE : Hid _ := he
          have hne : (((a[k]'h1).toNat : Int) != ((b[k]'h2).toNat : Int)) = false := by rw [HE.out]; simp
          clear he
          go_wp2
          go_quiet (fail)
          go_wp2
          go_roundw
          case rel =>
            refine ⟨k + 1, by go_num, by omega, by omega, ?_, below_drewN hbel _⟩
            rw [← less_step _ _ k (by rw [← LA.out]; exact h1) (by rw [← LB.out]; exact h2) (by rw [NA.out, NB.out]; exact HE.out)]
            exact HC.out
          case measure => simp [intOf]; omega
        · have HE : Hid _ := he
          have hne : (((a[k]'h1).toNat : Int) != ((b[k]'h2).toNat : Int)) = true := by
            rw [bne_iff_ne]; intro e; exact he (by omega)
          clear he
          go_wp2
          go_quiet (fail)
          go_wp2
          go_quiet (fail)
          go_wp2
          go_ret
          refine ⟨ret_bool ?_, below_drewN (below_drewN hbel _) _⟩
          have h3 := HC.out
          rw [less_diff _ _ k (by rw [← LA.out]; exact h1) (by rw [← LB.out]; exact h2) (by rw [NA.out, NB.out]; exact HE.out), NA.out, NB.out] at h3
          rw [← h3]
      · have h2' : ¬ (k : Int) < b.size := by omega
        have e1 : b.data.toList.drop k = [] := drop_nil b k h2
        have h3 := HC.out
        rw [e1] at h3
        have H3 : Hid _ := h3
        clear hla hlb h3 e1
        go_wp2
        go_ret
        refine ⟨ret_bool ?_, hbel⟩
        rw [← H3.out]
        cases hx : a.data.toList.drop k <;> simp [Op.bytesLess] <;> omega
    · have h1' : decide ((k : Int) < a.size) = false := by simp; omega
      have e1 : a.data.toList.drop k = [] := drop_nil a k h1
      have h3 := HC.out
      rw [e1] at h3
      have H3 : Hid _ := h3
      have hdl : (b.data.toList.drop k).length = b.size - k := by rw [List.length_drop, ← Lib.size_eq]
      have HDL : Hid _ := hdl
      clear hla hlb h3 e1 hdl
      go_wp2
      go_ret
      refine ⟨ret_bool ?_, hbel⟩
      rw [← H3.out]
      have hd := HDL.out
      cases hx : b.data.toList.drop k with
      | nil => rw [hx] at hd; simp at hd; simp [Op.bytesLess]; omega
      | cons y ys => rw [hx] at hd; simp at hd; simp [Op.bytesLess]; omega

end Go.Proofs.Ytlkfdmcgcenliaa
