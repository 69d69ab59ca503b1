/-
  THE WALK of names.Glob.
-/
import Derived.Test.YtpfbiklbecdmiaaChecked
import Derived.Test.YtpfbiklbecdmiaaNMathB
import Derived.WalkKit
import Derived.WalkSpells
import Derived.WalkLawsBesides
import Derived.BigCall
import Derived.BigQuiet
import Derived.WalkMore
set_option linter.unusedVariables false
set_option linter.unusedSimpArgs false
namespace Go.Proofs.Ytpfbiklbecdmiaa
open Go.RowKit

def gmeas (P S b k i : Nat) : Nat := (P + 1 - b) * ((S + 1) * (S + 1)) + ((S - k) * (S + 1) + (S - i))
theorem gmeas_in (S k i : Nat) : (S - k) * (S + 1) + (S - i) < (S + 1) * (S + 1) := by
  have h1 : (S - k) * (S + 1) ≤ S * (S + 1) := Nat.mul_le_mul_right _ (by omega)
  have h2 : (S + 1) * (S + 1) = S * (S + 1) + (S + 1) := Nat.succ_mul _ _
  omega
theorem gmeas_star (P S b k i b' k' i' : Nat) (h : b < b') (h' : b' ≤ P + 1) : gmeas P S b' k' i' < gmeas P S b k i := by
  unfold gmeas
  have h1 := gmeas_in S k' i'
  have h2 : (P + 1 - b' + 1) * ((S + 1) * (S + 1)) ≤ (P + 1 - b) * ((S + 1) * (S + 1)) := Nat.mul_le_mul_right _ (by omega)
  rw [Nat.succ_mul] at h2
  omega
theorem gmeas_back (P S b k i i' : Nat) (h : k < S) : gmeas P S b (k + 1) i' < gmeas P S b k i := by
  unfold gmeas
  have h2 : (S - k) * (S + 1) = (S - (k + 1)) * (S + 1) + (S + 1) := by
    rw [← Nat.succ_mul]; congr 1; omega
  omega
theorem gmeas_same (P S b k i : Nat) (h : i < S) : gmeas P S b k (i + 1) < gmeas P S b k i := by
  unfold gmeas
  omega

def GInv (P S : List UInt8) (p i : Nat) (b : Int) (k : Nat) : Prop := (b = -1 ∧ Nm.Inv P S p i none) ∨ ∃ q : Nat, b = q ∧ Nm.Inv P S p i (some (q, k))

theorem byteEq {P : ByteArray} {p : Nat} (h : p < P.size) (c : UInt8) (n : Int) (hn : n = c.toNat) : (((P[p]'h).toNat : Int) == n) = decide (P.data.toList[p]'(by simpa using h) = c) := by
  subst hn
  rw [Bool.eq_iff_iff]
  simp only [beq_iff_eq, decide_eq_true_eq]
  show ((P[p].toNat : Nat) : Int) = _ ↔ P.data[p] = c
  constructor
  · intro e
    exact UInt8.toNat_inj.1 (Int.ofNat_inj.1 e)
  · intro e
    rw [show P[p] = P.data[p] from rfl, e]
theorem byteEq2 {P S : ByteArray} {p i : Nat} (h : p < P.size) (h' : i < S.size) : (((P[p]'h).toNat : Int) == ((S[i]'h').toNat : Int)) = decide (P.data.toList[p]'(by simpa using h) = S.data.toList[i]'(by simpa using h')) :=
  byteEq h (S[i]'h') _ rfl
theorem nhide {p : Prop} (h : p) : Hid p := h

set_option maxRecDepth 100000 in
set_option maxHeartbeats 1000000 in
theorem glob_any (P S : ByteArray) (w : World) (hP : P.size ≤ 140737488355328) (hS : S.size ≤ 140737488355328) :
    Calls Try.prog 19 #[.string P, .string S] w fun e w' => e = .returned (.bool (Nm.glob P.data.toList S.data.toList)) ∧ ∃ n, w' = w.drewN n := by
  obtain ⟨r, hr⟩ : ∃ r, r = Nm.glob P.data.toList S.data.toList := ⟨_, rfl⟩
  rw [← hr]
  have HR := nhide hr
  clear hr
  go_enter Try.func19, Try.ntmps19
  go_wp2_with fail
  go_step3
  go_wp2_with fail
  go_step3
  go_wp2_with fail
  go_loopw [5, 6, 7, 8] (fun vp vi vb vk wr => ∃ (p i : Nat) (b : Int) (k n : Nat), vp = .int .i64 p ∧ vi = .int .i64 i ∧ vb = .int .i64 b ∧ vk = .int .i64 k ∧ p ≤ P.size ∧ i ≤ S.size ∧ k ≤ i ∧ -1 ≤ b ∧ b ≤ p ∧ Hid (GInv P.data.toList S.data.toList p i b k) ∧ Hid (wr = w.drewN n)) (fun _ vi vb vk _ => gmeas P.size S.size (intOf vb + 1).toNat (intOf vk).toNat (intOf vi).toNat)
  case atStart => exact ⟨0, 0, -1, 0, 0, rfl, rfl, rfl, rfl, by omega, by omega, by omega, by omega, by omega, Or.inl ⟨rfl, Nm.inv_start _ _⟩, (World.drewN_zero (w := w)).symm⟩
  case round =>
    obtain ⟨p, i, b, k, n, rfl, rfl, rfl, rfl, hp, hi, hk, hb0, hb1, HI, HW⟩ := hrel
    have hn0 := i
    have HP := nhide hP
    have HS := nhide hS
    by_cases hp1 : p < P.size
    · have hp1' : p < P.data.toList.length := by simpa using hp1
      have e42 := byteEq hp1 42 42 rfl
      by_cases hc : P.data.toList[p]'hp1' = 42
      · rw [decide_eq_true hc] at e42
        have HN := nhide hc
        clear hc
        go_wp2_with fail
        go_roundw
        case rel =>
          refine ⟨p + 1, i, p + 1, i, n, by go_num, rfl, by go_num, rfl, by omega, hi, by omega, by omega, by omega, Or.inr ⟨p + 1, by omega, ?_⟩, HW⟩
          rcases HI.out with ⟨_, h⟩ | ⟨q, _, h⟩
          · exact Nm.inv_star _ _ _ _ _ h hp1' HN.out
          · exact Nm.inv_star _ _ _ _ _ h hp1' HN.out
        case measure =>
          simp only [intOf]
          apply gmeas_star <;> omega
      · rw [decide_eq_false hc] at e42
        have HN := nhide hc
        clear hc
        by_cases hie : i = S.size
        · have hbe : ((i : Int) == (S.size : Int)) = true := by simp [hie]
          have HE := nhide hie
          have hpf : ((p : Int) == (P.size : Int)) = false := by rw [beq_eq_false_iff_ne]; omega
          clear hie
          go_wp2_with fail
          have hrf : r = ((p : Int) == (P.size : Int)) := by
            rw [HR.out]
            have hx : ∀ x, Nm.Inv P.data.toList S.data.toList p i x → Nm.glob P.data.toList S.data.toList = decide (p = P.data.toList.length) := fun x h => Nm.inv_end _ _ _ _ x h (by simpa using HE.out) (fun _ => HN.out)
            have hy : decide (p = P.data.toList.length) = ((p : Int) == (P.size : Int)) := by
              rw [Bool.eq_iff_iff]; simp; omega
            rcases HI.out with ⟨h0, h⟩ | ⟨q, h0, h⟩
            · rw [hx _ h, hy]
            · rw [hx _ h, hy]
          try rw [Exit.noGoto_ret]
          go_ret
          exact ⟨by rw [hrf, hpf]; rfl, _, HW.out⟩
        · have hi1 : i < S.size := by omega
          have hbe : ((i : Int) == (S.size : Int)) = false := by rw [beq_eq_false_iff_ne]; omega
          have hi1' : i < S.data.toList.length := by simpa using hi1
          have e63 := byteEq hp1 63 63 rfl
          have eS := byteEq2 hp1 hi1
          clear hie
          by_cases h63 : P.data.toList[p]'hp1' = 63
          · rw [decide_eq_true h63] at e63
            have HM : Hid (P.data.toList[p]'hp1' = 63 ∨ P.data.toList[p]'hp1' = S.data.toList[i]'hi1') := Or.inl h63
            clear h63 eS
            go_wp2_with fail
            go_quiet (fail)
            go_wp2_with fail
            go_roundw
            case rel =>
              refine ⟨p + 1, i + 1, b, k, n + nq, by go_num, by go_num, rfl, rfl, by omega, by omega, by omega, hb0, by omega, ?_, by unfold Hid; rw [HW.out]; simp⟩
              rcases HI.out with ⟨h0, h⟩ | ⟨q, h0, h⟩
              · exact Or.inl ⟨h0, Nm.inv_same _ _ _ _ _ h hp1' hi1' HN.out (HM.out)⟩
              · exact Or.inr ⟨q, h0, Nm.inv_same _ _ _ _ _ h hp1' hi1' HN.out (HM.out)⟩
            case measure =>
              simp only [intOf]
              have : (((i + 1 : Nat) : Int)).toNat = i + 1 := by omega
              apply gmeas_same; omega
          · rw [decide_eq_false h63] at e63
            by_cases hsm : P.data.toList[p]'hp1' = S.data.toList[i]'hi1'
            · rw [decide_eq_true hsm] at eS
              have HM : Hid (P.data.toList[p]'hp1' = 63 ∨ P.data.toList[p]'hp1' = S.data.toList[i]'hi1') := Or.inr hsm
              clear hsm h63
              go_wp2_with fail
              go_quiet (fail)
              go_wp2_with fail
              go_roundw
              case rel =>
                refine ⟨p + 1, i + 1, b, k, n + nq, by go_num, by go_num, rfl, rfl, by omega, by omega, by omega, hb0, by omega, ?_, by unfold Hid; rw [HW.out]; simp⟩
                rcases HI.out with ⟨h0, h⟩ | ⟨q, h0, h⟩
                · exact Or.inl ⟨h0, Nm.inv_same _ _ _ _ _ h hp1' hi1' HN.out (HM.out)⟩
                · exact Or.inr ⟨q, h0, Nm.inv_same _ _ _ _ _ h hp1' hi1' HN.out (HM.out)⟩
              case measure =>
                simp only [intOf]
                have : (((i + 1 : Nat) : Int)).toNat = i + 1 := by omega
                apply gmeas_same; omega
            · rw [decide_eq_false hsm] at eS
              have HF : Hid (∀ hp : p < P.data.toList.length, ¬ P.data.toList[p] = 42 ∧ ¬ (P.data.toList[p] = 63 ∨ P.data.toList[p] = S.data.toList[i])) := fun hp => ⟨HN.out, fun e => e.elim h63 hsm⟩
              clear hsm h63
              by_cases hb2 : b < 0
              · go_wp2_with fail
                go_quiet (fail)
                go_wp2_with fail
                have hrf : r = false := by
                  rw [HR.out]
                  rcases HI.out with ⟨h0, h⟩ | ⟨q, h0, h⟩
                  · exact Nm.inv_none _ _ _ _ h hi1' HF.out
                  · omega
                rw [Exit.noGoto_ret]
                go_wp2_with fail
                go_ret
                exact ⟨by rw [hrf]; rfl, n + nq, by rw [HW.out, World.drewN_drewN]⟩
              · go_wp2_with fail
                go_quiet (fail)
                go_wp2_with fail
                go_roundw
                case rel =>
                  obtain ⟨q, h0, h⟩ : ∃ q : Nat, b = q ∧ Nm.Inv P.data.toList S.data.toList p i (some (q, k)) := by
                    rcases HI.out with ⟨h0, h⟩ | h
                    · omega
                    · exact h
                  have h2 := Nm.inv_back _ _ _ _ _ _ h hi1' HF.out
                  refine ⟨q, k + 1, b, k + 1, n + nq, by rw [h0], by go_num, rfl, by go_num, by have := h2.1; simpa using this, by omega, by omega, hb0, by omega, Or.inr ⟨q, h0, h2⟩, by unfold Hid; rw [HW.out]; simp⟩
                case measure =>
                  simp only [intOf]
                  have : (((k + 1 : Nat) : Int)).toNat = k + 1 := by omega
                  apply gmeas_back; omega
    · have hpe : p = P.size := by omega
      by_cases hie : i = S.size
      · have hbe : ((i : Int) == (S.size : Int)) = true := by simp [hie]
        have HE := nhide hie
        have hpf : ((p : Int) == (P.size : Int)) = true := by simp [hpe]
        clear hie
        go_wp2_with fail
        have hrf : r = ((p : Int) == (P.size : Int)) := by
          rw [HR.out]
          have hx : ∀ x, Nm.Inv P.data.toList S.data.toList p i x → Nm.glob P.data.toList S.data.toList = decide (p = P.data.toList.length) := fun x h => Nm.inv_end _ _ _ _ x h (by simpa using HE.out) (fun h => by simp at h; omega)
          have hy : decide (p = P.data.toList.length) = ((p : Int) == (P.size : Int)) := by
            rw [Bool.eq_iff_iff]; simp; omega
          rcases HI.out with ⟨h0, h⟩ | ⟨q, h0, h⟩
          · rw [hx _ h, hy]
          · rw [hx _ h, hy]
        try rw [Exit.noGoto_ret]
        go_ret
        exact ⟨by rw [hrf, hpf]; rfl, _, HW.out⟩
      · have hi1 : i < S.size := by omega
        have hbe : ((i : Int) == (S.size : Int)) = false := by rw [beq_eq_false_iff_ne]; omega
        have hi1' : i < S.data.toList.length := by simpa using hi1
        have HF : Hid (∀ hp : p < P.data.toList.length, ¬ P.data.toList[p] = 42 ∧ ¬ (P.data.toList[p] = 63 ∨ P.data.toList[p] = S.data.toList[i])) := fun hp => by simp at hp; omega
        have hd : decide (((p : Nat) : Int) < ((P.size : Nat) : Int)) = false := by simp; omega
        have HPE := nhide hpe
        clear hie hpe
        by_cases hb2 : b < 0
        · go_wp2_with fail
          go_quiet (fail)
          go_wp2_with fail
          have hrf : r = false := by
            rw [HR.out]
            rcases HI.out with ⟨h0, h⟩ | ⟨q, h0, h⟩
            · exact Nm.inv_none _ _ _ _ h hi1' HF.out
            · omega
          rw [Exit.noGoto_ret]
          go_wp2_with fail
          go_ret
          exact ⟨by rw [hrf]; rfl, n + nq, by rw [HW.out, World.drewN_drewN]⟩
        · go_wp2_with fail
          go_quiet (fail)
          go_wp2_with fail
          go_roundw
          case rel =>
            obtain ⟨q, h0, h⟩ : ∃ q : Nat, b = q ∧ Nm.Inv P.data.toList S.data.toList p i (some (q, k)) := by
              rcases HI.out with ⟨h0, h⟩ | h
              · omega
              · exact h
            have h2 := Nm.inv_back _ _ _ _ _ _ h hi1' HF.out
            refine ⟨q, k + 1, b, k + 1, n + nq, by rw [h0], by go_num, rfl, by go_num, by have := h2.1; simpa using this, by omega, by omega, hb0, by omega, Or.inr ⟨q, h0, h2⟩, by unfold Hid; rw [HW.out]; simp⟩
          case measure =>
            simp only [intOf]
            have : (((k + 1 : Nat) : Int)).toNat = k + 1 := by omega
            apply gmeas_back; omega
end Go.Proofs.Ytpfbiklbecdmiaa
