/-
  The law ValueTexts: a list of texts that came in, up to a bound.
-/
import Derived.Test.YteijnkdfacndoaaVKnown
import Derived.Test.YteijnkdfacndoaaVWalksB
import Derived.Test.YteijnkdfacndoaaVWalksC
import Derived.Test.YteijnkdfacndoaaL1R
import Derived.Test.YteijnkdfacndoaaRVal
import Derived.Deep.DeepCutAuto
import Derived.Deep.CutBlock
import Derived.Lib.RuneBytes
set_option linter.unusedVariables false
set_option linter.unusedSimpArgs false
namespace Go.Proofs.Yteijnkdfacndoaa
open Go.RowKit

namespace V
theorem take_succ_getD (ks : List ByteArray) (j : Nat) (h : j < ks.length) : ks.take (j + 1) = ks.take j ++ [ks.getD j ByteArray.empty] := by
  have e : ks.getD j ByteArray.empty = ks[j] := by simp [List.getD, h]
  rw [e, List.take_succ_eq_append_getElem h]
theorem wtK_succ (ks : List ByteArray) (j : Nat) (h : j < ks.length) : wtK (ks.take (j + 1)) = wtK (ks.take j) + (1 + (ks.getD j ByteArray.empty).size) := by
  rw [take_succ_getD ks j h, wtK_append]
  simp [wtK]
theorem all_succ (ks : List ByteArray) (j : Nat) (h : j < ks.length) {K : ByteArray} (hK : K = ks.getD j ByteArray.empty) : (ks.take (j + 1)).all utf = ((ks.take j).all utf && utf K) := by
  rw [take_succ_getD ks j h, List.all_append, hK]
  simp
theorem utf_nil (s : ByteArray) (h : s.toList.isEmpty = true) : utf s = true := by
  have h2 : s.data.toList = [] := by
    have h3 : s.toList = [] := by simpa using h
    rw [← Lib.toList_data]
    exact h3
  unfold utf
  rw [h2]
  decide +kernel
theorem right_str (s : ByteArray) : right (str s) = utf s := by
  unfold str
  rw [right_mk]
  have e : textOk 3 s = utf s := by
    unfold textOk
    cases h : s.toList.isEmpty with
    | true => rw [utf_nil s h]; rfl
    | false => simp
  rw [e]
  have e1 : kindOk 3 = true := by decide
  have e2 : numOk 3 0 = true := by decide
  rw [e1, e2]
  simp [keysOk]
theorem right_texts (ks : List ByteArray) : right (texts ks) = ks.all utf := by
  unfold texts
  rw [right_mk, List.all_map]
  have e1 : kindOk 4 = true := by decide
  have e2 : numOk 4 0 = true := by decide
  have e3 : textOk 4 ⟨#[]⟩ = true := by decide +kernel
  have e4 : (right ∘ str) = utf := funext right_str
  rw [e1, e2, e3, e4]
  simp [keysOk]
theorem wt_texts (ks : List ByteArray) : wt (texts ks) = 1 + wtK ks := by
  unfold texts
  rw [wt_mk]
  have e : wtL (ks.map str) = wtK ks := by
    induction ks with
    | nil => rfl
    | cons k ks ih =>
      rw [List.map_cons, wtL_cons, ih]
      unfold str
      rw [wt_mk, wtL_nil]
      simp only [wtK]
      omega
  rw [e]
  have h5 : (⟨#[]⟩ : ByteArray).size = 0 := rfl
  simp only [wtK]
  omega
end V

set_option maxHeartbeats 1000000 in
set_option maxRecDepth 100000 in
theorem many_any {a : Option Addr} {n cap : Nat} {ks : List ByteArray} {w : World} {S : Nat → Prop} (h : Strs w S (.slice a n cap) ks) (hw : V.wtK ks ≤ 4294967296) (q : Bool) (hq : q = decide (200 < V.wtK ks)) :
    Calls Try.prog 12 #[.slice a n cap] w fun e w' => e = .returned (.bool q) ∧ Below w.heap.size w w' := by
  obtain ⟨rfl, hc1, hc2, hsz, hcell⟩ := h.out
  have hlen := V.wtK_len ks
  have HC := hide hcell
  have HQ := hide hq
  have HW := hide hw
  clear hsz hcell h hc1 hc2 hq
  go_enter Try.func12, Try.ntmps12
  go_wp2_with fail
  go_loopg [3, 4] ks.length (fun g nv iv wr => ∃ (j m : Nat), j + g = ks.length ∧ iv = .int .i64 j ∧ nv = .int .i64 m ∧ Hid (m = V.wtK (ks.take j)) ∧ Below w.heap.size w wr)
  case atStart => exact ⟨0, 0, by omega, rfl, rfl, rfl, Below.refl _ _⟩
  case round =>
    obtain ⟨j, m, hj, rfl, rfl, HM, bj⟩ := hrel
    by_cases hlt : j < ks.length
    · obtain ⟨b, off, K, rfl, hK, ej⟩ := str_at' HC.out bj hlt
      have h1 := V.wtK_succ ks j hlt
      have h2 := V.wtK_take ks (j + 1)
      have h3 := HW.out
      rw [← hK.out, ← HM.out] at h1
      have hb1 : IntKind.i64.wrap (1 + (K.size : Int)) = 1 + (K.size : Int) := by rw [IntKind.wrap_i64]; omega
      have hb2 : IntKind.i64.wrap ((m : Int) + (1 + (K.size : Int))) = ((m + (1 + K.size) : Nat) : Int) := by rw [IntKind.wrap_i64]; omega
      have H1 := hide h1
      clear h1 h2 h3
      go_wp2_with fail
      go_roundg (gk - 1)
      case measure => omega
      case rel => exact ⟨j + 1, m + (1 + K.size), by omega, rfl, rfl, H1.out.symm, bj⟩
    · have hje : j = ks.length := by omega
      have hm : m = V.wtK ks := by
        have := HM.out
        rw [hje, List.take_length] at this
        exact this
      have hqq : q = decide ((200 : Int) < (m : Int)) := by
        rw [HQ.out, ← hm, decide_eq_decide]
        omega
      clear hm
      go_wp2_with fail
      go_ret
      exact ⟨by rw [hqq]; rfl, bj⟩

set_option maxHeartbeats 4000000 in
set_option maxRecDepth 100000 in
theorem valueTexts_walk (a : Option Addr) (n cap : Nat) (ks : List ByteArray) (w : World) (S : Nat → Prop) (h : Strs w S (.slice a n cap) ks) (hw : V.wtK ks ≤ 1048576) :
    Calls Try.prog 8 #[.slice a n cap] w fun e w' => e = .returned (.bool true) ∧ Below w.heap.size w w' := by
  obtain ⟨rfl, hc1, hc2, hsz, hcell⟩ := h.out
  have hlen := V.wtK_len ks
  have HST := hide h
  have HC := hide hcell
  have HSZ := hide hsz
  have HW := hide hw
  clear h hc1 hc2 hsz hcell hw
  have hlen2 : ks.length ≤ 1048576 := Nat.le_trans hlen HW.out
  clear hlen
  go_enter Try.func8, Try.ntmps8
  go_wp2_with fail
  obtain ⟨q, hq⟩ : ∃ q, q = decide (200 < V.wtK ks) := ⟨_, rfl⟩
  refine (many_any HST.out (Nat.le_trans HW.out (by decide)) q hq).mono ?_
  rintro e w3 ⟨rfl, b3⟩
  clear hq
  cases q with
  | true =>
    go_wp2_with fail
    refine (known_any _).mono ?_
    rintro e w5 ⟨rfl, b5⟩
    go_wp2
    go_ret
    exact ⟨rfl, bthen b3 b5⟩
  | false =>
    go_wp2_with fail
    refine (texts_any (HST.out.below b3) (Nat.le_trans HW.out (by decide))).mono ?_
    rintro e w4 ⟨va, vn, vc, rfl, hv, b4⟩
    have HB34 := hide (bthen b3 b4)
    have hvn : vn = ks.length := by
      obtain ⟨kv, lv, hq, _, hl, _⟩ := hv.open
      simp only [Value.agg.injEq, Array.mk.injEq, List.cons.injEq, and_true] at hq
      obtain ⟨_, _, _, _, rfl⟩ := hq
      obtain ⟨a', cap', c', h1, _⟩ := hl
      simp only [Value.slice.injEq] at h1
      rw [h1.2.1]
      simp [V.texts]
    subst hvn
    have HV := hide hv
    clear hv b3 b4
    obtain ⟨y0, y1, y2, y3, y4⟩ := box5_new w4 (.int .i64 4) (.int .i64 0) (.string ⟨#[]⟩) (.slice none 0 0) (.slice va ks.length vc) 25
    go_wp2_with fail
    clear y0 y1 y2 y3 y4
    go_loopg [4, 5, 6] ks.length (fun g ok rt iv wr => ∃ j : Nat, j + g = ks.length ∧ ok = .bool true ∧ rt = .bool ((ks.take j).all V.utf) ∧ iv = .int .i64 j ∧ Hid (Below w4.heap.size w4 wr) ∧ Hid (Box5 wr w4.heap.size (.int .i64 4) (.int .i64 0) (.string ⟨#[]⟩) (.slice none 0 0) (.slice va ks.length vc)))
    case atStart => exact ⟨0, by omega, rfl, by simp, rfl, below_alloc _ _, box5_new w4 _ _ _ _ _ _⟩
    case round =>
      obtain ⟨j, hj, rfl, rfl, rfl, HBL, HBX⟩ := hrel
      by_cases hjn : j < ks.length
      · have hl0 : IsL w4 (fun b => w3.heap.size ≤ b) (.slice va ks.length vc) (V.texts ks).list := by
          obtain ⟨kv, lv, hq, _, hl, _⟩ := HV.out.open
          simp only [Value.agg.injEq, Array.mk.injEq, List.cons.injEq, and_true] at hq
          obtain ⟨_, _, _, _, rfl⟩ := hq
          exact hl
        obtain ⟨vb, vo, k3, m3, t3, a13, n13, c13, a23, n23, c23, rfl, hel, q0, q1, q2, q3, q4⟩ := isL_open hl0 HBL.out (i := j) (by simpa [V.texts] using hjn)
        obtain ⟨sb, so, K, rfl, HK, es⟩ := str_at' HC.out (bthen HB34.out HBL.out) hjn
        have hlk : (V.texts ks).list[j]'(by simpa [V.texts] using hjn) = ⟨3, 0, K, [], []⟩ := by
          rw [HK.out]
          have e : ks.getD j ByteArray.empty = ks[j] := by simp [List.getD, hjn]
          rw [e]
          simp [V.texts, V.str]
        rw [hlk] at hel
        have hks := getD_wt HW.out hjn
        rw [← HK.out] at hks
        have HKZ : Hid (K.size ≤ 281474976710656) := hide (by omega)
        have HKM : Hid (K.size ≤ maxLen) := hide (Nat.le_trans hks (by decide))
        have HKL : Hid (K.size ≤ maxLen) := HKM
        have HWE : Hid (V.wt ⟨3, 0, K, [], []⟩ ≤ 4294967296) := hide (by rw [V.wt_mk, V.wtL_nil]; simp only [V.wtK]; omega)
        have HEL := hide hel
        have HQ0 := hide q0
        have HQ1 := hide q1
        have HQ2 := hide q2
        have HQ3 := hide q3
        have HQ4 := hide q4
        have HSJ := hide es
        clear hlk hel q0 q1 q2 q3 q4 es hks hl0
        have hi0 : (0 : Int) ≤ (j : Int) := by omega
        have hi1 : (j : Int) < (ks.length : Int) := by omega
        go_upto_region 9 with fail
        refine' wp_region_facts [(fun _ _ v _ => v = (.pointer (some ⟨w4.heap.size, 4, none⟩))), (fun _ _ v _ => v = (.slice (some ⟨vb, vo, none⟩) ks.length vc)), (fun _ _ v _ => v = (.int .i64 (j : Int))), (fun _ _ v _ => v = (.pointer (some ⟨vb, vo + j * 5, none⟩))), (fun _ _ v _ => v = (.agg #[.int .i64 k3, .int .i64 m3, .string t3, .slice a13 n13 c13, .slice a23 n23 c23])), (fun _ _ v _ => v = (.slice (some ⟨sb, so, none⟩) ks.length cap)), (fun _ _ v _ => v = (.int .i64 (j : Int))), (fun _ _ v _ => v = (.pointer (some ⟨sb, so + j, none⟩))), (fun _ _ v _ => v = (.string K)), (fun _ _ v _ => v = (.agg #[.int .i64 3, .int .i64 0, .string K, .slice none 0 0, .slice none 0 0])), (fun _ _ v _ => v = (.bool true))] (by kernel_rfl) rfl ?hA (by kernel_rfl) (by kernel_rfl) (by kernel_rfl) rfl ?mono ?steps ?last
        case hA =>
          intro vs
          simp only [puts, Act.put, List.setIfInBounds_toArray, List.set_cons_zero, List.set_cons_succ, Nat.zero_add, Nat.reduceAdd]
          rfl
        case mono => exact ⟨mono_eq _, mono_eq _, mono_eq _, mono_eq _, mono_eq _, mono_eq _, mono_eq _, mono_eq _, mono_eq _, mono_eq _, mono_eq _, trivial⟩
        case steps =>
          intro Q'
          refine And.intro ?_ ?_
          · intro vs lo hi w' hM hd K' hK
            dsimp only at hK ⊢
            simp only [Act.put, List.setIfInBounds_toArray, List.set_cons_zero, List.set_cons_succ] at hK
            go_simp
            exact hK.out _ _ rfl (Below.refl _ _)
          refine And.intro ?_ ?_
          · intro vs lo hi w' hM hd K' hK
            dsimp only at hK ⊢
            simp only [Act.put, List.setIfInBounds_toArray, List.set_cons_zero, List.set_cons_succ] at hK
            have e0 : vs 0 = (.pointer (some ⟨w4.heap.size, 4, none⟩)) := hd 0 (by kernel_rfl)
            simp only [e0] at hK ⊢
            clear e0
            obtain ⟨y0, y1, y2, y3, y4⟩ := HBX.out.keep hM
            go_simp
            exact hK.out _ _ rfl (Below.refl _ _)
          refine And.intro ?_ ?_
          · intro vs lo hi w' hM hd K' hK
            dsimp only at hK ⊢
            simp only [Act.put, List.setIfInBounds_toArray, List.set_cons_zero, List.set_cons_succ] at hK
            go_simp
            exact hK.out _ _ rfl (Below.refl _ _)
          refine And.intro ?_ ?_
          · intro vs lo hi w' hM hd K' hK
            dsimp only at hK ⊢
            simp only [Act.put, List.setIfInBounds_toArray, List.set_cons_zero, List.set_cons_succ] at hK
            have e1 : vs 1 = (.slice (some ⟨vb, vo, none⟩) ks.length vc) := hd 1 (by kernel_rfl)
            have e2 : vs 2 = (.int .i64 (j : Int)) := hd 2 (by kernel_rfl)
            simp only [e1, e2] at hK ⊢
            clear e1 e2
            go_simp
            exact hK.out _ _ rfl (Below.refl _ _)
          refine And.intro ?_ ?_
          · intro vs lo hi w' hM hd K' hK
            dsimp only at hK ⊢
            simp only [Act.put, List.setIfInBounds_toArray, List.set_cons_zero, List.set_cons_succ] at hK
            have e3 : vs 3 = (.pointer (some ⟨vb, vo + j * 5, none⟩)) := hd 3 (by kernel_rfl)
            simp only [e3] at hK ⊢
            clear e3
            have q0 := cell_keep HQ0.out hM
            have q1 := cell_keep HQ1.out hM
            have q2 := cell_keep HQ2.out hM
            have q3 := cell_keep HQ3.out hM
            have q4 := cell_keep HQ4.out hM
            go_simp
            exact hK.out _ _ rfl (Below.refl _ _)
          refine And.intro ?_ ?_
          · intro vs lo hi w' hM hd K' hK
            dsimp only at hK ⊢
            simp only [Act.put, List.setIfInBounds_toArray, List.set_cons_zero, List.set_cons_succ] at hK
            go_simp
            exact hK.out _ _ rfl (Below.refl _ _)
          refine And.intro ?_ ?_
          · intro vs lo hi w' hM hd K' hK
            dsimp only at hK ⊢
            simp only [Act.put, List.setIfInBounds_toArray, List.set_cons_zero, List.set_cons_succ] at hK
            go_simp
            exact hK.out _ _ rfl (Below.refl _ _)
          refine And.intro ?_ ?_
          · intro vs lo hi w' hM hd K' hK
            dsimp only at hK ⊢
            simp only [Act.put, List.setIfInBounds_toArray, List.set_cons_zero, List.set_cons_succ] at hK
            have e5 : vs 5 = (.slice (some ⟨sb, so, none⟩) ks.length cap) := hd 5 (by kernel_rfl)
            have e6 : vs 6 = (.int .i64 (j : Int)) := hd 6 (by kernel_rfl)
            simp only [e5, e6] at hK ⊢
            clear e5 e6
            go_simp
            exact hK.out _ _ rfl (Below.refl _ _)
          refine And.intro ?_ ?_
          · intro vs lo hi w' hM hd K' hK
            dsimp only at hK ⊢
            simp only [Act.put, List.setIfInBounds_toArray, List.set_cons_zero, List.set_cons_succ] at hK
            have e7 : vs 7 = (.pointer (some ⟨sb, so + j, none⟩)) := hd 7 (by kernel_rfl)
            simp only [e7] at hK ⊢
            clear e7
            have q0 := cell_keep HSJ.out hM
            go_simp
            exact hK.out _ _ rfl (Below.refl _ _)
          refine And.intro ?_ ?_
          · intro vs lo hi w' hM hd K' hK
            dsimp only at hK ⊢
            simp only [Act.put, List.setIfInBounds_toArray, List.set_cons_zero, List.set_cons_succ] at hK
            have e8 : vs 8 = (.string K) := hd 8 (by kernel_rfl)
            simp only [e8] at hK ⊢
            clear e8
            go_simp
            refine (str_any K _ HKZ.out).mono ?_
            rintro e w7 ⟨rfl, b7⟩
            exact hK.out _ _ rfl b7
          refine And.intro ?_ ?_
          · intro vs lo hi w' hM hd K' hK
            dsimp only at hK ⊢
            simp only [Act.put, List.setIfInBounds_toArray, List.set_cons_zero, List.set_cons_succ] at hK
            have e4 : vs 4 = (.agg #[.int .i64 k3, .int .i64 m3, .string t3, .slice a13 n13 c13, .slice a23 n23 c23]) := hd 4 (by kernel_rfl)
            have e9 : vs 9 = (.agg #[.int .i64 3, .int .i64 0, .string K, .slice none 0 0, .slice none 0 0]) := hd 9 (by kernel_rfl)
            simp only [e4, e9] at hK ⊢
            clear e4 e9
            go_simp
            refine (same_any (HEL.out.below hM) (is_plain _ (fun _ => True) 3 0 K HKM.out) HWE.out HWE.out true ⟨fun _ => rfl, fun _ => rfl⟩).mono ?_
            rintro e w7 ⟨rfl, b7⟩
            exact hK.out _ _ rfl b7
          exact trivial
        case last =>
          intro vs lo hi w' hM hlo hap hall K' Q' hK
          have h10 : vs 10 = .bool true := hall.2.2.2.2.2.2.2.2.2.2.1
          dsimp only
          simp only [h10]
          clear h10 hall hap hlo
          go_simp
          refine hK.out _ _ ?_
          clear hK
          have HM := hide hM
          clear hM
          obtain ⟨z, hz⟩ : ∃ z, Gm.checkZ K.data.toList = z := ⟨_, rfl⟩
          have hs := cell_keep HSJ.out HM.out
          have HCZ := hide hz
          have hut : V.utf K = decide (z < 0) := by unfold V.utf; rw [hz]
          clear hz
          have hall1 : (ks.take (j + 1)).all V.utf = ((ks.take j).all V.utf && V.utf K) := V.all_succ ks j hjn (by rw [HK.out])
          rw [hut] at hall1
          cases hrt : (ks.take j).all V.utf with
          | true =>
            rw [hrt, Bool.true_and] at hall1
            have HA1 := hide hall1
            clear hall1 hut hrt
            go_wp2_with fail
            refine (refCheck_is K z _ HKL.out HCZ.out).mono ?_
            rintro e w9 ⟨rfl, b9⟩
            clear hs
            go_wp2_with fail
            go_roundg (gk - 1)
            case measure => omega
            case rel => exact ⟨j + 1, by omega, rfl, by rw [HA1.out], rfl, bthen HBL.out (bthen HM.out b9), (HBX.out.keep HM.out).keep b9⟩
          | false =>
            rw [hrt, Bool.false_and] at hall1
            have HA1 := hide hall1
            clear hall1 hut hrt hs
            go_wp2_with fail
            go_roundg (gk - 1)
            case measure => omega
            case rel => exact ⟨j + 1, by omega, rfl, by rw [HA1.out], rfl, bthen HBL.out HM.out, HBX.out.keep HM.out⟩
      · have hje : j = ks.length := by omega
        have htk : ks.take j = ks := by rw [hje, List.take_length]
        have hrt := V.right_texts ks
        rw [htk]
        clear htk hje
        obtain ⟨rr, hrr⟩ : ∃ r, ks.all V.utf = r := ⟨_, rfl⟩
        rw [hrr] at hrt ⊢
        have HRT := hide hrt
        clear hrt hrr
        obtain ⟨y0, y1, y2, y3, y4⟩ := id HBX.out
        go_wp2_with fail
        refine (known_any _).mono ?_
        rintro e w8 ⟨rfl, b8⟩
        clear y0 y1 y2 y3 y4
        obtain ⟨y0, y1, y2, y3, y4⟩ := HBX.out.keep b8
        go_wp2_with fail
        refine (right_any ((HV.out.below HBL.out).below b8) ?_ rr HRT.out).mono ?_
        · have h1 := HW.out
          rw [V.wt_texts]
          omega
        rintro e w9 ⟨rfl, b9⟩
        clear y0 y1 y2 y3 y4
        go_wp2_with fail
        go_ret
        refine ⟨?_, bthen HB34.out (bthen HBL.out (bthen b8 b9))⟩
        simp

end Go.Proofs.Yteijnkdfacndoaa
