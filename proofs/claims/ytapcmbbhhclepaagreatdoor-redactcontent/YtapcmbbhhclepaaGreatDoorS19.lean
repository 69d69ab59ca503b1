/-
  What this claim takes of the earlier layers' texts: CPrintC CPrintD CPrintE CPrintF CPrintG XHash XHashed.
-/
import Derived.Test.YtapcmbbhhclepaaGreatDoorS18
import Derived.Lib.AppendIntMem
import Derived.BigQuiet
set_option linter.unusedVariables false
set_option linter.unusedSimpArgs false
set_option maxRecDepth 100000
namespace Go.Proofs.YtapcmbbhhclepaaGreatDoor
open Go.RowKit
set_option maxHeartbeats 2000000 in
set_option maxRecDepth 100000 in
theorem value_nul (B b : Nat) (k n : Int) (t : ByteArray) (kv lv : Value) (w : World) (l : List UInt8) (q1 : (k == 1) = false) (q2 : (k == 2) = false) (q3 : (k == 3) = false) (q4 : (k == 4) = false) (q5 : (k == 5) = false) (h : Pr B b l w) (hBw : B ≤ w.heap.size) (hlen : l.length + 4 ≤ 70368744177664) :
    Calls Tryz.prog 82 #[.pointer (some ⟨b,0,none⟩),.agg #[.int .i64 k,.int .i64 n,.string t,kv,lv]] w fun e w' => e = .returned (.tuple #[]) ∧ Pr B b (l ++ Cn.nullW) w' ∧ Pw B b w w' := by
  have hal := below_alloc w (.cells #[.int .i64 k,.int .i64 n,.string t,kv,lv] 27)
  have HA : Hid _ := hal
  clear hal
  go_enter Tryz.func82,Tryz.ntmps82
  go_wp2_with fail
  have hs := HA.out.size
  refine (pString B b l _ _ (pr_later h HA.out) (by show l.length + 4 ≤ _; omega) (by omega)).mono ?_
  rintro e w1 ⟨rfl,h1,p1⟩
  have P1 : Hid (Pw B b w w1) := Pw.trans (Pw.of_below HA.out hBw) p1
  have H1 : Hid (Pr B b (l ++ Cn.nullW) w1) := h1
  clear h1 p1
  go_wp2
  go_end0
  exact ⟨rfl,H1.out,P1.out⟩
set_option maxHeartbeats 2000000 in
set_option maxRecDepth 100000 in
theorem value_list (B b : Nat) (n : Int) (t : ByteArray) (kv : Value) (a2 : Option Addr) (n2 c2 : Nat) (w : World) (l l' : List UInt8) (hBw : B ≤ w.heap.size)
    (hcall : ∀ w',Below w.heap.size w w' → Calls Tryz.prog 113 #[.pointer (some ⟨b,0,none⟩),.agg #[.int .i64 4,.int .i64 n,.string t,kv,.slice a2 n2 c2]] w' fun e w'' => e = .returned (.tuple #[]) ∧ Pr B b l' w'' ∧ Pw B b w' w'') :
    Calls Tryz.prog 82 #[.pointer (some ⟨b,0,none⟩),.agg #[.int .i64 4,.int .i64 n,.string t,kv,.slice a2 n2 c2]] w fun e w' => e = .returned (.tuple #[]) ∧ Pr B b l' w' ∧ Pw B b w w' := by
  have hal := below_alloc w (.cells #[.int .i64 4,.int .i64 n,.string t,kv,.slice a2 n2 c2] 27)
  have HA : Hid _ := hal
  clear hal
  go_enter Tryz.func82,Tryz.ntmps82
  go_wp2_with fail
  refine (hcall _ HA.out).mono ?_
  rintro e w1 ⟨rfl,h1,p1⟩
  have P1 : Hid (Pw B b w w1) := Pw.trans (Pw.of_below HA.out hBw) p1
  have H1 : Hid (Pr B b l' w1) := h1
  clear h1 p1
  go_wp2
  go_end0
  exact ⟨rfl,H1.out,P1.out⟩
set_option maxHeartbeats 2000000 in
set_option maxRecDepth 100000 in
theorem value_obj (B b : Nat) (n : Int) (t : ByteArray) (kv : Value) (a2 : Option Addr) (n2 c2 : Nat) (w : World) (l l' : List UInt8) (hBw : B ≤ w.heap.size)
    (hcall : ∀ w',Below w.heap.size w w' → Calls Tryz.prog 114 #[.pointer (some ⟨b,0,none⟩),.agg #[.int .i64 5,.int .i64 n,.string t,kv,.slice a2 n2 c2]] w' fun e w'' => e = .returned (.tuple #[]) ∧ Pr B b l' w'' ∧ Pw B b w' w'') :
    Calls Tryz.prog 82 #[.pointer (some ⟨b,0,none⟩),.agg #[.int .i64 5,.int .i64 n,.string t,kv,.slice a2 n2 c2]] w fun e w' => e = .returned (.tuple #[]) ∧ Pr B b l' w' ∧ Pw B b w w' := by
  have hal := below_alloc w (.cells #[.int .i64 5,.int .i64 n,.string t,kv,.slice a2 n2 c2] 27)
  have HA : Hid _ := hal
  clear hal
  go_enter Tryz.func82,Tryz.ntmps82
  go_wp2_with fail
  refine (hcall _ HA.out).mono ?_
  rintro e w1 ⟨rfl,h1,p1⟩
  have P1 : Hid (Pw B b w w1) := Pw.trans (Pw.of_below HA.out hBw) p1
  have H1 : Hid (Pr B b l' w1) := h1
  clear h1 p1
  go_wp2
  go_end0
  exact ⟨rfl,H1.out,P1.out⟩
set_option maxHeartbeats 2000000 in
set_option maxRecDepth 100000 in
theorem value_text (B b : Nat) (n : Int) (t : ByteArray) (kv lv : Value) (w : World) (l : List UInt8) (h : Pr B b l w) (hBw : B ≤ w.heap.size) (hts : t.size ≤ 4294967296) (hlen : l.length + (Gm.quote t.data.toList).length ≤ 70368744177664) :
    Calls Tryz.prog 82 #[.pointer (some ⟨b,0,none⟩),.agg #[.int .i64 3,.int .i64 n,.string t,kv,lv]] w fun e w' => e = .returned (.tuple #[]) ∧ Pr B b (l ++ Gm.quote t.data.toList) w' ∧ Pw B b w w' := by
  have HA : Hid (Below w.heap.size w (w.alloc (.cells #[.int .i64 3,.int .i64 n,.string t,kv,lv] 27))) := below_alloc w _
  have BX : Hid (Box5 (w.alloc (.cells #[.int .i64 3,.int .i64 n,.string t,kv,lv] 27)) w.heap.size (.int .i64 3) (.int .i64 n) (.string t) kv lv) := box5_new w _ _ _ _ _ _
  obtain ⟨QK,hQK⟩ : ∃ QK : ByteArray,QK = ⟨(Gm.quote t.data.toList).toArray⟩ := ⟨_,rfl⟩
  have HQ : Hid (QK = ⟨(Gm.quote t.data.toList).toArray⟩) := hQK
  have HQL : Hid (QK.data.toList = Gm.quote t.data.toList) := by show _ = _; rw [hQK]
  have HQS : Hid (QK.size = (Gm.quote t.data.toList).length) := by show _ = _; rw [hQK]; rfl
  have HTS : Hid (t.size ≤ 17592186044416) := by show t.size ≤ _; omega
  clear hQK hts
  go_enter Tryz.func82,Tryz.ntmps82
  go_wp2_with fail
  refine' wp_region_facts [(fun _ _ v _ => v = .pointer (some ⟨b,0,none⟩)),(fun _ _ v _ => v = .pointer (some ⟨b,0,none⟩)),(fun _ _ v _ => v = .pointer (some ⟨b,0,none⟩)),(fun _ _ v _ => v = .pointer (some ⟨w.heap.size,2,none⟩)),(fun _ _ v _ => v = .string t),(fun _ _ v _ => v = .string QK)] (by kernel_rfl) rfl ?hA (by kernel_rfl) (by kernel_rfl) (by kernel_rfl) rfl ?mono ?steps ?last
  case hA =>
    intro vs
    simp only [puts,Act.put,List.setIfInBounds_toArray,List.set_cons_zero,List.set_cons_succ,Nat.zero_add,Nat.reduceAdd]
    rfl
  case mono => exact ⟨mono_eq _,mono_eq _,mono_eq _,mono_eq _,mono_eq _,mono_eq _,trivial⟩
  case steps =>
    intro Q'
    refine And.intro ?_ ?_
    · intro vs lo hi w' hM hd K' hK
      dsimp only at hK ⊢
      simp only [Act.put,List.setIfInBounds_toArray,List.set_cons_zero,List.set_cons_succ] at hK
      go_simp
      exact hK.out _ _ rfl (Below.refl _ _)
    refine And.intro ?_ ?_
    · intro vs lo hi w' hM hd K' hK
      dsimp only at hK ⊢
      simp only [Act.put,List.setIfInBounds_toArray,List.set_cons_zero,List.set_cons_succ] at hK
      have e0 : vs 0 = .pointer (some ⟨b,0,none⟩) := hd 0 (by kernel_rfl)
      simp only [e0] at hK ⊢
      clear e0
      go_simp
      exact hK.out _ _ rfl (Below.refl _ _)
    refine And.intro ?_ ?_
    · intro vs lo hi w' hM hd K' hK
      dsimp only at hK ⊢
      simp only [Act.put,List.setIfInBounds_toArray,List.set_cons_zero,List.set_cons_succ] at hK
      have e1 : vs 1 = .pointer (some ⟨b,0,none⟩) := hd 1 (by kernel_rfl)
      simp only [e1] at hK ⊢
      clear e1
      go_simp
      exact hK.out _ _ rfl (Below.refl _ _)
    refine And.intro ?_ ?_
    · intro vs lo hi w' hM hd K' hK
      dsimp only at hK ⊢
      simp only [Act.put,List.setIfInBounds_toArray,List.set_cons_zero,List.set_cons_succ] at hK
      go_simp
      exact hK.out _ _ rfl (Below.refl _ _)
    refine And.intro ?_ ?_
    · intro vs lo hi w' hM hd K' hK
      dsimp only at hK ⊢
      simp only [Act.put,List.setIfInBounds_toArray,List.set_cons_zero,List.set_cons_succ] at hK
      have e3 : vs 3 = .pointer (some ⟨w.heap.size,2,none⟩) := hd 3 (by kernel_rfl)
      simp only [e3] at hK ⊢
      clear e3
      obtain ⟨y0,y1,y2,y3,y4⟩ := BX.out.keep hM
      go_simp
      exact hK.out _ _ rfl (Below.refl _ _)
    refine And.intro ?_ ?_
    · intro vs lo hi w' hM hd K' hK
      dsimp only at hK ⊢
      simp only [Act.put,List.setIfInBounds_toArray,List.set_cons_zero,List.set_cons_succ] at hK
      have e4 : vs 4 = .string t := hd 4 (by kernel_rfl)
      simp only [e4] at hK ⊢
      clear e4
      go_simp
      refine (quote_any t w' HTS.out).mono ?_
      rintro e w7 ⟨rfl,b7⟩
      rw [← HQ.out]
      exact hK.out _ _ rfl b7
    exact trivial
  case last =>
    intro vs lo hi w' hM hlo hap hall K' Q' hK
    have e2 : vs 2 = .pointer (some ⟨b,0,none⟩) := hall.2.2.1
    have e9 : vs 5 = .string QK := hall.2.2.2.2.2.1
    dsimp only
    simp only [e2,e9]
    clear e2 e9 hall hap hlo
    go_simp
    have hsM := hM.size
    have hsa := HA.out.size
    refine (pString B b _ QK _ (pr_later (pr_later h HA.out) hM) (by have := HQS.out; omega) (by omega)).mono ?_
    rintro e w3 ⟨rfl,h3,p3⟩
    refine hK.out _ _ ?_
    clear hK
    have P3 : Hid (Pw B b w w3) := Pw.trans (Pw.of_below (bthen HA.out hM) hBw) p3
    have H3 : Hid (Pr B b (l ++ Gm.quote t.data.toList) w3) := by
      show Pr B b _ _
      rw [← HQL.out]
      exact h3
    clear h3 p3 hM
    go_wp2
    go_end0
    exact ⟨rfl,H3.out,P3.out⟩
end Go.Proofs.YtapcmbbhhclepaaGreatDoor
namespace Go.Proofs.YtapcmbbhhclepaaGreatDoor
open Go.RowKit
theorem dec_digitsN : ∀ (f u : Nat),0 < f → u < 10 ^ f → Lib.decDigits u = Cn.digitsN f u := by
  intro f
  induction f with
  | zero => intro u h; omega
  | succ f ih =>
    intro u _ hu
    rw [Lib.decDigits]
    by_cases h : u < 10
    · simp [Cn.digitsN,h]
    · have hf : 0 < f := by
        rcases Nat.eq_zero_or_pos f with h0 | h0
        · subst h0; simp at hu; omega
        · exact h0
      have hq : u / 10 < 10 ^ f := by
        rw [Nat.pow_succ] at hu
        exact Nat.div_lt_of_lt_mul (by omega)
      simp only [dif_neg h,Cn.digitsN,if_neg h]
      rw [ih (u / 10) hf hq]
theorem itoa_digits (n : Int) (h0 : -9223372036854775808 ≤ n) (h1 : n ≤ 9223372036854775807) : Lib.itoa n = Cn.digits n := by
  unfold Lib.itoa Cn.digits
  by_cases h : n < 0
  · rw [if_pos h,if_pos h,dec_digitsN 20 _ (by decide) (by omega)]
  · rw [if_neg h,if_neg h,dec_digitsN 20 _ (by decide) (by omega)]
    congr 1
    omega
set_option maxHeartbeats 1000000 in
theorem formatInt_any (n : Int) (h0 : -9223372036854775808 ≤ n) (h1 : n ≤ 9223372036854775807) (w : World) (htab : Lib.TabIs Tryz.prog w "internal/strconv.uint64pow10" .u64 Lib.pow10Tab) :
    Calls Tryz.prog 111 #[.int .i64 n,.int .i64 10] w fun e w' => e = .returned (.string ⟨(Lib.itoa n).toArray⟩) ∧ Below w.heap.size w w' := by
  go_enter Tryz.func111,Tryz.ntmps111
  go_wp2_with fail
  refine (Tryz.internal_strconv_FormatInt_10 n h0 h1 w htab).mono ?_
  rintro e w1 ⟨rfl,k,os,rfl⟩
  have hb := Lib.below_grow w.heap.size w (Nat.le_refl _) k os
  go_wp2
  go_ret
  exact ⟨rfl,hb⟩
set_option maxHeartbeats 2000000 in
set_option maxRecDepth 100000 in
theorem value_int (B b : Nat) (n : Int) (t : ByteArray) (kv lv : Value) (w : World) (l : List UInt8) (h : Pr B b l w) (hBw : B ≤ w.heap.size) (hT : Tab B w) (h0 : -9223372036854775808 ≤ n) (h1 : n ≤ 9223372036854775807) (hlen : l.length + (Cn.digits n).length ≤ 70368744177664) :
    Calls Tryz.prog 82 #[.pointer (some ⟨b,0,none⟩),.agg #[.int .i64 2,.int .i64 n,.string t,kv,lv]] w fun e w' => e = .returned (.tuple #[]) ∧ Pr B b (l ++ Cn.digits n) w' ∧ Pw B b w w' := by
  have HA : Hid (Below w.heap.size w (w.alloc (.cells #[.int .i64 2,.int .i64 n,.string t,kv,lv] 27))) := below_alloc w _
  have BX : Hid (Box5 (w.alloc (.cells #[.int .i64 2,.int .i64 n,.string t,kv,lv] 27)) w.heap.size (.int .i64 2) (.int .i64 n) (.string t) kv lv) := box5_new w _ _ _ _ _ _
  obtain ⟨QK,hQK⟩ : ∃ QK : ByteArray,QK = ⟨(Lib.itoa n).toArray⟩ := ⟨_,rfl⟩
  have HQ : Hid (QK = ⟨(Lib.itoa n).toArray⟩) := hQK
  have HQL : Hid (QK.data.toList = Cn.digits n) := by show _ = _; rw [hQK,← itoa_digits n h0 h1]
  have HQS : Hid (QK.size = (Cn.digits n).length) := by show _ = _; rw [hQK,← itoa_digits n h0 h1]; rfl
  have HN0 : Hid (-9223372036854775808 ≤ n) := h0
  have HN1 : Hid (n ≤ 9223372036854775807) := h1
  have HT : Hid (Tab B w) := hT
  clear hQK h0 h1 hT
  go_enter Tryz.func82,Tryz.ntmps82
  go_wp2_with fail
  refine' wp_region_facts [(fun _ _ v _ => v = .pointer (some ⟨b,0,none⟩)),(fun _ _ v _ => v = .pointer (some ⟨b,0,none⟩)),(fun _ _ v _ => v = .pointer (some ⟨b,0,none⟩)),(fun _ _ v _ => v = .pointer (some ⟨w.heap.size,1,none⟩)),(fun _ _ v _ => v = .int .i64 n),(fun _ _ v _ => v = .string QK)] (by kernel_rfl) rfl ?hA (by kernel_rfl) (by kernel_rfl) (by kernel_rfl) rfl ?mono ?steps ?last
  case hA =>
    intro vs
    simp only [puts,Act.put,List.setIfInBounds_toArray,List.set_cons_zero,List.set_cons_succ,Nat.zero_add,Nat.reduceAdd]
    rfl
  case mono => exact ⟨mono_eq _,mono_eq _,mono_eq _,mono_eq _,mono_eq _,mono_eq _,trivial⟩
  case steps =>
    intro Q'
    refine And.intro ?_ ?_
    · intro vs lo hi w' hM hd K' hK
      dsimp only at hK ⊢
      simp only [Act.put,List.setIfInBounds_toArray,List.set_cons_zero,List.set_cons_succ] at hK
      go_simp
      exact hK.out _ _ rfl (Below.refl _ _)
    refine And.intro ?_ ?_
    · intro vs lo hi w' hM hd K' hK
      dsimp only at hK ⊢
      simp only [Act.put,List.setIfInBounds_toArray,List.set_cons_zero,List.set_cons_succ] at hK
      have e0 : vs 0 = .pointer (some ⟨b,0,none⟩) := hd 0 (by kernel_rfl)
      simp only [e0] at hK ⊢
      clear e0
      go_simp
      exact hK.out _ _ rfl (Below.refl _ _)
    refine And.intro ?_ ?_
    · intro vs lo hi w' hM hd K' hK
      dsimp only at hK ⊢
      simp only [Act.put,List.setIfInBounds_toArray,List.set_cons_zero,List.set_cons_succ] at hK
      have e1 : vs 1 = .pointer (some ⟨b,0,none⟩) := hd 1 (by kernel_rfl)
      simp only [e1] at hK ⊢
      clear e1
      go_simp
      exact hK.out _ _ rfl (Below.refl _ _)
    refine And.intro ?_ ?_
    · intro vs lo hi w' hM hd K' hK
      dsimp only at hK ⊢
      simp only [Act.put,List.setIfInBounds_toArray,List.set_cons_zero,List.set_cons_succ] at hK
      go_simp
      exact hK.out _ _ rfl (Below.refl _ _)
    refine And.intro ?_ ?_
    · intro vs lo hi w' hM hd K' hK
      dsimp only at hK ⊢
      simp only [Act.put,List.setIfInBounds_toArray,List.set_cons_zero,List.set_cons_succ] at hK
      have e3 : vs 3 = .pointer (some ⟨w.heap.size,1,none⟩) := hd 3 (by kernel_rfl)
      simp only [e3] at hK ⊢
      clear e3
      obtain ⟨y0,y1,y2,y3,y4⟩ := BX.out.keep hM
      go_simp
      exact hK.out _ _ rfl (Below.refl _ _)
    refine And.intro ?_ ?_
    · intro vs lo hi w' hM hd K' hK
      dsimp only at hK ⊢
      simp only [Act.put,List.setIfInBounds_toArray,List.set_cons_zero,List.set_cons_succ] at hK
      have e4 : vs 4 = .int .i64 n := hd 4 (by kernel_rfl)
      simp only [e4] at hK ⊢
      clear e4
      go_simp
      refine (formatInt_any n HN0.out HN1.out w' (HT.out w' ((HA.out.mono hBw).trans (hM.mono (Nat.le_trans hBw HA.out.size))))).mono ?_
      rintro e w7 ⟨rfl,b7⟩
      rw [← HQ.out]
      exact hK.out _ _ rfl b7
    exact trivial
  case last =>
    intro vs lo hi w' hM hlo hap hall K' Q' hK
    have e2 : vs 2 = .pointer (some ⟨b,0,none⟩) := hall.2.2.1
    have e9 : vs 5 = .string QK := hall.2.2.2.2.2.1
    dsimp only
    simp only [e2,e9]
    clear e2 e9 hall hap hlo
    go_simp
    have hsM := hM.size
    have hsa := HA.out.size
    refine (pString B b _ QK _ (pr_later (pr_later h HA.out) hM) (by have := HQS.out; omega) (by omega)).mono ?_
    rintro e w3 ⟨rfl,h3,p3⟩
    refine hK.out _ _ ?_
    clear hK
    have P3 : Hid (Pw B b w w3) := Pw.trans (Pw.of_below (bthen HA.out hM) hBw) p3
    have H3 : Hid (Pr B b (l ++ Cn.digits n) w3) := by
      show Pr B b _ _
      rw [← HQL.out]
      exact h3
    clear h3 p3 hM
    go_wp2
    go_end0
    exact ⟨rfl,H3.out,P3.out⟩
end Go.Proofs.YtapcmbbhhclepaaGreatDoor
namespace Go.Proofs.YtapcmbbhhclepaaGreatDoor
open Go.RowKit
set_option maxHeartbeats 2000000 in
set_option maxRecDepth 100000 in
theorem value_truth (B b : Nat) (n : Int) (t : ByteArray) (kv lv : Value) (w : World) (l : List UInt8) (h : Pr B b l w) (hBw : B ≤ w.heap.size) (R : List UInt8) (hR : R = if n = 0 then Cn.falseW else Cn.trueW) (hlen : l.length + R.length ≤ 70368744177664) :
    Calls Tryz.prog 82 #[.pointer (some ⟨b,0,none⟩),.agg #[.int .i64 1,.int .i64 n,.string t,kv,lv]] w fun e w' => e = .returned (.tuple #[]) ∧ Pr B b (l ++ R) w' ∧ Pw B b w w' := by
  have HA : Hid (Below w.heap.size w (w.alloc (.cells #[.int .i64 1,.int .i64 n,.string t,kv,lv] 27))) := below_alloc w _
  have BX : Hid (Box5 (w.alloc (.cells #[.int .i64 1,.int .i64 n,.string t,kv,lv] 27)) w.heap.size (.int .i64 1) (.int .i64 n) (.string t) kv lv) := box5_new w _ _ _ _ _ _
  obtain ⟨q,hq⟩ : ∃ q : Bool,(!(n == 0)) = q := ⟨_,rfl⟩
  obtain ⟨QK,hQK⟩ : ∃ QK : ByteArray,QK = ⟨(Lib.formatBool q).toArray⟩ := ⟨_,rfl⟩
  have HN : Hid ((!(n == 0)) = q) := hq
  have e0 : Lib.formatBool q = if n = 0 then Cn.falseW else Cn.trueW := by
    subst hq
    by_cases h0 : n = 0
    · subst h0; rfl
    · rw [if_neg h0]
      have : (!(n == 0)) = true := by simp [h0]
      rw [this]; rfl
  have HQ : Hid (QK = ⟨(Lib.formatBool q).toArray⟩) := hQK
  have HQL : Hid (QK.data.toList = R) := by show _ = _; rw [hQK,hR,← e0]
  have HQS : Hid (QK.size = R.length) := by show _ = _; rw [hQK,hR,← e0]; rfl
  clear hQK hq e0 hR
  go_enter Tryz.func82,Tryz.ntmps82
  go_wp2_with fail
  refine' wp_region_facts [(fun _ _ v _ => v = .pointer (some ⟨b,0,none⟩)),(fun _ _ v _ => v = .pointer (some ⟨b,0,none⟩)),(fun _ _ v _ => v = .pointer (some ⟨b,0,none⟩)),(fun _ _ v _ => v = .pointer (some ⟨w.heap.size,1,none⟩)),(fun _ _ v _ => v = .int .i64 n),(fun _ _ v _ => v = .bool q),(fun _ _ v _ => v = .string QK)] (by kernel_rfl) rfl ?hA (by kernel_rfl) (by kernel_rfl) (by kernel_rfl) rfl ?mono ?steps ?last
  case hA =>
    intro vs
    simp only [puts,Act.put,List.setIfInBounds_toArray,List.set_cons_zero,List.set_cons_succ,Nat.zero_add,Nat.reduceAdd]
    rfl
  case mono => exact ⟨mono_eq _,mono_eq _,mono_eq _,mono_eq _,mono_eq _,mono_eq _,mono_eq _,trivial⟩
  case steps =>
    intro Q'
    refine And.intro ?_ ?_
    · intro vs lo hi w' hM hd K' hK
      dsimp only at hK ⊢
      simp only [Act.put,List.setIfInBounds_toArray,List.set_cons_zero,List.set_cons_succ] at hK
      go_simp
      exact hK.out _ _ rfl (Below.refl _ _)
    refine And.intro ?_ ?_
    · intro vs lo hi w' hM hd K' hK
      dsimp only at hK ⊢
      simp only [Act.put,List.setIfInBounds_toArray,List.set_cons_zero,List.set_cons_succ] at hK
      have e0 : vs 0 = .pointer (some ⟨b,0,none⟩) := hd 0 (by kernel_rfl)
      simp only [e0] at hK ⊢
      clear e0
      go_simp
      exact hK.out _ _ rfl (Below.refl _ _)
    refine And.intro ?_ ?_
    · intro vs lo hi w' hM hd K' hK
      dsimp only at hK ⊢
      simp only [Act.put,List.setIfInBounds_toArray,List.set_cons_zero,List.set_cons_succ] at hK
      have e1 : vs 1 = .pointer (some ⟨b,0,none⟩) := hd 1 (by kernel_rfl)
      simp only [e1] at hK ⊢
      clear e1
      go_simp
      exact hK.out _ _ rfl (Below.refl _ _)
    refine And.intro ?_ ?_
    · intro vs lo hi w' hM hd K' hK
      dsimp only at hK ⊢
      simp only [Act.put,List.setIfInBounds_toArray,List.set_cons_zero,List.set_cons_succ] at hK
      go_simp
      exact hK.out _ _ rfl (Below.refl _ _)
    refine And.intro ?_ ?_
    · intro vs lo hi w' hM hd K' hK
      dsimp only at hK ⊢
      simp only [Act.put,List.setIfInBounds_toArray,List.set_cons_zero,List.set_cons_succ] at hK
      have e3 : vs 3 = .pointer (some ⟨w.heap.size,1,none⟩) := hd 3 (by kernel_rfl)
      simp only [e3] at hK ⊢
      clear e3
      obtain ⟨y0,y1,y2,y3,y4⟩ := BX.out.keep hM
      go_simp
      exact hK.out _ _ rfl (Below.refl _ _)
    refine And.intro ?_ ?_
    · intro vs lo hi w' hM hd K' hK
      dsimp only at hK ⊢
      simp only [Act.put,List.setIfInBounds_toArray,List.set_cons_zero,List.set_cons_succ] at hK
      have e4 : vs 4 = .int .i64 n := hd 4 (by kernel_rfl)
      simp only [e4] at hK ⊢
      clear e4
      go_simp
      exact hK.out _ _ (by rw [← HN.out]; try rfl) (Below.refl _ _)
    refine And.intro ?_ ?_
    · intro vs lo hi w' hM hd K' hK
      dsimp only at hK ⊢
      simp only [Act.put,List.setIfInBounds_toArray,List.set_cons_zero,List.set_cons_succ] at hK
      have e5 : vs 5 = .bool q := hd 5 (by kernel_rfl)
      simp only [e5] at hK ⊢
      clear e5
      go_simp
      refine (Tryz.strconv_FormatBool q w').mono ?_
      rintro e w7 ⟨rfl,rfl⟩
      rw [← HQ.out]
      exact hK.out _ _ rfl (Below.refl _ _)
    exact trivial
  case last =>
    intro vs lo hi w' hM hlo hap hall K' Q' hK
    have e2 : vs 2 = .pointer (some ⟨b,0,none⟩) := hall.2.2.1
    have e9 : vs 6 = .string QK := hall.2.2.2.2.2.2.1
    dsimp only
    simp only [e2,e9]
    clear e2 e9 hall hap hlo
    go_simp
    have hsM := hM.size
    have hsa := HA.out.size
    refine (pString B b _ QK _ (pr_later (pr_later h HA.out) hM) (by have := HQS.out; omega) (by omega)).mono ?_
    rintro e w3 ⟨rfl,h3,p3⟩
    refine hK.out _ _ ?_
    clear hK
    have P3 : Hid (Pw B b w w3) := Pw.trans (Pw.of_below (bthen HA.out hM) hBw) p3
    have H3 : Hid (Pr B b (l ++ R) w3) := by
      show Pr B b _ _
      rw [← HQL.out]
      exact h3
    clear h3 p3 hM
    go_wp2
    go_end0
    exact ⟨rfl,H3.out,P3.out⟩
end Go.Proofs.YtapcmbbhhclepaaGreatDoor
namespace Go.Proofs.YtapcmbbhhclepaaGreatDoor
open Go.RowKit
theorem joined_snoc (r : List UInt8) : ∀ rs : List (List UInt8),Cn.joined (rs ++ [r]) = Cn.joined rs ++ comOf rs.length ++ r
  | [] => by simp [Cn.joined,comOf]
  | [a] => by
    show Cn.joined [a,r] = _
    rw [Cn.joined_two,Cn.joined_one,Cn.joined_one]
    simp [comOf]
  | a :: b :: rs => by
    show Cn.joined (a :: b :: (rs ++ [r])) = _
    rw [Cn.joined_two,Cn.joined_two]
    have := joined_snoc r (b :: rs)
    rw [show b :: (rs ++ [r]) = (b :: rs) ++ [r] from rfl,this]
    simp [comOf]
theorem com_joined (rs : List (List UInt8)) : ∀ j,j ≤ rs.length → com (fun i => rs.getD i []) j = Cn.joined (rs.take j) := by
  intro j
  induction j with
  | zero => intro _; simp [com,Cn.joined]
  | succ j ih =>
    intro hj
    have hj' : j < rs.length := by omega
    rw [List.take_succ_eq_append_getElem hj',joined_snoc,← ih (by omega)]
    simp only [com,List.length_take]
    rw [show min j rs.length = j by omega]
    simp [List.getD,hj']
theorem com_all (rs : List (List UInt8)) (n : Nat) (h : n = rs.length) : com (fun i => rs.getD i []) n = Cn.joined rs := by
  subst h
  rw [com_joined rs _ (Nat.le_refl _),List.take_length]
theorem zip_row (ks : List ByteArray) (ls : List V) (i : Nat) (hi : i < ls.length) (hik : i < ks.length) :
    ((ks.zip (ls.map Cn.print)).map (fun p => Gm.quote p.1.data.toList ++ 58 :: p.2)).getD i [] = Gm.quote (ks.getD i ByteArray.empty).data.toList ++ 58 :: Cn.print ls[i] := by
  have h : i < ((ks.zip (ls.map Cn.print)).map (fun p => Gm.quote p.1.data.toList ++ 58 :: p.2)).length := by simp; omega
  have e : ks.getD i ByteArray.empty = ks[i] := by simp [List.getD,hik]
  rw [e,List.getD_eq_getElem?_getD,List.getElem?_eq_getElem h,Option.getD_some,List.getElem_map,List.getElem_zip]
  simp only [List.getElem_map]
theorem value_any (B b : Nat) : ∀ d,PrintsAt B b d Cn.print := by
  intro d
  induction d with
  | zero => intro v x w l h; exact h.elim
  | succ d ih =>
    intro v x w l h hr hwt hp hT hBw hlen
    obtain ⟨kv,a,cap,c,rfl,hk,h3,h4,h5,h6,h7⟩ := h
    rcases Cn.right_cases hr with rfl | ⟨q,rfl⟩ | ⟨n,rfl,hn0,hn1⟩ | ⟨s,rfl,_⟩ | ⟨ls,rfl,hall⟩ | ⟨ks,ls,rfl,_,hkl,hall⟩
    · rw [Cn.print_nul] at hlen ⊢
      exact value_nul B b 0 _ _ _ _ w l rfl rfl rfl rfl rfl hp hBw hlen
    · rw [Cn.print_truth] at hlen ⊢
      cases q with
      | true => exact value_truth B b 1 _ _ _ w l hp hBw _ rfl hlen
      | false => exact value_truth B b 0 _ _ _ w l hp hBw _ rfl hlen
    · rw [Cn.print_num] at hlen ⊢
      exact value_int B b n _ _ _ w l hp hBw hT (by omega) (by omega) hlen
    · rw [Cn.print_str] at hlen ⊢
      have hs : s.size ≤ 4294967296 := by
        have := hwt
        unfold V.str at this
        rw [V.wt_mk] at this
        omega
      exact value_text B b 0 s _ _ w l hp hBw hs hlen
    · rw [Cn.print_list] at hlen ⊢
      have hwl : V.wtL ls ≤ 4294967296 := by
        have := hwt
        unfold Cn.listV at this
        rw [V.wt_mk] at this
        omega
      have hcom := com_all (ls.map Cn.print) ls.length (by simp)
      rw [← hcom] at hlen ⊢
      refine value_list B b 0 _ _ _ _ _ w l _ hBw ?_
      intro w' hw'
      have hkp : Keeps (· < B) w w' := Keeps.of_below hw'
      exact list_of B b d Cn.print ih 4 0 _ kv a cap c ls w' l hwl (fun x hx => by simpa using (List.all_eq_true.1 hall) x hx) h3 h4 (h6.keep hkp) (fun i hi => (h7 i hi).keep hkp) (pr_later hp hw') (hT.keep (hw'.mono hBw)) (Nat.le_trans hBw hw'.size) _ (fun i hi => by simp [List.getD,hi]) (by simp only [List.length_cons,List.length_append,List.length_nil] at hlen; omega)
    · rw [Cn.print_obj] at hlen ⊢
      have hwl : V.wtL ls ≤ 4294967296 ∧ V.wtK ks ≤ 4294967296 := by
        have := hwt
        rw [V.wt_mk] at this
        omega
      obtain ⟨a1,cap1,rfl,hk2,hk3,hk4,hk5⟩ := hk
      have hcom := com_all ((ks.zip (ls.map Cn.print)).map (fun p => Gm.quote p.1.data.toList ++ 58 :: p.2)) ls.length (by simp; omega)
      rw [← hcom] at hlen ⊢
      dsimp only at hk2 hk4 hk5 ⊢
      rw [hkl] at hk2 hk5 ⊢
      refine value_obj B b 0 _ _ _ _ _ w l _ hBw ?_
      intro w' hw'
      have hkp : Keeps (· < B) w w' := Keeps.of_below hw'
      exact object_of B b d Cn.print ih 5 0 _ a1 cap1 ks a cap c ls w' l ls.length hwl.1 (fun x hx => by simpa using (List.all_eq_true.1 hall) x hx) hwl.2 hkl rfl hk2 hk3 (hk5.keep hkp) h3 h4 (h6.keep hkp) (fun i hi => (h7 i hi).keep hkp) (pr_later hp hw') (hT.keep (hw'.mono hBw)) (Nat.le_trans hBw hw'.size) _ (fun i hi => zip_row ks ls i hi (by omega)) (by simp only [List.length_cons,List.length_append,List.length_nil] at hlen; omega)
end Go.Proofs.YtapcmbbhhclepaaGreatDoor
namespace Go.Proofs.YtapcmbbhhclepaaGreatDoor
open Go.RowKit
set_option maxHeartbeats 2000000 in
set_option maxRecDepth 100000 in
theorem print_any {v : Value} {x : V} {w : World} {S : Nat → Prop} (h : Is w S v x) (hr : V.right x = true) (hwt : V.wt x ≤ 4294967296) (hlen : (Cn.print x).length ≤ 70368744177664) (hT : Tab w.heap.size w) (R : ByteArray) (hR : R = ⟨(Cn.print x).toArray⟩) :
    Calls Tryz.prog 50 #[v] w fun e w' => e = .returned (.string R) ∧ Below w.heap.size w w' := by
  have h' : Is w (· < w.heap.size) v x := h.weak (fun b hb _ => hb)
  obtain ⟨d,hd⟩ := h'
  have hd' := hd
  cases d with
  | zero => exact hd.elim
  | succ d =>
  obtain ⟨kv,a,cap,c,rfl,⟨a1,c1,rfl,_⟩,_⟩ := hd'
  have HR : Hid _ := hR
  clear hR
  go_enter Tryz.func50,Tryz.ntmps50
  go_wp2_with fail
  obtain ⟨o1,ho1⟩ : ∃ o,o = Obj.cells #[Value.int IntKind.i64 x.kind,Value.int IntKind.i64 x.num,Value.string x.text,Value.slice a1 x.keys.length c1,Value.slice a x.list.length cap] 27 := ⟨_,rfl⟩
  have hz : (w.alloc o1).heap.size = w.heap.size + 1 := by simp
  have hb1 := below_alloc w o1
  have hb2 := below_alloc (w.alloc o1) (.cells #[.pointer none,.slice none 0 0] 84)
  have hb := bthen hb1 hb2
  have hp0 : Pr (w.heap.size + 1) (w.heap.size + 1) [] ((w.alloc o1).alloc (.cells #[.pointer none,.slice none 0 0] 84)) := by
    have := Lib.fresh_isBuilder 84 5 (w.alloc o1)
    rw [hz] at this
    exact this
  have hdx : IsD ((w.alloc o1).alloc (.cells #[.pointer none,.slice none 0 0] 84)) (· < w.heap.size + 1) (d + 1) _ x := (hd.weak (S' := (· < w.heap.size + 1)) (fun b hb _ => by omega)).keep (Keeps.of_below hb)
  have hT2 : Tab (w.heap.size + 1) ((w.alloc o1).alloc (.cells #[.pointer none,.slice none 0 0] 84)) := fun w' k => hT.keep hb w' (k.mono (by omega))
  have hs := hb2.size
  rw [← ho1]
  refine (value_any (w.heap.size + 1) (w.heap.size + 1) (d + 1) _ x _ [] hdx hr hwt hp0 hT2 (by omega) (by simp; omega)).mono ?_
  rintro e w1 ⟨rfl,h1,p1⟩
  have B1 : Hid (Below w.heap.size w w1) := hb.trans (p1.1.mono (by omega))
  have H1 : Hid (Pr (w.heap.size + 1) (w.heap.size + 1) (Cn.print x) w1) := by
    show Pr _ _ _ _
    simpa using h1
  clear h1 p1 hT2 hdx hp0 hb hb1 hb2 hs hd hT
  go_wp2_with fail
  refine (pStr _ _ _ _ H1.out (by obtain ⟨c,t,e,_⟩ := Cn.print_head hr; rw [e]; simp)).mono ?_
  rintro e w2 ⟨rfl,b2⟩
  have B2 : Hid (Below w.heap.size w w2) := Below.trans B1.out (b2.mono (by omega))
  clear b2
  rw [← HR.out]
  go_wp2
  go_ret
  exact ⟨rfl,B2.out⟩
end Go.Proofs.YtapcmbbhhclepaaGreatDoor
namespace Go.Proofs.YtapcmbbhhclepaaGreatDoor
open Go.RowKit
namespace Xr
def sumText (l : List UInt8) : ByteArray := ⟨(Dig.Sl.text (Dig.Dg.sha (Dig.Sl.ints l))).toArray⟩
def hash (x : V) : ByteArray := sumText (Cn.print (rest x))
def ident (x : V) : ByteArray := ⟨(Dig.Sl.ident (Cn.print (redact x))).toArray⟩
def sealed (x : V) : V := sealedBy (hash x) x
def hashed (x : V) : Bool := decide ((told x).kind = 3) && ((told x).text.toList == (hash x).toList)
theorem sumText_size (l : List UInt8) : (sumText l).size ≤ 43 := by
  unfold sumText
  rw [Dig.str_size,Dig.Sl.text_length,Dig.Dg.sha_length]
  omega
theorem hash_size (x : V) : (hash x).size ≤ 43 := sumText_size _
theorem toList_str (l : List UInt8) : (⟨l.toArray⟩ : ByteArray).data.toList = l := by simp
end Xr
structure Tabs (w : World) : Prop where
  cubes : Dig.Cubes w
  tab : Tab w.heap.size w
theorem Tabs.below {w w' : World} (h : Tabs w) (b : Below w.heap.size w w') : Tabs w' :=
  ⟨h.cubes.below' b,fun w2 k2 => h.tab w2 (b.trans (k2.mono b.size))⟩
set_option maxHeartbeats 2000000 in
theorem hash_any {v : Value} {x : V} {w : World} {S : Nat → Prop} (h : Is w S v x) (hr : V.right x = true) (hwt : V.wt x ≤ 10000000) (hc : Xr.cost x ≤ 900000) (hT : Tabs w) :
    Calls Tryz.prog 28 #[v] w fun e w' => e = .returned (.string (Xr.hash x)) ∧ Below w.heap.size w w' := by
  obtain ⟨kv,lv,rfl,h2,h8,_⟩ := id h.open
  obtain ⟨a1,c1,rfl,_⟩ := id h2
  obtain ⟨a2,c2,_,rfl,_⟩ := id h8
  clear h2 h8
  have b0 := below_alloc w (.cells #[.int .i64 x.kind,.int .i64 x.num,.string x.text,.slice a1 x.keys.length c1,.slice a2 x.list.length c2] 27)
  have HI := hide (h.below b0)
  have HT := hide (hT.below b0)
  have B0 := hide b0
  have HWT := hide hwt
  have HR := hide (Xr.rest_right' hr)
  have HP : Hid ((Cn.print (Xr.rest x)).length ≤ 900000) := hide (by have h1 := Xr.print_cost (Xr.rest x); have h2 := Xr.cost_rest x; omega)
  have HW4 : Hid (V.wt (Xr.rest x) ≤ 4294967296) := hide (by have h1 := Xr.wt_rest x; omega)
  have HW1 : Hid (V.wt (V.without x kHashes) ≤ 1000000000) := hide (by have h1 := V.wt_without x kHashes; omega)
  unfold Xr.hash
  obtain ⟨R,hR⟩ : ∃ R : ByteArray,R = ⟨(Cn.print (Xr.rest x)).toArray⟩ := ⟨_,rfl⟩
  have hRl : R.data.toList = Cn.print (Xr.rest x) := by rw [hR]
  have HRS : Hid (R.size ≤ 1000000) := hide (by have h1 := HP.out; rw [← hRl,Xr.data_len] at h1; omega)
  rw [← hRl]
  have HRR := hide hR
  clear hR hRl b0 h hT hr hwt hc
  go_enter Tryz.func28,Tryz.ntmps28
  go_wp2_with fail
  refine (without_any HI.out (Nat.le_trans HWT.out (by decide)) kHashes).mono ?_
  rintro e w1 ⟨k3,n3,t3,a3,m3,c3,a4,m4,c4,rfl,h3,b3⟩
  have I3 := hide h3
  have T3 := hide (HT.out.below b3)
  have B3 := hide (bthen B0.out b3)
  clear h3 b3
  go_wp2_with fail
  refine (without_any I3.out HW1.out kUnsigned).mono ?_
  rintro e w2 ⟨k5,n5,t5,a5,m5,c5,a6,m6,c6,rfl,h5,b5⟩
  have b56 := below_alloc w2 (.cells #[.int .i64 k5,.int .i64 n5,.string t5,.slice a5 m5 c5,.slice a6 m6 c6] 27)
  have I5 : Hid (Is (w2.alloc (.cells #[.int .i64 k5,.int .i64 n5,.string t5,.slice a5 m5 c5,.slice a6 m6 c6] 27)) (fun _ => True) (.agg #[.int .i64 k5,.int .i64 n5,.string t5,.slice a5 m5 c5,.slice a6 m6 c6]) (Xr.rest x)) := hide ((h5.below b56).weak (fun _ _ _ => trivial))
  have T5 := hide (T3.out.below (bthen b5 b56))
  have B5 := hide (bthen B3.out (bthen b5 b56))
  clear h5 b5 b56
  go_wp2_with fail
  refine (print_any I5.out HR.out HW4.out (Nat.le_trans HP.out (by decide)) T5.out.tab R HRR.out).mono ?_
  rintro e w3 ⟨rfl,b7⟩
  have hcv := Lib.run_convert_string_bytes (P := Tryz.prog) w3 9 22 5 R Tryz.underlying9 Tryz.underlying22 Tryz.underlying5
  have b8 := Dig.below_bytes w3 R
  have I8 := hide (Dig.bytes_isB w3 R HRS.out)
  have T8 := hide (T5.out.below (bthen b7 b8))
  have B8 := hide (bthen B5.out (bthen b7 b8))
  clear b7 b8
  generalize Lib.bytesWorld w3 5 R = w8 at hcv I8 T8 B8
  generalize grownCap w3 R.size 0 5 = c8 at hcv I8
  go_wp2_with fail
  refine (Dig.digestI _ _ _ _ _ I8.out T8.out.cubes (by have := HRS.out; omega)).mono ?_
  rintro e w9 ⟨g9,rfl,h9,_,b9⟩
  have I9 := hide h9
  have B9 := hide (bthen B8.out b9)
  clear h9 b9 hcv
  go_wp2_with fail
  refine (Dig.sealText_any _ _ _ _ _ I9.out (by omega)).mono ?_
  rintro e w10 ⟨rfl,b10⟩
  go_wp2_with fail
  go_ret
  exact ⟨rfl,bthen B9.out b10⟩
set_option maxHeartbeats 2000000 in
theorem id_any {v : Value} {x : V} {w : World} {S : Nat → Prop} (h : Is w S v x) (hr : V.right x = true) (hwt : V.wt x ≤ 10000000) (hc : Xr.cost x ≤ 450000) (hT : Tabs w) :
    Calls Tryz.prog 21 #[v] w fun e w' => e = .returned (.string (Xr.ident x)) ∧ Below w.heap.size w w' := by
  obtain ⟨kv,lv,rfl,h2,h8,_⟩ := id h.open
  obtain ⟨a1,c1,rfl,_⟩ := id h2
  obtain ⟨a2,c2,_,rfl,_⟩ := id h8
  clear h2 h8
  have b0 := below_alloc w (.cells #[.int .i64 x.kind,.int .i64 x.num,.string x.text,.slice a1 x.keys.length c1,.slice a2 x.list.length c2] 27)
  have HI := hide (h.below b0)
  have HT := hide (hT.below b0)
  have B0 := hide b0
  have HWT := hide hwt
  have HR := hide (Xr.redact_right hr)
  have HP : Hid ((Cn.print (Xr.redact x)).length ≤ 900100) := hide (by have h1 := Xr.print_cost (Xr.redact x); have h2 := Xr.cost_redact x; omega)
  have HW4 : Hid (V.wt (Xr.redact x) ≤ 4294967296) := hide (by have h1 := Xr.wt_redact x; omega)
  unfold Xr.ident
  obtain ⟨R,hR⟩ : ∃ R : ByteArray,R = ⟨(Cn.print (Xr.redact x)).toArray⟩ := ⟨_,rfl⟩
  have hRl : R.data.toList = Cn.print (Xr.redact x) := by rw [hR]
  have HRS : Hid (R.size ≤ 1000000) := hide (by have h1 := HP.out; rw [← hRl,Xr.data_len] at h1; omega)
  rw [← hRl]
  have HRR := hide hR
  clear hR hRl b0 h hT hr hwt hc
  go_enter Tryz.func21,Tryz.ntmps21
  go_wp2_with fail
  refine (redact_any HI.out (Nat.le_trans HWT.out (by decide))).mono ?_
  rintro e w1 ⟨k3,n3,t3,a3,m3,c3,a4,m4,c4,rfl,h3,b3⟩
  have I3 := hide h3
  have T3 := hide (HT.out.below b3)
  have B3 := hide (bthen B0.out b3)
  clear h3 b3
  go_wp2_with fail
  refine (print_any I3.out HR.out HW4.out (Nat.le_trans HP.out (by decide)) T3.out.tab R HRR.out).mono ?_
  rintro e w3 ⟨rfl,b7⟩
  have T8 := hide (T3.out.below b7)
  have B8 := hide (bthen B3.out b7)
  clear b7
  go_wp2_with fail
  refine (Dig.ident_any R w3 HRS.out T8.out.cubes).mono ?_
  rintro e w9 ⟨rfl,b9⟩
  go_wp2_with fail
  go_ret
  exact ⟨rfl,bthen B8.out b9⟩
set_option maxHeartbeats 2000000 in
theorem sealed_any {v : Value} {x : V} {w : World} {S : Nat → Prop} (h : Is w S v x) (hr : V.right x = true) (hwt : V.wt x ≤ 10000000) (hc : Xr.cost x ≤ 900000) (hT : Tabs w) :
    Calls Tryz.prog 24 #[v] w fun e w' => ∃ k n t a1 n1 c1 a2 n2 c2,e = .returned (.agg #[.int .i64 k,.int .i64 n,.string t,.slice a1 n1 c1,.slice a2 n2 c2]) ∧ Is w' (fun b => w.heap.size ≤ b) (.agg #[.int .i64 k,.int .i64 n,.string t,.slice a1 n1 c1,.slice a2 n2 c2]) (Xr.sealed x) ∧ Below w.heap.size w w' := by
  obtain ⟨kv,lv,rfl,h2,h8,_⟩ := id h.open
  obtain ⟨a1,c1,rfl,_⟩ := id h2
  obtain ⟨a2,c2,_,rfl,_⟩ := id h8
  clear h2 h8
  have bA := below_alloc w (.cells #[.int .i64 x.kind,.int .i64 x.num,.string x.text,.slice a1 x.keys.length c1,.slice a2 x.list.length c2] 27)
  have bB := below_alloc (w.alloc (.cells #[.int .i64 x.kind,.int .i64 x.num,.string x.text,.slice a1 x.keys.length c1,.slice a2 x.list.length c2] 27)) (.cells #[.int .i64 0,.int .i64 0,.string ⟨#[]⟩,.slice none 0 0,.slice none 0 0] 27)
  have b0 := bthen bA bB
  have HI := hide (h.below b0)
  have HT := hide (hT.below b0)
  have B0 := hide b0
  have x0 := hide ((b5_new w (.int .i64 x.kind) (.int .i64 x.num) (.string x.text) (.slice a1 x.keys.length c1) (.slice a2 x.list.length c2) w.heap.size rfl).keep bB)
  have u0 := hide (b5_new (w.alloc (.cells #[.int .i64 x.kind,.int .i64 x.num,.string x.text,.slice a1 x.keys.length c1,.slice a2 x.list.length c2] 27)) (.int .i64 0) (.int .i64 0) (.string ⟨#[]⟩) (.slice none 0 0) (.slice none 0 0) (w.heap.size + 1) (by simp))
  have n0 : Hid (w.heap.size + 2 ≤ ((w.alloc (.cells #[.int .i64 x.kind,.int .i64 x.num,.string x.text,.slice a1 x.keys.length c1,.slice a2 x.list.length c2] 27)).alloc (.cells #[.int .i64 0,.int .i64 0,.string ⟨#[]⟩,.slice none 0 0,.slice none 0 0] 27)).heap.size) := hide (by simp)
  obtain ⟨w0,hw0⟩ : ∃ w0,w0 = (w.alloc (.cells #[.int .i64 x.kind,.int .i64 x.num,.string x.text,.slice a1 x.keys.length c1,.slice a2 x.list.length c2] 27)).alloc (.cells #[.int .i64 0,.int .i64 0,.string ⟨#[]⟩,.slice none 0 0,.slice none 0 0] 27) := ⟨_,rfl⟩
  rw [← hw0] at B0 HI HT x0 u0 n0
  have W0 := hide hw0
  have HWT := hide hwt
  have HR := hide hr
  have HC := hide hc
  have hsz := Xr.hash_size x
  unfold Xr.sealed
  obtain ⟨K,hK⟩ : ∃ K,Xr.hash x = K := ⟨_,rfl⟩
  rw [hK] at hsz ⊢
  have HSZ := hide hsz
  have HKK := hide hK
  clear bA bB b0 h hw0 hT hr hwt hc hsz hK
  have WS : Hid (V.wt (V.str K) ≤ 1000000000) := hide (by unfold V.str; rw [V.wt_mk]; have := HSZ.out; simp only [V.wtK,V.wtL_nil]; omega)
  have WM : Hid (V.wt (Xr.sumV K) ≤ 1000000000) := hide (by unfold Xr.sumV V.str; rw [V.wt_mk,V.wtL_cons,V.wt_mk]; have := HSZ.out; have e1 : kSum.size = 6 := rfl; have e2 : (⟨#[]⟩ : ByteArray).size = 0 := rfl; simp only [V.wtK,V.wtL_nil,e1,e2]; omega)
  have WN : Hid (V.wt V.nul ≤ 1000000000) := hide (by rw [Xr.wt_nul]; decide)
  have EM := hide (V.one_key kSum (V.str K))
  go_enter Tryz.func24,Tryz.ntmps24
  go_upto_region 1 with fail
  rw [← W0.out]
  obtain ⟨p0,p1,p2,p3,p4⟩ := x0.out.cells
  go_wp2_with fail
  clear p0 p1 p2 p3 p4
  refine (hash_any HI.out HR.out HWT.out HC.out HT.out).mono ?_
  rintro e w1 ⟨rfl,b1⟩
  have L1 := hide (bthen B0.out b1)
  have U1 := hide (u0.out.keep b1)
  have X1 := hide (x0.out.keep b1)
  have I1 := hide (HI.out.below b1)
  have N1 : Hid (w.heap.size + 2 ≤ w1.heap.size) := hide (by have := n0.out; have := b1.size; omega)
  clear b1
  rw [HKK.out]
  go_wp2_with fail
  refine (str_any K w1 (by have := HSZ.out; omega)).mono ?_
  rintro e w2 ⟨rfl,b2⟩
  have L2 := hide (bthen L1.out b2)
  have U2 := hide (U1.out.keep b2)
  have X2 := hide (X1.out.keep b2)
  have I2 := hide (I1.out.below b2)
  have N2 : Hid (w.heap.size + 2 ≤ w2.heap.size) := hide (by have := N1.out; have := b2.size; omega)
  clear b2
  go_wp2_with fail
  refine (with_any (is_plain w2 (fun _ => True) 0 0 ⟨#[]⟩ (by decide)) (is_plain w2 (fun _ => True) 3 0 K (Nat.le_trans HSZ.out (by decide))) WN.out WS.out kSum (by decide)).mono ?_
  rintro e w3 ⟨k3,n3,t3,a3,m3,c3,a4,m4,c4,rfl,h3,b3⟩
  have b34 := below_alloc w3 (.cells #[.int .i64 k3,.int .i64 n3,.string t3,.slice a3 m3 c3,.slice a4 m4 c4] 27)
  have I3 : Hid (Is (w3.alloc (.cells #[.int .i64 k3,.int .i64 n3,.string t3,.slice a3 m3 c3,.slice a4 m4 c4] 27)) (fun _ => True) (.agg #[.int .i64 k3,.int .i64 n3,.string t3,.slice a3 m3 c3,.slice a4 m4 c4]) (Xr.sumV K)) := hide (by
    have h4 := (h3.below b34).weak (S' := fun _ => True) (fun _ _ _ => trivial)
    have e4 : V.withV ⟨0,0,⟨#[]⟩,[],[]⟩ kSum ⟨3,0,K,[],[]⟩ = Xr.sumV K := EM.out
    rw [e4] at h4
    exact h4)
  have Y3 := hide (b5_new w3 (.int .i64 k3) (.int .i64 n3) (.string t3) (.slice a3 m3 c3) (.slice a4 m4 c4) _ rfl)
  have b35 := bthen b3 b34
  have L3 := hide (bthen L2.out b35)
  have U3 := hide (U2.out.keep b35)
  have X3 := hide (X2.out.keep b35)
  have J3 := hide (I2.out.below b35)
  have N3 : Hid (w.heap.size + 2 ≤ (w3.alloc (.cells #[.int .i64 k3,.int .i64 n3,.string t3,.slice a3 m3 c3,.slice a4 m4 c4] 27)).heap.size) := hide (by have := N2.out; have := b35.size; omega)
  clear b35 b34 h3 b3
  obtain ⟨p0,p1,p2,p3,p4⟩ := X3.out.cells
  obtain ⟨q0,q1,q2,q3,q4⟩ := Y3.out.cells
  go_wp2_with fail
  clear p0 p1 p2 p3 p4 q0 q1 q2 q3 q4
  refine (with_any J3.out I3.out (Nat.le_trans HWT.out (by decide)) WM.out kHashes (by decide)).mono ?_
  rintro e w6 ⟨k5,n5,t5,a15,n15,c15,a25,n25,c25,rfl,h7,b7⟩
  have U6 := hide (U3.out.keep b7)
  obtain ⟨q0,q1,q2,q3,q4⟩ := U6.out.cells
  have fu0 := U6.out.free 0
  have fu1 := U6.out.free 1
  have fu2 := U6.out.free 2
  have fu3 := U6.out.free 3
  have fu4 := U6.out.free 4
  go_wp2_with fail
  have hu := U6.out.all (.int .i64 k5) (.int .i64 n5) (.string t5) (.slice a15 n15 c15) (.slice a25 n25 c25)
  clear q0 q1 q2 q3 q4 fu0 fu1 fu2 fu3 fu4
  obtain ⟨p0,p1,p2,p3,p4⟩ := hu.cells
  have n5' := N3.out
  refine bodyPost_ret (v := .agg #[.int .i64 k5,.int .i64 n5,.string t5,.slice a15 n15 c15,.slice a25 n25 c25]) (by simp [results,Tryz.results24,go_sem,p0,p1,p2,p3,p4]) rfl ⟨_,_,_,_,_,_,_,_,_,rfl,?_,(bthen L3.out b7).trans (below5 (by omega) _ _ _ _ _)⟩
  exact (h7.keep (keeps_chain (by show ¬ ((w3.alloc (.cells #[.int .i64 k3,.int .i64 n3,.string t3,.slice a3 m3 c3,.slice a4 m4 c4] 27)).heap.size ≤ w.heap.size + 1); omega) _ _ _ _ _)).weak (fun b _ hb => by have h1 : (w3.alloc (.cells #[.int .i64 k3,.int .i64 n3,.string t3,.slice a3 m3 c3,.slice a4 m4 c4] 27)).heap.size ≤ b := hb; show w.heap.size ≤ b; omega)
end Go.Proofs.YtapcmbbhhclepaaGreatDoor
namespace Go.Proofs.YtapcmbbhhclepaaGreatDoor
open Go.RowKit
set_option maxHeartbeats 2000000 in
theorem hashed_any {v : Value} {x : V} {w : World} {S : Nat → Prop} (h : Is w S v x) (hr : V.right x = true) (hwt : V.wt x ≤ 10000000) (hc : Xr.cost x ≤ 900000) (hT : Tabs w) :
    Calls Tryz.prog 27 #[v] w fun e w' => e = .returned (.bool (Xr.hashed x)) ∧ Below w.heap.size w w' := by
  obtain ⟨kv,lv,rfl,h2,h8,_⟩ := id h.open
  obtain ⟨a1,c1,rfl,_⟩ := id h2
  obtain ⟨a2,c2,_,rfl,_⟩ := id h8
  clear h2 h8
  have b0 := below_alloc w (.cells #[.int .i64 x.kind,.int .i64 x.num,.string x.text,.slice a1 x.keys.length c1,.slice a2 x.list.length c2] 27)
  have HI := hide (h.below b0)
  have HT := hide (hT.below b0)
  have B0 := hide b0
  have x0 := hide (b5_new w (.int .i64 x.kind) (.int .i64 x.num) (.string x.text) (.slice a1 x.keys.length c1) (.slice a2 x.list.length c2) w.heap.size rfl)
  have HWT := hide hwt
  have HR := hide hr
  have HC := hide hc
  unfold Xr.hashed Xr.told
  obtain ⟨K,hK⟩ : ∃ K,Xr.hash x = K := ⟨_,rfl⟩
  rw [hK]
  have HKK := hide hK
  have hw1 := Xr.wt_getD x kHashes
  clear b0 h hr hwt hc hK hT
  obtain ⟨y,hy⟩ : ∃ y,(V.get x kHashes).getD V.nul = y := ⟨_,rfl⟩
  rw [hy] at hw1 ⊢
  have HYY := hide hy
  have HYW := hide hw1
  clear hy hw1
  obtain ⟨z,hz⟩ : ∃ z,(V.get y kSum).getD V.nul = z := ⟨_,rfl⟩
  rw [hz]
  have HZZ := hide hz
  clear hz
  obtain ⟨q,hq⟩ : ∃ q,(z.text.toList == K.toList) = q := ⟨_,rfl⟩
  rw [hq]
  have HQ := hide hq
  clear hq
  obtain ⟨R,hR⟩ : ∃ R,(decide (z.kind = 3) && q) = R := ⟨_,rfl⟩
  rw [hR]
  have HRR := hide hR
  clear hR
  go_enter Tryz.func27,Tryz.ntmps27
  go_wp2_with fail
  refine (getX_all HI.out kHashes (Nat.le_trans HWT.out (by decide))).mono ?_
  rintro e w1 ⟨k,n,t,d1,n1,e1,d2,n2,e2,is,rfl,his0,his,b1⟩
  rw [HYY.out] at his
  have b12 := below_alloc w1 (.cells #[.int .i64 k,.int .i64 n,.string t,.slice d1 n1 e1,.slice d2 n2 e2] 27)
  have b2 := bthen b1 b12
  have I2 := hide (his.below b12)
  have L2 := hide (bthen B0.out b2)
  have X2 := hide (x0.out.keep b2)
  have J2 := hide (HI.out.below b2)
  have T2 := hide (HT.out.below b2)
  clear his b1 b12 b2 his0
  go_wp2_with fail
  refine (getX_all I2.out kSum (Nat.le_trans HYW.out (Nat.le_trans HWT.out (by decide)))).mono ?_
  rintro e w3 ⟨k',n',t',f1,m1,g1,f2,m2,g2,is',rfl,hiz0,hiz,b3⟩
  rw [HZZ.out] at hiz
  obtain ⟨kv,lv,hv,hks,hls,_⟩ := hiz.open
  obtain ⟨ax,cx,hks2,_⟩ := hks
  obtain ⟨ay,cy,_,hls2,_⟩ := hls
  subst hks2 hls2
  simp only [Value.agg.injEq,Array.mk.injEq,List.cons.injEq,and_true,Value.int.injEq,Value.string.injEq,true_and,Value.slice.injEq] at hv
  obtain ⟨rfl,rfl,rfl,⟨rfl,rfl,rfl⟩,rfl,rfl,rfl⟩ := hv
  have b34 := below_alloc w3 (.cells #[.int .i64 z.kind,.int .i64 z.num,.string z.text,.slice f1 z.keys.length g1,.slice f2 z.list.length g2] 27)
  have b4 := bthen b3 b34
  have Z5 := hide (b5_new w3 (.int .i64 z.kind) (.int .i64 z.num) (.string z.text) (.slice f1 z.keys.length g1) (.slice f2 z.list.length g2) _ rfl)
  have L5 := hide (bthen L2.out b4)
  have X5 := hide (X2.out.keep b4)
  have J5 := hide (J2.out.below b4)
  have T5 := hide (T2.out.below b4)
  clear hiz b3 b34 b4 hiz0
  go_upto_region 3 with fail
  generalize w3.alloc (.cells #[.int .i64 z.kind,.int .i64 z.num,.string z.text,.slice f1 z.keys.length g1,.slice f2 z.list.length g2] 27) = w5 at Z5 L5 X5 J5 T5 ⊢
  generalize w3.heap.size = gz at Z5 ⊢
  by_cases h3 : z.kind = 3
  · have H3 : Hid ((z.kind == 3) = true) := hide (by rw [h3]; rfl)
    have e1 : R = q := by rw [← HRR.out,h3]; simp
    have HE := hide e1
    clear h3 e1
    refine' wp_region_facts [(fun _ _ v _ => v = (.pointer (some ⟨gz,0,none⟩))),(fun _ _ v _ => v = (.int .i64 z.kind)),(fun _ _ v _ => v = (.bool true)),(fun _ _ v _ => v = (.bool true)),(fun _ _ v _ => v = (.pointer (some ⟨gz,2,none⟩))),(fun _ _ v _ => v = (.string z.text)),(fun _ _ v _ => v = (.agg #[.int .i64 x.kind,.int .i64 x.num,.string x.text,.slice a1 x.keys.length c1,.slice a2 x.list.length c2])),(fun _ _ v _ => v = (.string K)),(fun _ _ v _ => v = (.bool q)),(fun _ _ v _ => v = (.bool q))] (by kernel_rfl) rfl ?hA (by kernel_rfl) (by kernel_rfl) (by kernel_rfl) rfl ?mono ?steps ?last
    case hA =>
      intro vs
      simp only [puts,Act.put,List.setIfInBounds_toArray,List.set_cons_zero,List.set_cons_succ,Nat.zero_add,Nat.reduceAdd]
      rfl
    case mono => exact ⟨mono_eq _,mono_eq _,mono_eq _,mono_eq _,mono_eq _,mono_eq _,mono_eq _,mono_eq _,mono_eq _,mono_eq _,trivial⟩
    case steps =>
      intro Q'
      refine And.intro ?_ ?_
      · intro vs lo hi w' hM hd K' hK
        dsimp only at hK ⊢
        simp only [Act.put,List.setIfInBounds_toArray,List.set_cons_zero,List.set_cons_succ] at hK
        go_simp
        exact hK.out _ _ rfl (Below.refl _ _)
      refine And.intro ?_ ?_
      · intro vs lo hi w' hM hd K' hK
        dsimp only at hK ⊢
        simp only [Act.put,List.setIfInBounds_toArray,List.set_cons_zero,List.set_cons_succ] at hK
        have e0 : vs 0 = (.pointer (some ⟨gz,0,none⟩)) := hd 0 (by kernel_rfl)
        simp only [e0] at hK ⊢
        clear e0
        obtain ⟨p0,p1,p2,p3,p4⟩ := (Z5.out.keep hM).cells
        go_simp
        exact hK.out _ _ rfl (Below.refl _ _)
      refine And.intro ?_ ?_
      · intro vs lo hi w' hM hd K' hK
        dsimp only at hK ⊢
        simp only [Act.put,List.setIfInBounds_toArray,List.set_cons_zero,List.set_cons_succ] at hK
        have e1 : vs 1 = (.int .i64 z.kind) := hd 1 (by kernel_rfl)
        simp only [e1] at hK ⊢
        clear e1
        have h3 := H3.out
        go_simp
        exact hK.out _ _ rfl (Below.refl _ _)
      refine And.intro ?_ ?_
      · intro vs lo hi w' hM hd K' hK
        dsimp only at hK ⊢
        simp only [Act.put,List.setIfInBounds_toArray,List.set_cons_zero,List.set_cons_succ] at hK
        have e2 : vs 2 = (.bool true) := hd 2 (by kernel_rfl)
        simp only [e2] at hK ⊢
        clear e2
        go_simp
        exact hK.out _ _ rfl (Below.refl _ _)
      refine And.intro ?_ ?_
      · intro vs lo hi w' hM hd K' hK
        dsimp only at hK ⊢
        simp only [Act.put,List.setIfInBounds_toArray,List.set_cons_zero,List.set_cons_succ] at hK
        have e3 : vs 3 = (.bool true) := hd 3 (by kernel_rfl)
        simp only [e3] at hK ⊢
        clear e3
        go_simp
        exact hK.out _ _ rfl (Below.refl _ _)
      refine And.intro ?_ ?_
      · intro vs lo hi w' hM hd K' hK
        dsimp only at hK ⊢
        simp only [Act.put,List.setIfInBounds_toArray,List.set_cons_zero,List.set_cons_succ] at hK
        have e4 : vs 4 = (.pointer (some ⟨gz,2,none⟩)) := hd 4 (by kernel_rfl)
        have e3 : vs 3 = (.bool true) := hd 3 (by kernel_rfl)
        simp only [e4,e3] at hK ⊢
        clear e4 e3
        obtain ⟨p0,p1,p2,p3,p4⟩ := (Z5.out.keep hM).cells
        go_simp
        exact hK.out _ _ rfl (Below.refl _ _)
      refine And.intro ?_ ?_
      · intro vs lo hi w' hM hd K' hK
        dsimp only at hK ⊢
        simp only [Act.put,List.setIfInBounds_toArray,List.set_cons_zero,List.set_cons_succ] at hK
        have e3 : vs 3 = (.bool true) := hd 3 (by kernel_rfl)
        simp only [e3] at hK ⊢
        clear e3
        obtain ⟨p0,p1,p2,p3,p4⟩ := (X5.out.keep hM).cells
        go_simp
        exact hK.out _ _ rfl (Below.refl _ _)
      refine And.intro ?_ ?_
      · intro vs lo hi w' hM hd K' hK
        dsimp only at hK ⊢
        simp only [Act.put,List.setIfInBounds_toArray,List.set_cons_zero,List.set_cons_succ] at hK
        have e6 : vs 6 = (.agg #[.int .i64 x.kind,.int .i64 x.num,.string x.text,.slice a1 x.keys.length c1,.slice a2 x.list.length c2]) := hd 6 (by kernel_rfl)
        have e3 : vs 3 = (.bool true) := hd 3 (by kernel_rfl)
        simp only [e6,e3] at hK ⊢
        clear e6 e3
        go_simp
        refine (hash_any (J5.out.below hM) HR.out HWT.out HC.out (T5.out.below hM)).mono ?_
        rintro e w7 ⟨rfl,b7⟩
        rw [HKK.out]
        exact hK.out _ _ rfl b7
      refine And.intro ?_ ?_
      · intro vs lo hi w' hM hd K' hK
        dsimp only at hK ⊢
        simp only [Act.put,List.setIfInBounds_toArray,List.set_cons_zero,List.set_cons_succ] at hK
        have e5 : vs 5 = (.string z.text) := hd 5 (by kernel_rfl)
        have e7 : vs 7 = (.string K) := hd 7 (by kernel_rfl)
        have e3 : vs 3 = (.bool true) := hd 3 (by kernel_rfl)
        simp only [e5,e7,e3] at hK ⊢
        clear e5 e7 e3
        have hq := HQ.out
        go_simp
        exact hK.out _ _ rfl (Below.refl _ _)
      refine And.intro ?_ ?_
      · intro vs lo hi w' hM hd K' hK
        dsimp only at hK ⊢
        simp only [Act.put,List.setIfInBounds_toArray,List.set_cons_zero,List.set_cons_succ] at hK
        have e3 : vs 3 = (.bool true) := hd 3 (by kernel_rfl)
        have e8 : vs 8 = (.bool q) := hd 8 (by kernel_rfl)
        simp only [e3,e8] at hK ⊢
        clear e3 e8
        go_simp
        exact hK.out _ _ rfl (Below.refl _ _)
      exact trivial
    case last =>
      intro vs lo hi w' hM hlo hap hall K' Q' hK
      have h9 : vs 9 = (.bool q) := hall.2.2.2.2.2.2.2.2.2.1
      dsimp only
      simp only [h9]
      clear h9 hall hap hlo
      go_simp
      refine hK.out _ _ ?_
      clear hK
      try go_wp2_with fail
      go_ret
      exact ⟨by rw [HE.out]; rfl,bthen L5.out hM⟩
  · have H3 : Hid ((z.kind == 3) = false) := hide (by simpa using h3)
    have e1 : R = false := by rw [← HRR.out]; simp [h3]
    have HE := hide e1
    clear h3 e1
    refine' wp_region_facts [(fun _ _ v _ => v = (.pointer (some ⟨gz,0,none⟩))),(fun _ _ v _ => v = (.int .i64 z.kind)),(fun _ _ v _ => v = (.bool false)),(fun _ _ v _ => v = (.bool false)),(fun _ _ v _ => v = undef),(fun _ _ v _ => v = undef),(fun _ _ v _ => v = undef),(fun _ _ v _ => v = undef),(fun _ _ v _ => v = undef),(fun _ _ v _ => v = (.bool false))] (by kernel_rfl) rfl ?hA (by kernel_rfl) (by kernel_rfl) (by kernel_rfl) rfl ?mono ?steps ?last
    case hA =>
      intro vs
      simp only [puts,Act.put,List.setIfInBounds_toArray,List.set_cons_zero,List.set_cons_succ,Nat.zero_add,Nat.reduceAdd]
      rfl
    case mono => exact ⟨mono_eq _,mono_eq _,mono_eq _,mono_eq _,mono_eq _,mono_eq _,mono_eq _,mono_eq _,mono_eq _,mono_eq _,trivial⟩
    case steps =>
      intro Q'
      refine And.intro ?_ ?_
      · intro vs lo hi w' hM hd K' hK
        dsimp only at hK ⊢
        simp only [Act.put,List.setIfInBounds_toArray,List.set_cons_zero,List.set_cons_succ] at hK
        go_simp
        exact hK.out _ _ rfl (Below.refl _ _)
      refine And.intro ?_ ?_
      · intro vs lo hi w' hM hd K' hK
        dsimp only at hK ⊢
        simp only [Act.put,List.setIfInBounds_toArray,List.set_cons_zero,List.set_cons_succ] at hK
        have e0 : vs 0 = (.pointer (some ⟨gz,0,none⟩)) := hd 0 (by kernel_rfl)
        simp only [e0] at hK ⊢
        clear e0
        obtain ⟨p0,p1,p2,p3,p4⟩ := (Z5.out.keep hM).cells
        go_simp
        exact hK.out _ _ rfl (Below.refl _ _)
      refine And.intro ?_ ?_
      · intro vs lo hi w' hM hd K' hK
        dsimp only at hK ⊢
        simp only [Act.put,List.setIfInBounds_toArray,List.set_cons_zero,List.set_cons_succ] at hK
        have e1 : vs 1 = (.int .i64 z.kind) := hd 1 (by kernel_rfl)
        simp only [e1] at hK ⊢
        clear e1
        have h3 := H3.out
        go_simp
        exact hK.out _ _ rfl (Below.refl _ _)
      refine And.intro ?_ ?_
      · intro vs lo hi w' hM hd K' hK
        dsimp only at hK ⊢
        simp only [Act.put,List.setIfInBounds_toArray,List.set_cons_zero,List.set_cons_succ] at hK
        have e2 : vs 2 = (.bool false) := hd 2 (by kernel_rfl)
        simp only [e2] at hK ⊢
        clear e2
        go_simp
        exact hK.out _ _ rfl (Below.refl _ _)
      refine And.intro ?_ ?_
      · intro vs lo hi w' hM hd K' hK
        dsimp only at hK ⊢
        simp only [Act.put,List.setIfInBounds_toArray,List.set_cons_zero,List.set_cons_succ] at hK
        have e3 : vs 3 = (.bool false) := hd 3 (by kernel_rfl)
        simp only [e3] at hK ⊢
        clear e3
        go_simp
        exact hK.out _ _ rfl (Below.refl _ _)
      refine And.intro ?_ ?_
      · intro vs lo hi w' hM hd K' hK
        dsimp only at hK ⊢
        simp only [Act.put,List.setIfInBounds_toArray,List.set_cons_zero,List.set_cons_succ] at hK
        have e4 : vs 4 = undef := hd 4 (by kernel_rfl)
        have e3 : vs 3 = (.bool false) := hd 3 (by kernel_rfl)
        simp only [e4,e3] at hK ⊢
        clear e4 e3
        go_simp
        exact hK.out _ _ rfl (Below.refl _ _)
      refine And.intro ?_ ?_
      · intro vs lo hi w' hM hd K' hK
        dsimp only at hK ⊢
        simp only [Act.put,List.setIfInBounds_toArray,List.set_cons_zero,List.set_cons_succ] at hK
        have e3 : vs 3 = (.bool false) := hd 3 (by kernel_rfl)
        simp only [e3] at hK ⊢
        clear e3
        go_simp
        exact hK.out _ _ rfl (Below.refl _ _)
      refine And.intro ?_ ?_
      · intro vs lo hi w' hM hd K' hK
        dsimp only at hK ⊢
        simp only [Act.put,List.setIfInBounds_toArray,List.set_cons_zero,List.set_cons_succ] at hK
        have e6 : vs 6 = undef := hd 6 (by kernel_rfl)
        have e3 : vs 3 = (.bool false) := hd 3 (by kernel_rfl)
        simp only [e6,e3] at hK ⊢
        clear e6 e3
        go_simp
        exact hK.out _ _ rfl (Below.refl _ _)
      refine And.intro ?_ ?_
      · intro vs lo hi w' hM hd K' hK
        dsimp only at hK ⊢
        simp only [Act.put,List.setIfInBounds_toArray,List.set_cons_zero,List.set_cons_succ] at hK
        have e5 : vs 5 = undef := hd 5 (by kernel_rfl)
        have e7 : vs 7 = undef := hd 7 (by kernel_rfl)
        have e3 : vs 3 = (.bool false) := hd 3 (by kernel_rfl)
        simp only [e5,e7,e3] at hK ⊢
        clear e5 e7 e3
        go_simp
        exact hK.out _ _ rfl (Below.refl _ _)
      refine And.intro ?_ ?_
      · intro vs lo hi w' hM hd K' hK
        dsimp only at hK ⊢
        simp only [Act.put,List.setIfInBounds_toArray,List.set_cons_zero,List.set_cons_succ] at hK
        have e3 : vs 3 = (.bool false) := hd 3 (by kernel_rfl)
        have e8 : vs 8 = undef := hd 8 (by kernel_rfl)
        simp only [e3,e8] at hK ⊢
        clear e3 e8
        go_simp
        exact hK.out _ _ rfl (Below.refl _ _)
      exact trivial
    case last =>
      intro vs lo hi w' hM hlo hap hall K' Q' hK
      have h9 : vs 9 = (.bool false) := hall.2.2.2.2.2.2.2.2.2.1
      dsimp only
      simp only [h9]
      clear h9 hall hap hlo
      go_simp
      refine hK.out _ _ ?_
      clear hK
      try go_wp2_with fail
      go_ret
      exact ⟨by rw [HE.out]; rfl,bthen L5.out hM⟩
end Go.Proofs.YtapcmbbhhclepaaGreatDoor
