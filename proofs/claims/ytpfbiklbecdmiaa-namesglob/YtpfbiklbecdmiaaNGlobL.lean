/-
  THE WALK of NamesGlob.
-/
import Derived.Test.YtpfbiklbecdmiaaNParted
set_option linter.unusedVariables false
set_option linter.unusedSimpArgs false
namespace Go.Proofs.Ytpfbiklbecdmiaa
open Go.RowKit Go.Shelf Go.Sort

theorem szStar : (⟨#[42]⟩ : ByteArray).size = 1 := rfl
theorem szStar2 : (⟨#[42, 42]⟩ : ByteArray).size = 2 := rfl
theorem l_two {P Q S T : ByteArray} (h1 : Nm.glob P.data.toList S.data.toList = true) (h2 : Nm.glob Q.data.toList T.data.toList = true) : Nm.glob (P ++ Q).data.toList (S ++ T).data.toList = true := by
  rw [app_list, app_list]; exact Nm.glob_two _ _ _ _ h1 h2
theorem l_front {P S T : ByteArray} (h1 : Nm.glob P.data.toList S.data.toList = true) : Nm.glob (P ++ ⟨#[42]⟩).data.toList (S ++ T).data.toList = true := by
  rw [app_list, app_list]; exact Nm.glob_front P.data.toList S.data.toList T.data.toList h1
theorem l_behind {P S T : ByteArray} (h1 : Nm.glob P.data.toList S.data.toList = true) : Nm.glob (⟨#[42]⟩ ++ P).data.toList (T ++ S).data.toList = true := by
  rw [app_list, app_list]; exact Nm.glob_behind P.data.toList S.data.toList T.data.toList h1
theorem l_all (S : ByteArray) : Nm.glob (⟨#[42]⟩ : ByteArray).data.toList S.data.toList = true := Nm.glob_all S.data.toList
theorem l_one {P S : ByteArray} {x : Bool} (h : Nm.glob (P.data.toList ++ [42]) S.data.toList = x) : Nm.glob (P ++ ⟨#[42]⟩).data.toList S.data.toList = x := by
  rw [app_list]; exact h
theorem l_star {P S : ByteArray} {x : Bool} (h : Nm.glob (P.data.toList ++ [42]) S.data.toList = x) : Nm.glob (P ++ ⟨#[42, 42]⟩).data.toList S.data.toList = x := by
  rw [app_list]; exact (Nm.star_two P.data.toList S.data.toList).trans h
def np (c : UInt8) : Bool := decide (¬ c = 42) && decide (¬ c = 63)
theorem np_plain (l : List UInt8) (h : l.all np = true) : Nm.plainL l := by
  intro c hc
  have := List.all_eq_true.1 h c hc
  simpa [np] using this
theorem pat_len (zs : List Int) (len : Nat) : (Nm.pat zs len).length ≤ 48 := by
  have := Nm.pick_len 6 Nm.patTab (by decide) zs (min len 12)
  unfold Nm.pat
  omega

set_option maxRecDepth 100000 in
set_option maxHeartbeats 2000000 in
theorem namesGlob_walk (a0 : Option Addr) (len0 cap0 : Nat) (z0 : List Int) (a1 : Option Addr) (len1 cap1 : Nat) (z1 : List Int) (a2 : Option Addr) (len2 cap2 : Nat) (z2 : List Int) (a3 : Option Addr) (len3 cap3 : Nat) (z3 : List Int) (w : World) (w0 : IsRow .u8 w a0 len0 cap0 z0) (w1 : IsRow .u8 w a1 len1 cap1 z1) (w2 : IsRow .u8 w a2 len2 cap2 z2) (w3 : IsRow .u8 w a3 len3 cap3 z3) :
    Calls Try.prog 4 #[.slice a0 len0 cap0, .slice a1 len1 cap1, .slice a2 len2 cap2, .slice a3 len3 cap3] w fun e w' => e = .returned (.bool true) ∧ Below w.heap.size w w' := by
  have H0 : Hid (Bys w a0 len0 z0) := w0.view
  have H1 : Hid (Bys w a1 len1 z1) := w1.view
  have H2 : Hid (Bys w a2 len2 z2) := w2.view
  have H3 : Hid (Bys w a3 len3 z3) := w3.view
  clear w0 w1 w2 w3
  obtain ⟨P, hP⟩ : ∃ P : ByteArray, P = ⟨(Nm.pat z0 len0).toArray⟩ := ⟨_, rfl⟩
  obtain ⟨Q, hQ⟩ : ∃ Q : ByteArray, Q = ⟨(Nm.pat z1 len1).toArray⟩ := ⟨_, rfl⟩
  obtain ⟨S, hS⟩ : ∃ S : ByteArray, S = ⟨(Nm.pat z2 len2).toArray⟩ := ⟨_, rfl⟩
  obtain ⟨T, hT⟩ : ∃ T : ByteArray, T = ⟨(Nm.pat z3 len3).toArray⟩ := ⟨_, rfl⟩
  have hPs : P.size ≤ 48 := by rw [hP, arr_size]; exact pat_len _ _
  have hQs : Q.size ≤ 48 := by rw [hQ, arr_size]; exact pat_len _ _
  have hSs : S.size ≤ 48 := by rw [hS, arr_size]; exact pat_len _ _
  have hTs : T.size ≤ 48 := by rw [hT, arr_size]; exact pat_len _ _
  have HP := nhide hP
  have HQ := nhide hQ
  have HS := nhide hS
  have HT := nhide hT
  clear hP hQ hS hT
  go_enter Try.func4, Try.ntmps4
  go_wp2_with fail
  refine (pat_row a0 len0 cap0 z0 w H0.out).mono ?_
  rintro e w1 ⟨rfl, b1⟩
  rw [← HP.out]
  go_wp2_with fail
  refine (pat_row a1 len1 cap1 z1 w1 (H1.out.below b1)).mono ?_
  rintro e w2 ⟨rfl, b2⟩
  rw [← HQ.out]
  have b2' := nthen b1 b2
  clear b1 b2
  go_wp2_with fail
  refine (pat_row a2 len2 cap2 z2 w2 (H2.out.below b2')).mono ?_
  rintro e w3 ⟨rfl, b3⟩
  rw [← HS.out]
  have b3' := nthen b2' b3
  clear b2' b3
  go_wp2_with fail
  refine (pat_row a3 len3 cap3 z3 w3 (H3.out.below b3')).mono ?_
  rintro e w4 ⟨rfl, b4⟩
  rw [← HT.out]
  have cw4 := nthen b3' b4
  clear b3' b4 HP HQ HS HT H0 H1 H2 H3
  go_wp2_with fail
  go_loop [13, 14] (fun v i => ∃ (k : Nat) (b : Bool), k ≤ P.size ∧ i = .int .i64 k ∧ v = .bool b ∧ Hid (b = (P.data.toList.take k).all np)) (fun _ i => P.size - (intOf i).toNat)
  case atStart => exact ⟨0, true, by omega, rfl, rfl, rfl⟩
  case round =>
    obtain ⟨k, b, hk, rfl, rfl, HB⟩ := hrel
    by_cases hlt : k < P.size
    · have hlt' : k < P.data.toList.length := by rw [← Lib.size_eq]; exact hlt
      have hnx : (P.data.toList.take (k + 1)).all np = (b && np (P.data.toList[k]'hlt')) := by
        rw [List.take_succ_eq_append_getElem hlt', List.all_append, HB.out]; simp
      have HN := nhide hnx
      clear hnx
      cases b with
      | false =>
        go_wp2_with fail
        go_round
        case rel => exact ⟨k + 1, false, by omega, by go_num, rfl, by show _ = _; rw [HN.out]; rfl⟩
        case measure => simp [intOf]; omega
      | true =>
        have e42 := byteEq hlt 42 42 rfl
        have e63 := byteEq hlt 63 63 rfl
        by_cases h42 : P.data.toList[k]'hlt' = 42
        · rw [decide_eq_true h42] at e42
          have n42 : (((P[k]'hlt).toNat : Int) != 42) = false := by rw [bne, e42]; rfl
          have hf : np (P.data.toList[k]'hlt') = false := by unfold np; rw [decide_eq_false (fun h => h h42)]; rfl
          have HF := nhide hf
          clear hf h42 e63
          go_wp2_with fail
          go_round
          case rel => exact ⟨k + 1, false, by omega, by go_num, rfl, by show _ = _; rw [HN.out, HF.out]; rfl⟩
          case measure => simp [intOf]; omega
        · rw [decide_eq_false h42] at e42
          by_cases h63 : P.data.toList[k]'hlt' = 63
          · rw [decide_eq_true h63] at e63
            have n42 : (((P[k]'hlt).toNat : Int) != 42) = true := by rw [bne, e42]; rfl
            have n63 : (((P[k]'hlt).toNat : Int) != 63) = false := by rw [bne, e63]; rfl
            have hf : np (P.data.toList[k]'hlt') = false := by unfold np; rw [decide_eq_true h42, decide_eq_false (fun h => h h63)]; rfl
            have HF := nhide hf
            clear hf h42 h63
            go_wp2_with fail
            go_round
            case rel => exact ⟨k + 1, false, by omega, by go_num, rfl, by show _ = _; rw [HN.out, HF.out]; rfl⟩
            case measure => simp [intOf]; omega
          · rw [decide_eq_false h63] at e63
            have n42 : (((P[k]'hlt).toNat : Int) != 42) = true := by rw [bne, e42]; rfl
            have n63 : (((P[k]'hlt).toNat : Int) != 63) = true := by rw [bne, e63]; rfl
            have hf : np (P.data.toList[k]'hlt') = true := by unfold np; rw [decide_eq_true h42, decide_eq_true h63]; rfl
            have HF := nhide hf
            clear hf h42 h63
            go_wp2_with fail
            go_round
            case rel => exact ⟨k + 1, true, by omega, by go_num, rfl, by show _ = _; rw [HN.out, HF.out]; rfl⟩
            case measure => simp [intOf]; omega
    · have hb : b = P.data.toList.all np := by
        rw [HB.out, List.take_of_length_le (by rw [← Lib.size_eq]; omega)]
      have HBp : Hid (b = true → (P.toList == S.toList) = Nm.glob P.data.toList S.data.toList) := fun e => by
        rw [Nm.glob_plain _ _ (np_plain _ (by rw [← hb]; exact e)), Lib.toList_data, Lib.toList_data]
        rw [Bool.eq_iff_iff]; simp
      clear hb HB
      obtain ⟨xb, hx⟩ : ∃ x, Nm.glob (P.data.toList ++ [42]) S.data.toList = x := ⟨_, rfl⟩
      have HX1 : Hid (Nm.glob (P ++ ⟨#[42]⟩).data.toList S.data.toList = xb) := l_one hx
      have HX2 : Hid (Nm.glob (P ++ ⟨#[42, 42]⟩).data.toList S.data.toList = xb) := l_star hx
      clear hx
      cases hgp : Nm.glob P.data.toList S.data.toList with
      | false =>
        have HGP := nhide hgp
        clear hgp
        cases b with
        | true =>
          have eps : (P.toList == S.toList) = false := (HBp.out rfl).trans HGP.out
          clear HBp
          go_wp2_with fail
          refine (glob_is P S w4 false (by omega) (by omega) HGP.out).mono ?_
          rintro e w5 ⟨rfl, b5⟩
          have c5 := nthen cw4 b5
          clear b5
          go_upto_region 11 with fail
          have cWK := c5
          simp only [List.append_eq, List.cons_append, List.nil_append]
          go_wp2_with fail
          refine (nknown_any _).mono ?_
          rintro e wk ⟨rfl, bk⟩
          have cwk := nthen cWK bk
          clear bk
          go_wp2_with fail
          refine (glob_is P S wk false (by first | omega | decide) (by first | omega | decide) HGP.out).mono ?_
          rintro e w11 ⟨rfl, bw11⟩
          have cw11 := nthen cwk bw11
          clear bw11 cwk
          go_wp2_with fail
          refine (glob_is ⟨#[42]⟩ S w11 true (by first | omega | decide) (by first | omega | decide) (l_all S)).mono ?_
          rintro e w12 ⟨rfl, bw12⟩
          have cw12 := nthen cw11 bw12
          clear bw12 cw11
          go_wp2_with fail
          refine (glob_is (P ++ (⟨#[42, 42]⟩ : ByteArray)) S w12 xb (by rw [ByteArray.size_append]; (try simp only [szStar, szStar2]); omega) (by first | omega | decide) HX2.out).mono ?_
          rintro e w13 ⟨rfl, bw13⟩
          have cw13 := nthen cw12 bw13
          clear bw13 cw12
          go_wp2_with fail
          refine (glob_is (P ++ (⟨#[42]⟩ : ByteArray)) S w13 xb (by rw [ByteArray.size_append]; (try simp only [szStar, szStar2]); omega) (by first | omega | decide) HX1.out).mono ?_
          rintro e w14 ⟨rfl, bw14⟩
          have cw14 := nthen cw13 bw14
          clear bw14 cw13
          go_wp2_with fail
          refine (glob_is S S w14 true (by first | omega | decide) (by first | omega | decide) (Nm.glob_self S.data.toList)).mono ?_
          rintro e w15 ⟨rfl, bw15⟩
          have cw15 := nthen cw14 bw15
          clear bw15 cw14
          go_wp2_with fail
          refine (glob_is P S w15 false (by first | omega | decide) (by first | omega | decide) HGP.out).mono ?_
          rintro e w16 ⟨rfl, bw16⟩
          have cw16 := nthen cw15 bw16
          clear bw16 cw15
          go_wp2_with fail
          go_ret
          exact ⟨rfl, cw16⟩
        | false =>
          clear HBp
          go_wp2_with fail
          refine (glob_is P S w4 false (by omega) (by omega) HGP.out).mono ?_
          rintro e w5 ⟨rfl, b5⟩
          have c5 := nthen cw4 b5
          clear b5
          go_upto_region 11 with fail
          have cWK := c5
          simp only [List.append_eq, List.cons_append, List.nil_append]
          go_wp2_with fail
          refine (nknown_any _).mono ?_
          rintro e wk ⟨rfl, bk⟩
          have cwk := nthen cWK bk
          clear bk
          go_wp2_with fail
          refine (glob_is ⟨#[42]⟩ S wk true (by first | omega | decide) (by first | omega | decide) (l_all S)).mono ?_
          rintro e w11 ⟨rfl, bw11⟩
          have cw11 := nthen cwk bw11
          clear bw11 cwk
          go_wp2_with fail
          refine (glob_is (P ++ (⟨#[42, 42]⟩ : ByteArray)) S w11 xb (by rw [ByteArray.size_append]; (try simp only [szStar, szStar2]); omega) (by first | omega | decide) HX2.out).mono ?_
          rintro e w12 ⟨rfl, bw12⟩
          have cw12 := nthen cw11 bw12
          clear bw12 cw11
          go_wp2_with fail
          refine (glob_is (P ++ (⟨#[42]⟩ : ByteArray)) S w12 xb (by rw [ByteArray.size_append]; (try simp only [szStar, szStar2]); omega) (by first | omega | decide) HX1.out).mono ?_
          rintro e w13 ⟨rfl, bw13⟩
          have cw13 := nthen cw12 bw13
          clear bw13 cw12
          go_wp2_with fail
          refine (glob_is S S w13 true (by first | omega | decide) (by first | omega | decide) (Nm.glob_self S.data.toList)).mono ?_
          rintro e w14 ⟨rfl, bw14⟩
          have cw14 := nthen cw13 bw14
          clear bw14 cw13
          go_wp2_with fail
          refine (glob_is P S w14 false (by first | omega | decide) (by first | omega | decide) HGP.out).mono ?_
          rintro e w15 ⟨rfl, bw15⟩
          have cw15 := nthen cw14 bw15
          clear bw15 cw14
          go_wp2_with fail
          go_ret
          exact ⟨rfl, cw15⟩
      | true =>
        have HGP := nhide hgp
        clear hgp
        cases hgq : Nm.glob Q.data.toList T.data.toList with
        | false =>
          have HGQ := nhide hgq
          clear hgq
          cases b with
          | true =>
            have eps : (P.toList == S.toList) = true := (HBp.out rfl).trans HGP.out
            clear HBp
            go_wp2_with fail
            refine (glob_is P S w4 true (by omega) (by omega) HGP.out).mono ?_
            rintro e w5 ⟨rfl, b5⟩
            have c5 := nthen cw4 b5
            clear b5
            go_wp2_with fail
            refine (glob_is Q T w5 false (by omega) (by omega) HGQ.out).mono ?_
            rintro e w6 ⟨rfl, b6⟩
            have cWK := nthen c5 b6
            clear b6
            go_upto_region 11 with fail
            simp only [List.append_eq, List.cons_append, List.nil_append]
            go_wp2_with fail
            refine (nknown_any _).mono ?_
            rintro e wk ⟨rfl, bk⟩
            have cwk := nthen cWK bk
            clear bk
            go_wp2_with fail
            refine (glob_is P S wk true (by first | omega | decide) (by first | omega | decide) HGP.out).mono ?_
            rintro e w11 ⟨rfl, bw11⟩
            have cw11 := nthen cwk bw11
            clear bw11 cwk
            go_wp2_with fail
            refine (glob_is ⟨#[42]⟩ S w11 true (by first | omega | decide) (by first | omega | decide) (l_all S)).mono ?_
            rintro e w12 ⟨rfl, bw12⟩
            have cw12 := nthen cw11 bw12
            clear bw12 cw11
            go_wp2_with fail
            refine (glob_is (P ++ (⟨#[42, 42]⟩ : ByteArray)) S w12 xb (by rw [ByteArray.size_append]; (try simp only [szStar, szStar2]); omega) (by first | omega | decide) HX2.out).mono ?_
            rintro e w13 ⟨rfl, bw13⟩
            have cw13 := nthen cw12 bw13
            clear bw13 cw12
            go_wp2_with fail
            refine (glob_is (P ++ (⟨#[42]⟩ : ByteArray)) S w13 xb (by rw [ByteArray.size_append]; (try simp only [szStar, szStar2]); omega) (by first | omega | decide) HX1.out).mono ?_
            rintro e w14 ⟨rfl, bw14⟩
            have cw14 := nthen cw13 bw14
            clear bw14 cw13
            go_wp2_with fail
            refine (glob_is S S w14 true (by first | omega | decide) (by first | omega | decide) (Nm.glob_self S.data.toList)).mono ?_
            rintro e w15 ⟨rfl, bw15⟩
            have cw15 := nthen cw14 bw15
            clear bw15 cw14
            go_wp2_with fail
            refine (glob_is P S w15 true (by first | omega | decide) (by first | omega | decide) HGP.out).mono ?_
            rintro e w16 ⟨rfl, bw16⟩
            have cw16 := nthen cw15 bw16
            clear bw16 cw15
            go_wp2_with fail
            refine (glob_is (P ++ (⟨#[42]⟩ : ByteArray)) (S ++ T) w16 true (by rw [ByteArray.size_append]; (try simp only [szStar, szStar2]); omega) (by rw [ByteArray.size_append]; (try simp only [szStar, szStar2]); omega) (l_front HGP.out)).mono ?_
            rintro e w17 ⟨rfl, bw17⟩
            have cw17 := nthen cw16 bw17
            clear bw17 cw16
            go_wp2_with fail
            refine (glob_is ((⟨#[42]⟩ : ByteArray) ++ P) (T ++ S) w17 true (by rw [ByteArray.size_append]; (try simp only [szStar, szStar2]); omega) (by rw [ByteArray.size_append]; (try simp only [szStar, szStar2]); omega) (l_behind HGP.out)).mono ?_
            rintro e w18 ⟨rfl, bw18⟩
            have cw18 := nthen cw17 bw18
            clear bw18 cw17
            go_wp2_with fail
            go_ret
            exact ⟨rfl, cw18⟩
          | false =>
            clear HBp
            go_wp2_with fail
            refine (glob_is P S w4 true (by omega) (by omega) HGP.out).mono ?_
            rintro e w5 ⟨rfl, b5⟩
            have c5 := nthen cw4 b5
            clear b5
            go_wp2_with fail
            refine (glob_is Q T w5 false (by omega) (by omega) HGQ.out).mono ?_
            rintro e w6 ⟨rfl, b6⟩
            have cWK := nthen c5 b6
            clear b6
            go_upto_region 11 with fail
            simp only [List.append_eq, List.cons_append, List.nil_append]
            go_wp2_with fail
            refine (nknown_any _).mono ?_
            rintro e wk ⟨rfl, bk⟩
            have cwk := nthen cWK bk
            clear bk
            go_wp2_with fail
            refine (glob_is ⟨#[42]⟩ S wk true (by first | omega | decide) (by first | omega | decide) (l_all S)).mono ?_
            rintro e w11 ⟨rfl, bw11⟩
            have cw11 := nthen cwk bw11
            clear bw11 cwk
            go_wp2_with fail
            refine (glob_is (P ++ (⟨#[42, 42]⟩ : ByteArray)) S w11 xb (by rw [ByteArray.size_append]; (try simp only [szStar, szStar2]); omega) (by first | omega | decide) HX2.out).mono ?_
            rintro e w12 ⟨rfl, bw12⟩
            have cw12 := nthen cw11 bw12
            clear bw12 cw11
            go_wp2_with fail
            refine (glob_is (P ++ (⟨#[42]⟩ : ByteArray)) S w12 xb (by rw [ByteArray.size_append]; (try simp only [szStar, szStar2]); omega) (by first | omega | decide) HX1.out).mono ?_
            rintro e w13 ⟨rfl, bw13⟩
            have cw13 := nthen cw12 bw13
            clear bw13 cw12
            go_wp2_with fail
            refine (glob_is S S w13 true (by first | omega | decide) (by first | omega | decide) (Nm.glob_self S.data.toList)).mono ?_
            rintro e w14 ⟨rfl, bw14⟩
            have cw14 := nthen cw13 bw14
            clear bw14 cw13
            go_wp2_with fail
            refine (glob_is P S w14 true (by first | omega | decide) (by first | omega | decide) HGP.out).mono ?_
            rintro e w15 ⟨rfl, bw15⟩
            have cw15 := nthen cw14 bw15
            clear bw15 cw14
            go_wp2_with fail
            refine (glob_is (P ++ (⟨#[42]⟩ : ByteArray)) (S ++ T) w15 true (by rw [ByteArray.size_append]; (try simp only [szStar, szStar2]); omega) (by rw [ByteArray.size_append]; (try simp only [szStar, szStar2]); omega) (l_front HGP.out)).mono ?_
            rintro e w16 ⟨rfl, bw16⟩
            have cw16 := nthen cw15 bw16
            clear bw16 cw15
            go_wp2_with fail
            refine (glob_is ((⟨#[42]⟩ : ByteArray) ++ P) (T ++ S) w16 true (by rw [ByteArray.size_append]; (try simp only [szStar, szStar2]); omega) (by rw [ByteArray.size_append]; (try simp only [szStar, szStar2]); omega) (l_behind HGP.out)).mono ?_
            rintro e w17 ⟨rfl, bw17⟩
            have cw17 := nthen cw16 bw17
            clear bw17 cw16
            go_wp2_with fail
            go_ret
            exact ⟨rfl, cw17⟩
        | true =>
          have HGQ := nhide hgq
          clear hgq
          cases b with
          | true =>
            have eps : (P.toList == S.toList) = true := (HBp.out rfl).trans HGP.out
            clear HBp
            go_wp2_with fail
            refine (glob_is P S w4 true (by omega) (by omega) HGP.out).mono ?_
            rintro e w5 ⟨rfl, b5⟩
            have c5 := nthen cw4 b5
            clear b5
            go_wp2_with fail
            refine (glob_is Q T w5 true (by omega) (by omega) HGQ.out).mono ?_
            rintro e w6 ⟨rfl, b6⟩
            have cWK := nthen c5 b6
            clear b6
            go_upto_region 11 with fail
            simp only [List.append_eq, List.cons_append, List.nil_append]
            go_wp2_with fail
            refine (nknown_any _).mono ?_
            rintro e wk ⟨rfl, bk⟩
            have cwk := nthen cWK bk
            clear bk
            go_wp2_with fail
            refine (glob_is (P ++ Q) (S ++ T) wk true (by rw [ByteArray.size_append]; (try simp only [szStar, szStar2]); omega) (by rw [ByteArray.size_append]; (try simp only [szStar, szStar2]); omega) (l_two HGP.out HGQ.out)).mono ?_
            rintro e w11 ⟨rfl, bw11⟩
            have cw11 := nthen cwk bw11
            clear bw11 cwk
            go_wp2_with fail
            refine (glob_is P S w11 true (by first | omega | decide) (by first | omega | decide) HGP.out).mono ?_
            rintro e w12 ⟨rfl, bw12⟩
            have cw12 := nthen cw11 bw12
            clear bw12 cw11
            go_wp2_with fail
            refine (glob_is ⟨#[42]⟩ S w12 true (by first | omega | decide) (by first | omega | decide) (l_all S)).mono ?_
            rintro e w13 ⟨rfl, bw13⟩
            have cw13 := nthen cw12 bw13
            clear bw13 cw12
            go_wp2_with fail
            refine (glob_is (P ++ (⟨#[42, 42]⟩ : ByteArray)) S w13 xb (by rw [ByteArray.size_append]; (try simp only [szStar, szStar2]); omega) (by first | omega | decide) HX2.out).mono ?_
            rintro e w14 ⟨rfl, bw14⟩
            have cw14 := nthen cw13 bw14
            clear bw14 cw13
            go_wp2_with fail
            refine (glob_is (P ++ (⟨#[42]⟩ : ByteArray)) S w14 xb (by rw [ByteArray.size_append]; (try simp only [szStar, szStar2]); omega) (by first | omega | decide) HX1.out).mono ?_
            rintro e w15 ⟨rfl, bw15⟩
            have cw15 := nthen cw14 bw15
            clear bw15 cw14
            go_wp2_with fail
            refine (glob_is S S w15 true (by first | omega | decide) (by first | omega | decide) (Nm.glob_self S.data.toList)).mono ?_
            rintro e w16 ⟨rfl, bw16⟩
            have cw16 := nthen cw15 bw16
            clear bw16 cw15
            go_wp2_with fail
            refine (glob_is P S w16 true (by first | omega | decide) (by first | omega | decide) HGP.out).mono ?_
            rintro e w17 ⟨rfl, bw17⟩
            have cw17 := nthen cw16 bw17
            clear bw17 cw16
            go_wp2_with fail
            refine (glob_is (P ++ (⟨#[42]⟩ : ByteArray)) (S ++ T) w17 true (by rw [ByteArray.size_append]; (try simp only [szStar, szStar2]); omega) (by rw [ByteArray.size_append]; (try simp only [szStar, szStar2]); omega) (l_front HGP.out)).mono ?_
            rintro e w18 ⟨rfl, bw18⟩
            have cw18 := nthen cw17 bw18
            clear bw18 cw17
            go_wp2_with fail
            refine (glob_is ((⟨#[42]⟩ : ByteArray) ++ P) (T ++ S) w18 true (by rw [ByteArray.size_append]; (try simp only [szStar, szStar2]); omega) (by rw [ByteArray.size_append]; (try simp only [szStar, szStar2]); omega) (l_behind HGP.out)).mono ?_
            rintro e w19 ⟨rfl, bw19⟩
            have cw19 := nthen cw18 bw19
            clear bw19 cw18
            go_wp2_with fail
            go_ret
            exact ⟨rfl, cw19⟩
          | false =>
            clear HBp
            go_wp2_with fail
            refine (glob_is P S w4 true (by omega) (by omega) HGP.out).mono ?_
            rintro e w5 ⟨rfl, b5⟩
            have c5 := nthen cw4 b5
            clear b5
            go_wp2_with fail
            refine (glob_is Q T w5 true (by omega) (by omega) HGQ.out).mono ?_
            rintro e w6 ⟨rfl, b6⟩
            have cWK := nthen c5 b6
            clear b6
            go_upto_region 11 with fail
            simp only [List.append_eq, List.cons_append, List.nil_append]
            go_wp2_with fail
            refine (nknown_any _).mono ?_
            rintro e wk ⟨rfl, bk⟩
            have cwk := nthen cWK bk
            clear bk
            go_wp2_with fail
            refine (glob_is (P ++ Q) (S ++ T) wk true (by rw [ByteArray.size_append]; (try simp only [szStar, szStar2]); omega) (by rw [ByteArray.size_append]; (try simp only [szStar, szStar2]); omega) (l_two HGP.out HGQ.out)).mono ?_
            rintro e w11 ⟨rfl, bw11⟩
            have cw11 := nthen cwk bw11
            clear bw11 cwk
            go_wp2_with fail
            refine (glob_is ⟨#[42]⟩ S w11 true (by first | omega | decide) (by first | omega | decide) (l_all S)).mono ?_
            rintro e w12 ⟨rfl, bw12⟩
            have cw12 := nthen cw11 bw12
            clear bw12 cw11
            go_wp2_with fail
            refine (glob_is (P ++ (⟨#[42, 42]⟩ : ByteArray)) S w12 xb (by rw [ByteArray.size_append]; (try simp only [szStar, szStar2]); omega) (by first | omega | decide) HX2.out).mono ?_
            rintro e w13 ⟨rfl, bw13⟩
            have cw13 := nthen cw12 bw13
            clear bw13 cw12
            go_wp2_with fail
            refine (glob_is (P ++ (⟨#[42]⟩ : ByteArray)) S w13 xb (by rw [ByteArray.size_append]; (try simp only [szStar, szStar2]); omega) (by first | omega | decide) HX1.out).mono ?_
            rintro e w14 ⟨rfl, bw14⟩
            have cw14 := nthen cw13 bw14
            clear bw14 cw13
            go_wp2_with fail
            refine (glob_is S S w14 true (by first | omega | decide) (by first | omega | decide) (Nm.glob_self S.data.toList)).mono ?_
            rintro e w15 ⟨rfl, bw15⟩
            have cw15 := nthen cw14 bw15
            clear bw15 cw14
            go_wp2_with fail
            refine (glob_is P S w15 true (by first | omega | decide) (by first | omega | decide) HGP.out).mono ?_
            rintro e w16 ⟨rfl, bw16⟩
            have cw16 := nthen cw15 bw16
            clear bw16 cw15
            go_wp2_with fail
            refine (glob_is (P ++ (⟨#[42]⟩ : ByteArray)) (S ++ T) w16 true (by rw [ByteArray.size_append]; (try simp only [szStar, szStar2]); omega) (by rw [ByteArray.size_append]; (try simp only [szStar, szStar2]); omega) (l_front HGP.out)).mono ?_
            rintro e w17 ⟨rfl, bw17⟩
            have cw17 := nthen cw16 bw17
            clear bw17 cw16
            go_wp2_with fail
            refine (glob_is ((⟨#[42]⟩ : ByteArray) ++ P) (T ++ S) w17 true (by rw [ByteArray.size_append]; (try simp only [szStar, szStar2]); omega) (by rw [ByteArray.size_append]; (try simp only [szStar, szStar2]); omega) (l_behind HGP.out)).mono ?_
            rintro e w18 ⟨rfl, bw18⟩
            have cw18 := nthen cw17 bw18
            clear bw18 cw17
            go_wp2_with fail
            go_ret
            exact ⟨rfl, cw18⟩
end Go.Proofs.Ytpfbiklbecdmiaa
