/-
  What the laws of layer 5 call, and THE WALK of SealJoin.
-/
import Derived.Test.YtfcbooagedjkfaaDoorSId
import Derived.Test.YtfcbooagedjkfaaDoorDCut
set_option linter.unusedVariables false
set_option linter.unusedSimpArgs false
namespace Go.Proofs.YtfcbooagedjkfaaDoor
open Go.RowKit

set_option maxHeartbeats 1000000 in
theorem same_any (bs bs' : List Int) (a a' : Option Addr) (len cap len' cap' : Nat) (w : World) (hB : IsB w a len cap bs) (hB' : IsB w a' len' cap' bs') :
    Calls Tryd.prog 13 #[.slice a len cap, .slice a' len' cap'] w fun e w' => e = .returned (.bool (decide (bs = bs'))) ∧ Below w.heap.size w w' := by
  by_cases heq : bs = bs'
  · subst heq
    have hl : len = len' := by rw [← hB.1, ← hB'.1]
    subst hl
    rw [show decide (bs = bs) = true by simp]
    exact same_true bs a a' len cap cap' w hB hB'
  rw [show decide (bs = bs') = false by simp [heq]]
  have HB := hide hB
  have HB2 := hide hB'
  have HNE := hide heq
  have hlc := hB.2.1
  have hcx := hB.2.2.1
  have hlc' := hB'.2.1
  have hcx' := hB'.2.2.1
  clear hB hB' heq
  by_cases hll : len = len'
  · subst hll
    go_enter Tryd.func13, Tryd.ntmps13
    go_wp2_with fail
    go_loopw [5] (fun i wr => ∃ k : Nat, k ≤ len ∧ i = .int .i64 k ∧ Hid (bs.take k = bs'.take k) ∧ Hid (Below w.heap.size w wr)) (fun i _ => len - (intOf i).toNat)
    case atStart => exact ⟨0, by omega, rfl, by show [] = []; rfl, Below.refl _ _⟩
    case round =>
      obtain ⟨k, hk, rfl, HT, HBw⟩ := hrel
      by_cases hlt : k < len
      · obtain ⟨l1, _, _, _, ⟨_, z1⟩ | ⟨x1, rfl, r1⟩⟩ := HB.out.below HBw.out
        · omega
        obtain ⟨l2, _, _, _, ⟨_, z2⟩ | ⟨x2, rfl, r2⟩⟩ := HB2.out.below HBw.out
        · omega
        obtain ⟨b1, o1, rfl, q1⟩ := r1 (by omega)
        obtain ⟨b2, o2, rfl, q2⟩ := r2 (by omega)
        have c1 := q1 k (by omega)
        have c2 := q2 k (by omega)
        obtain ⟨v, hv⟩ : ∃ v, v = bs[k]?.getD 0 := ⟨_, rfl⟩
        obtain ⟨u, hu⟩ : ∃ u, u = bs'[k]?.getD 0 := ⟨_, rfl⟩
        rw [← hv] at c1
        rw [← hu] at c2
        have HV := hide hv
        have HU := hide hu
        clear hv hu q1 q2 r1 r2 l1 l2
        by_cases hvu : v = u
        · have hb : (v == u) = true := by rw [hvu]; simp
          have HVU := hide hvu
          clear hvu
          go_wp2_with fail
          go_quiet (fail)
          go_wp2_with fail
          go_roundw
          case rel =>
            refine ⟨k + 1, by omega, by go_num, ?_, below_drewN HBw.out _⟩
            show bs.take (k + 1) = bs'.take (k + 1)
            rw [List.take_succ_eq_append_getElem (by rw [HB.out.1]; exact hlt), List.take_succ_eq_append_getElem (by rw [HB2.out.1]; exact hlt), HT.out]
            have e1 : bs[k]'(by rw [HB.out.1]; exact hlt) = v := by rw [HV.out, List.getElem?_eq_getElem (by rw [HB.out.1]; exact hlt)]; rfl
            have e2 : bs'[k]'(by rw [HB2.out.1]; exact hlt) = u := by rw [HU.out, List.getElem?_eq_getElem (by rw [HB2.out.1]; exact hlt)]; rfl
            rw [e1, e2, HVU.out]
          case measure => simp [intOf]; omega
        · have hb : (v == u) = false := by simp [hvu]
          have HVU := hide hvu
          clear hvu
          go_wp2_with fail
          go_quiet (fail)
          go_wp2_with fail
          go_ret
          exact ⟨rfl, below_drewN HBw.out _⟩
      · exfalso
        have h1 := HT.out
        rw [List.take_of_length_le (by rw [HB.out.1]; omega), List.take_of_length_le (by rw [HB2.out.1]; omega)] at h1
        exact HNE.out h1
  · go_enter Tryd.func13, Tryd.ntmps13
    go_wp2_with fail
    go_ret
    exact ⟨rfl, Below.refl _ _⟩
theorem y8_isB {w : World} {a : Option Addr} {len cap : Nat} {bs : List Int} (h : IsB w a len cap bs) : Sl.Y8 bs := y8_of h.2.2.2.1
theorem b8_y8 {l : List Int} (h : Sl.Y8 l) : Dg.B8 l := Dg.b8_of_mem h

set_option maxRecDepth 100000 in
set_option maxHeartbeats 1000000 in
theorem sealJoin_walk (a0 : Option Addr) (len0 cap0 : Nat) (z0 : List Int) (a1 : Option Addr) (len1 cap1 : Nat) (z1 : List Int) (w : World) (w0 : IsRow .u8 w a0 len0 cap0 z0) (w1 : IsRow .u8 w a1 len1 cap1 z1) (hC : Cubes w) (s0 : len0 ≤ 140737488355328) (s1 : len1 ≤ 140737488355328) :
    Calls Tryd.prog 7 #[.slice a0 len0 cap0, .slice a1 len1 cap1] w fun e w' => e = .returned (.bool true) ∧ Below w.heap.size w w' := by
  have hA := w0.isB
  have hB := w1.isB
  generalize z0.take len0 = A at hA
  generalize z1.take len1 = B at hB
  have hlc := hA.2.1
  have HA := hide hA
  have HB := hide hB
  have HC := hide hC
  clear w0 w1 hA hB hC
  by_cases hlen : 200 < len0 + len1
  · go_enter Tryd.func7, Tryd.ntmps7
    go_wp2_with fail
    refine (sealKnown_any _ HC.out).mono ?_
    rintro e w2 ⟨rfl, b2⟩
    go_wp2_with fail
    go_ret
    exact ⟨rfl, b2⟩
  · obtain ⟨m, hm⟩ : ∃ m, m = len0 / 3 * 3 := ⟨_, rfl⟩
    have hdiv : (len0 : Int) / 3 * 3 = (m : Int) := by omega
    have hml : m ≤ len0 := by omega
    have hsl : ∀ w, (Instr.sliceAt 22 (.slice a0 len0 cap0) none (some (.int .i64 ((len0 : Int) / 3 * 3))) none).run Tryd.prog w = .ok (.slice (cutA a0 0 cap0) m cap0) w := fun w => by rw [hdiv]; exact run_slice_front w a0 len0 cap0 m hml hlc
    have hF := (HA.out.cut0).front hml
    have hFl : (A.take m).length % 3 = 0 := by rw [hF.1]; omega
    generalize A.take m = F at hF hFl
    have HF := hide hF
    have HFl := hide hFl
    clear hm hdiv hF hFl
    generalize cutA a0 0 cap0 = af at hsl HF
    obtain ⟨x1, c1, W1, hrun1, hown1, hgr1⟩ := append_isB w.heap.size (.slice none 0 0) 0 [] (World.ownsRow_nil _ _ _ _) HF.out (by omega) (Nat.le_refl _)
    rw [Nat.zero_add] at hrun1 hown1
    rw [List.nil_append] at hown1
    have b1 : Below w.heap.size w W1 := (Below.refl _ _).grown hgr1 (Nat.le_refl _) (fun k hk => by cases hk)
    have HO1 := hide hown1
    have HB1 := hide b1
    clear hown1 hgr1 b1
    obtain ⟨x2, c2, W2, hrun2, hown2, hgr2⟩ := append_isB w.heap.size _ _ _ HO1.out (HB.out.below HB1.out) (by omega) HB1.out.size
    have b2 : Below w.heap.size w W2 := HB1.out.grown hgr2 HB1.out.size (own_block HO1.out)
    have hY : Dg.B8 (F ++ B) := Dg.b8_of_mem fun x hx => by
      rcases List.mem_append.1 hx with h | h
      · exact y8_isB HF.out x h
      · exact y8_isB HB.out x h
    obtain ⟨hI2, hge2⟩ := own_isB' hown2 hY
    have HI2 := hide hI2
    have HB2 := hide b2
    have HY := hide hY
    clear hown2 hgr2 b2 hI2 hge2 hY
    go_enter Tryd.func7, Tryd.ntmps7
    go_upto_region 6 with (at_builtin; refine wpList_append_run rfl _ _ 22 rfl _ _ rfl rfl hrun1 ?_)
    clear hrun1 hsl
    go_wp2_with (at_builtin; refine wpList_append_run rfl _ _ 22 rfl _ _ rfl rfl hrun2 ?_)
    clear hrun2
    refine (sealText_any F _ _ _ _ (HF.out.below HB2.out) (by omega)).mono ?_
    rintro e w3 ⟨rfl, b3⟩
    have HB3 := hide (bthen HB2.out b3)
    have HI3 := hide (HI2.out.below b3)
    clear b3 HB2
    go_wp2_with fail
    refine (sealText_any B _ _ _ _ (HB.out.below HB3.out) (by omega)).mono ?_
    rintro e w4 ⟨rfl, b4⟩
    have HB4 := hide (bthen HB3.out b4)
    have HI4 := hide (HI3.out.below b4)
    clear b4 HB3 HI3
    have hlF : (Sl.text F).length ≤ 400 := by rw [Sl.text_length, HF.out.1]; omega
    have hlB : (Sl.text B).length ≤ 400 := by rw [Sl.text_length, HB.out.1]; omega
    have hzF := str_size (Sl.text F)
    have hzB := str_size (Sl.text B)
    go_upto_region 8 with fail
    rw [str_app, ← Sl.text_append HFl.out]
    clear hzF hzB
    go_wp2_with fail
    refine (sealBytes_any ⟨(Sl.text (F ++ B)).toArray⟩ _ (by rw [str_size, Sl.text_append HFl.out, List.length_append]; omega)).mono ?_
    rintro e w5 ⟨hres, b5⟩
    rw [str_of] at hres
    have HB5 := hide (bthen HB4.out b5)
    have HI5 := hide (HI4.out.below b5)
    clear b5 HB4 HI4
    have hYY : Sl.Y8 (F ++ B) := y8_of HY.out
    rcases hres with ⟨bs, a, c, rfl, hbs, hown⟩ | ⟨rfl, hbs⟩
    · rw [Sl.bytes_text hYY] at hbs
      cases hbs
      have HO5 := hide (own_isB' hown HY.out).1
      clear hown
      obtain ⟨T, hT⟩ : ∃ T : ByteArray, T = ⟨(Sl.text (F ++ B)).toArray⟩ := ⟨_, rfl⟩
      have hlen2 : (F ++ B).length = m + len1 := by rw [List.length_append, HF.out.1, HB.out.1]
      rw [hlen2] at HO5 ⊢
      rw [← hT]
      have HT := hide hT
      clear hT hlen2
      go_wp2_with fail
      refine (sealKnown_any _ (HC.out.below' HB5.out)).mono ?_
      rintro e w6 ⟨rfl, b6⟩
      have HB6 := hide (bthen HB5.out b6)
      have HI6 := hide (HI5.out.below b6)
      have HO6 := hide (HO5.out.below b6)
      clear b6 HB5 HI5 HO5
      go_wp2_with fail
      refine (sealText_any (F ++ B) _ _ _ _ HI6.out (by omega)).mono ?_
      rintro e w7 ⟨rfl, b7⟩
      rw [← HT.out]
      have HB7 := hide (bthen HB6.out b7)
      have HI7 := hide (HI6.out.below b7)
      have HO7 := hide (HO6.out.below b7)
      clear b7 HB6 HI6 HO6
      go_wp2_with fail
      refine (same_true (F ++ B) _ _ _ _ _ _ HO7.out HI7.out).mono ?_
      rintro e w8 ⟨rfl, b8'⟩
      have HB8 := hide (bthen HB7.out b8')
      clear b8'
      go_wp2_with fail
      go_ret
      exact ⟨rfl, HB8.out⟩
    · rw [Sl.bytes_text hYY] at hbs
      cases hbs
end Go.Proofs.YtfcbooagedjkfaaDoor
