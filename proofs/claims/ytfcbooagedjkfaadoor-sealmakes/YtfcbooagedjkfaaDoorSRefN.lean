/-
  THE WALKS of the document's Named and of the law's bytes (layer 5).
-/
import Derived.Test.YtfcbooagedjkfaaDoorSRefC
set_option linter.unusedVariables false
set_option linter.unusedSimpArgs false
namespace Go.Proofs.YtfcbooagedjkfaaDoor
open Go.RowKit

set_option maxRecDepth 100000 in
set_option maxHeartbeats 1000000 in
theorem refNamed_any (s : ByteArray) (w : World) (hs : s.size ≤ 10000) :
    Calls Tryd.prog 21 #[.string s] w fun e w' => e = .returned (.bool (Sl.named s.data.toList)) ∧ Below w.heap.size w w' := by
  cases hL : s.data.toList with
  | nil =>
    have hse : s = ⟨#[]⟩ := str_eq hL
    subst hse
    go_enter Tryd.func21, Tryd.ntmps21
    go_wp2_with fail
    go_ret
    exact ⟨rfl, Below.refl _ _⟩
  | cons c l =>
    have hse := str_eq hL
    have hz : s.size = l.length + 1 := by rw [Lib.size_eq, hL]; rfl
    have hne : s.toList.isEmpty = false := by rw [ByteArray.toList_eq, hL]; rfl
    have h0 : 0 < s.size := by omega
    have hc0 : s[0]'h0 = c := by
      have : s.data.toList[0]'(by rw [← Lib.size_eq]; exact h0) = c := by simp [hL]
      exact this
    have hsl : ∀ w, (Instr.sliceAt 9 (.string s) (some (.int .i64 1)) none none).run Tryd.prog w = .ok (.string (s.extract 1 s.size)) w := fun w => slice_str s 0 (by omega) w
    have hdr := drop_one s c l hse
    have hnm : Sl.named (c :: l) = if c = 36 then is32 (Sl.bytes l) else false := by
      by_cases h : c = 36
      · rw [if_pos h, h, named_cons]
      · rw [if_neg h]
        simp only [Sl.named, h, if_false]
    have HNm := hide hnm
    have HDr := hide hdr
    have HZ := hide hz
    clear hnm hdr hse hL hz
    by_cases hc : c = 36
    · have hcb : ∀ h : 0 < s.size, ((((s[0]'h).toNat : Nat) : Int) != 36) = false := fun h => by
        have : s[0]'h = 36 := by rw [← hc]; exact hc0
        rw [this]
        rfl
      have hnm := HNm.out
      rw [if_pos hc] at hnm
      have HNm2 := hide hnm
      clear hnm hc0 hc
      go_enter Tryd.func21, Tryd.ntmps21
      go_wp2_with fail
      rw [HDr.out]
      refine (refBytes_any ⟨l.toArray⟩ _ (by rw [str_size]; have := HZ.out; omega)).mono ?_
      rintro e w2 ⟨hres, b2⟩
      rw [str_of] at hres
      rcases hres with ⟨bs, a, c', rfl, hbs, hown⟩ | ⟨rfl, hbs⟩
      · rw [hbs] at HNm2
        clear hown hbs
        obtain ⟨n, hn⟩ : ∃ n, n = bs.length := ⟨_, rfl⟩
        have h32 : ((n : Int) == 32) = decide (bs.length = 32) := by
          rw [Bool.eq_iff_iff]
          simp only [beq_iff_eq, decide_eq_true_eq]
          omega
        rw [← hn]
        have H32 := hide h32
        clear hn h32
        go_wp2_with fail
        go_ret
        refine ⟨?_, b2⟩
        rw [HNm2.out]
        show Ending.returned (.bool ((n : Int) == 32)) = Ending.returned (.bool (decide (bs.length = 32)))
        rw [H32.out]
      · rw [hbs] at HNm2
        go_wp2_with fail
        go_ret
        exact ⟨by rw [HNm2.out]; rfl, b2⟩
    · have hcb : ∀ h : 0 < s.size, ((((s[0]'h).toNat : Nat) : Int) != 36) = true := fun h => by
        have h1 : s[0]'h = c := hc0
        rw [h1, bne_iff_ne]
        intro e1
        exact hc (UInt8.toNat_inj.1 (by show c.toNat = 36; omega))
      have hnm := HNm.out
      rw [if_neg hc] at hnm
      have HNm2 := hide hnm
      clear hnm hc0 hc
      go_enter Tryd.func21, Tryd.ntmps21
      go_wp2_with fail
      go_ret
      exact ⟨by rw [HNm2.out]; rfl, Below.refl _ _⟩

set_option maxHeartbeats 1000000 in
theorem lawBytes_any (s : ByteArray) (w : World) (hs : s.size ≤ 10000) :
    Calls Tryd.prog 17 #[.string s] w fun e w' => e = .returned (.bool true) ∧ Below w.heap.size w w' := by
  go_enter Tryd.func17, Tryd.ntmps17
  go_wp2_with fail
  refine (sealBytes_any s _ (by omega)).mono ?_
  rintro e w1 ⟨hres, b1⟩
  rcases hres with ⟨bs, a, c, rfl, hbs, hown⟩ | ⟨rfl, hbs⟩
  · have h8 : Dg.B8 bs := Dg.b8_of_mem (Sl.text_bytes hbs).2
    have HI1 := hide (own_isB' hown h8).1
    clear hown
    go_wp2_with fail
    refine (refBytes_any s _ hs).mono ?_
    rintro e w2 ⟨hres, b2⟩
    have HI2 := hide (HI1.out.below b2)
    rcases hres with ⟨bs', a', c', rfl, hbs', hown⟩ | ⟨rfl, hbs'⟩
    · rw [hbs] at hbs'
      cases hbs'
      have HI3 := hide (own_isB' hown h8).1
      clear hown
      go_wp2_with fail
      refine (same_true bs _ _ _ _ _ _ HI2.out HI3.out).mono ?_
      rintro e w3 ⟨rfl, b3⟩
      go_wp2_with fail
      go_ret
      exact ⟨rfl, bthen (bthen b1 b2) b3⟩
    · rw [hbs] at hbs'
      cases hbs'
  · go_wp2_with fail
    refine (refBytes_any s _ hs).mono ?_
    rintro e w2 ⟨hres, b2⟩
    rcases hres with ⟨bs', a', c', rfl, hbs', hown⟩ | ⟨rfl, hbs'⟩
    · rw [hbs] at hbs'
      cases hbs'
    · go_wp2_with fail
      refine (same_true [] none none 0 0 0 _ (isB_nil _) (isB_nil _)).mono ?_
      rintro e w3 ⟨rfl, b3⟩
      go_wp2_with fail
      go_ret
      exact ⟨rfl, bthen (bthen b1 b2) b3⟩
end Go.Proofs.YtfcbooagedjkfaaDoor
