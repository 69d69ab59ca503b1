/-
  THE WALKS of ID and Named (layer 5), and of the law's known.
-/
import Derived.Test.YtfcbooagedjkfaaDoorSCode
import Derived.Test.YtfcbooagedjkfaaDoorSBytes
import Derived.Lib.ConvBytes
set_option linter.unusedVariables false
set_option linter.unusedSimpArgs false
namespace Go.Proofs.YtfcbooagedjkfaaDoor
open Go.RowKit

theorem bytes_isB (w : World) (s : ByteArray) (hs : s.size ≤ 1000000) : IsB (Lib.bytesWorld w 5 s) (some ⟨w.heap.size, 0, none⟩) s.size (grownCap w s.size 0 5) (Sl.ints s.data.toList) := by
  refine ⟨by simp [Sl.ints, ← Lib.size_eq], grownCap_ge _ _ _ _, Nat.le_trans (grownCap_le_maxLen w s.size 0 5 (by simp [maxLen]; omega)) (by simp [maxLen]), Dg.b8_of_mem fun x hx => ?_, .inr ⟨_, rfl, fun _ => ⟨_, 0, rfl, fun i hi => ?_⟩⟩⟩
  · unfold Sl.ints at hx
    obtain ⟨c, _, rfl⟩ := List.mem_map.1 hx
    have := c.toNat_lt
    omega
  · have hi' : i < s.size := by simpa [Sl.ints, ← Lib.size_eq] using hi
    have hil : i < s.data.toList.length := by rw [← Lib.size_eq]; exact hi'
    rw [Nat.zero_add, Lib.bytesWorld_cell w 5 s i hi']
    simp [Sl.ints, List.getD, List.getElem?_eq_getElem hil]
theorem below_bytes (w : World) (s : ByteArray) : Below w.heap.size w (Lib.bytesWorld w 5 s) :=
  ⟨rfl, rfl, rfl, by rw [Lib.bytesWorld_size]; omega, fun k hk => Lib.bytesWorld_at_old w 5 s k hk⟩
theorem str_of (l : List UInt8) : (⟨l.toArray⟩ : ByteArray).data.toList = l := by simp
theorem str_size (l : List UInt8) : (⟨l.toArray⟩ : ByteArray).size = l.length := by rw [Lib.size_eq, str_of]
theorem str_app (a b : List UInt8) : (⟨a.toArray⟩ : ByteArray) ++ ⟨b.toArray⟩ = ⟨(a ++ b).toArray⟩ := by
  apply ByteArray.ext
  rw [ByteArray.data_append]
  simp

set_option maxHeartbeats 1000000 in
theorem ident_any (s : ByteArray) (w : World) (hs : s.size ≤ 1000000) (hC : Cubes w) :
    Calls Tryd.prog 18 #[.string s] w fun e w' => e = .returned (.string ⟨(Sl.ident s.data.toList).toArray⟩) ∧ Below w.heap.size w w' := by
  have HC := hide hC
  have hcv := Lib.run_convert_string_bytes (P := Tryd.prog) w 9 22 5 s Tryd.underlying9 Tryd.underlying22 Tryd.underlying5
  have HI := hide (bytes_isB w s hs)
  have b0 := below_bytes w s
  have HB0 := hide b0
  have HC0 := hide (HC.out.below' b0)
  clear hC b0
  generalize Lib.bytesWorld w 5 s = w1 at hcv HI HB0 HC0
  generalize grownCap w s.size 0 5 = c1 at hcv HI
  go_enter Tryd.func18, Tryd.ntmps18
  go_wp2_with fail
  refine (digestI _ _ _ _ _ HI.out HC0.out (by omega)).mono ?_
  rintro e w2 ⟨g2, rfl, hI2, _, b2⟩
  have HI2 := hide hI2
  have HB2 := hide (bthen HB0.out b2)
  clear hI2 b2 hcv
  go_wp2_with fail
  refine (sealText_any _ _ _ _ _ HI2.out (by omega)).mono ?_
  rintro e w3 ⟨rfl, b3⟩
  have HB3 := hide (bthen HB2.out b3)
  clear b3
  have hl : (Sl.text (Dg.sha (Sl.ints s.data.toList))).length ≤ 43 := by rw [Sl.text_length, Dg.sha_length]; omega
  have hz := str_size (Sl.text (Dg.sha (Sl.ints s.data.toList)))
  have happ := str_app [36] (Sl.text (Dg.sha (Sl.ints s.data.toList)))
  have HApp := hide happ
  clear happ
  generalize hT : (⟨(Sl.text (Dg.sha (Sl.ints s.data.toList))).toArray⟩ : ByteArray) = T at hz HApp ⊢
  go_wp2_with fail
  go_ret
  refine ⟨?_, HB3.out⟩
  have := HApp.out
  show Ending.returned (.string (({ data := #[36] } : ByteArray) ++ T)) = _
  rw [show (({ data := #[36] } : ByteArray) ++ T) = _ from this]
  rfl

def is32 : Option (List Int) → Bool
  | none => false
  | some b => decide (b.length = 32)
theorem named_plain (l : List UInt8) : Sl.named l = (Lib.hasPrefix l [36] && is32 (Sl.bytes (Lib.trimPrefix l [36]))) := by
  cases l with
  | nil => rfl
  | cons c t =>
    by_cases h : c = 36
    · subst h
      have e1 : Lib.hasPrefix (36 :: t) [36] = true := by simp [Lib.hasPrefix]
      have e2 : Lib.trimPrefix (36 :: t) [36] = t := by simp [Lib.trimPrefix, e1]
      rw [e1, e2]
      simp only [Sl.named, if_true]
      cases Sl.bytes t <;> rfl
    · have e1 : Lib.hasPrefix (c :: t) [36] = false := by
        have : ((36 : UInt8) == c) = false := by
          rw [beq_eq_false_iff_ne]
          exact fun e => h e.symm
        simp only [Lib.hasPrefix, List.isPrefixOf, this, Bool.false_and]
      rw [e1]
      simp only [Sl.named, h, if_false, Bool.false_and]

set_option maxHeartbeats 1000000 in
theorem named_any (s : ByteArray) (w : World) (hs : s.size ≤ 1000000) :
    Calls Tryd.prog 20 #[.string s] w fun e w' => e = .returned (.bool (Sl.named s.data.toList)) ∧ Below w.heap.size w w' := by
  obtain ⟨v0, hv0⟩ : ∃ v0, v0 = Sl.named s.data.toList := ⟨_, rfl⟩
  have hnp := hv0.trans (named_plain s.data.toList)
  rw [← hv0]
  clear hv0
  go_enter Tryd.func20, Tryd.ntmps20
  go_wp2_with fail
  refine (Tryd.strings_CutPrefix s ⟨#[36]⟩ _).mono ?_
  rintro e w ⟨rfl, rfl⟩
  have e36 : (⟨#[36]⟩ : ByteArray).data.toList = [36] := rfl
  rw [e36]
  have hrl : (Lib.trimPrefix s.data.toList [36]).length ≤ s.size := by
    unfold Lib.trimPrefix
    rw [Lib.size_eq]
    split
    · simp
    · exact Nat.le_refl _
  obtain ⟨R, hR⟩ : ∃ R, R = Lib.trimPrefix s.data.toList [36] := ⟨_, rfl⟩
  obtain ⟨p, hp⟩ : ∃ p, p = Lib.hasPrefix s.data.toList [36] := ⟨_, rfl⟩
  rw [← hR, ← hp] at hnp ⊢
  rw [← hR] at hrl
  have HNP := hide hnp
  clear hnp hR hp
  cases p with
  | false =>
    go_wp2_with fail
    go_ret
    exact ⟨by rw [HNP.out]; rfl, Below.refl _ _⟩
  | true =>
    go_wp2_with fail
    refine (sealBytes_any ⟨R.toArray⟩ _ (by rw [str_size]; omega)).mono ?_
    rintro e w2 ⟨hres, b2⟩
    rw [str_of] at hres
    rcases hres with ⟨bs, a, c, rfl, hbs, hown⟩ | ⟨rfl, hbs⟩
    · rw [hbs] at HNP
      clear hown hbs
      by_cases hl : bs.length = 32
      · obtain ⟨n, hn⟩ : ∃ n, n = bs.length := ⟨_, rfl⟩
        rw [← hn] at hl ⊢
        have HNn := hide hn
        clear hn
        subst hl
        go_wp2_with fail
        go_ret
        exact ⟨by rw [HNP.out]; show _ = Ending.returned (.bool (true && decide (bs.length = 32))); rw [← HNn.out]; rfl, b2⟩
      · obtain ⟨n, hn⟩ : ∃ n, n = bs.length := ⟨_, rfl⟩
        rw [← hn] at hl ⊢
        have h32 : ((n : Int) == 32) = false := by rw [beq_eq_false_iff_ne]; omega
        have HNn := hide hn
        clear hn
        go_wp2_with fail
        go_ret
        exact ⟨by rw [HNP.out]; show _ = Ending.returned (.bool (true && decide (bs.length = 32))); rw [← HNn.out]; simp [hl], b2⟩
    · rw [hbs] at HNP
      go_wp2_with fail
      go_ret
      exact ⟨by rw [HNP.out]; rfl, b2⟩

theorem isB_nil' (w : World) : IsB w none 0 0 [] := isB_nil w
theorem back_ab : Sl.bytes [65, 66] = none := by decide +kernel
theorem text_abcd : Sl.text [0, 16, 131] = [65, 66, 67, 68] := by decide +kernel
theorem named_dollar : Sl.named [36] = false := by decide +kernel
theorem named_ident (s : List UInt8) : Sl.named (Sl.ident s) = true := by
  unfold Sl.named Sl.ident
  simp only [if_true]
  rw [Sl.bytes_text (Dg.sha_mem _)]
  simp [Dg.sha_length]
theorem three_isB' (w : World) : IsB (w.alloc (.cells #[.int .u8 0, .int .u8 16, .int .u8 131] 5)) (some ⟨w.heap.size, 0, none⟩) 3 3 [0, 16, 131] := by
  have hb := blk_new w 5 #[.int .u8 0, .int .u8 16, .int .u8 131]
  refine ⟨rfl, Nat.le_refl _, by omega, Dg.b8_of_mem (by decide), .inr ⟨_, rfl, fun _ => ⟨w.heap.size, 0, rfl, fun i hi => ?_⟩⟩⟩
  rw [Nat.zero_add, hb.cell i]
  have : i = 0 ∨ i = 1 ∨ i = 2 := by simp at hi; omega
  rcases this with rfl | rfl | rfl <;> rfl

set_option maxRecDepth 100000 in
set_option maxHeartbeats 1000000 in
theorem sealKnown_any (w : World) (hC : Cubes w) : Calls Tryd.prog 10 #[] w fun e w' => e = .returned (.bool true) ∧ Below w.heap.size w w' := by
  have HC := hide hC
  clear hC
  go_enter Tryd.func10, Tryd.ntmps10
  go_wp2_with fail
  refine (sealBytes_any ⟨#[65, 66]⟩ _ (by decide)).mono ?_
  rintro e w1 ⟨hres, b1⟩
  rcases hres with ⟨bs, a, c, rfl, hbs, hown⟩ | ⟨rfl, hbs⟩
  · exfalso
    have : Sl.bytes [65, 66] = some bs := hbs
    rw [back_ab] at this
    cases this
  · have HB1 := hide b1
    clear hbs b1
    go_wp2_with fail
    have b2 : Below w1.heap.size w1 (w1.alloc (.cells #[.int .u8 0, .int .u8 16, .int .u8 131] 5)) := (Below.refl _ _).alloc (Nat.le_refl _) _
    refine (sealText_any _ _ 3 3 _ (three_isB' w1) (by omega)).mono ?_
    rintro e w3 ⟨rfl, b3⟩
    rw [text_abcd]
    have HB3 := hide (bthen HB1.out (bthen b2 b3))
    clear b2 b3
    go_wp2_with fail
    refine (sealEqual_any [] [] none none 0 0 0 0 _ (isB_nil _) (isB_nil _)).mono ?_
    rintro e w4 ⟨rfl, n4, rfl⟩
    rw [show decide (([] : List Int) = []) = true from rfl]
    go_wp2_with fail
    have HB4 := hide (below_drewN HB3.out n4)
    refine (code_any [] [] none none 0 0 0 0 _ (isB_nil _) (isB_nil _) (HC.out.below' HB4.out) (by omega) (by omega)).mono ?_
    rintro e w5 ⟨g5, rfl, _, b5⟩
    have HB5 := hide (bthen HB4.out b5)
    clear b5
    go_wp2_with fail
    refine (ident_any ⟨#[]⟩ _ (by decide) (HC.out.below' HB5.out)).mono ?_
    rintro e w6 ⟨rfl, b6⟩
    have HB6 := hide (bthen HB5.out b6)
    clear b6
    go_wp2_with fail
    refine (named_any _ _ (by rw [str_size, Sl.ident, List.length_cons, Sl.text_length, Dg.sha_length]; omega)).mono ?_
    rintro e w7 ⟨rfl, b7⟩
    rw [str_of, named_ident]
    have HB7 := hide (bthen HB6.out b7)
    clear b7
    go_wp2_with fail
    refine (named_any ⟨#[36]⟩ _ (by decide)).mono ?_
    rintro e w8 ⟨rfl, b8'⟩
    rw [show Sl.named (⟨#[36]⟩ : ByteArray).data.toList = false from named_dollar]
    have HB8 := hide (bthen HB7.out b8')
    clear b8'
    go_wp2_with fail
    go_ret
    exact ⟨rfl, HB8.out⟩
end Go.Proofs.YtfcbooagedjkfaaDoor
