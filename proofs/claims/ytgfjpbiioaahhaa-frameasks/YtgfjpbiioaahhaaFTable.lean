/-
  THE WALK of newTable (frame): for each byte, eight halvings of it.
-/
import Derived.Test.YtgfjpbiioaahhaaFMem
import Derived.Laws.BitsLemmas
import Derived.Deep.DeepCutAuto
import Derived.Deep.CutBlock
set_option linter.unusedVariables false
set_option linter.unusedSimpArgs false
set_option maxRecDepth 100000
namespace Go.Proofs.Ytgfjpbiioaahhaa
open Go.RowKit Fr

theorem ofInt_nat {k a : Nat} (h : a < 2 ^ k) : (BitVec.ofInt k (a : Int)).toNat = a := by
  rw [BitVec.ofInt_natCast, BitVec.toNat_ofNat]; exact Nat.mod_eq_of_lt h
theorem xor32 {a b : Nat} (ha : a < 4294967296) (hb : b < 4294967296) : bits .xor .u32 (a : Int) (b : Int) = ((a ^^^ b : Nat) : Int) := by
  have hx := xor_lt ha hb
  show IntKind.u32.wrap ((BitVec.ofInt 32 (a : Int) ^^^ BitVec.ofInt 32 (b : Int)).toNat : Int) = _
  rw [BitVec.toNat_xor, ofInt_nat ha, ofInt_nat hb, IntKind.wrap_u32]
  omega
theorem xor8 {a b : Nat} (ha : a < 256) (hb : b < 256) : bits .xor .u8 (a : Int) (b : Int) = ((a ^^^ b : Nat) : Int) := by
  have hx := xor_lt8 ha hb
  show IntKind.u8.wrap ((BitVec.ofInt 8 (a : Int) ^^^ BitVec.ofInt 8 (b : Int)).toNat : Int) = _
  rw [BitVec.toNat_xor, ofInt_nat ha, ofInt_nat hb, IntKind.wrap_u8]
  omega
theorem and32_one {a : Nat} (ha : a < 4294967296) : bits .and .u32 (a : Int) 1 = ((a % 2 : Nat) : Int) := by
  show IntKind.u32.wrap ((BitVec.ofInt 32 (a : Int) &&& BitVec.ofInt 32 ((1 : Nat) : Int)).toNat : Int) = _
  rw [BitVec.toNat_and, ofInt_nat ha, ofInt_nat (by decide), IntKind.wrap_u32, Nat.and_one_is_mod]
  omega

/-- a word -/
abbrev u32v (x : Nat) : Value := .int .u32 (x : Int)

/-- the halving's next word -/
theorem next_any (w : World) (b x : Nat) (hx : x < 4294967296) (hb : Blk w b #[u32v x] 27) :
    Calls Try.prog 38 #[.pointer (some ⟨b, 0, none⟩)] w fun e w' => e = .returned (u32v (hv x)) ∧ Ch (fun k => k = b) w w' ∧ Blk w' b #[u32v (hv x)] 27 := by
  have c0 := hb.cell 0
  have f0 := hb.free 0
  simp only [List.getElem?_toArray, List.getElem?_cons_zero] at c0
  have HB := hide hb
  have HX := hide hx
  have hand := and32_one hx
  obtain ⟨h, hh⟩ : ∃ h, h = x / 2 := ⟨_, rfl⟩
  have hdiv : (x : Int) / 2 = (h : Int) := by omega
  have hdt : (x : Int).tdiv 2 = (h : Int) := by rw [Int.tdiv_eq_ediv_of_nonneg (by omega)]; exact hdiv
  have hwr : IntKind.u32.wrap (h : Int) = (h : Int) := by rw [IntKind.wrap_u32]; omega
  have hxr : bits .xor .u32 (h : Int) 2197175160 = ((h ^^^ P : Nat) : Int) := xor32 (b := P) (by omega) (by decide)
  have g1 : Ch (fun k => k = b) w (w.setCell ⟨b, 0, none⟩ (u32v h)) := Ch.set b 0 _
  have b1 : Blk (w.setCell ⟨b, 0, none⟩ (u32v h)) b #[u32v h] 27 := by simpa using hb.set 0 (u32v h)
  have g2 : Ch (fun k => k = b) w ((w.setCell ⟨b, 0, none⟩ (u32v h)).setCell ⟨b, 0, none⟩ (u32v (h ^^^ P))) := g1.trans (Ch.set b 0 _) (fun i hi => .inl hi)
  have b2 : Blk ((w.setCell ⟨b, 0, none⟩ (u32v h)).setCell ⟨b, 0, none⟩ (u32v (h ^^^ P))) b #[u32v (h ^^^ P)] 27 := by simpa using b1.set 0 (u32v (h ^^^ P))
  have HG1 := hide g1
  have HB1 := hide b1
  have HG2 := hide g2
  have HB2 := hide b2
  have HHH := hide hh
  clear hb hx g1 b1 g2 b2 hh
  rcases Nat.mod_two_eq_zero_or_one x with h0 | h0
  · have HE : Hid (hv x = h) := by show hv x = h; unfold hv; rw [if_neg (by omega)]; exact HHH.out.symm
    rw [HE.out]
    rw [h0] at hand
    have H0 := hide h0
    clear h0
    go_enter Try.func38, Try.ntmps38
    go_wp2
    go_ret
    exact ⟨rfl, HG1.out, HB1.out⟩
  · have HE : Hid (hv x = h ^^^ P) := by show hv x = _; unfold hv; rw [if_pos h0, ← HHH.out]
    rw [HE.out]
    rw [h0] at hand
    have H0 := hide h0
    clear h0
    go_enter Try.func38, Try.ntmps38
    go_wp2
    go_ret
    exact ⟨rfl, HG2.out, HB2.out⟩

theorem halving_any (w : World) : Calls Try.prog 31 #[] w fun e w' => e = .returned (.func (.func 38) #[] #[.pointer (some ⟨w.heap.size, 0, none⟩)]) ∧ w' = w.alloc (.cells #[u32v 1] 27) := by
  go_enter Try.func31, Try.ntmps31
  go_wp2
  go_ret
  exact ⟨rfl, rfl⟩
end Go.Proofs.Ytgfjpbiioaahhaa
