/-
  THE WALK of newTable (frame): for each byte, eight halvings of it.
-/
import Derived.Test.YtgfjpbiioaahhaaFTable
set_option linter.unusedVariables false
set_option linter.unusedSimpArgs false
set_option maxRecDepth 100000
namespace Go.Proofs.Ytgfjpbiioaahhaa
open Go.RowKit Fr

/-- the table as far as every c-th -/
structure TabI (c : Nat) (L : List Nat) : Prop where
  len : L.length = 256
  at' : ∀ i, i < 256 → i % c = 0 → L[i]?.getD 0 = h8 i
  lt : ∀ i : Nat, L[i]?.getD 0 < 4294967296
structure TabJ (c a : Nat) (L : List Nat) : Prop where
  all : TabI (2 * c) L
  upto : ∀ i, i < a → i < 256 → i % c = 0 → L[i]?.getD 0 = h8 i
theorem tabI_start : TabI 256 (List.replicate 256 0) := by
  refine ⟨List.length_replicate, fun i hi h => ?_, fun i => ?_⟩
  · have : i = 0 := by omega
    subst this
    rw [List.getElem?_replicate]
    simp [h8, hvN_zero]
  · rw [List.getElem?_replicate]
    split <;> simp
theorem tabJ_start {c : Nat} {L : List Nat} (h : TabI (2 * c) L) : TabJ c 0 L := ⟨h, fun i hi => by omega⟩
theorem pow_xor : ∀ j, j < 8 → ∀ a, a < 256 → a % (2 * 2 ^ (7 - j)) = 0 → a ^^^ 2 ^ (7 - j) = a + 2 ^ (7 - j) := by decide +kernel
theorem pow_room : ∀ j, j < 8 → ∀ a, a < 256 → a % (2 * 2 ^ (7 - j)) = 0 → a + 2 * 2 ^ (7 - j) ≤ 256 := by decide +kernel
theorem h8_pow {j : Nat} (hj : j < 8) : h8 (2 ^ (7 - j)) = hvN (j + 1) 1 := by
  have h := hvN_add (j + 1) (7 - j) (2 ^ (7 - j))
  rw [show j + 1 + (7 - j) = 8 by omega] at h
  have h2 := hvN_pow (7 - j) 1
  rw [Nat.mul_one] at h2
  rw [h2] at h
  exact h
theorem tabJ_step {j c a : Nat} {L : List Nat} (hj : j < 8) (hc : c = 2 ^ (7 - j)) (ha : a < 256) (hm : a % (2 * c) = 0) (h : TabJ c a L) : TabJ c (a + 2 * c) (L.set (a + c) (L[a]?.getD 0 ^^^ h8 c)) := by
  have hc0 : 0 < c := by rw [hc]; exact Nat.pow_pos (by decide)
  have hx := pow_xor j hj a ha (by rw [← hc]; exact hm)
  have hr := pow_room j hj a ha (by rw [← hc]; exact hm)
  rw [← hc] at hx hr
  have hc256 : c < 4294967296 := by omega
  have hsame : ∀ i, i ≠ a + c → (L.set (a + c) (L[a]?.getD 0 ^^^ h8 c))[i]?.getD 0 = L[i]?.getD 0 := fun i hi => by rw [List.getElem?_set_ne (by omega)]
  have hthis : (L.set (a + c) (L[a]?.getD 0 ^^^ h8 c))[a + c]?.getD 0 = L[a]?.getD 0 ^^^ h8 c := by rw [List.getElem?_set_self (by rw [h.all.len]; omega)]; rfl
  have hLa : L[a]?.getD 0 = h8 a := h.all.at' a ha hm
  refine ⟨⟨by rw [List.length_set]; exact h.all.len, fun i hi h2 => ?_, fun i => ?_⟩, fun i hi hi2 h2 => ?_⟩
  · have hne : i ≠ a + c := by
      rintro rfl
      rw [Nat.add_mod, hm, Nat.zero_add, Nat.mod_mod, Nat.mod_eq_of_lt (by omega)] at h2
      omega
    rw [hsame i hne]
    exact h.all.at' i hi h2
  · by_cases e : i = a + c
    · subst e
      rw [hthis]
      exact xor_lt (h.all.lt a) (hvN_lt 8 hc256)
    · rw [hsame i e]
      exact h.all.lt i
  · by_cases e : i = a + c
    · subst e
      rw [hthis, hLa, ← hx]
      exact (hvN_xor 8 _ _).symm
    · rw [hsame i e]
      by_cases hia : i < a
      · exact h.upto i hia hi2 h2
      · have : i = a := by
          obtain ⟨m, hm'⟩ : ∃ m, a = c * (2 * m) := ⟨a / (2 * c), by
            have := Nat.div_add_mod a (2 * c)
            rw [hm, Nat.add_zero] at this
            rw [← Nat.mul_assoc, Nat.mul_comm c 2]
            exact this.symm⟩
          obtain ⟨n, hn⟩ : ∃ n, i = c * n := ⟨i / c, by have := Nat.div_add_mod i c; omega⟩
          have h1 : 2 * m ≤ n := Nat.le_of_mul_le_mul_left (by rw [← hm', ← hn]; omega) hc0
          have h3 : n < 2 * m + 2 := Nat.lt_of_mul_lt_mul_left (a := c) (by rw [← hn, Nat.mul_add, ← hm']; omega)
          have h4 : n ≠ 2 * m + 1 := fun h => e (by rw [hn, h, Nat.mul_add, ← hm', Nat.mul_one])
          have h5 : n = 2 * m := by omega
          rw [hn, h5, ← hm']
        rw [this]
        exact hLa
theorem tabJ_end {c a : Nat} {L : List Nat} (h : TabJ c a L) (ha : 256 ≤ a) : TabI c L := ⟨h.all.len, fun i hi h2 => h.upto i (by omega) hi h2, h.all.lt⟩

def tabV (L : List Nat) : Array Value := (L.map u32v).toArray
theorem tabV_at {L : List Nat} {i : Nat} (h : i < L.length) : (tabV L)[i]? = some (u32v (L[i]?.getD 0)) := by simp [tabV, h]
theorem tabV_set (L : List Nat) (i x : Nat) : (tabV L).setIfInBounds i (u32v x) = tabV (L.set i x) := by simp [tabV, List.map_set]
/-- a table in memory -/
def Tab (w : World) (g : Nat) : Prop := ∃ L, TabI 1 L ∧ Blk w g (tabV L) 61

theorem zeroT (w : World) : (zeroValue 61).run Try.prog w = .ok (.agg (tabV (List.replicate 256 0))) w := by kernel_rfl

set_option maxHeartbeats 2000000 in
theorem newTable_any (w : World) : Calls Try.prog 20 #[] w fun e w' => e = .returned (.pointer (some ⟨w.heap.size, 0, none⟩)) ∧ Tab w' w.heap.size ∧ Below w.heap.size w w' := by
  have hz := zeroT w
  obtain ⟨Z, hZ⟩ : ∃ Z, Z = tabV (List.replicate 256 0) := ⟨_, rfl⟩
  rw [← hZ] at hz
  obtain ⟨B, hB⟩ : ∃ B, B = w.heap.size := ⟨_, rfl⟩
  have b1 : Below B w (w.alloc (.cells Z 61)) := (Below.refl _ _).alloc (by omega) _
  have k1 : Blk (w.alloc (.cells Z 61)) B Z 61 := by rw [hB]; exact Blk.new w _ _
  have s1 : (w.alloc (.cells Z 61)).heap.size = B + 1 := by simp [hB]
  have HB1 := hide b1
  have HK1 := hide k1
  have HS1 := hide s1
  have HZ := hide hZ
  rw [← hB]
  have HB := hide hB
  clear b1 k1 s1 hZ hB
  go_enter Try.func20, Try.ntmps20
  go_wp2_with fail
  generalize hw1 : w.alloc (.cells Z 61) = w1 at HB1 HK1 HS1 ⊢
  have hBB := HB.out
  simp only [← hBB]
  clear hw1 hz hBB
  go_wp2_with (go_at_call 31; refine (halving_any _).mono ?_; rintro e w' ⟨rfl, rfl⟩)
  rw [HS1.out]
  have b2 : Below B w (w1.alloc (.cells #[u32v 1] 27)) := HB1.out.alloc (by rw [HS1.out]; omega) _
  have k2 : Blk (w1.alloc (.cells #[u32v 1] 27)) B (tabV (List.replicate 256 0)) 61 := by rw [← HZ.out]; exact HK1.out.alloc _
  have k3 : Blk (w1.alloc (.cells #[u32v 1] 27)) (B + 1) #[u32v 1] 27 := by have := Blk.new w1 #[u32v 1] 27; rw [HS1.out] at this; exact this
  generalize w1.alloc (.cells #[u32v 1] 27) = w2 at b2 k2 k3 ⊢
  clear HB1 HK1 HS1 HZ
  have hL0 : ∃ L, TabI 256 L ∧ Blk w2 B (tabV L) 61 := ⟨_, tabI_start, k2⟩
  have HB2 := hide b2
  have HK3 := hide k3
  have HL0 := hide hL0
  clear b2 k2 k3 hL0
  go_loopw [3] (fun p wr => ∃ j c : Nat, j ≤ 8 ∧ Hid (j < 8 → c = 2 ^ (7 - j)) ∧ Hid (j = 8 → c = 0) ∧ c ≤ 128 ∧ p = .int .i64 c ∧ Hid (∃ L, TabI (2 ^ (8 - j)) L ∧ Blk wr B (tabV L) 61) ∧ Hid (Blk wr (B + 1) #[u32v (hvN j 1)] 27) ∧ Hid (Below B w wr)) (fun p _ => (intOf p).toNat)
  case atStart => exact ⟨0, 128, by omega, fun _ => rfl, fun h => by omega, by omega, rfl, HL0, HK3, HB2⟩
  case round =>
    clear HL0 HK3 HB2
    obtain ⟨j, c, hj, HC1, HC2, hc128, rfl, HL, HS, HBe⟩ := hrel
    by_cases hlt : 0 < c
    · have hj8 : j < 8 := by
        rcases Nat.lt_or_ge j 8 with h | h
        · exact h
        · have := HC2.out (by omega); omega
      have HJ := hide hj8
      have Hj := hide hj
      clear hj8 hj HC2
      have hxl : Hid (hvN j 1 < 4294967296) := hvN_lt j (by decide)
      go_wp2_with (go_at_call 38; refine (next_any _ _ _ hxl.out HS.out).mono ?_; rintro e w3 ⟨rfl, hch3, hk3⟩)
      obtain ⟨E, hE⟩ : ∃ E, E = hv (hvN j 1) := ⟨_, rfl⟩
      rw [← hE] at hk3 ⊢
      have HEE : Hid (E = h8 c) := by
        show E = h8 c
        rw [hE, HC1.out HJ.out, h8_pow HJ.out, hvN_succ]
      have hEl : E < 4294967296 := by rw [hE]; exact hv_lt hxl.out
      have HBe3 : Hid (Below B w w3) := hch3.below HBe.out (by have := HBe.out.size; have := HB.out; omega) (fun i hi => by subst hi; omega)
      have HK3 := hide hk3
      have HL3 : Hid (∃ L, TabJ c 0 L ∧ Blk w3 B (tabV L) 61) := by
        obtain ⟨L, h1, h2⟩ := HL.out
        have e : 2 ^ (8 - j) = 2 * c := by rw [HC1.out HJ.out, show 8 - j = 7 - j + 1 by have := HJ.out; omega, Nat.pow_succ, Nat.mul_comm]
        rw [e] at h1
        exact ⟨L, tabJ_start h1, hch3.kept h2 (by omega)⟩
      have HEN : Hid (E = hvN (j + 1) 1) := by show E = _; rw [hE, hvN_succ]
      clear hE hch3 hk3 HL HS HBe hxl
      go_wp2_with fail
      go_loopw [5] (fun p wq => ∃ a : Nat, a % (2 * c) = 0 ∧ a ≤ 256 ∧ p = .int .i64 a ∧ Hid (∃ L, TabJ c a L ∧ Blk wq B (tabV L) 61) ∧ Hid (Blk wq (B + 1) #[u32v E] 27) ∧ Hid (Below B w wq)) (fun p _ => 256 - (intOf p).toNat)
      case atStart => exact ⟨0, Nat.zero_mod _, by omega, rfl, HL3, HK3, HBe3⟩
      case round =>
        clear HL3 HK3 HBe3
        obtain ⟨a, ham, ha, rfl, HLq, HSq, HBq⟩ := hrel
        by_cases hla : a < 256
        · have hroom : a + 2 * c ≤ 256 := by rw [HC1.out HJ.out] at ham ⊢; exact pow_room j HJ.out a hla ham
          obtain ⟨L, hJ, hBk⟩ := HLq.out
          obtain ⟨x, hx⟩ : ∃ x, x = L[a]?.getD 0 := ⟨_, rfl⟩
          have hxl : x < 4294967296 := by rw [hx]; exact hJ.all.lt a
          have hcell : wr.cell? ⟨B, a, none⟩ = some (u32v x) := by rw [hx]; exact (hBk.cell a).trans (tabV_at (by rw [hJ.all.len]; exact hla))
          have hcell2 : wr.cell? ⟨B, a + c, none⟩ = some (u32v (L[a + c]?.getD 0)) := (hBk.cell (a + c)).trans (tabV_at (by rw [hJ.all.len]; omega))
          have hfr := hBk.free (a + c)
          have hxr := xor32 hxl hEl
          have HX := hide hx
          have HAM := hide ham
          have HJJ := hide hJ
          have HBk := hide hBk
          clear hx ham hJ hBk
          go_wp2_with fail
          go_roundw
          case rel =>
            refine ⟨a + 2 * c, by rw [Nat.add_mod_right]; exact HAM.out, hroom, by go_num, ⟨_, tabJ_step HJ.out (HC1.out HJ.out) hla HAM.out HJJ.out, ?_⟩, HSq.out.other (by omega) _ _, HBq.out.setCell (p := ⟨B, a + c, none⟩) (Nat.le_refl _) _⟩
            have := HBk.out.set (a + c) (u32v (x ^^^ E))
            rw [tabV_set, HX.out, HEE.out] at this
            rw [HX.out, HEE.out]
            exact this
          case measure => simp [intOf]; omega
        · have HTI : Hid (∃ L, TabI (2 ^ (8 - (j + 1))) L ∧ Blk wr B (tabV L) 61) := by
            obtain ⟨L, h1, h2⟩ := HLq.out
            refine ⟨L, ?_, h2⟩
            rw [show 8 - (j + 1) = 7 - j by omega, ← HC1.out HJ.out]
            exact tabJ_end h1 (by omega)
          clear HLq ham
          go_wp2_with fail
          go_roundw
          case rel =>
            refine ⟨j + 1, c / 2, by have := HJ.out; omega, fun h => ?_, fun h => ?_, by omega, by go_num, HTI.out, by rw [← HEN.out]; exact HSq.out, HBq.out⟩
            · rw [HC1.out HJ.out, show 7 - j = 7 - (j + 1) + 1 by omega, Nat.pow_succ]
              omega
            · have := HC1.out HJ.out
              rw [show 7 - j = 0 by omega] at this
              omega
          case measure => simp [intOf]; omega
    · have hj8 : j = 8 := by
        rcases Nat.lt_or_ge j 8 with h | h
        · have h1 := HC1.out h
          have : 0 < 2 ^ (7 - j) := Nat.pow_pos (by decide)
          omega
        · omega
      subst hj8
      clear HC1 HC2
      go_wp2_with fail
      go_ret
      obtain ⟨L, h1, h2⟩ := HL.out
      exact ⟨rfl, ⟨L, h1, h2⟩, HBe.out⟩
end Go.Proofs.Ytgfjpbiioaahhaa
