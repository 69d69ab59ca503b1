/-
  THE WALK of the document's Sum.
-/
import Derived.Test.YtfcbooagedjkfaaDoorDRefC
import Derived.Test.YtfcbooagedjkfaaDoorDApp
set_option linter.unusedVariables false
set_option linter.unusedSimpArgs false
namespace Go.Proofs.YtfcbooagedjkfaaDoor
open Go.RowKit

theorem int_u8 {a b : Int} (h : a % 256 = b) : Value.int .u8 (IntKind.u8.wrap a) = .int .u8 b := by
  rw [IntKind.wrap_u8, h]
/-- a row of four bytes just made -/
def FourB (a b c d : Int) : Fact := fun lo hi v w => v = .slice (some ⟨lo, 0, none⟩) 4 4 ∧ Hid (∀ j u, [b8 a, b8 b, b8 c, b8 d][j]? = some u → w.cell? ⟨lo, j, none⟩ = some u)
theorem mono_fourB (a b c d : Int) : Mono (FourB a b c d) := by
  rintro lo hi v w w' ⟨rfl, h⟩ b
  exact ⟨rfl, fun j u hu => (b.cell (p := ⟨lo, j, none⟩) (block_lt_of_cell (h.out j u hu))).trans (h.out j u hu)⟩
theorem fourB_fact (a b c d : Int) (w : World) : FourB a b c d w.heap.size (w.alloc (.cells #[.int .u8 a, .int .u8 b, .int .u8 c, .int .u8 d] 5)).heap.size (.slice (some ⟨w.heap.size, 0, none⟩) 4 4) (w.alloc (.cells #[.int .u8 a, .int .u8 b, .int .u8 c, .int .u8 d] 5)) := by
  refine ⟨rfl, fun j u hu => ?_⟩
  exact ((blk_new w 5 #[.int .u8 a, .int .u8 b, .int .u8 c, .int .u8 d]).cell j).trans (by simpa [b8] using hu)
theorem RowW.belowAt {w w' : World} {g B : Nat} {l : List Int} (h : RowW w g l) (b : Below B w w') (hg : g < B) : RowW w' g l :=
  ⟨Nat.lt_of_lt_of_le h.1 b.size, fun i hi => ⟨(b.cell (p := ⟨g, i, none⟩) hg).trans (h.2 i hi).1, (b.frozen (p := ⟨g, i, none⟩) hg).trans (h.2 i hi).2⟩⟩
theorem b8_mem {l : List Int} (h : Dg.B8 l) : ∀ x ∈ l, 0 ≤ x ∧ x ≤ 255 := by
  intro x hx
  obtain ⟨i, hi, rfl⟩ := List.getElem_of_mem hx
  have := h i
  rw [List.getElem?_eq_getElem hi] at this
  exact this
theorem b8_part {l : List Int} (h : Dg.B8 l) (i j : Nat) : Dg.B8 ((l.drop i).take j) := Dg.b8_of_mem (fun x hx => b8_mem h x (List.mem_of_mem_drop (List.mem_of_mem_take hx)))
theorem rd_part {w : World} {g q : Nat} {l : List Int} (h : Rd w g 0 l) : Rd w g q ((l.drop q).take 64) := by
  intro i hi
  rw [List.length_take, List.length_drop] at hi
  have := h (q + i) (by omega)
  rw [Nat.zero_add] at this
  rw [this, List.getElem?_take, if_pos (by omega), List.getElem?_drop]

set_option maxRecDepth 100000 in
set_option maxHeartbeats 4000000 in
theorem refSum_own (a : Option Addr) (m cap : Nat) (bs : List Int) (w : World) (hB : IsB w a m cap bs) (hm : m ≤ 900000) :
    Calls Tryd.prog 23 #[.slice a m cap] w fun e w' => ∃ a' c', e = .returned (.slice a' 32 c') ∧ w'.ownsRow w.heap.size 5 1 (.slice a' 32 c') 32 ((Dg.sha bs).map b8) ∧ Below w.heap.size w w' := by
  have HB := hide hB
  have HL : Hid (bs.length = m) := hB.1
  have H8 : Hid (Dg.B8 bs) := hB.2.2.2.1
  clear hB
  obtain ⟨a1, c1, w1, hrun, hown, hgrow⟩ := append_isB w.heap.size (.slice none 0 0) 0 [] (World.ownsRow_nil ..) HB.out (by omega) (Nat.le_refl _)
  rw [Nat.zero_add, List.nil_append] at hown
  rw [Nat.zero_add] at hrun
  have HB1 : Hid (Below w.heap.size w w1) := (Below.refl _ _).grown hgrow (Nat.le_refl _) (fun q hq => by cases hq)
  have HOw := hide hown
  clear hown hgrow
  go_enter Tryd.func23, Tryd.ntmps23
  go_wp2_with (at_builtin; refine wpList_append_run rfl _ _ 22 rfl _ _ rfl rfl hrun ?_)
  clear hrun
  refine (refTail_any (m : Int) w1 (by omega) (by omega)).mono ?_
  rintro e w2 ⟨ta, tm, tc, Htm, rfl, hTI, b2⟩
  have hL2 : tm = Dg.noughts m + 9 := Htm.out.trans (Dg.tail_length m)
  have htm : tm ≤ 72 := by have := Dg.noughts_le m; omega
  have hN : (m + tm) % 64 = 0 ∧ 0 < tm := by
    rw [hL2]
    unfold Dg.noughts
    omega
  obtain ⟨a2, c2, w3, hrun, hown, hgrow⟩ := append_isB w.heap.size _ m bs (own_below HOw.out b2) hTI (by omega) (by have h1 := HB1.out.size; have h2 := b2.size; omega)
  have HB3 : Hid (Below w.heap.size w w3) := (HB1.out.trans (b2.mono HB1.out.size)).grown hgrow (by have h1 := HB1.out.size; have h2 := b2.size; omega) (own_block (own_below HOw.out b2))
  obtain ⟨all, hall⟩ : ∃ all, all = bs ++ Dg.tail m := ⟨_, rfl⟩
  have hB8 : Dg.B8 all := by
    rw [hall]
    refine Dg.b8_of_mem (fun x hx => ?_)
    rcases List.mem_append.1 hx with hx | hx
    · exact b8_mem H8.out x hx
    · exact Dg.tail_mem _ x hx
  rw [← hall] at hown
  obtain ⟨hI3, hge⟩ := own_isB' hown hB8
  obtain ⟨N, hNe⟩ : ∃ N, N = m + tm := ⟨_, rfl⟩
  rw [← hNe] at hI3 hrun hown hN
  have hNb : N ≤ 1000000 ∧ 64 ≤ N := by omega
  obtain ⟨gA, rfl, HRd⟩ : ∃ gA, a2 = some ⟨gA, 0, none⟩ ∧ Hid (Rd w3 gA 0 all) := by
    rcases hown.2 with ⟨h2, h3⟩ | ⟨g', cap', cur, hv, _⟩
    · simp only [Value.slice.injEq] at h2
      omega
    · simp only [Value.slice.injEq] at hv
      obtain ⟨rfl, _, rfl⟩ := hv
      obtain ⟨_, _, _, _, ⟨h5, _⟩ | ⟨x, h5, h6⟩⟩ := hI3
      · cases h5
      · cases h5
        obtain ⟨b, o, h7, h8⟩ := h6 (by omega)
        cases h7
        exact ⟨g', rfl, h8⟩
  have hNc := hI3.2.1
  have hcx := hI3.2.2.1
  have HAL : Hid (all.length = N) := hI3.1
  have H8A := hide hB8
  have HAE := hide hall
  have HGA : Hid (w.heap.size ≤ gA) := hge _ rfl
  have HNN := hide hN
  clear hall hB8 hI3 hge hown hgrow hN hNe hL2 htm Htm hTI b2 HB1 HOw
  go_wp2_with (at_builtin; refine wpList_append_run rfl _ _ 22 rfl _ _ rfl rfl hrun ?_)
  clear hrun
  have HE := hide (eightW_fact 1779033703 3144134277 1013904242 2773480762 1359893119 2600822924 528734635 1541459225 w3).2.out
  have HBE := hide ((Below.refl w3.heap.size w3).alloc (Nat.le_refl _) (.cells #[.int .u32 1779033703, .int .u32 3144134277, .int .u32 1013904242, .int .u32 2773480762, .int .u32 1359893119, .int .u32 2600822924, .int .u32 528734635, .int .u32 1541459225] 49))
  generalize w3.alloc (.cells #[.int .u32 1779033703, .int .u32 3144134277, .int .u32 1013904242, .int .u32 2773480762, .int .u32 1359893119, .int .u32 2600822924, .int .u32 528734635, .int .u32 1541459225] 49) = w4 at HE HBE ⊢
  have HG3 : Hid (w.heap.size ≤ w3.heap.size) := HB3.out.size
  go_loopw [5, 6] (fun h i wr => ∃ k q g c : Nat, Hid (q = 64 * k) ∧ Hid (q ≤ N) ∧ i = .int .i64 q ∧ h = .slice (some ⟨g, 0, none⟩) 8 c ∧ Hid (8 ≤ c) ∧ Hid (w.heap.size ≤ g) ∧ Hid (RowW wr g (Dg.sums Dg.start all k)) ∧ Hid (Below w3.heap.size w3 wr)) (fun _ i _ => 1000100 - (intOf i).toNat)
  case atStart => exact ⟨0, 0, _, _, rfl, Nat.zero_le _, rfl, rfl, Nat.le_refl _, HG3, HE.out, HBE.out⟩
  case round =>
    obtain ⟨k, q, g, c, Hq, HqN, rfl, rfl, Hc, Hg, HR, HBk⟩ := hrel
    by_cases hlt : q < N
    · have h64 : q + 64 ≤ N := by have h1 := Hq.out; have h2 := HNN.out; omega
      go_wp2_with fail
      have hlenk : ((all.drop q).take 64).length = 64 := by rw [List.length_take, List.length_drop, HAL.out]; omega
      refine (refBlock_any g c gA q (c2 - q) (Dg.sums Dg.start all k) ((all.drop q).take 64) _ ((Dg.sums_length _ _ _).trans rfl) HR.out Hc.out hlenk (by omega) (rd_part (HRd.out.below HBk.out)) (b8_part H8A.out q 64)).mono ?_
      rintro e w5 ⟨g5, c5, rfl, hc5, hg5, hR5, b5⟩
      have HR5 : Hid (RowW w5 g5 (Dg.sums Dg.start all (k + 1))) := by
        unfold Hid
        rw [Dg.sums, ← Hq.out]
        exact hR5
      have HB5 := hide (bthen HBk.out b5)
      have HG5 : Hid (w.heap.size ≤ g5) := by
        have h1 := HBk.out.size
        have h2 := HB3.out.size
        exact Nat.le_trans (Nat.le_trans h2 h1) hg5
      clear hR5 b5 HR HBk
      go_wp2_with fail
      go_roundw
      case rel => exact ⟨k + 1, q + 64, g5, c5, by have := Hq.out; show q + 64 = 64 * (k + 1); omega, h64, by go_num, rfl, hc5, HG5.out, HR5.out, HB5.out⟩
      case measure => simp [intOf]; omega
    · have hqN : q = N := by have := HqN.out; omega
      obtain ⟨W, hW⟩ : ∃ W, W = Dg.sumOf all := ⟨_, rfl⟩
      have hk : Dg.sums Dg.start all k = W := by
        rw [hW]
        unfold Dg.sumOf
        rw [HAL.out, show N / 64 = k by have := Hq.out; omega]
      have HRW0 := hide HR.out
      rw [hk] at HRW0
      have HW := hide hW
      have HWL : Hid (W.length = 8) := by rw [hW]; exact Dg.sumOf_length _
      have HB5 := hide (HB3.out.trans (HBk.out.mono HB3.out.size))
      obtain ⟨B, hB⟩ : ∃ B, B = wr.heap.size := ⟨_, rfl⟩
      have HBs : Hid (B ≤ wr.heap.size) := Nat.le_of_eq hB
      have HBw : Hid (w.heap.size ≤ B) := by rw [hB]; exact HB5.out.size
      have HGB : Hid (g < B) := by rw [hB]; exact HR.out.1
      have hc8 := Hc.out
      clear hW hk hB HR HBk hqN
      go_wp2_with fail
      generalize decide ((q : Int) < (N : Int)) = bt0
      go_loopw [7, 8] (fun v i wq => ∃ (j n : Nat) (la : Option Addr) (lc : Nat), Hid (j ≤ 8) ∧ Hid (n = 4 * j) ∧ i = .int .i64 j ∧ v = .slice la n lc ∧ Hid (wq.ownsRow B 5 1 (.slice la n lc) n (((W.take j).flatMap (Dg.be · 4)).map b8)) ∧ Hid (RowW wq g W) ∧ Hid (B ≤ wq.heap.size) ∧ Hid (Below w.heap.size w wq)) (fun _ i _ => 8 - (intOf i).toNat)
      case atStart => exact ⟨0, 0, none, 0, Nat.zero_le _, rfl, rfl, rfl, World.ownsRow_nil .., HRW0.out, HBs.out, HB5.out⟩
      case round =>
        clear HRW0 HB5 HBs
        obtain ⟨j, n, la, lc, Hj8, HN4, rfl, rfl, HOWN, HRW, HBs, HBJ⟩ := hrel
        by_cases hlt2 : j < 8
        · obtain ⟨x, hx⟩ : ∃ x, x = W[j]?.getD 0 := ⟨_, rfl⟩
          have HXE := hide hx
          clear hx
          go_upto_region 14 with fail
          generalize decide ((j : Int) < 8) = bt
          have Hj := hide hlt2
          clear hlt2
          refine wp_region_any (by kernel_rfl) ?_
          change wpAny _ _ _ _ _ _ _ wr.drew
          have hb0 : Below wr.heap.size wr wr.drew := (Below.refl _ _).drew
          replace HOWN := hide (own_below HOWN.out hb0)
          replace HRW := hide (HRW.out.below hb0)
          replace HBs : Hid (B ≤ wr.drew.heap.size) := HBs
          replace HBJ := hide (bthen HBJ.out hb0)
          clear hb0
          generalize wr.drew = wq at HOWN HRW HBs HBJ ⊢
          have HLT : Hid (g < wq.heap.size) := HRW.out.1
          have HX : Hid (wq.cell? ⟨g, j, none⟩ = some (.int .u32 x)) := by rw [HXE.out]; exact (HRW.out.2 j Hj.out).1
          refine' wpAny_pivot_at 25 [false] [(fun _ _ v _ => v = (.slice la n lc)), (fun _ _ v _ => v = (.slice (some ⟨g, 0, none⟩) 8 c)), (fun _ _ v _ => v = (.int .i64 (j : Int))), (fun _ _ v _ => v = (.pointer (some ⟨g, j, none⟩))), (fun _ _ v _ => v = (.int .u32 x)), (fun _ _ v _ => v = (.int .u32 (x / 16777216))), (fun _ _ v _ => v = (.int .u8 (x / 16777216 % 256))), (fun _ _ v _ => v = (.slice (some ⟨g, 0, none⟩) 8 c)), (fun _ _ v _ => v = (.int .i64 (j : Int))), (fun _ _ v _ => v = (.pointer (some ⟨g, j, none⟩))), (fun _ _ v _ => v = (.int .u32 x)), (fun _ _ v _ => v = (.int .u32 (x / 65536))), (fun _ _ v _ => v = (.int .u8 (x / 65536 % 256))), (fun _ _ v _ => v = (.slice (some ⟨g, 0, none⟩) 8 c)), (fun _ _ v _ => v = (.int .i64 (j : Int))), (fun _ _ v _ => v = (.pointer (some ⟨g, j, none⟩))), (fun _ _ v _ => v = (.int .u32 x)), (fun _ _ v _ => v = (.int .u32 (x / 256))), (fun _ _ v _ => v = (.int .u8 (x / 256 % 256))), (fun _ _ v _ => v = (.slice (some ⟨g, 0, none⟩) 8 c)), (fun _ _ v _ => v = (.int .i64 (j : Int))), (fun _ _ v _ => v = (.pointer (some ⟨g, j, none⟩))), (fun _ _ v _ => v = (.int .u32 x)), (fun _ _ v _ => v = (.int .u8 (x % 256))), (FourB (x / 16777216 % 256) (x / 65536 % 256) (x / 256 % 256) (x % 256))] rfl (by kernel_rfl) ?hA (by kernel_rfl) (by kernel_rfl) (by kernel_rfl) rfl rfl (by kernel_rfl) (by decide) ?mono ?steps ?last
          case hA =>
            intro vs
            simp only [List.take_succ_cons, List.take_zero, puts, Act.put, List.setIfInBounds_toArray, List.set_cons_zero, List.set_cons_succ, Nat.zero_add, Nat.reduceAdd]
            rfl
          case mono => exact ⟨mono_eq _, mono_eq _, mono_eq _, mono_eq _, mono_eq _, mono_eq _, mono_eq _, mono_eq _, mono_eq _, mono_eq _, mono_eq _, mono_eq _, mono_eq _, mono_eq _, mono_eq _, mono_eq _, mono_eq _, mono_eq _, mono_eq _, mono_eq _, mono_eq _, mono_eq _, mono_eq _, mono_eq _, mono_fourB (x / 16777216 % 256) (x / 65536 % 256) (x / 256 % 256) (x % 256), trivial⟩
          case steps =>
            intro Q'
            refine And.intro ?_ ?_
            · intro vs lo hi w' hM hd K' hK
              dsimp only at hK ⊢
              simp only [Act.put, List.setIfInBounds_toArray, List.set_cons_zero, List.set_cons_succ] at hK
              go_simp
              exact hK.out _ _ rfl (Below.refl _ _)
            refine And.intro ?_ ?_
            · intro vs lo hi w' hM hd K' hK
              dsimp only at hK ⊢
              simp only [Act.put, List.setIfInBounds_toArray, List.set_cons_zero, List.set_cons_succ] at hK
              go_simp
              exact hK.out _ _ rfl (Below.refl _ _)
            refine And.intro ?_ ?_
            · intro vs lo hi w' hM hd K' hK
              dsimp only at hK ⊢
              simp only [Act.put, List.setIfInBounds_toArray, List.set_cons_zero, List.set_cons_succ] at hK
              go_simp
              exact hK.out _ _ rfl (Below.refl _ _)
            refine And.intro ?_ ?_
            · intro vs lo hi w' hM hd K' hK
              dsimp only at hK ⊢
              simp only [Act.put, List.setIfInBounds_toArray, List.set_cons_zero, List.set_cons_succ] at hK
              have e1 : vs 1 = (.slice (some ⟨g, 0, none⟩) 8 c) := hd 1 (by kernel_rfl)
              have e2 : vs 2 = (.int .i64 (j : Int)) := hd 2 (by kernel_rfl)
              simp only [e1, e2] at hK ⊢
              clear e1 e2
              have g0 : (j : Int) < 8 := by have := Hj.out; omega
              have g1 : (0 : Int) ≤ (j : Int) := by omega
              go_simp
              exact hK.out _ _ rfl (Below.refl _ _)
            refine And.intro ?_ ?_
            · intro vs lo hi w' hM hd K' hK
              dsimp only at hK ⊢
              simp only [Act.put, List.setIfInBounds_toArray, List.set_cons_zero, List.set_cons_succ] at hK
              have e3 : vs 3 = (.pointer (some ⟨g, j, none⟩)) := hd 3 (by kernel_rfl)
              simp only [e3] at hK ⊢
              clear e3
              have q0 := (hM.cell (p := ⟨g, j, none⟩) HLT.out).trans HX.out
              go_simp
              exact hK.out _ _ rfl (Below.refl _ _)
            refine And.intro ?_ ?_
            · intro vs lo hi w' hM hd K' hK
              dsimp only at hK ⊢
              simp only [Act.put, List.setIfInBounds_toArray, List.set_cons_zero, List.set_cons_succ] at hK
              have e4 : vs 4 = (.int .u32 x) := hd 4 (by kernel_rfl)
              simp only [e4] at hK ⊢
              clear e4
              go_simp
              exact hK.out _ _ rfl (Below.refl _ _)
            refine And.intro ?_ ?_
            · intro vs lo hi w' hM hd K' hK
              dsimp only at hK ⊢
              simp only [Act.put, List.setIfInBounds_toArray, List.set_cons_zero, List.set_cons_succ] at hK
              have e5 : vs 5 = (.int .u32 (x / 16777216)) := hd 5 (by kernel_rfl)
              simp only [e5] at hK ⊢
              clear e5
              go_simp
              exact hK.out _ _ (int_u8 rfl) (Below.refl _ _)
            refine And.intro ?_ ?_
            · intro vs lo hi w' hM hd K' hK
              dsimp only at hK ⊢
              simp only [Act.put, List.setIfInBounds_toArray, List.set_cons_zero, List.set_cons_succ] at hK
              go_simp
              exact hK.out _ _ rfl (Below.refl _ _)
            refine And.intro ?_ ?_
            · intro vs lo hi w' hM hd K' hK
              dsimp only at hK ⊢
              simp only [Act.put, List.setIfInBounds_toArray, List.set_cons_zero, List.set_cons_succ] at hK
              go_simp
              exact hK.out _ _ rfl (Below.refl _ _)
            refine And.intro ?_ ?_
            · intro vs lo hi w' hM hd K' hK
              dsimp only at hK ⊢
              simp only [Act.put, List.setIfInBounds_toArray, List.set_cons_zero, List.set_cons_succ] at hK
              have e7 : vs 7 = (.slice (some ⟨g, 0, none⟩) 8 c) := hd 7 (by kernel_rfl)
              have e8 : vs 8 = (.int .i64 (j : Int)) := hd 8 (by kernel_rfl)
              simp only [e7, e8] at hK ⊢
              clear e7 e8
              have g0 : (j : Int) < 8 := by have := Hj.out; omega
              have g1 : (0 : Int) ≤ (j : Int) := by omega
              go_simp
              exact hK.out _ _ rfl (Below.refl _ _)
            refine And.intro ?_ ?_
            · intro vs lo hi w' hM hd K' hK
              dsimp only at hK ⊢
              simp only [Act.put, List.setIfInBounds_toArray, List.set_cons_zero, List.set_cons_succ] at hK
              have e9 : vs 9 = (.pointer (some ⟨g, j, none⟩)) := hd 9 (by kernel_rfl)
              simp only [e9] at hK ⊢
              clear e9
              have q0 := (hM.cell (p := ⟨g, j, none⟩) HLT.out).trans HX.out
              go_simp
              exact hK.out _ _ rfl (Below.refl _ _)
            refine And.intro ?_ ?_
            · intro vs lo hi w' hM hd K' hK
              dsimp only at hK ⊢
              simp only [Act.put, List.setIfInBounds_toArray, List.set_cons_zero, List.set_cons_succ] at hK
              have e10 : vs 10 = (.int .u32 x) := hd 10 (by kernel_rfl)
              simp only [e10] at hK ⊢
              clear e10
              go_simp
              exact hK.out _ _ rfl (Below.refl _ _)
            refine And.intro ?_ ?_
            · intro vs lo hi w' hM hd K' hK
              dsimp only at hK ⊢
              simp only [Act.put, List.setIfInBounds_toArray, List.set_cons_zero, List.set_cons_succ] at hK
              have e11 : vs 11 = (.int .u32 (x / 65536)) := hd 11 (by kernel_rfl)
              simp only [e11] at hK ⊢
              clear e11
              go_simp
              exact hK.out _ _ (int_u8 rfl) (Below.refl _ _)
            refine And.intro ?_ ?_
            · intro vs lo hi w' hM hd K' hK
              dsimp only at hK ⊢
              simp only [Act.put, List.setIfInBounds_toArray, List.set_cons_zero, List.set_cons_succ] at hK
              go_simp
              exact hK.out _ _ rfl (Below.refl _ _)
            refine And.intro ?_ ?_
            · intro vs lo hi w' hM hd K' hK
              dsimp only at hK ⊢
              simp only [Act.put, List.setIfInBounds_toArray, List.set_cons_zero, List.set_cons_succ] at hK
              go_simp
              exact hK.out _ _ rfl (Below.refl _ _)
            refine And.intro ?_ ?_
            · intro vs lo hi w' hM hd K' hK
              dsimp only at hK ⊢
              simp only [Act.put, List.setIfInBounds_toArray, List.set_cons_zero, List.set_cons_succ] at hK
              have e13 : vs 13 = (.slice (some ⟨g, 0, none⟩) 8 c) := hd 13 (by kernel_rfl)
              have e14 : vs 14 = (.int .i64 (j : Int)) := hd 14 (by kernel_rfl)
              simp only [e13, e14] at hK ⊢
              clear e13 e14
              have g0 : (j : Int) < 8 := by have := Hj.out; omega
              have g1 : (0 : Int) ≤ (j : Int) := by omega
              go_simp
              exact hK.out _ _ rfl (Below.refl _ _)
            refine And.intro ?_ ?_
            · intro vs lo hi w' hM hd K' hK
              dsimp only at hK ⊢
              simp only [Act.put, List.setIfInBounds_toArray, List.set_cons_zero, List.set_cons_succ] at hK
              have e15 : vs 15 = (.pointer (some ⟨g, j, none⟩)) := hd 15 (by kernel_rfl)
              simp only [e15] at hK ⊢
              clear e15
              have q0 := (hM.cell (p := ⟨g, j, none⟩) HLT.out).trans HX.out
              go_simp
              exact hK.out _ _ rfl (Below.refl _ _)
            refine And.intro ?_ ?_
            · intro vs lo hi w' hM hd K' hK
              dsimp only at hK ⊢
              simp only [Act.put, List.setIfInBounds_toArray, List.set_cons_zero, List.set_cons_succ] at hK
              have e16 : vs 16 = (.int .u32 x) := hd 16 (by kernel_rfl)
              simp only [e16] at hK ⊢
              clear e16
              go_simp
              exact hK.out _ _ rfl (Below.refl _ _)
            refine And.intro ?_ ?_
            · intro vs lo hi w' hM hd K' hK
              dsimp only at hK ⊢
              simp only [Act.put, List.setIfInBounds_toArray, List.set_cons_zero, List.set_cons_succ] at hK
              have e17 : vs 17 = (.int .u32 (x / 256)) := hd 17 (by kernel_rfl)
              simp only [e17] at hK ⊢
              clear e17
              go_simp
              exact hK.out _ _ (int_u8 rfl) (Below.refl _ _)
            refine And.intro ?_ ?_
            · intro vs lo hi w' hM hd K' hK
              dsimp only at hK ⊢
              simp only [Act.put, List.setIfInBounds_toArray, List.set_cons_zero, List.set_cons_succ] at hK
              go_simp
              exact hK.out _ _ rfl (Below.refl _ _)
            refine And.intro ?_ ?_
            · intro vs lo hi w' hM hd K' hK
              dsimp only at hK ⊢
              simp only [Act.put, List.setIfInBounds_toArray, List.set_cons_zero, List.set_cons_succ] at hK
              go_simp
              exact hK.out _ _ rfl (Below.refl _ _)
            refine And.intro ?_ ?_
            · intro vs lo hi w' hM hd K' hK
              dsimp only at hK ⊢
              simp only [Act.put, List.setIfInBounds_toArray, List.set_cons_zero, List.set_cons_succ] at hK
              have e19 : vs 19 = (.slice (some ⟨g, 0, none⟩) 8 c) := hd 19 (by kernel_rfl)
              have e20 : vs 20 = (.int .i64 (j : Int)) := hd 20 (by kernel_rfl)
              simp only [e19, e20] at hK ⊢
              clear e19 e20
              have g0 : (j : Int) < 8 := by have := Hj.out; omega
              have g1 : (0 : Int) ≤ (j : Int) := by omega
              go_simp
              exact hK.out _ _ rfl (Below.refl _ _)
            refine And.intro ?_ ?_
            · intro vs lo hi w' hM hd K' hK
              dsimp only at hK ⊢
              simp only [Act.put, List.setIfInBounds_toArray, List.set_cons_zero, List.set_cons_succ] at hK
              have e21 : vs 21 = (.pointer (some ⟨g, j, none⟩)) := hd 21 (by kernel_rfl)
              simp only [e21] at hK ⊢
              clear e21
              have q0 := (hM.cell (p := ⟨g, j, none⟩) HLT.out).trans HX.out
              go_simp
              exact hK.out _ _ rfl (Below.refl _ _)
            refine And.intro ?_ ?_
            · intro vs lo hi w' hM hd K' hK
              dsimp only at hK ⊢
              simp only [Act.put, List.setIfInBounds_toArray, List.set_cons_zero, List.set_cons_succ] at hK
              have e22 : vs 22 = (.int .u32 x) := hd 22 (by kernel_rfl)
              simp only [e22] at hK ⊢
              clear e22
              go_simp
              exact hK.out _ _ (int_u8 rfl) (Below.refl _ _)
            refine And.intro ?_ ?_
            · intro vs lo hi w' hM hd K' hK
              dsimp only at hK ⊢
              simp only [Act.put, List.setIfInBounds_toArray, List.set_cons_zero, List.set_cons_succ] at hK
              have e6 : vs 6 = (.int .u8 (x / 16777216 % 256)) := hd 6 (by kernel_rfl)
              have e12 : vs 12 = (.int .u8 (x / 65536 % 256)) := hd 12 (by kernel_rfl)
              have e18 : vs 18 = (.int .u8 (x / 256 % 256)) := hd 18 (by kernel_rfl)
              have e23 : vs 23 = (.int .u8 (x % 256)) := hd 23 (by kernel_rfl)
              simp only [e6, e12, e18, e23] at hK ⊢
              clear e6 e12 e18 e23
              go_simp
              exact hK.out _ _ (fourB_fact (x / 16777216 % 256) (x / 65536 % 256) (x / 256 % 256) (x % 256) _) ((Below.refl _ _).alloc (Nat.le_refl _) _)
            exact trivial
          case last =>
            intro vs lo hi w' hM hlo hap hall K' Q' hK
            have h0 : vs 0 = (.slice la n lc) := hall.1
            obtain ⟨e1, H1⟩ := hall.2.2.2.2.2.2.2.2.2.2.2.2.2.2.2.2.2.2.2.2.2.2.2.2.1
            dsimp only
            simp only [h0, e1]
            clear h0 e1 hap
            have hown := own_below HOWN.out hM
            obtain ⟨a2, c2, wA, hrun, hown', hgr⟩ := append_one (w := w') 22 5 (.int .u8 0) 1 Tryd.underlying22 infoByte rfl B _ _ _ hown (m := 4) (c := 4) (news := [b8 (x / 16777216 % 256), b8 (x / 65536 % 256), b8 (x / 256 % 256), b8 (x % 256)]) rfl H1.out (by simp [Value.oneCell']) (by have := Hj.out; have := HN4.out; omega) (by have := Hj.out; have := HN4.out; omega) (by have h1 := hM.size; have h2 := HBs.out; omega)
            rw [if_pos (by rfl)]
            refine Lib.wp_append_run _ (.tmp 37) (.tmp 61) 22 22 rfl _ _ (by simp [Act.eval]) (by simp [Act.eval]) _ _ hrun ?_
            have HBA : Hid (Below w.heap.size w wA) := (HBJ.out.trans (hM.mono HBJ.out.size)).grown hgr (by have h1 := hM.size; have h2 := HBJ.out.size; omega) (fun k hk => Nat.le_trans HBw.out (own_block hown k hk))
            have HRA : Hid (RowW wA g W) := (HRW.out.below hM).belowAt ((Below.refl B w').grown hgr (by have h1 := hM.size; have h2 := HBs.out; omega) (own_block hown)) HGB.out
            have HBsA : Hid (B ≤ wA.heap.size) := Nat.le_trans (Nat.le_trans HBs.out hM.size) ((Below.refl 0 w').grown hgr (Nat.zero_le _) (fun _ _ => Nat.zero_le _)).size
            have HOWNA := hide hown'
            clear hown hrun hown' hgr
            refine hK.out _ _ (fun fuel hfuel => ?_)
            obtain ⟨f, rfl⟩ : ∃ f, fuel = f + 1 := ⟨fuel - 1, by have : 1 ≤ fuel := hfuel; omega⟩
            clear hK hM hlo H1 hall
            simp only [Act.put, List.setIfInBounds_toArray, List.set_cons_zero, List.set_cons_succ]
            refine wpAny_ready (rs := [26]) (by kernel_rfl) (by simp) ?_
            refine AllReady.cons rfl (fun K2 hK2 => ?_) AllReady.nil
            have HK2 := hide hK2
            clear hK2
            go_simp
            refine HK2.out _ _ ?_
            clear HK2
            refine wpAny_done (by kernel_rfl) ?_ _
            have hj := Hj.out
            go_wp2_with fail
            go_roundw
            case rel =>
              refine ⟨j + 1, n + 4, a2, c2, by show j + 1 ≤ 8; omega, by have := HN4.out; show n + 4 = 4 * (j + 1); omega, by go_num, rfl, ?_, HRA, HBsA, HBA⟩
              unfold Hid
              have e : W.take (j + 1) = W.take j ++ [x] := by
                rw [List.take_succ_eq_append_getElem (by rw [HWL.out]; exact hj), HXE.out, List.getElem?_eq_getElem (by rw [HWL.out]; exact hj)]
                rfl
              have e4 : Dg.be x 4 = [x / 16777216 % 256, x / 65536 % 256, x / 256 % 256, x % 256] := by simp [Dg.be]
              rw [e, List.flatMap_append, List.map_append]
              simp only [List.flatMap_cons, List.flatMap_nil, List.append_nil, e4]
              exact HOWNA.out
            case measure => simp [intOf]; omega
        · have hj8 : j = 8 := by have := Hj8.out; omega
          have hn32 : n = 32 := by have := HN4.out; omega
          go_wp2_with fail
          go_ret
          subst hn32
          have ho := HOWN.out
          rw [List.take_of_length_le (by rw [HWL.out]; omega), HW.out, HAE.out, ← HL.out] at ho
          exact ⟨la, lc, rfl, own_base ho HBw.out, HBJ.out⟩
theorem refSum_any (a : Option Addr) (m cap : Nat) (bs : List Int) (w : World) (hB : IsB w a m cap bs) (hm : m ≤ 900000) :
    Calls Tryd.prog 23 #[.slice a m cap] w fun e w' => ∃ a' c', e = .returned (.slice a' 32 c') ∧ IsB w' a' 32 c' (Dg.sha bs) ∧ Below w.heap.size w w' :=
  (refSum_own a m cap bs w hB hm).mono fun e w' ⟨a', c', he, ho, hb⟩ => ⟨a', c', he, (own_isB' ho (Dg.b8_of_mem (Dg.sha_mem _))).1, hb⟩
end Go.Proofs.YtfcbooagedjkfaaDoor
