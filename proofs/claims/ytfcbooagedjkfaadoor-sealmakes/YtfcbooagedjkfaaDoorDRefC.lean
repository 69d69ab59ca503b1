/-
  THE WALK of the document's block.
-/
import Derived.Test.YtfcbooagedjkfaaDoorDRefB
set_option linter.unusedVariables false
set_option linter.unusedSimpArgs false
namespace Go.Proofs.YtfcbooagedjkfaaDoor
open Go.RowKit

/-- eight words that may be read and written -/
def RowW (w : World) (g : Nat) (l : List Int) : Prop := g < w.heap.size ∧ ∀ i, i < 8 → w.cell? ⟨g, i, none⟩ = some (w32 (l[i]?.getD 0)) ∧ w.frozen? ⟨g, i, none⟩ = false
theorem RowW.below {w w' : World} {g : Nat} {l : List Int} (h : RowW w g l) (b : Below w.heap.size w w') : RowW w' g l :=
  ⟨Nat.lt_of_lt_of_le h.1 b.size, fun i hi => ⟨(b.cell (p := ⟨g, i, none⟩) h.1).trans (h.2 i hi).1, (b.frozen (p := ⟨g, i, none⟩) h.1).trans (h.2 i hi).2⟩⟩
theorem RowW.set {w : World} {g : Nat} {l : List Int} (h : RowW w g l) (hl : l.length = 8) (j : Nat) (hj : j < 8) (x : Int) : RowW (w.setCell ⟨g, j, none⟩ (w32 x)) g (l.set j x) := by
  refine ⟨by simpa [World.setCell] using h.1, fun i hi => ⟨?_, by rw [World.frozen?_setCell]; exact (h.2 i hi).2⟩⟩
  by_cases e : j = i
  · subst e
    rw [World.cell?_setCell_same _ _ _ (h.2 j hj).1, List.getElem?_set, if_pos rfl, if_pos (by omega)]
    rfl
  · rw [World.cell?_setCell_other _ _ _ _ (fun hh => e (by injection hh)), List.getElem?_set, if_neg e]
    exact (h.2 i hi).1
theorem RowW.at {w : World} {g : Nat} {a b c d e f i h : Int} (r : RowW w g [a, b, c, d, e, f, i, h]) :
    w.cell? ⟨g, 0, none⟩ = some (.int .u32 a) ∧ w.cell? ⟨g, 1, none⟩ = some (.int .u32 b) ∧ w.cell? ⟨g, 2, none⟩ = some (.int .u32 c) ∧ w.cell? ⟨g, 3, none⟩ = some (.int .u32 d) ∧ w.cell? ⟨g, 4, none⟩ = some (.int .u32 e) ∧ w.cell? ⟨g, 5, none⟩ = some (.int .u32 f) ∧ w.cell? ⟨g, 6, none⟩ = some (.int .u32 i) ∧ w.cell? ⟨g, 7, none⟩ = some (.int .u32 h) :=
  ⟨(r.2 0 (by omega)).1, (r.2 1 (by omega)).1, (r.2 2 (by omega)).1, (r.2 3 (by omega)).1, (r.2 4 (by omega)).1, (r.2 5 (by omega)).1, (r.2 6 (by omega)).1, (r.2 7 (by omega)).1⟩
theorem own_row8 {w : World} {base c : Nat} {a : Option Addr} {l : List Int} (h : w.ownsRow base 49 1 (.slice a 8 c) 8 (l.map w32)) : ∃ g, a = some ⟨g, 0, none⟩ ∧ base ≤ g ∧ 8 ≤ c ∧ RowW w g l := by
  obtain ⟨g, rfl, h1, h2, h3, h4, h5⟩ := own_read h (by omega)
  obtain ⟨_, hh⟩ := h
  rcases hh with ⟨hh, _⟩ | ⟨g', cap, cur, hv, hg, hh, _⟩
  · cases hh
  · simp only [Value.slice.injEq, Option.some.injEq, Addr.mk.injEq] at hv
    obtain ⟨⟨rfl, _, _⟩, _, rfl⟩ := hv
    exact ⟨g, rfl, h1, h3, h2, fun i hi => ⟨h5 i hi, frozen_of_row w g i cur _ hh⟩⟩

/-- the first k words of s added to n -/
def plusR (n s : List Int) : Nat → List Int
  | 0 => n
  | k + 1 => (plusR n s k).set k (((plusR n s k)[k]?.getD 0 + s[k]?.getD 0) % 4294967296)
theorem plusR_length (n s : List Int) : ∀ k, (plusR n s k).length = n.length
  | 0 => rfl
  | k + 1 => by simp [plusR, plusR_length n s k]
theorem plusR_eq (n s : List Int) (hn : n.length = 8) (hs : s.length = 8) : plusR n s 8 = Dg.plus s n 8 := by
  obtain ⟨a, b, c, d, e, f, g, i, rfl⟩ := Dg.eight hn
  obtain ⟨a', b', c', d', e', f', g', i', rfl⟩ := Dg.eight hs
  simp [plusR, Dg.plus, Int.add_comm]
/-- a row of eight words just made -/
def EightW (l : List Int) : Fact := fun lo hi v w => v = .slice (some ⟨lo, 0, none⟩) 8 8 ∧ Hid (RowW w lo l)
theorem mono_eightW (l : List Int) : Mono (EightW l) := by
  rintro lo hi v w w' ⟨rfl, h⟩ b
  exact ⟨rfl, h.out.below b⟩
theorem eightW_fact (a b c d e f i h : Int) (w : World) : EightW [a, b, c, d, e, f, i, h] w.heap.size (w.alloc (.cells #[.int .u32 a, .int .u32 b, .int .u32 c, .int .u32 d, .int .u32 e, .int .u32 f, .int .u32 i, .int .u32 h] 49)).heap.size (.slice (some ⟨w.heap.size, 0, none⟩) 8 8) (w.alloc (.cells #[.int .u32 a, .int .u32 b, .int .u32 c, .int .u32 d, .int .u32 e, .int .u32 f, .int .u32 i, .int .u32 h] 49)) := by
  refine ⟨rfl, by simp, fun j hj => ?_⟩
  have hb := blk_new w 49 #[.int .u32 a, .int .u32 b, .int .u32 c, .int .u32 d, .int .u32 e, .int .u32 f, .int .u32 i, .int .u32 h]
  refine ⟨(hb.cell j).trans ?_, hb.frozen j⟩
  have : j = 0 ∨ j = 1 ∨ j = 2 ∨ j = 3 ∨ j = 4 ∨ j = 5 ∨ j = 6 ∨ j = 7 := by omega
  rcases this with rfl | rfl | rfl | rfl | rfl | rfl | rfl | rfl <;> rfl
theorem RowW.drewN {w : World} {g : Nat} {l : List Int} (h : RowW w g l) (n : Nat) : RowW (w.drewN n) g l := h

set_option maxRecDepth 100000 in
set_option maxHeartbeats 4000000 in
theorem refBlock_any (hb hcap b o cap : Nat) (s bs : List Int) (w : World) (hs : s.length = 8) (hh : RowW w hb s) (hhc : 8 ≤ hcap) (hl : bs.length = 64) (hcap2 : 64 ≤ cap) (hr : Rd w b o bs) (h8 : Dg.B8 bs) :
    Calls Tryd.prog 39 #[.slice (some ⟨hb, 0, none⟩) 8 hcap, .slice (some ⟨b, o, none⟩) 64 cap] w fun e w' => ∃ g c, e = .returned (.slice (some ⟨g, 0, none⟩) 8 c) ∧ 8 ≤ c ∧ w.heap.size ≤ g ∧ RowW w' g (Dg.block s bs) ∧ Below w.heap.size w w' := by
  have HH := hide hh
  have HS := hide hs
  have HL := hide hl
  have HR := hide hr
  have H8 := hide h8
  clear hh hs hl hr h8
  go_enter Tryd.func39, Tryd.ntmps39
  go_wp2_with fail
  refine (refWords_any b o cap bs _ HL.out hcap2 HR.out H8.out).mono ?_
  rintro e w1 ⟨wa, wc, rfl, hown1, b1⟩
  obtain ⟨W, hW⟩ : ∃ W, W = Dg.spread bs := ⟨_, rfl⟩
  rw [← hW] at hown1
  obtain ⟨wb, rfl, hwb1, hwb2, hwc, hwm, hwr⟩ := own_read hown1 (by omega)
  have HW := hide hW
  have HWr := hide hwr
  have HB1 := hide b1
  clear hW hown1 hwr b1
  go_wp2_with fail
  refine (keys_any _).mono ?_
  rintro e w2 ⟨rfl, hw2⟩
  have b2 : Below w1.heap.size w1 w2 := by rw [hw2]; exact (Below.refl _ _).alloc (Nat.le_refl _) _
  have hk2 : Blk w2 w1.heap.size 49 (wds Dg.K) := by rw [hw2]; exact blk_new _ _ _
  obtain ⟨kb, hkb⟩ : ∃ kb, kb = w1.heap.size := ⟨_, rfl⟩
  rw [← hkb] at hk2 ⊢
  have HK2 := hide hk2
  have HB2 := hide (bthen HB1.out b2)
  have HB12 := hide b2
  have HH2 := hide (HH.out.below (bthen HB1.out b2))
  clear hw2 b2 hk2 hkb
  obtain ⟨a3, c3, w3, hrun, hown3, hgr⟩ := append_one (w := w2) 60 49 (.int .u32 0) 4 Tryd.underlying60 infoWord rfl w.heap.size (.slice none 0 0) 0 [] (World.ownsRow_nil ..) (lo := hb) (m := 8) (c := hcap) (news := s.map w32) (by rw [List.length_map, HS.out]) (fun j u hu => by
      have hj : j < 8 := by have := (List.getElem?_eq_some_iff.1 hu).1; rw [List.length_map, HS.out] at this; exact this
      rw [(HH2.out.2 j hj).1]
      rw [List.getElem?_map, List.getElem?_eq_getElem (by rw [HS.out]; exact hj)] at hu
      rw [← hu, List.getElem?_eq_getElem (by rw [HS.out]; exact hj)]
      rfl) (fun u hu => by simp only [List.mem_map] at hu; obtain ⟨y, _, rfl⟩ := hu; rfl) (by omega) (by omega) HB2.out.size
  rw [Nat.zero_add, List.nil_append] at hown3
  rw [Nat.zero_add] at hrun
  go_wp2_with (at_builtin; refine wpList_append_run rfl _ _ 60 rfl _ _ rfl rfl hrun ?_)
  clear hrun
  have b3 : Below w2.heap.size w2 w3 := (Below.refl _ _).grown hgr (Nat.le_refl _) (fun q hq => by cases hq)
  obtain ⟨g3, rfl, hg3, hc3, hrow3⟩ := own_row8 hown3
  have HB3 := hide (bthen HB2.out b3)
  have HK3 := hide (HK2.out.below' b3)
  have HW3 : Hid (∀ i, i < 64 → w3.cell? ⟨wb, i, none⟩ = some (w32 (W[i]?.getD 0))) := fun i hi => ((bthen HB12.out b3).cell (p := ⟨wb, i, none⟩) hwb2).trans (HWr.out i hi)
  have HH3 := hide (HH2.out.below b3)
  have HR3 := hide hrow3
  have HWl : Hid (W.length = 64) := by rw [HW.out]; exact Dg.spread_length bs
  have hwb3 : wb < w3.heap.size := by have := (bthen HB12.out b3).size; omega
  clear hown3 hgr b3 hrow3 HK2 HWr HB2 HB12
  go_loopw [7, 8] (fun v i wr => ∃ (k g c : Nat), Hid (k ≤ 64) ∧ i = .int .i64 k ∧ v = .slice (some ⟨g, 0, none⟩) 8 c ∧ Hid (w.heap.size ≤ g ∧ 8 ≤ c) ∧ Hid (RowW wr g (Dg.rounds s W k)) ∧ Hid (Below w3.heap.size w3 wr)) (fun _ i _ => 64 - (intOf i).toNat)
  case atStart => exact ⟨0, g3, c3, Nat.zero_le _, rfl, rfl, ⟨hg3, hc3⟩, HR3.out, Below.refl _ _⟩
  case round =>
    obtain ⟨k, g, c, Hk, rfl, rfl, Hg, HRk, HBk⟩ := hrel
    by_cases hlt : k < 64
    · have hlen : (Dg.rounds s W k).length = 8 := (Dg.rounds_length s W k).trans HS.out
      obtain ⟨xa, xb, xc, xd, xe, xf, xi, xz, h8e⟩ := Dg.eight hlen
      have H8E := hide h8e
      have hrow : RowW wr g [xa, xb, xc, xd, xe, xf, xi, xz] := by rw [← h8e]; exact HRk.out
      obtain ⟨K, hK⟩ : ∃ K, K = Dg.K[k]?.getD 0 := ⟨_, rfl⟩
      obtain ⟨V, hV⟩ : ∃ V, V = W[k]?.getD 0 := ⟨_, rfl⟩
      have hck : wr.cell? ⟨kb, k, none⟩ = some (.int .u32 K) := by rw [hK]; exact ((HK3.out.below' HBk.out).cell k).trans (wds_at (by exact hlt))
      have hcv : wr.cell? ⟨wb, k, none⟩ = some (.int .u32 V) := by rw [hV]; exact (HBk.out.cell (p := ⟨wb, k, none⟩) hwb3).trans (HW3.out k hlt)
      have HKe := hide hK
      have HVe := hide hV
      have HRow := hide hrow
      obtain ⟨c0, c1, c2, c3', c4, c5, c6, c7⟩ := hrow.at
      have hg8 := Hg.out.2
      clear hrow h8e hlen hK hV
      go_upto_region 10 with fail
      obtain ⟨z1, hz1⟩ : ∃ z, z = (xz + Dg.S1 xe + Dg.ch xe xf xi + K + V) % 4294967296 := ⟨_, rfl⟩
      obtain ⟨z2, hz2⟩ : ∃ z, z = (Dg.S0 xa + Dg.maj xa xb xc) % 4294967296 := ⟨_, rfl⟩
      have HZ1 := hide hz1
      have HZ2 := hide hz2
      clear hz1 hz2
      go_cut [11] from 20 to 115 (fun v wx => v = .int .u32 z1 ∧ Hid (Below wr.heap.size wr wx))
      case first =>
        go_quiet ((go_at_call 51; exact Calls.quiet_of_same (refTurn_same _ _ _ (by omega) (by omega))))
        go_wp2_with fail
        go_meet
        case rel =>
          refine ⟨?_, below_drewN (Below.refl _ _) nq⟩
          rw [HZ1.out]
          rfl
      case rest =>
        obtain ⟨rfl, hb4⟩ := hcut
        have HB4 := hide (bthen HBk.out hb4.out)
        have HRow4 := hide (HRow.out.below hb4.out)
        clear c0 c1 c2 c3' c4 c5 c6 c7 hck hcv hb4 HRow HBk HRk
        obtain ⟨c0, c1, c2, c3', c4, c5, c6, c7⟩ := HRow4.out.at
        go_upto_region 11 with fail
        go_cut [12] from 20 to 115 (fun v wx => v = .int .u32 z2 ∧ Hid (Below wc.heap.size wc wx))
        case first =>
          go_quiet ((go_at_call 51; exact Calls.quiet_of_same (refTurn_same _ _ _ (by omega) (by omega))))
          go_wp2_with fail
          go_meet
          case rel =>
            refine ⟨?_, below_drewN (Below.refl _ _) nq⟩
            rw [HZ2.out]
            rfl
        case rest =>
          obtain ⟨rfl, hb5⟩ := hcut
          have HB5 := hide (bthen HB4.out hb5.out)
          have HRow2 := hide (HRow4.out.below hb5.out)
          clear c0 c1 c2 c3' c4 c5 c6 c7 hb5 HRow4 HB4
          go_upto_region 12 with fail
          have Hlt := hide hlt
          clear hlt
          refine wp_region_any (by kernel_rfl) ?_
          change wpAny _ _ _ _ _ _ _ wc.drew
          have hb6 : Below wc.heap.size wc wc.drew := (Below.refl _ _).drew
          replace HB5 := hide (bthen HB5.out hb6)
          replace HRow2 := hide (HRow2.out.below hb6)
          clear hb6
          generalize wc.drew = wc at HB5 HRow2 ⊢
          refine' wpAny_pivot_at 22 [false] [(fun _ _ v _ => v = (.int .u32 z1)), (fun _ _ v _ => v = (.int .u32 z2)), (fun _ _ v _ => v = (.int .u32 ((z1 + z2) % 4294967296))), (fun _ _ v _ => v = (.int .u32 xa)), (fun _ _ v _ => v = (.slice (some ⟨g, 0, none⟩) 8 c)), (fun _ _ v _ => v = (.pointer (some ⟨g, 1, none⟩))), (fun _ _ v _ => v = (.int .u32 xb)), (fun _ _ v _ => v = (.slice (some ⟨g, 0, none⟩) 8 c)), (fun _ _ v _ => v = (.pointer (some ⟨g, 2, none⟩))), (fun _ _ v _ => v = (.int .u32 xc)), (fun _ _ v _ => v = (.slice (some ⟨g, 0, none⟩) 8 c)), (fun _ _ v _ => v = (.pointer (some ⟨g, 3, none⟩))), (fun _ _ v _ => v = (.int .u32 xd)), (fun _ _ v _ => v = (.int .u32 z1)), (fun _ _ v _ => v = (.int .u32 ((xd + z1) % 4294967296))), (fun _ _ v _ => v = (.int .u32 xe)), (fun _ _ v _ => v = (.slice (some ⟨g, 0, none⟩) 8 c)), (fun _ _ v _ => v = (.pointer (some ⟨g, 5, none⟩))), (fun _ _ v _ => v = (.int .u32 xf)), (fun _ _ v _ => v = (.slice (some ⟨g, 0, none⟩) 8 c)), (fun _ _ v _ => v = (.pointer (some ⟨g, 6, none⟩))), (fun _ _ v _ => v = (.int .u32 xi))] rfl (by kernel_rfl) ?hA (by kernel_rfl) (by kernel_rfl) (by kernel_rfl) rfl rfl (by kernel_rfl) (by decide) ?mono ?steps ?last
          case hA =>
            intro vs
            simp only [List.take_succ_cons, List.take_zero, puts, Act.put, List.setIfInBounds_toArray, List.set_cons_zero, List.set_cons_succ, Nat.zero_add, Nat.reduceAdd]
            rfl
          case mono => exact ⟨mono_eq _, mono_eq _, mono_eq _, mono_eq _, mono_eq _, mono_eq _, mono_eq _, mono_eq _, mono_eq _, mono_eq _, mono_eq _, mono_eq _, mono_eq _, mono_eq _, mono_eq _, mono_eq _, mono_eq _, mono_eq _, mono_eq _, mono_eq _, mono_eq _, mono_eq _, trivial⟩
          case steps =>
            intro Q'
            refine And.intro ?_ ?_
            · intro vs lo hi w' hM hd K' hK
              dsimp only at hK ⊢
              simp only [Act.put, List.setIfInBounds_toArray, List.set_cons_zero, List.set_cons_succ] at hK
              go_simp
              exact hK.out _ _ rfl (Below.refl _ _)
            refine And.intro ?_ ?_
            · intro vs lo hi w' hM hd K' hK
              dsimp only at hK ⊢
              simp only [Act.put, List.setIfInBounds_toArray, List.set_cons_zero, List.set_cons_succ] at hK
              go_simp
              exact hK.out _ _ rfl (Below.refl _ _)
            refine And.intro ?_ ?_
            · intro vs lo hi w' hM hd K' hK
              dsimp only at hK ⊢
              simp only [Act.put, List.setIfInBounds_toArray, List.set_cons_zero, List.set_cons_succ] at hK
              have e0 : vs 0 = (.int .u32 z1) := hd 0 (by kernel_rfl)
              have e1 : vs 1 = (.int .u32 z2) := hd 1 (by kernel_rfl)
              simp only [e0, e1] at hK ⊢
              clear e0 e1
              go_simp
              exact hK.out _ _ (int_u32 (by omega)) (Below.refl _ _)
            refine And.intro ?_ ?_
            · intro vs lo hi w' hM hd K' hK
              dsimp only at hK ⊢
              simp only [Act.put, List.setIfInBounds_toArray, List.set_cons_zero, List.set_cons_succ] at hK
              go_simp
              exact hK.out _ _ rfl (Below.refl _ _)
            refine And.intro ?_ ?_
            · intro vs lo hi w' hM hd K' hK
              dsimp only at hK ⊢
              simp only [Act.put, List.setIfInBounds_toArray, List.set_cons_zero, List.set_cons_succ] at hK
              go_simp
              exact hK.out _ _ rfl (Below.refl _ _)
            refine And.intro ?_ ?_
            · intro vs lo hi w' hM hd K' hK
              dsimp only at hK ⊢
              simp only [Act.put, List.setIfInBounds_toArray, List.set_cons_zero, List.set_cons_succ] at hK
              have e4 : vs 4 = (.slice (some ⟨g, 0, none⟩) 8 c) := hd 4 (by kernel_rfl)
              simp only [e4] at hK ⊢
              clear e4
              have g0 : (1 : Int) < 8 := by omega
              go_simp
              exact hK.out _ _ rfl (Below.refl _ _)
            refine And.intro ?_ ?_
            · intro vs lo hi w' hM hd K' hK
              dsimp only at hK ⊢
              simp only [Act.put, List.setIfInBounds_toArray, List.set_cons_zero, List.set_cons_succ] at hK
              have e5 : vs 5 = (.pointer (some ⟨g, 1, none⟩)) := hd 5 (by kernel_rfl)
              simp only [e5] at hK ⊢
              clear e5
              have q0 := ((HRow2.out.below hM).2 1 (by omega)).1
              simp only [List.getElem?_cons_zero, List.getElem?_cons_succ, Option.getD_some] at q0
              go_simp
              exact hK.out _ _ rfl (Below.refl _ _)
            refine And.intro ?_ ?_
            · intro vs lo hi w' hM hd K' hK
              dsimp only at hK ⊢
              simp only [Act.put, List.setIfInBounds_toArray, List.set_cons_zero, List.set_cons_succ] at hK
              go_simp
              exact hK.out _ _ rfl (Below.refl _ _)
            refine And.intro ?_ ?_
            · intro vs lo hi w' hM hd K' hK
              dsimp only at hK ⊢
              simp only [Act.put, List.setIfInBounds_toArray, List.set_cons_zero, List.set_cons_succ] at hK
              have e7 : vs 7 = (.slice (some ⟨g, 0, none⟩) 8 c) := hd 7 (by kernel_rfl)
              simp only [e7] at hK ⊢
              clear e7
              have g0 : (2 : Int) < 8 := by omega
              go_simp
              exact hK.out _ _ rfl (Below.refl _ _)
            refine And.intro ?_ ?_
            · intro vs lo hi w' hM hd K' hK
              dsimp only at hK ⊢
              simp only [Act.put, List.setIfInBounds_toArray, List.set_cons_zero, List.set_cons_succ] at hK
              have e8 : vs 8 = (.pointer (some ⟨g, 2, none⟩)) := hd 8 (by kernel_rfl)
              simp only [e8] at hK ⊢
              clear e8
              have q0 := ((HRow2.out.below hM).2 2 (by omega)).1
              simp only [List.getElem?_cons_zero, List.getElem?_cons_succ, Option.getD_some] at q0
              go_simp
              exact hK.out _ _ rfl (Below.refl _ _)
            refine And.intro ?_ ?_
            · intro vs lo hi w' hM hd K' hK
              dsimp only at hK ⊢
              simp only [Act.put, List.setIfInBounds_toArray, List.set_cons_zero, List.set_cons_succ] at hK
              go_simp
              exact hK.out _ _ rfl (Below.refl _ _)
            refine And.intro ?_ ?_
            · intro vs lo hi w' hM hd K' hK
              dsimp only at hK ⊢
              simp only [Act.put, List.setIfInBounds_toArray, List.set_cons_zero, List.set_cons_succ] at hK
              have e10 : vs 10 = (.slice (some ⟨g, 0, none⟩) 8 c) := hd 10 (by kernel_rfl)
              simp only [e10] at hK ⊢
              clear e10
              have g0 : (3 : Int) < 8 := by omega
              go_simp
              exact hK.out _ _ rfl (Below.refl _ _)
            refine And.intro ?_ ?_
            · intro vs lo hi w' hM hd K' hK
              dsimp only at hK ⊢
              simp only [Act.put, List.setIfInBounds_toArray, List.set_cons_zero, List.set_cons_succ] at hK
              have e11 : vs 11 = (.pointer (some ⟨g, 3, none⟩)) := hd 11 (by kernel_rfl)
              simp only [e11] at hK ⊢
              clear e11
              have q0 := ((HRow2.out.below hM).2 3 (by omega)).1
              simp only [List.getElem?_cons_zero, List.getElem?_cons_succ, Option.getD_some] at q0
              go_simp
              exact hK.out _ _ rfl (Below.refl _ _)
            refine And.intro ?_ ?_
            · intro vs lo hi w' hM hd K' hK
              dsimp only at hK ⊢
              simp only [Act.put, List.setIfInBounds_toArray, List.set_cons_zero, List.set_cons_succ] at hK
              go_simp
              exact hK.out _ _ rfl (Below.refl _ _)
            refine And.intro ?_ ?_
            · intro vs lo hi w' hM hd K' hK
              dsimp only at hK ⊢
              simp only [Act.put, List.setIfInBounds_toArray, List.set_cons_zero, List.set_cons_succ] at hK
              have e12 : vs 12 = (.int .u32 xd) := hd 12 (by kernel_rfl)
              have e13 : vs 13 = (.int .u32 z1) := hd 13 (by kernel_rfl)
              simp only [e12, e13] at hK ⊢
              clear e12 e13
              go_simp
              exact hK.out _ _ (int_u32 (by omega)) (Below.refl _ _)
            refine And.intro ?_ ?_
            · intro vs lo hi w' hM hd K' hK
              dsimp only at hK ⊢
              simp only [Act.put, List.setIfInBounds_toArray, List.set_cons_zero, List.set_cons_succ] at hK
              go_simp
              exact hK.out _ _ rfl (Below.refl _ _)
            refine And.intro ?_ ?_
            · intro vs lo hi w' hM hd K' hK
              dsimp only at hK ⊢
              simp only [Act.put, List.setIfInBounds_toArray, List.set_cons_zero, List.set_cons_succ] at hK
              go_simp
              exact hK.out _ _ rfl (Below.refl _ _)
            refine And.intro ?_ ?_
            · intro vs lo hi w' hM hd K' hK
              dsimp only at hK ⊢
              simp only [Act.put, List.setIfInBounds_toArray, List.set_cons_zero, List.set_cons_succ] at hK
              have e16 : vs 16 = (.slice (some ⟨g, 0, none⟩) 8 c) := hd 16 (by kernel_rfl)
              simp only [e16] at hK ⊢
              clear e16
              have g0 : (5 : Int) < 8 := by omega
              go_simp
              exact hK.out _ _ rfl (Below.refl _ _)
            refine And.intro ?_ ?_
            · intro vs lo hi w' hM hd K' hK
              dsimp only at hK ⊢
              simp only [Act.put, List.setIfInBounds_toArray, List.set_cons_zero, List.set_cons_succ] at hK
              have e17 : vs 17 = (.pointer (some ⟨g, 5, none⟩)) := hd 17 (by kernel_rfl)
              simp only [e17] at hK ⊢
              clear e17
              have q0 := ((HRow2.out.below hM).2 5 (by omega)).1
              simp only [List.getElem?_cons_zero, List.getElem?_cons_succ, Option.getD_some] at q0
              go_simp
              exact hK.out _ _ rfl (Below.refl _ _)
            refine And.intro ?_ ?_
            · intro vs lo hi w' hM hd K' hK
              dsimp only at hK ⊢
              simp only [Act.put, List.setIfInBounds_toArray, List.set_cons_zero, List.set_cons_succ] at hK
              go_simp
              exact hK.out _ _ rfl (Below.refl _ _)
            refine And.intro ?_ ?_
            · intro vs lo hi w' hM hd K' hK
              dsimp only at hK ⊢
              simp only [Act.put, List.setIfInBounds_toArray, List.set_cons_zero, List.set_cons_succ] at hK
              have e19 : vs 19 = (.slice (some ⟨g, 0, none⟩) 8 c) := hd 19 (by kernel_rfl)
              simp only [e19] at hK ⊢
              clear e19
              have g0 : (6 : Int) < 8 := by omega
              go_simp
              exact hK.out _ _ rfl (Below.refl _ _)
            refine And.intro ?_ ?_
            · intro vs lo hi w' hM hd K' hK
              dsimp only at hK ⊢
              simp only [Act.put, List.setIfInBounds_toArray, List.set_cons_zero, List.set_cons_succ] at hK
              have e20 : vs 20 = (.pointer (some ⟨g, 6, none⟩)) := hd 20 (by kernel_rfl)
              simp only [e20] at hK ⊢
              clear e20
              have q0 := ((HRow2.out.below hM).2 6 (by omega)).1
              simp only [List.getElem?_cons_zero, List.getElem?_cons_succ, Option.getD_some] at q0
              go_simp
              exact hK.out _ _ rfl (Below.refl _ _)
            exact trivial
          case last =>
            intro vs lo hi w' hM hlo hap hall K' Q' hK
            have h2 : vs 2 = (.int .u32 ((z1 + z2) % 4294967296)) := hall.2.2.1
            have h3 : vs 3 = (.int .u32 xa) := hall.2.2.2.1
            have h6 : vs 6 = (.int .u32 xb) := hall.2.2.2.2.2.2.1
            have h9 : vs 9 = (.int .u32 xc) := hall.2.2.2.2.2.2.2.2.2.1
            have h14 : vs 14 = (.int .u32 ((xd + z1) % 4294967296)) := hall.2.2.2.2.2.2.2.2.2.2.2.2.2.2.1
            have h15 : vs 15 = (.int .u32 xe) := hall.2.2.2.2.2.2.2.2.2.2.2.2.2.2.2.1
            have h18 : vs 18 = (.int .u32 xf) := hall.2.2.2.2.2.2.2.2.2.2.2.2.2.2.2.2.2.2.1
            have h21 : vs 21 = (.int .u32 xi) := hall.2.2.2.2.2.2.2.2.2.2.2.2.2.2.2.2.2.2.2.2.2.1
            dsimp only
            simp only [h2, h3, h6, h9, h14, h15, h18, h21]
            clear h2 h3 h6 h9 h14 h15 h18 h21 hap hall hlo
            go_simp
            refine hK.out _ _ (fun fuel hfuel => ?_)
            have HE := hide (eightW_fact ((z1 + z2) % 4294967296) xa xb xc ((xd + z1) % 4294967296) xe xf xi w').2.out
            have HBE := hide (bthen hM ((Below.refl _ w').alloc (Nat.le_refl _) (.cells #[.int .u32 ((z1 + z2) % 4294967296), .int .u32 xa, .int .u32 xb, .int .u32 xc, .int .u32 ((xd + z1) % 4294967296), .int .u32 xe, .int .u32 xf, .int .u32 xi] 49)))
            have HLo : Hid (wc.heap.size ≤ w'.heap.size) := hM.size
            obtain ⟨f, rfl⟩ : ∃ f, fuel = f + 1 := ⟨fuel - 1, by have : 1 ≤ fuel := hfuel; omega⟩
            clear hK hM
            generalize w'.alloc (.cells #[.int .u32 ((z1 + z2) % 4294967296), .int .u32 xa, .int .u32 xb, .int .u32 xc, .int .u32 ((xd + z1) % 4294967296), .int .u32 xe, .int .u32 xf, .int .u32 xi] 49) = w6 at HE HBE ⊢
            generalize w'.heap.size = g5 at HE HLo ⊢
            refine wpAny_ready (rs := [23]) (by kernel_rfl) (by simp) ?_
            refine AllReady.cons rfl (fun K2 hK2 => ?_) AllReady.nil
            have HK2 := hide hK2
            clear hK2
            go_simp
            refine HK2.out _ _ ?_
            clear HK2
            refine wpAny_done (by kernel_rfl) ?_ _
            have hlt := Hlt.out
            go_wp2_with fail
            go_roundw
            case rel =>
              have hb5 : Below w3.heap.size w3 w6 := bthen HB5.out HBE.out
              refine ⟨k + 1, g5, 8, hlt, by go_num, rfl, ⟨?_, Nat.le_refl _⟩, ?_, hb5⟩
              · have h1 := HLo.out
                have h2 := HB5.out.size
                have h3 := HB3.out.size
                omega
              · show RowW w6 g5 (Dg.step (Dg.rounds s W k) ((Dg.K[k]?.getD 0 + W[k]?.getD 0) % 4294967296))
                rw [H8E.out, ← HKe.out, ← HVe.out]
                have e5 : Dg.step [xa, xb, xc, xd, xe, xf, xi, xz] ((K + V) % 4294967296) = [(z1 + z2) % 4294967296, xa, xb, xc, (xd + z1) % 4294967296, xe, xf, xi] := by
                  show [Dg.nA xa xb xc xe xf xi xz _, xa, xb, xc, Dg.nE xd xe xf xi xz _, xe, xf, xi] = _
                  rw [HZ1.out, HZ2.out]
                  unfold Dg.nA Dg.nE Dg.t1 Dg.t2
                  congr 1
                  · omega
                  · congr 4
                    omega
                rw [e5]
                exact HE.out
            case measure => simp [intOf]; omega
    · have hk64 : k = 64 := by have := Hk.out; omega
      have HK64 := hide hk64
      clear hk64
      go_wp2_with fail
      generalize decide ((k : Int) < 64) = bt0
      obtain ⟨n, hn⟩ : ∃ n, n = Dg.rounds s W 64 := ⟨_, rfl⟩
      have HNr : Hid (RowW wr g (plusR n s 0)) := by
        have := HRk.out
        rw [HK64.out, ← hn] at this
        exact this
      have HN := hide hn
      have HNl : Hid (n.length = 8) := by rw [hn]; exact (Dg.rounds_length s W 64).trans HS.out
      clear hn HRk
      go_loopw [13] (fun i wq => ∃ j : Nat, Hid (j ≤ 8) ∧ i = .int .i64 j ∧ Hid (RowW wq g (plusR n s j)) ∧ Hid (But g wr wq)) (fun i _ => 8 - (intOf i).toNat)
      case atStart => exact ⟨0, Nat.zero_le _, rfl, HNr.out, But.refl _ _⟩
      case round =>
        obtain ⟨j, Hj, rfl, HRj, HBj⟩ := hrel
        by_cases hlt2 : j < 8
        · obtain ⟨cx, fx⟩ := HRj.out.2 j hlt2
          have ch := ((HH3.out.below HBk.out).2 j hlt2).1
          have hne : hb ≠ g := by have h1 := HH.out.1; have h2 := Hg.out.1; omega
          have hbl := (HH3.out.below HBk.out).1
          have ch2 := (World.cell?_of_block (a := ⟨hb, j, none⟩) (HBj.out.block hb hbl hne)).trans ch
          obtain ⟨p, hp⟩ : ∃ p, p = (plusR n s j)[j]?.getD 0 := ⟨_, rfl⟩
          obtain ⟨q, hq⟩ : ∃ q, q = s[j]?.getD 0 := ⟨_, rfl⟩
          rw [← hp] at cx
          rw [← hq] at ch2
          have HP := hide hp
          have HQ := hide hq
          have hg8 := Hg.out.2
          clear ch hp hq
          go_wp2_with fail
          go_region
          go_wp2_with fail
          go_roundw
          case rel =>
            refine ⟨j + 1, hlt2, by go_num, ?_, (HBj.out.set j _).drew⟩
            have := HRj.out.set ((plusR_length n s j).trans HNl.out) j hlt2 ((p + q) % 4294967296)
            rw [HP.out, HQ.out] at this
            rw [HP.out, HQ.out]
            exact this
          case measure => simp [intOf]; omega
        · have hj8 : j = 8 := by have := Hj.out; omega
          have HJ8 := hide hj8
          clear hj8
          go_wp2_with fail
          go_ret
          refine ⟨g, c, rfl, Hg.out.2, Hg.out.1, ?_, ?_⟩
          · have := HRj.out
            rw [HJ8.out, plusR_eq n s HNl.out HS.out, HN.out, HW.out] at this
            exact this
          · have h1 := bthen HB3.out HBk.out
            exact h1.trans (HBj.out.to_below h1.size Hg.out.1)
end Go.Proofs.YtfcbooagedjkfaaDoor
