/-
  THE WALK of SealEqual.
-/
import Derived.Test.YtfcbooagedjkfaaDoorSRef
set_option linter.unusedVariables false
set_option linter.unusedSimpArgs false
namespace Go.Proofs.YtfcbooagedjkfaaDoor
open Go.RowKit

/-- a byte of a row of the call's own, written -/
theorem own_put {W : World} {base n c : Nat} {x : Option Addr} {l : List Int} (h : W.ownsRow base 5 1 (.slice x n c) n (l.map b8)) (hl : l.length = n) (h8 : Dg.B8 l) (i : Nat) (hi : i < n) :
    ∃ g, x = some ⟨g, 0, none⟩ ∧ base ≤ g ∧ W.cell? ⟨g, i, none⟩ = some (b8 (l[i]?.getD 0)) ∧ W.frozen? ⟨g, i, none⟩ = false ∧ ∀ v : Int, 0 ≤ v → v ≤ 255 → IsB (W.setCell ⟨g, i, none⟩ (b8 v)) (some ⟨g, 0, none⟩) n c (l.set i v) := by
  have hI := (own_isB' h h8).1
  obtain ⟨h1, h2⟩ := h
  rcases h2 with ⟨h2, h3⟩ | ⟨g, cap, cur, hv, hg, hh, hn, hc, hsz, htk⟩
  · cases h2
    omega
  · cases hv
    have hb : Blk W g 5 cur := hh
    have hcur : ∀ j, j < n → cur[j]? = some (b8 (l[j]?.getD 0)) := fun j hj => by
      obtain ⟨_, _, _, _, ⟨_, hz⟩ | ⟨y, hy, hR⟩⟩ := hI
      · omega
      · cases hy
        obtain ⟨b, o, e, hR2⟩ := hR (by omega)
        cases e
        have := hR2 j (by omega)
        rw [Nat.zero_add, hb.cell j] at this
        exact this
    have hi2 : i < cur.size := (Array.getElem?_eq_some_iff.1 (hcur i hi)).1
    refine ⟨g, rfl, hg, (hb.cell i).trans (hcur i hi), hb.frozen i, fun v hv0 hv1 => ?_⟩
    have hb2 := hb.set i (b8 v)
    refine ⟨by rw [List.length_set]; exact hl, hI.2.1, hI.2.2.1, Dg.b8_of_mem fun y hy => ?_, .inr ⟨_, rfl, fun _ => ⟨g, 0, rfl, fun j hj => ?_⟩⟩⟩
    · rcases List.mem_or_eq_of_mem_set hy with h | h
      · exact y8_of h8 y h
      · omega
    · rw [List.length_set] at hj
      rw [Nat.zero_add, hb2.cell j]
      by_cases hji : i = j
      · subst hji
        simp [hi2, hj]
      · rw [Array.getElem?_setIfInBounds_ne hji, hcur j (by omega), List.getElem?_set_ne hji]
theorem set_same_iff {l : List Int} {i : Nat} {v : Int} (hi : i < l.length) : (l[i]?.getD 0 == v) = decide (l = l.set i v) := by
  rw [Bool.eq_iff_iff]
  simp only [beq_iff_eq, decide_eq_true_eq]
  rw [List.getElem?_eq_getElem hi]
  constructor
  · intro h
    have h' : l[i] = v := h
    rw [← h', List.set_getElem_self]
  · intro h
    have h1 : l[i]? = (l.set i v)[i]? := by rw [← h]
    rw [List.getElem?_set_self hi, List.getElem?_eq_getElem hi] at h1
    exact Option.some.inj h1

set_option maxRecDepth 100000 in
set_option maxHeartbeats 2000000 in
theorem sealEqual_walk (a0 : Option Addr) (len0 cap0 : Nat) (z0 : List Int) (a1 : Int) (a2 : Int) (w : World) (w0 : IsRow .u8 w a0 len0 cap0 z0) (w1 : (Lit.int .u8 a1).wf = true) (w2 : (Lit.int .u8 a2).wf = true) (hC : Cubes w) :
    Calls Tryd.prog 9 #[.slice a0 len0 cap0, .int .u8 a1, .int .u8 a2] w fun e w' => e = .returned (.bool true) ∧ Below w.heap.size w w' := by
  have hA := w0.isB
  obtain ⟨z10, z11⟩ := bounds_u8 w1
  obtain ⟨z20, z21⟩ := bounds_u8 w2
  generalize z0.take len0 = bs at hA
  have HA := hide hA
  have HC := hide hC
  have hlc := hA.2.1
  have hcx := hA.2.2.1
  clear w0 w1 w2 hA hC
  by_cases hlen : 100 < len0
  · go_enter Tryd.func9, Tryd.ntmps9
    go_wp2_with fail
    refine (sealKnown_any _ HC.out).mono ?_
    rintro e w2 ⟨rfl, b2⟩
    go_wp2_with fail
    go_ret
    exact ⟨rfl, b2⟩
  obtain ⟨x1, c1, W1, hrun1, hown1, hgr1⟩ := append_isB w.heap.size (.slice none 0 0) 0 [] (World.ownsRow_nil _ _ _ _) HA.out (by omega) (Nat.le_refl _)
  rw [Nat.zero_add] at hrun1 hown1
  rw [List.nil_append] at hown1
  have b1 : Below w.heap.size w W1 := (Below.refl _ _).grown hgr1 (Nat.le_refl _) (fun k hk => by cases hk)
  have HO1 := hide hown1
  have HB1 := hide b1
  clear hown1 hgr1 b1
  go_enter Tryd.func9, Tryd.ntmps9
  go_upto_if 24 with (at_builtin; refine wpList_append_run rfl _ _ 22 rfl _ _ rfl rfl hrun1 ?_)
  clear hrun1
  go_cut [8] from 24 to 39 (fun v wc => ∃ C : List Int, v = .bool (decide (bs = C)) ∧ Hid (IsB wc x1 len0 c1 C ∧ Below w.heap.size w wc))
  case first =>
    by_cases h0 : 0 < len0
    · obtain ⟨i, hi⟩ : ∃ i : Nat, i = (a1 % (len0 : Int)).toNat := ⟨_, rfl⟩
      have hm1 : a1 % (len0 : Int) < len0 := Int.emod_lt_of_pos _ (by omega)
      have hm0 : 0 ≤ a1 % (len0 : Int) := Int.emod_nonneg _ (by omega)
      have hii : i < len0 := by omega
      have hme : a1 % (len0 : Int) = (i : Int) := by omega
      have hmt : a1.tmod (len0 : Int) = (i : Int) := by rw [Int.tmod_eq_emod_of_nonneg z10]; exact hme
      have hnz : ¬ (len0 : Int) = 0 := by omega
      obtain ⟨g, hx, hg, hc, hf, hset⟩ := own_put HO1.out HA.out.1 HA.out.2.2.2.1 i hii
      have HI := hide (hset a2 z20 z21)
      have hsi := set_same_iff (v := a2) (show i < bs.length by rw [HA.out.1]; exact hii)
      obtain ⟨y, hy⟩ : ∃ y, y = bs[i]?.getD 0 := ⟨_, rfl⟩
      rw [← hy] at hc hsi
      have HSI := hide hsi
      subst hx
      have hc1 := (own_isB' HO1.out HA.out.2.2.2.1).1.2.1
      clear hi hm1 hm0 hset hy hsi
      go_wp2_with fail
      go_meet
      case rel =>
        refine ⟨bs.set i a2, by rw [← HSI.out], HI.out, HB1.out.setCell (p := ⟨g, i, none⟩) hg _⟩
    · go_wp2_with fail
      go_meet
      case rel =>
        have hbe : bs = [] := List.eq_nil_of_length_eq_zero (by rw [HA.out.1]; omega)
        refine ⟨bs, by simp, ?_, HB1.out⟩
        exact (own_isB' HO1.out HA.out.2.2.2.1).1
  case rest =>
    obtain ⟨C, rfl, hq⟩ := hcut
    have HIC := hide hq.out.1
    have HBC := hide hq.out.2
    clear hq HO1 HB1
    go_upto_if 42 with fail
    go_cut [10] from 42 to 75 (fun v wd => v = .bool true ∧ Hid (Below wc.heap.size wc wd))
    case first =>
      by_cases h1 : 1 < len0
      · have hsl : ∀ w, (Instr.sliceAt 22 (.slice a0 len0 cap0) (some (.int .i64 1)) none none).run Tryd.prog w = .ok (.slice (cutA a0 1 cap0) (len0 - 1) (cap0 - 1)) w := fun w => run_slice_cut w a0 len0 cap0 1 (by omega) hlc
        have HAc := hide (HA.out.below HBC.out)
        have hcut1 := HAc.out.cut (m := 1) (by omega)
        obtain ⟨x2, c2, W2, hrun2, hown2, hgr2⟩ := append_isB wc.heap.size (.slice none 0 0) 0 [] (World.ownsRow_nil _ _ _ _) hcut1 (by omega) (Nat.le_refl _)
        rw [Nat.zero_add] at hrun2 hown2
        rw [List.nil_append] at hown2
        have HB2 : Hid (Below wc.heap.size wc W2) := (Below.refl _ _).grown hgr2 (Nat.le_refl _) (fun k hk => by cases hk)
        have HO2 := hide hown2
        clear hown2 hgr2 hcut1
        obtain ⟨ay, hay, hR0⟩ : ∃ y : Addr, a0 = some y ∧ ∃ b o, y = ⟨b, o, none⟩ ∧ Rd wc b o bs := by
          obtain ⟨_, _, _, _, ⟨_, hz⟩ | ⟨y, hy, hR⟩⟩ := HAc.out
          · omega
          · exact ⟨y, hy, hR (by omega)⟩
        obtain ⟨b, o, rfl, hRd⟩ := hR0
        subst hay
        have hbl := HA.out.1
        obtain ⟨y, hy⟩ : ∃ y, y = bs[0]?.getD 0 := ⟨_, rfl⟩
        have hy8 := HA.out.2.2.2.1 0
        rw [← hy] at hy8
        have hc0 := (hRd.below HB2.out) 0 (by omega)
        rw [← hy, Nat.add_zero] at hc0
        have hc0w : ∀ o', W2.cell? ⟨b, o, none⟩ = some (b8 y) → (W2.alloc o').cell? ⟨b, o, none⟩ = some (b8 y) := fun o' h => by
          have hb : b < W2.heap.size := block_lt_of_cell h
          exact (((Below.refl W2.heap.size W2).alloc (Nat.le_refl _) o').cell (p := ⟨b, o, none⟩) hb).trans h
        obtain ⟨x3, c3, W3, hrun3, hown3, hgr3⟩ := append_one (w := W2.alloc (.cells #[.int .u8 y] 5)) 22 5 (.int .u8 0) 1 Tryd.underlying22 infoByte rfl wc.heap.size _ (len0 - 1) _ (HO2.out.alloc _) (lo := W2.heap.size) (m := 1) (c := 1) (news := [.int .u8 y]) rfl (one_cell W2 (.int .u8 y) 5) (by simp [Value.oneCell']) (by omega) (by omega) (by have := HB2.out.size; simp; omega)
        have hl1 : len0 - 1 + 1 = len0 := by omega
        rw [hl1] at hrun3 hown3
        have HB3 : Hid (Below wc.heap.size wc W3) := (HB2.out.alloc HB2.out.size _).grown hgr3 (by have := HB2.out.size; simp; omega) (own_block HO2.out)
        have hmap : (bs.drop 1).map b8 ++ [.int .u8 y] = (bs.drop 1 ++ [y]).map b8 := by simp
        rw [hmap] at hown3
        have hD8 : Dg.B8 (bs.drop 1 ++ [y]) := Dg.b8_of_mem fun x hx => by
          rcases List.mem_append.1 hx with h | h
          · exact y8_of HA.out.2.2.2.1 x (List.mem_of_mem_drop h)
          · simp at h; omega
        have hDl : (bs.drop 1 ++ [y]).length = len0 := by simp [hbl]; omega
        have HO3 := hide (own_isB' hown3 hD8).1
        clear hown3 hgr3 hD8 hmap hy
        generalize bs.drop 1 ++ [y] = D at HO3 hDl
        have HDl := hide hDl
        have HBl := hide hbl
        have HRd := hide hRd
        clear hDl hbl hRd
        go_upto_region 14 with (at_builtin; refine wpList_append_run rfl _ _ 22 rfl _ _ rfl rfl hrun2 ?_)
        clear hrun2 hsl
        go_upto_region 15 with (at_builtin; refine wpList_append_run rfl _ _ 22 rfl _ _ rfl rfl hrun3 ?_)
        clear hrun3 hc0 hc0w
        go_wp2_with fail
        go_loopw [12, 13] (fun kv iv wr => ∃ (i k : Nat), i ≤ len0 ∧ k ≤ i ∧ iv = .int .i64 i ∧ kv = .int .i64 k ∧ Hid (k = 0 ↔ bs.take i = D.take i) ∧ Hid (Below wc.heap.size wc wr) ∧ Hid (IsB wr x3 len0 c3 D)) (fun _ iv _ => len0 - (intOf iv).toNat)
        case atStart => exact ⟨0, 0, by omega, by omega, rfl, rfl, by show 0 = 0 ↔ [] = []; simp, HB3, HO3⟩
        case round =>
          obtain ⟨i, k, hi, hki, rfl, rfl, HT, HBr, HOr⟩ := hrel
          by_cases hlt : i < len0
          · have e1 := (HRd.out.below HBr.out) i (by rw [HBl.out]; exact hlt)
            obtain ⟨_, hdc, hdx, _, ⟨_, z2⟩ | ⟨x2', rfl, r2⟩⟩ := HOr.out
            · omega
            obtain ⟨b2, o2, rfl, q2⟩ := r2 (by omega)
            have e2 := q2 i (by rw [HDl.out]; exact hlt)
            obtain ⟨u, hu⟩ : ∃ u, u = bs[i]?.getD 0 := ⟨_, rfl⟩
            obtain ⟨v, hv⟩ : ∃ v, v = D[i]?.getD 0 := ⟨_, rfl⟩
            rw [← hu] at e1
            rw [← hv] at e2
            have t1 : bs.take (i + 1) = bs.take i ++ [u] := by
              rw [List.take_succ_eq_append_getElem (by rw [HBl.out]; exact hlt), hu, List.getElem?_eq_getElem (by rw [HBl.out]; exact hlt)]
              rfl
            have t2 : D.take (i + 1) = D.take i ++ [v] := by
              rw [List.take_succ_eq_append_getElem (by rw [HDl.out]; exact hlt), hv, List.getElem?_eq_getElem (by rw [HDl.out]; exact hlt)]
              rfl
            have T1 := hide t1
            have T2 := hide t2
            clear hu hv t1 t2 q2 r2
            by_cases huv : u = v
            · have huvb : (u == v) = true := by rw [huv]; simp
              have HUV := hide huv
              clear huv
              go_wp2_with fail
              go_quiet (fail)
              go_wp2_with fail
              go_roundw
              case rel =>
                refine ⟨i + 1, k, by omega, by omega, by go_num, rfl, ?_, below_drewN HBr.out _, HOr.out.below (below_drewN (Below.refl _ _) _)⟩
                show k = 0 ↔ _
                rw [T1.out, T2.out, HT.out, HUV.out]
                constructor
                · intro h; rw [h]
                · intro h; exact (List.append_inj' h rfl).1
              case measure => simp [intOf]; omega
            · have huvb : (u == v) = false := by simp [huv]
              have HUV := hide huv
              clear huv
              go_wp2_with fail
              go_quiet (fail)
              go_wp2_with fail
              go_roundw
              case rel =>
                refine ⟨i + 1, k + 1, by omega, by omega, by go_num, by go_num, ?_, below_drewN HBr.out _, HOr.out.below (below_drewN (Below.refl _ _) _)⟩
                show k + 1 = 0 ↔ _
                rw [T1.out, T2.out]
                constructor
                · intro h; omega
                · intro h
                  have := (List.append_inj' h rfl).2
                  simp at this
                  exact (HUV.out this).elim
              case measure => simp [intOf]; omega
          · have hT := HT.out
            rw [List.take_of_length_le (by rw [HBl.out]; omega), List.take_of_length_le (by rw [HDl.out]; omega)] at hT
            have hkb : ((k : Int) == 0) = decide (bs = D) := by
              rw [Bool.eq_iff_iff]
              simp only [beq_iff_eq, decide_eq_true_eq]
              rw [← hT]
              omega
            have HKb := hide hkb
            clear hT hkb
            go_wp2_with fail
            refine (sealEqual_any bs D _ _ _ _ _ _ _ (HAc.out.below HBr.out) HOr.out).mono ?_
            rintro e w5 ⟨rfl, n5, rfl⟩
            rw [← HKb.out]
            go_wp2_with fail
            go_meet
            case rel => exact ⟨by simp, below_drewN HBr.out n5⟩
      · go_wp2_with fail
        go_meet
        case rel => exact ⟨rfl, Below.refl _ _⟩
    case rest =>
      obtain ⟨rfl, hq⟩ := hcut
      have HBw := hide (bthen HBC.out hq.out)
      have HIw := hide (HIC.out.below hq.out)
      clear hq HBC HIC
      obtain ⟨x2, c2, W2, hrun2, hown2, hgr2⟩ := append_isB wc.heap.size (.slice none 0 0) 0 [] (World.ownsRow_nil _ _ _ _) (HA.out.below HBw.out) (by omega) (Nat.le_refl _)
      rw [Nat.zero_add] at hrun2 hown2
      rw [List.nil_append] at hown2
      have HB2 : Hid (Below wc.heap.size wc W2) := (Below.refl _ _).grown hgr2 (Nat.le_refl _) (fun k hk => by cases hk)
      have HO2 := hide hown2
      clear hown2 hgr2
      obtain ⟨x3, c3, W3, hrun3, hown3, hgr3⟩ := append_one (w := W2.alloc (.cells #[.int .u8 a2] 5)) 22 5 (.int .u8 0) 1 Tryd.underlying22 infoByte rfl wc.heap.size _ len0 _ (HO2.out.alloc _) (lo := W2.heap.size) (m := 1) (c := 1) (news := [.int .u8 a2]) rfl (one_cell W2 (.int .u8 a2) 5) (by simp [Value.oneCell']) (by omega) (by omega) (by have := HB2.out.size; simp; omega)
      have b3 : Below wc.heap.size wc W3 := (HB2.out.alloc HB2.out.size _).grown hgr3 (by have := HB2.out.size; simp; omega) (own_block HO2.out)
      have hmap : bs.map b8 ++ [.int .u8 a2] = (bs ++ [a2]).map b8 := by simp
      rw [hmap] at hown3
      have hD8 : Dg.B8 (bs ++ [a2]) := Dg.b8_of_mem fun x hx => by
        rcases List.mem_append.1 hx with h | h
        · exact y8_of HA.out.2.2.2.1 x h
        · simp at h; omega
      have HO3 := hide (own_isB' hown3 hD8).1
      have HB3 := hide (bthen HBw.out b3)
      have HI3 := hide (HIw.out.below b3)
      have hne1 : ¬ bs = bs ++ [a2] := fun e => by have := congrArg List.length e; simp at this
      have hd1 : decide (bs = bs ++ [a2]) = false := by rw [decide_eq_false_iff_not]; exact hne1
      have hd2 : decide (bs ++ [a2] = bs) = false := by rw [decide_eq_false_iff_not]; exact fun e => hne1 e.symm
      have HD1 := hide hd1
      have HD2 := hide hd2
      clear hown3 hgr3 hD8 hmap b3 hne1 hd1 hd2
      go_upto_region 24 with (at_builtin; refine wpList_append_run rfl _ _ 22 rfl _ _ rfl rfl hrun2 ?_)
      clear hrun2
      go_upto_region 25 with (at_builtin; refine wpList_append_run rfl _ _ 22 rfl _ _ rfl rfl hrun3 ?_)
      clear hrun3
      go_wp2_with fail
      refine (sealKnown_any _ (HC.out.below' HB3.out)).mono ?_
      rintro e w4 ⟨rfl, b4⟩
      have HB4 := hide (bthen HB3.out b4)
      have HI4 := hide (HI3.out.below b4)
      have HO4 := hide (HO3.out.below b4)
      clear b4 HB3 HI3 HO3
      generalize hsame : decide (bs = C) = same
      have hsame2 : decide (C = bs) = same := by
        rw [← hsame, Bool.eq_iff_iff]
        simp only [decide_eq_true_eq]
        exact eq_comm
      have HS1 := hide hsame
      have HS2 := hide hsame2
      clear hsame hsame2
      have hss : (same == same) = true := by simp
      go_wp2_with fail
      refine (sealEqual_any bs C _ _ _ _ _ _ _ (HA.out.below HB4.out) HI4.out).mono ?_
      rintro e w5 ⟨rfl, n5, rfl⟩
      rw [HS1.out]
      have HB5 := hide (below_drewN HB4.out n5)
      have HI5 := hide (HI4.out.below (below_drewN (Below.refl _ _) n5))
      have HO5 := hide (HO4.out.below (below_drewN (Below.refl _ _) n5))
      clear HB4 HI4 HO4
      generalize w4.drewN n5 = w5 at HB5 HI5 HO5 ⊢
      go_wp2_with fail
      refine (sealEqual_any C bs _ _ _ _ _ _ _ HI5.out (HA.out.below HB5.out)).mono ?_
      rintro e w6 ⟨rfl, n6, rfl⟩
      rw [HS2.out]
      have HB6 := hide (below_drewN HB5.out n6)
      have HO6 := hide (HO5.out.below (below_drewN (Below.refl _ _) n6))
      clear HB5 HI5 HO5
      generalize w5.drewN n6 = w6 at HB6 HO6 ⊢
      go_wp2_with fail
      refine (sealEqual_any bs (bs ++ [a2]) _ _ _ _ _ _ _ (HA.out.below HB6.out) HO6.out).mono ?_
      rintro e w7 ⟨rfl, n7, rfl⟩
      rw [HD1.out]
      have HB7 := hide (below_drewN HB6.out n7)
      have HO7 := hide (HO6.out.below (below_drewN (Below.refl _ _) n7))
      clear HB6 HO6
      generalize w6.drewN n7 = w7 at HB7 HO7 ⊢
      go_wp2_with fail
      refine (sealEqual_any (bs ++ [a2]) bs _ _ _ _ _ _ _ HO7.out (HA.out.below HB7.out)).mono ?_
      rintro e w8 ⟨rfl, n8, rfl⟩
      rw [HD2.out]
      have HB8 := hide (below_drewN HB7.out n8)
      clear HB7 HO7
      generalize w7.drewN n8 = w8 at HB8 ⊢
      go_wp2_with fail
      refine (refText_any bs _ _ _ _ (HA.out.below HB8.out) (by omega)).mono ?_
      rintro e w9 ⟨rfl, rfl⟩
      obtain ⟨T, hT⟩ : ∃ T : ByteArray, T = ⟨(Sl.text bs).toArray⟩ := ⟨_, rfl⟩
      rw [← hT]
      have HT := hide hT
      clear hT
      go_wp2_with fail
      refine (sealText_any bs _ _ _ _ (HA.out.below HB8.out) (by omega)).mono ?_
      rintro e w10 ⟨rfl, b10⟩
      rw [← HT.out]
      go_wp2_with fail
      go_ret
      exact ⟨rfl, bthen HB8.out b10⟩
end Go.Proofs.YtfcbooagedjkfaaDoor
