/-
  The law ValueOrder: its last regions by facts (RFacts).
-/
import Derived.Test.YteijnkdfacndoaaWPart
import Derived.Test.YteijnkdfacndoaaVWithD
import Derived.Test.YteijnkdfacndoaaVOrd
import Derived.Test.YteijnkdfacndoaaRFacts
import Derived.Deep.DeepCutAuto
import Derived.Deep.CutBlock
import Derived.Deep.RegionHeld3
set_option linter.unusedVariables false
set_option linter.unusedSimpArgs false
namespace Go.Proofs.Yteijnkdfacndoaa
open Go.RowKit

def ordArr : Array Value := #[.string ⟨#[97]⟩, .string ⟨#[98]⟩, .string ⟨#[195, 169]⟩, .string ⟨#[97, 98]⟩, .string ⟨#[]⟩, .string ⟨#[122]⟩]
theorem ordArr_at (p : Nat) (h : p < 6) : ordArr.getD p undef = .string (V.ordKey p) := by
  have : p = 0 ∨ p = 1 ∨ p = 2 ∨ p = 3 ∨ p = 4 ∨ p = 5 := by omega
  rcases this with rfl | rfl | rfl | rfl | rfl | rfl <;> rfl
theorem ordKey_size (p : Nat) : (V.ordKey p).size ≤ 2 := by
  by_cases h : p < 6
  · have : p = 0 ∨ p = 1 ∨ p = 2 ∨ p = 3 ∨ p = 4 ∨ p = 5 := by omega
    rcases this with rfl | rfl | rfl | rfl | rfl | rfl <;> decide
  · have : V.ordKey p = ByteArray.empty := by
      unfold V.ordKey
      rw [Array.getD_eq_getD_getElem?, Array.getElem?_eq_none (by simp; omega)]
      rfl
    rw [this]
    decide

def Ready (wz : World) (g : Nat) (c0 c1 c2 c3 c4 : Value) (L : V) (wc : World) : Prop :=
  Box5 wc g c0 c1 c2 c3 c4 ∧ Is wc (fun _ => True) (.agg #[c0, c1, c2, c3, c4]) L ∧ Below wz.heap.size wz wc ∧ wz.heap.size ≤ g
/-- what With gave -/
def WithF (x : V) : Fact := fun lo hi v w => ∃ k n t a1 n1 c1 a2 n2 c2, v = .agg #[.int .i64 k, .int .i64 n, .string t, .slice a1 n1 c1, .slice a2 n2 c2] ∧ Hid (Is w (fun b => lo ≤ b ∧ b < hi) (.agg #[.int .i64 k, .int .i64 n, .string t, .slice a1 n1 c1, .slice a2 n2 c2]) x)
theorem mono_with (x : V) : Mono (WithF x) := by
  rintro lo hi v w w' ⟨k, n, t, a1, n1, c1, a2, n2, c2, rfl, h⟩ b
  exact ⟨k, n, t, a1, n1, c1, a2, n2, c2, rfl, h.out.below b⟩
theorem with_fact {w w' : World} {k n : Int} {t : ByteArray} {a1 : Option Addr} {n1 c1 : Nat} {a2 : Option Addr} {n2 c2 : Nat} {x : V} (h : Is w' (fun b => w.heap.size ≤ b) (.agg #[.int .i64 k, .int .i64 n, .string t, .slice a1 n1 c1, .slice a2 n2 c2]) x) :
    WithF x w.heap.size w'.heap.size (.agg #[.int .i64 k, .int .i64 n, .string t, .slice a1 n1 c1, .slice a2 n2 c2]) w' :=
  ⟨k, n, t, a1, n1, c1, a2, n2, c2, rfl, h.weak (fun b hb hs => ⟨hs, hb⟩)⟩
/-- a box just laid -/
def BoxNew : Fact := fun lo hi v w => v = .pointer (some ⟨lo, 0, none⟩) ∧ lo < hi ∧ Hid (BoxF w lo (.int .i64 0) (.int .i64 0) (.string ⟨#[]⟩) (.slice none 0 0) (.slice none 0 0))
theorem mono_box : Mono BoxNew := by
  rintro lo hi v w w' ⟨rfl, h1, h⟩ b
  exact ⟨rfl, h1, h.out.keep b⟩
theorem box_fact (w : World) : BoxNew w.heap.size (w.alloc (.cells #[.int .i64 0, .int .i64 0, .string ⟨#[]⟩, .slice none 0 0, .slice none 0 0] 25)).heap.size (.pointer (some ⟨w.heap.size, 0, none⟩)) (w.alloc (.cells #[.int .i64 0, .int .i64 0, .string ⟨#[]⟩, .slice none 0 0, .slice none 0 0] 25)) :=
  ⟨rfl, by simp, boxF_at w _ _ _ _ _ _ _ rfl⟩
theorem ready_by {wz w7 : World} {g lo hi gh : Nat} {c0 c1 c2 c3 c4 x0 x1 x2 x3 x4 : Value} {L : V} (b : Below wz.heap.size wz w7) (hb : BoxF w7 g x0 x1 x2 x3 x4) (h : Is w7 (fun b => lo ≤ b ∧ b < hi) (.agg #[c0, c1, c2, c3, c4]) L) (hlt : g < gh) (hg : hi ≤ g ∨ gh ≤ lo) (hz : wz.heap.size ≤ g) :
    Ready wz g c0 c1 c2 c3 c4 L (((((w7.setCell ⟨g, 0, none⟩ c0).setCell ⟨g, 1, none⟩ c1).setCell ⟨g, 2, none⟩ c2).setCell ⟨g, 3, none⟩ c3).setCell ⟨g, 4, none⟩ c4) :=
  ⟨Box5.all hb.1 c0 c1 c2 c3 c4, (h.keep (keeps_set5 (S := fun b => lo ≤ b ∧ b < hi) (w := w7) (g := g) (o := 0) c0 c1 c2 c3 c4 (by omega))).weak (fun _ _ _ => trivial),
    ((((b.setCell hz _).setCell hz _).setCell hz _).setCell hz _).setCell hz _, hz⟩

set_option maxHeartbeats 4000000 in
set_option maxRecDepth 100000 in
theorem valueOrder_walk (a0 : Option Addr) (len0 cap0 : Nat) (z0 : List Int) (a1 : Option Addr) (len1 cap1 : Nat) (z1 : List Int) (k j m : Int) (w : World) (w0 : IsRow .u8 w a0 len0 cap0 z0) (w1 : IsRow .u8 w a1 len1 cap1 z1) (w2 : (Lit.int .u8 k).wf = true) (w3 : (Lit.int .u8 j).wf = true) (w4 : (Lit.int .u8 m).wf = true) :
    Calls Try.prog 6 #[.slice a0 len0 cap0, .slice a1 len1 cap1, .int .u8 k, .int .u8 j, .int .u8 m] w fun e w' => e = .returned (.bool true) ∧ Below w.heap.size w w' := by
  obtain ⟨hk0, hk1⟩ := wf_u8 w2
  obtain ⟨hj0, hj1⟩ := wf_u8 w3
  obtain ⟨hm0, hm1⟩ := wf_u8 w4
  clear w2 w3 w4
  obtain ⟨p1, hp1⟩ : ∃ p : Nat, (k % 6).toNat = p := ⟨_, rfl⟩
  have hq1 : k % 6 = (p1 : Int) := by omega
  have hl1 : p1 < 6 := by omega
  obtain ⟨p2, hp2⟩ : ∃ p : Nat, (j % 6).toNat = p := ⟨_, rfl⟩
  have hq2 : j % 6 = (p2 : Int) := by omega
  have hl2 : p2 < 6 := by omega
  obtain ⟨p3, hp3⟩ : ∃ p : Nat, (m % 6).toNat = p := ⟨_, rfl⟩
  have hq3 : m % 6 = (p3 : Int) := by omega
  have hl3 : p3 < 6 := by omega
  clear hp1 hp2 hp3
  have HH1 := hide w1
  have HH0 := hide w0
  clear w0 w1
  go_enter Try.func6, Try.ntmps6
  go_wp2_with fail
  refine (part_any a0 len0 cap0 z0 k _ (isRow_keep HH0.out (below_alloc _ _)) hk0 hk1).mono ?_
  rintro e w3 ⟨vk, vn, vt, va1, vn1, vc1, va2, vn2, vc2, rfl, hv, b3⟩
  have hbT : Below w.heap.size w w3 := bthen (below_alloc w _) b3
  have hrow : Row w3 w.heap.size 6 (fun i => ordArr.getD i undef) := fun i hi => by
    have h := row_new w ordArr 9 _ rfl i hi
    have hs := b3.frozen (p := ⟨w.heap.size, i, none⟩) (by simp)
    exact ⟨cell_keep h.1 b3, by rw [hs]; exact h.2⟩
  have HT := hide hbT
  have HR := hide hrow
  have HV := hide (hv.weak (S' := fun _ => True) (fun _ _ _ => trivial))
  have hw := V.wt_part z0 len0 k
  obtain ⟨PV, hPV⟩ : ∃ P, V.part z0 len0 k = P := ⟨_, rfl⟩
  rw [hPV] at HV hw
  have HW := hide hw
  clear hPV hv hw b3 hbT hrow
  go_wp2_with fail
  refine (part_any a1 len1 cap1 z1 j _ (isRow_keep HH1.out (bthen HT.out (below_alloc _ _))) hj0 hj1).mono ?_
  rintro e w4 ⟨zk, zn, zt, za1, zn1, zc1, za2, zn2, zc2, rfl, hz, b4⟩
  have b34 : Below w3.heap.size w3 w4 := bthen (below_alloc w3 _) b4
  have hbv : Box5 w4 w3.heap.size (.int .i64 vk) (.int .i64 vn) (.string vt) (.slice va1 vn1 vc1) (.slice va2 vn2 vc2) := (box5_new w3 _ _ _ _ _ _).keep b4
  have hw := V.wt_part z1 len1 j
  have HZ := hide (hz.weak (S' := fun _ => True) (fun _ _ _ => trivial))
  obtain ⟨PZ, hPZ⟩ : ∃ P, V.part z1 len1 j = P := ⟨_, rfl⟩
  rw [hPZ] at HZ hw
  have HWZ := hide hw
  clear hPZ hz hw b4
  have hrow4 : Row w4 w.heap.size 6 (fun i => ordArr.getD i undef) := fun i hi => by
    obtain ⟨h1, h2⟩ := HR.out i hi
    exact ⟨cell_keep h1 b34, by rw [b34.frozen (p := ⟨w.heap.size, i, none⟩) (cell_size h1)]; exact h2⟩
  have hA := cell_keep (hrow4 p1 hl1).1 (below_alloc w4 (.cells #[.int .i64 zk, .int .i64 zn, .string zt, .slice za1 zn1 zc1, .slice za2 zn2 zc2] 25))
  have hB := cell_keep (hrow4 p2 hl2).1 (below_alloc w4 (.cells #[.int .i64 zk, .int .i64 zn, .string zt, .slice za1 zn1 zc1, .slice za2 zn2 zc2] 25))
  have hC := cell_keep (hrow4 p3 hl3).1 (below_alloc w4 (.cells #[.int .i64 zk, .int .i64 zn, .string zt, .slice za1 zn1 zc1, .slice za2 zn2 zc2] 25))
  simp only [ordArr_at p1 hl1, ordArr_at p2 hl2, ordArr_at p3 hl3] at hA hB hC
  have hord : V.ordKey p1 ≠ V.ordKey p2 → V.ordKey p2 ≠ V.ordKey p3 → V.ordKey p1 ≠ V.ordKey p3 → V.Ord3 (V.ordKey p1) (V.ordKey p2) (V.ordKey p3) PV PZ := V.ord_all PV PZ p1 p2 p3 hl1 hl2 hl3
  have sA := ordKey_size p1
  have sB := ordKey_size p2
  have sC := ordKey_size p3
  generalize V.ordKey p1 = A at hA hord sA
  generalize V.ordKey p2 = B at hB hord sB
  generalize V.ordKey p3 = C at hC hord sC
  have HO := hide hord
  have SA := hide sA
  have SB := hide sB
  have SC := hide sC
  have B34 := hide b34
  have HBV := hide hbv
  have hi1 : (0 : Int) ≤ (p1 : Int) := by omega
  have hi1' : (p1 : Int) < 6 := by omega
  have hi2' : (p2 : Int) < 6 := by omega
  have hi3' : (p3 : Int) < 6 := by omega
  clear hord sA sB sC b34 hbv hrow4
  cases tab : (A.toList == B.toList) with
  | true =>
    go_wp2_with fail
    refine (known_any _).mono ?_
    rintro e w5 ⟨rfl, b5⟩
    go_wp2
    go_ret
    exact ⟨rfl, bthen HT.out (bthen B34.out (bthen (below_alloc _ _) b5))⟩
  | false =>
    have nab : ¬ A.toList = B.toList := by simpa using tab
    cases tbc : (B.toList == C.toList) with
    | true =>
      go_wp2_with fail
      refine (known_any _).mono ?_
      rintro e w5 ⟨rfl, b5⟩
      go_wp2
      go_ret
      exact ⟨rfl, bthen HT.out (bthen B34.out (bthen (below_alloc _ _) b5))⟩
    | false =>
      have nbc : ¬ B.toList = C.toList := by simpa using tbc
      cases tac : (A.toList == C.toList) with
      | true =>
        go_wp2_with fail
        refine (known_any _).mono ?_
        rintro e w5 ⟨rfl, b5⟩
        go_wp2
        go_ret
        exact ⟨rfl, bthen HT.out (bthen B34.out (bthen (below_alloc _ _) b5))⟩
      | false =>
        have nac : ¬ A.toList = C.toList := by simpa using tac
        have hor := HO.out (fun h => nab (by rw [h])) (fun h => nbc (by rw [h])) (fun h => nac (by rw [h]))
        have HOR := hide hor
        clear hor
        go_upto_region 10 with fail
        have hvz := (HV.out.below B34.out).below (bthen (below_alloc w4 (.cells #[.int .i64 zk, .int .i64 zn, .string zt, .slice za1 zn1 zc1, .slice za2 zn2 zc2] 25)) (below_alloc _ (.cells #[.int .i64 5, .int .i64 0, .string ⟨#[]⟩, .slice none 0 0, .slice none 0 0] 25)))
        have hzz := HZ.out.below (bthen (below_alloc w4 (.cells #[.int .i64 zk, .int .i64 zn, .string zt, .slice za1 zn1 zc1, .slice za2 zn2 zc2] 25)) (below_alloc _ (.cells #[.int .i64 5, .int .i64 0, .string ⟨#[]⟩, .slice none 0 0, .slice none 0 0] 25)))
        have hb4 : Below w4.heap.size w4 ((w4.alloc (.cells #[.int .i64 zk, .int .i64 zn, .string zt, .slice za1 zn1 zc1, .slice za2 zn2 zc2] 25)).alloc (.cells #[.int .i64 5, .int .i64 0, .string ⟨#[]⟩, .slice none 0 0, .slice none 0 0] 25)) := bthen (below_alloc _ _) (below_alloc _ _)
        have hbv := HBV.out.keep hb4
        have hbz : Box5 ((w4.alloc (.cells #[.int .i64 zk, .int .i64 zn, .string zt, .slice za1 zn1 zc1, .slice za2 zn2 zc2] 25)).alloc (.cells #[.int .i64 5, .int .i64 0, .string ⟨#[]⟩, .slice none 0 0, .slice none 0 0] 25)) w4.heap.size (.int .i64 zk) (.int .i64 zn) (.string zt) (.slice za1 zn1 zc1) (.slice za2 zn2 zc2) := (box5_new w4 _ _ _ _ _ _).keep (below_alloc _ _)
        have hbe : Box5 ((w4.alloc (.cells #[.int .i64 zk, .int .i64 zn, .string zt, .slice za1 zn1 zc1, .slice za2 zn2 zc2] 25)).alloc (.cells #[.int .i64 5, .int .i64 0, .string ⟨#[]⟩, .slice none 0 0, .slice none 0 0] 25)) (w4.heap.size + 1) (.int .i64 5) (.int .i64 0) (.string ⟨#[]⟩) (.slice none 0 0) (.slice none 0 0) := box5_at _ _ _ _ _ _ _ _ (by simp)
        have hez : Is ((w4.alloc (.cells #[.int .i64 zk, .int .i64 zn, .string zt, .slice za1 zn1 zc1, .slice za2 zn2 zc2] 25)).alloc (.cells #[.int .i64 5, .int .i64 0, .string ⟨#[]⟩, .slice none 0 0, .slice none 0 0] 25)) (fun _ => True) (.agg #[.int .i64 5, .int .i64 0, .string ⟨#[]⟩, .slice none 0 0, .slice none 0 0]) V.none5 := is_plain _ _ 5 0 ⟨#[]⟩ (by decide)
        clear hA hB hC
        generalize ((w4.alloc (.cells #[.int .i64 zk, .int .i64 zn, .string zt, .slice za1 zn1 zc1, .slice za2 zn2 zc2] 25)).alloc (.cells #[.int .i64 5, .int .i64 0, .string ⟨#[]⟩, .slice none 0 0, .slice none 0 0] 25)) = wz at hvz hzz hb4 hbv hbz hbe hez ⊢
        have HVZ := hide hvz
        have HZZ := hide hzz
        have HB4 := hide hb4
        have HVB := hide hbv
        have HZB := hide hbz
        have HEB := hide hbe
        have HEZ := hide hez
        clear hvz hzz hb4 hbv hbz hbe hez
        have hn5 : V.wt V.none5 = 1 := by unfold V.none5; rw [V.wt_mk]; rfl
        have hp1 := V.wt_with_le V.none5 A PV
        have hp2 := V.wt_with_le (V.withV V.none5 A PV) B PZ
        have hp3 := V.wt_with_le (V.withV (V.withV V.none5 A PV) B PZ) C PV
        have hs1 := HW.out
        have hs2 := HWZ.out
        have hs3 := SA.out
        have hs4 := SB.out
        have hs5 := SC.out
        have HLp1 : Hid (V.wt (V.withV V.none5 A PV) ≤ 1000000000) := hide (by omega)
        have HLp2 : Hid (V.wt (V.withV (V.withV V.none5 A PV) B PZ) ≤ 1000000000) := hide (by omega)
        have HLp3 : Hid (V.wt (V.withV (V.withV (V.withV V.none5 A PV) B PZ) C PV) ≤ 1000000000) := hide (by omega)
        clear hn5 hp1 hp2 hp3 hs1 hs2 hs3 hs4 hs5
        have lv := cell_size HVB.out.1
        have lz := cell_size HZB.out.1
        have le := cell_size HEB.out.1
        have HL0 : Hid (V.wt V.none5 ≤ 1000000000) := hide (by unfold V.none5; rw [V.wt_mk]; decide)
        clear hq1 hq2 hq3 hl1 hl2 hl3 hi1 hi1' hi2' hi3' tab tbc tac nab nbc nac
        go_cut [18] (fun s wc => ∃ g c0 c1 c2 c3 c4, s = .pointer (some ⟨g, 0, none⟩) ∧ Hid (Ready wz g c0 c1 c2 c3 c4 (V.withV (V.withV (V.withV V.none5 A PV) B PZ) C PV) wc))
        case first =>
          refine' wp_region_facts [(fun _ _ v _ => v = (.agg #[.int .i64 5, .int .i64 0, .string ⟨#[]⟩, .slice none 0 0, .slice none 0 0])), (fun _ _ v _ => v = (.string A)), (fun _ _ v _ => v = (.agg #[.int .i64 vk, .int .i64 vn, .string vt, .slice va1 vn1 vc1, .slice va2 vn2 vc2])), (WithF (V.withV V.none5 A PV)), (fun _ _ v _ => v = (.string B)), (fun _ _ v _ => v = (.agg #[.int .i64 zk, .int .i64 zn, .string zt, .slice za1 zn1 zc1, .slice za2 zn2 zc2])), (WithF (V.withV (V.withV V.none5 A PV) B PZ)), (fun _ _ v _ => v = (.string C)), (fun _ _ v _ => v = (.agg #[.int .i64 vk, .int .i64 vn, .string vt, .slice va1 vn1 vc1, .slice va2 vn2 vc2])), (WithF (V.withV (V.withV (V.withV V.none5 A PV) B PZ) C PV)), BoxNew] (by kernel_rfl) rfl ?hA (by kernel_rfl) (by kernel_rfl) (by kernel_rfl) rfl ?mono ?steps ?last
          case hA =>
            intro vs
            simp only [puts, Act.put, List.setIfInBounds_toArray, List.set_cons_zero, List.set_cons_succ, Nat.zero_add, Nat.reduceAdd]
            rfl
          case mono => exact ⟨mono_eq _, mono_eq _, mono_eq _, mono_with _, mono_eq _, mono_eq _, mono_with _, mono_eq _, mono_eq _, mono_with _, mono_box, trivial⟩
          case steps =>
            intro Q'
            refine And.intro ?_ ?_
            · intro vs lo hi w' hM hd K' hK
              dsimp only at hK ⊢
              simp only [Act.put, List.setIfInBounds_toArray, List.set_cons_zero, List.set_cons_succ] at hK
              obtain ⟨y0, y1, y2, y3, y4⟩ := HEB.out.keep hM
              go_simp
              exact hK.out _ _ rfl (Below.refl _ _)
            refine And.intro ?_ ?_
            · intro vs lo hi w' hM hd K' hK
              dsimp only at hK ⊢
              simp only [Act.put, List.setIfInBounds_toArray, List.set_cons_zero, List.set_cons_succ] at hK
              go_simp
              exact hK.out _ _ rfl (Below.refl _ _)
            refine And.intro ?_ ?_
            · intro vs lo hi w' hM hd K' hK
              dsimp only at hK ⊢
              simp only [Act.put, List.setIfInBounds_toArray, List.set_cons_zero, List.set_cons_succ] at hK
              obtain ⟨y0, y1, y2, y3, y4⟩ := HVB.out.keep hM
              go_simp
              exact hK.out _ _ rfl (Below.refl _ _)
            refine And.intro ?_ ?_
            · intro vs lo hi w' hM hd K' hK
              dsimp only at hK ⊢
              simp only [Act.put, List.setIfInBounds_toArray, List.set_cons_zero, List.set_cons_succ] at hK
              have e0 : vs 0 = (.agg #[.int .i64 5, .int .i64 0, .string ⟨#[]⟩, .slice none 0 0, .slice none 0 0]) := hd 0 (by kernel_rfl)
              have e1 : vs 1 = (.string A) := hd 1 (by kernel_rfl)
              have e2 : vs 2 = (.agg #[.int .i64 vk, .int .i64 vn, .string vt, .slice va1 vn1 vc1, .slice va2 vn2 vc2]) := hd 2 (by kernel_rfl)
              simp only [e0, e1, e2] at hK ⊢
              clear e0 e1 e2
              go_simp
              refine (with_any (HEZ.out.below hM) (HVZ.out.below hM) HL0.out (Nat.le_trans HW.out (by decide)) A (Nat.le_trans SA.out (by decide))).mono ?_
              rintro e w7 ⟨k7, n7, t7, a17, n17, c17, a27, n27, c27, rfl, h7, b7⟩
              exact hK.out _ _ (with_fact h7) b7
            refine And.intro ?_ ?_
            · intro vs lo hi w' hM hd K' hK
              dsimp only at hK ⊢
              simp only [Act.put, List.setIfInBounds_toArray, List.set_cons_zero, List.set_cons_succ] at hK
              go_simp
              exact hK.out _ _ rfl (Below.refl _ _)
            refine And.intro ?_ ?_
            · intro vs lo hi w' hM hd K' hK
              dsimp only at hK ⊢
              simp only [Act.put, List.setIfInBounds_toArray, List.set_cons_zero, List.set_cons_succ] at hK
              obtain ⟨y0, y1, y2, y3, y4⟩ := HZB.out.keep hM
              go_simp
              exact hK.out _ _ rfl (Below.refl _ _)
            refine And.intro ?_ ?_
            · intro vs lo hi w' hM hd K' hK
              dsimp only at hK ⊢
              simp only [Act.put, List.setIfInBounds_toArray, List.set_cons_zero, List.set_cons_succ] at hK
              obtain ⟨k3, n3, t3, a13, n13, c13, a23, n23, c23, e3, H3⟩ := hd 3 (by kernel_rfl)
              have e4 : vs 4 = (.string B) := hd 4 (by kernel_rfl)
              have e5 : vs 5 = (.agg #[.int .i64 zk, .int .i64 zn, .string zt, .slice za1 zn1 zc1, .slice za2 zn2 zc2]) := hd 5 (by kernel_rfl)
              simp only [e3, e4, e5] at hK ⊢
              clear e3 e4 e5
              go_simp
              refine (with_any H3.out (HZZ.out.below hM) HLp1.out (Nat.le_trans HWZ.out (by decide)) B (Nat.le_trans SB.out (by decide))).mono ?_
              rintro e w7 ⟨k7, n7, t7, a17, n17, c17, a27, n27, c27, rfl, h7, b7⟩
              exact hK.out _ _ (with_fact h7) b7
            refine And.intro ?_ ?_
            · intro vs lo hi w' hM hd K' hK
              dsimp only at hK ⊢
              simp only [Act.put, List.setIfInBounds_toArray, List.set_cons_zero, List.set_cons_succ] at hK
              go_simp
              exact hK.out _ _ rfl (Below.refl _ _)
            refine And.intro ?_ ?_
            · intro vs lo hi w' hM hd K' hK
              dsimp only at hK ⊢
              simp only [Act.put, List.setIfInBounds_toArray, List.set_cons_zero, List.set_cons_succ] at hK
              obtain ⟨y0, y1, y2, y3, y4⟩ := HVB.out.keep hM
              go_simp
              exact hK.out _ _ rfl (Below.refl _ _)
            refine And.intro ?_ ?_
            · intro vs lo hi w' hM hd K' hK
              dsimp only at hK ⊢
              simp only [Act.put, List.setIfInBounds_toArray, List.set_cons_zero, List.set_cons_succ] at hK
              obtain ⟨k6, n6, t6, a16, n16, c16, a26, n26, c26, e6, H6⟩ := hd 6 (by kernel_rfl)
              have e7 : vs 7 = (.string C) := hd 7 (by kernel_rfl)
              have e8 : vs 8 = (.agg #[.int .i64 vk, .int .i64 vn, .string vt, .slice va1 vn1 vc1, .slice va2 vn2 vc2]) := hd 8 (by kernel_rfl)
              simp only [e6, e7, e8] at hK ⊢
              clear e6 e7 e8
              go_simp
              refine (with_any H6.out (HVZ.out.below hM) HLp2.out (Nat.le_trans HW.out (by decide)) C (Nat.le_trans SC.out (by decide))).mono ?_
              rintro e w7 ⟨k7, n7, t7, a17, n17, c17, a27, n27, c27, rfl, h7, b7⟩
              exact hK.out _ _ (with_fact h7) b7
            refine And.intro ?_ ?_
            · intro vs lo hi w' hM hd K' hK
              dsimp only at hK ⊢
              simp only [Act.put, List.setIfInBounds_toArray, List.set_cons_zero, List.set_cons_succ] at hK
              go_simp
              exact hK.out _ _ (box_fact _) (below_alloc _ _)
            exact trivial
          case last =>
            intro vs lo hi w' hM hlo hap hall K' Q' hK
            obtain ⟨_, _, _, _, _, _, _, _, _, h9, h10, _⟩ := hall
            obtain ⟨k9, n9, t9, a19, n19, c19, a29, n29, c29, e9, H9⟩ := h9
            obtain ⟨e10, hlt, HBX⟩ := h10
            have hap9 := hap 9 10 (by decide) (by decide) (by decide)
            have hz := (hlo 10 (by decide)).1
            dsimp only
            simp only [e9, e10]
            generalize lo 10 = g at HBX hlt hap9 hz ⊢
            clear e9 e10 hap hlo
            obtain ⟨⟨y0, y1, y2, y3, y4⟩, g0, g1, g2, g3, g4⟩ := id HBX.out
            go_simp
            refine hK.out _ _ ?_
            clear y0 y1 y2 y3 y4 g0 g1 g2 g3 g4 hK
            go_wp2_with fail
            go_meet
            exact ⟨_, _, _, _, _, _, rfl, hide (ready_by hM HBX.out H9.out hlt hap9 hz)⟩
        case rest =>
          obtain ⟨wy, rfl⟩ : ∃ wy, wy = wc := ⟨_, rfl⟩
          obtain ⟨g, c0, c1, c2, c3, c4, rfl, HR⟩ := hcut
          have HBY := hide HR.out.2.2.1
          have HVC := hide (HVZ.out.below HBY.out)
          have HZC := hide (HZZ.out.below HBY.out)
          have HEC := hide (HEZ.out.below HBY.out)
          have HVBc := hide (HVB.out.keep HBY.out)
          have HZBc := hide (HZB.out.keep HBY.out)
          have HEBc := hide (HEB.out.keep HBY.out)
          have hn5 : V.wt V.none5 = 1 := by unfold V.none5; rw [V.wt_mk]; rfl
          have hp1 := V.wt_with_le V.none5 C PV
          have hp2 := V.wt_with_le (V.withV V.none5 C PV) A PV
          have hp3 := V.wt_with_le (V.withV (V.withV V.none5 C PV) A PV) B PZ
          have hs1 := HW.out
          have hs2 := HWZ.out
          have hs3 := SA.out
          have hs4 := SB.out
          have hs5 := SC.out
          have HLq1 : Hid (V.wt (V.withV V.none5 C PV) ≤ 1000000000) := hide (by omega)
          have HLq2 : Hid (V.wt (V.withV (V.withV V.none5 C PV) A PV) ≤ 1000000000) := hide (by omega)
          have HLq3 : Hid (V.wt (V.withV (V.withV (V.withV V.none5 C PV) A PV) B PZ) ≤ 1000000000) := hide (by omega)
          clear hn5 hp1 hp2 hp3 hs1 hs2 hs3 hs4 hs5 lv lz le
          go_upto_region 11 with fail
          go_cut [19] (fun s wd => ∃ g2 d0 d1 d2 d3 d4, s = .pointer (some ⟨g2, 0, none⟩) ∧ Hid (Ready wy g2 d0 d1 d2 d3 d4 (V.withV (V.withV (V.withV V.none5 C PV) A PV) B PZ) wd))
          case first =>
            refine' wp_region_facts [(fun _ _ v _ => v = (.agg #[.int .i64 5, .int .i64 0, .string ⟨#[]⟩, .slice none 0 0, .slice none 0 0])), (fun _ _ v _ => v = (.string C)), (fun _ _ v _ => v = (.agg #[.int .i64 vk, .int .i64 vn, .string vt, .slice va1 vn1 vc1, .slice va2 vn2 vc2])), (WithF (V.withV V.none5 C PV)), (fun _ _ v _ => v = (.string A)), (fun _ _ v _ => v = (.agg #[.int .i64 vk, .int .i64 vn, .string vt, .slice va1 vn1 vc1, .slice va2 vn2 vc2])), (WithF (V.withV (V.withV V.none5 C PV) A PV)), (fun _ _ v _ => v = (.string B)), (fun _ _ v _ => v = (.agg #[.int .i64 zk, .int .i64 zn, .string zt, .slice za1 zn1 zc1, .slice za2 zn2 zc2])), (WithF (V.withV (V.withV (V.withV V.none5 C PV) A PV) B PZ)), BoxNew] (by kernel_rfl) rfl ?hA (by kernel_rfl) (by kernel_rfl) (by kernel_rfl) rfl ?mono ?steps ?last
            case hA =>
              intro vs
              simp only [puts, Act.put, List.setIfInBounds_toArray, List.set_cons_zero, List.set_cons_succ, Nat.zero_add, Nat.reduceAdd]
              rfl
            case mono => exact ⟨mono_eq _, mono_eq _, mono_eq _, mono_with _, mono_eq _, mono_eq _, mono_with _, mono_eq _, mono_eq _, mono_with _, mono_box, trivial⟩
            case steps =>
              intro Q'
              refine And.intro ?_ ?_
              · intro vs lo hi w' hM hd K' hK
                dsimp only at hK ⊢
                simp only [Act.put, List.setIfInBounds_toArray, List.set_cons_zero, List.set_cons_succ] at hK
                obtain ⟨y0, y1, y2, y3, y4⟩ := HEBc.out.keep hM
                go_simp
                exact hK.out _ _ rfl (Below.refl _ _)
              refine And.intro ?_ ?_
              · intro vs lo hi w' hM hd K' hK
                dsimp only at hK ⊢
                simp only [Act.put, List.setIfInBounds_toArray, List.set_cons_zero, List.set_cons_succ] at hK
                go_simp
                exact hK.out _ _ rfl (Below.refl _ _)
              refine And.intro ?_ ?_
              · intro vs lo hi w' hM hd K' hK
                dsimp only at hK ⊢
                simp only [Act.put, List.setIfInBounds_toArray, List.set_cons_zero, List.set_cons_succ] at hK
                obtain ⟨y0, y1, y2, y3, y4⟩ := HVBc.out.keep hM
                go_simp
                exact hK.out _ _ rfl (Below.refl _ _)
              refine And.intro ?_ ?_
              · intro vs lo hi w' hM hd K' hK
                dsimp only at hK ⊢
                simp only [Act.put, List.setIfInBounds_toArray, List.set_cons_zero, List.set_cons_succ] at hK
                have e0 : vs 0 = (.agg #[.int .i64 5, .int .i64 0, .string ⟨#[]⟩, .slice none 0 0, .slice none 0 0]) := hd 0 (by kernel_rfl)
                have e1 : vs 1 = (.string C) := hd 1 (by kernel_rfl)
                have e2 : vs 2 = (.agg #[.int .i64 vk, .int .i64 vn, .string vt, .slice va1 vn1 vc1, .slice va2 vn2 vc2]) := hd 2 (by kernel_rfl)
                simp only [e0, e1, e2] at hK ⊢
                clear e0 e1 e2
                go_simp
                refine (with_any (HEC.out.below hM) (HVC.out.below hM) HL0.out (Nat.le_trans HW.out (by decide)) C (Nat.le_trans SC.out (by decide))).mono ?_
                rintro e w7 ⟨k7, n7, t7, a17, n17, c17, a27, n27, c27, rfl, h7, b7⟩
                exact hK.out _ _ (with_fact h7) b7
              refine And.intro ?_ ?_
              · intro vs lo hi w' hM hd K' hK
                dsimp only at hK ⊢
                simp only [Act.put, List.setIfInBounds_toArray, List.set_cons_zero, List.set_cons_succ] at hK
                go_simp
                exact hK.out _ _ rfl (Below.refl _ _)
              refine And.intro ?_ ?_
              · intro vs lo hi w' hM hd K' hK
                dsimp only at hK ⊢
                simp only [Act.put, List.setIfInBounds_toArray, List.set_cons_zero, List.set_cons_succ] at hK
                obtain ⟨y0, y1, y2, y3, y4⟩ := HVBc.out.keep hM
                go_simp
                exact hK.out _ _ rfl (Below.refl _ _)
              refine And.intro ?_ ?_
              · intro vs lo hi w' hM hd K' hK
                dsimp only at hK ⊢
                simp only [Act.put, List.setIfInBounds_toArray, List.set_cons_zero, List.set_cons_succ] at hK
                obtain ⟨k3, n3, t3, a13, n13, c13, a23, n23, c23, e3, H3⟩ := hd 3 (by kernel_rfl)
                have e4 : vs 4 = (.string A) := hd 4 (by kernel_rfl)
                have e5 : vs 5 = (.agg #[.int .i64 vk, .int .i64 vn, .string vt, .slice va1 vn1 vc1, .slice va2 vn2 vc2]) := hd 5 (by kernel_rfl)
                simp only [e3, e4, e5] at hK ⊢
                clear e3 e4 e5
                go_simp
                refine (with_any H3.out (HVC.out.below hM) HLq1.out (Nat.le_trans HW.out (by decide)) A (Nat.le_trans SA.out (by decide))).mono ?_
                rintro e w7 ⟨k7, n7, t7, a17, n17, c17, a27, n27, c27, rfl, h7, b7⟩
                exact hK.out _ _ (with_fact h7) b7
              refine And.intro ?_ ?_
              · intro vs lo hi w' hM hd K' hK
                dsimp only at hK ⊢
                simp only [Act.put, List.setIfInBounds_toArray, List.set_cons_zero, List.set_cons_succ] at hK
                go_simp
                exact hK.out _ _ rfl (Below.refl _ _)
              refine And.intro ?_ ?_
              · intro vs lo hi w' hM hd K' hK
                dsimp only at hK ⊢
                simp only [Act.put, List.setIfInBounds_toArray, List.set_cons_zero, List.set_cons_succ] at hK
                obtain ⟨y0, y1, y2, y3, y4⟩ := HZBc.out.keep hM
                go_simp
                exact hK.out _ _ rfl (Below.refl _ _)
              refine And.intro ?_ ?_
              · intro vs lo hi w' hM hd K' hK
                dsimp only at hK ⊢
                simp only [Act.put, List.setIfInBounds_toArray, List.set_cons_zero, List.set_cons_succ] at hK
                obtain ⟨k6, n6, t6, a16, n16, c16, a26, n26, c26, e6, H6⟩ := hd 6 (by kernel_rfl)
                have e7 : vs 7 = (.string B) := hd 7 (by kernel_rfl)
                have e8 : vs 8 = (.agg #[.int .i64 zk, .int .i64 zn, .string zt, .slice za1 zn1 zc1, .slice za2 zn2 zc2]) := hd 8 (by kernel_rfl)
                simp only [e6, e7, e8] at hK ⊢
                clear e6 e7 e8
                go_simp
                refine (with_any H6.out (HZC.out.below hM) HLq2.out (Nat.le_trans HWZ.out (by decide)) B (Nat.le_trans SB.out (by decide))).mono ?_
                rintro e w7 ⟨k7, n7, t7, a17, n17, c17, a27, n27, c27, rfl, h7, b7⟩
                exact hK.out _ _ (with_fact h7) b7
              refine And.intro ?_ ?_
              · intro vs lo hi w' hM hd K' hK
                dsimp only at hK ⊢
                simp only [Act.put, List.setIfInBounds_toArray, List.set_cons_zero, List.set_cons_succ] at hK
                go_simp
                exact hK.out _ _ (box_fact _) (below_alloc _ _)
              exact trivial
            case last =>
              intro vs lo hi w' hM hlo hap hall K' Q' hK
              obtain ⟨_, _, _, _, _, _, _, _, _, h9, h10, _⟩ := hall
              obtain ⟨k9, n9, t9, a19, n19, c19, a29, n29, c29, e9, H9⟩ := h9
              obtain ⟨e10, hlt, HBX⟩ := h10
              have hap9 := hap 9 10 (by decide) (by decide) (by decide)
              have hz := (hlo 10 (by decide)).1
              dsimp only
              simp only [e9, e10]
              generalize lo 10 = gx at HBX hlt hap9 hz ⊢
              clear e9 e10 hap hlo
              obtain ⟨⟨y0, y1, y2, y3, y4⟩, g0, g1, g2, g3, g4⟩ := id HBX.out
              go_simp
              refine hK.out _ _ ?_
              clear y0 y1 y2 y3 y4 g0 g1 g2 g3 g4 hK
              go_wp2_with fail
              go_meet
              exact ⟨_, _, _, _, _, _, rfl, hide (ready_by hM HBX.out H9.out hlt hap9 hz)⟩
          case rest =>
            obtain ⟨wd, rfl⟩ : ∃ wd, wd = wc := ⟨_, rfl⟩
            obtain ⟨g2, d0, d1, d2, d3, d4, rfl, HR2⟩ := hcut
            have HBD := hide HR2.out.2.2.1
            have HVD := hide (HVC.out.below HBD.out)
            have HZD := hide (HZC.out.below HBD.out)
            have HVBd := hide (HVBc.out.keep HBD.out)
            have HZBd := hide (HZBc.out.keep HBD.out)
            have hi1 := HR.out.2.1.below HBD.out
            have hb1 := HR.out.1.keep HBD.out
            have HB2 := hide HR2.out.1
            have HI2 := hide HR2.out.2.1
            have hlen := V.ord_len HOR.out
            have HSA : Hid ((true = true) ↔ (V.withV (V.withV (V.withV V.none5 A PV) B PZ) C PV) = (V.withV (V.withV (V.withV V.none5 C PV) A PV) B PZ)) := hide ⟨fun _ => V.ord_same HOR.out, fun _ => rfl⟩
            have hri := V.ord_right HOR.out
            have hde := V.ord_deep HOR.out
            have HL1 : Hid (V.wt (V.withV (V.withV (V.withV V.none5 A PV) B PZ) C PV) ≤ 4294967296) := hide (Nat.le_trans HLp3.out (by decide))
            have HL2 : Hid (V.wt (V.withV (V.withV (V.withV V.none5 C PV) A PV) B PZ) ≤ 4294967296) := hide (Nat.le_trans HLq3.out (by decide))
            obtain ⟨kv, lv, hq, hstr, hlist, _⟩ := hi1.open
            simp only [Value.agg.injEq, Array.mk.injEq, List.cons.injEq, and_true] at hq
            obtain ⟨rfl, rfl, rfl, rfl, rfl⟩ := hq
            obtain ⟨oa1, oc1, rfl, _⟩ := hstr
            obtain ⟨oa2, oc2, _, rfl, _⟩ := hlist
            rw [hlen] at hb1 hi1
            obtain ⟨DV, hDV⟩ : ∃ D, V.deep PV = D := ⟨_, rfl⟩
            obtain ⟨DZ, hDZ⟩ : ∃ D, V.deep PZ = D := ⟨_, rfl⟩
            have hdv := V.deep_wt PV
            have hdz := V.deep_wt PZ
            have hs1 := HW.out
            have hs2 := HWZ.out
            rw [hDV, hDZ] at hde
            generalize (V.withV (V.withV (V.withV V.none5 A PV) B PZ) C PV) = ONE at hi1 hb1 hri hde HSA HL1
            generalize (V.withV (V.withV (V.withV V.none5 C PV) A PV) B PZ) = TWO at HI2 HSA HL2
            obtain ⟨MX, hMX⟩ : ∃ M, max DV DZ = M := ⟨_, rfl⟩
            obtain ⟨D1, hD1⟩ : ∃ D, 1 + MX = D := ⟨_, rfl⟩
            rw [hMX, hD1] at hde
            have HD1 := hide hde
            have HDV := hide hDV
            have HDZ := hide hDZ
            have HMX : Hid (max (DV : Int) (DZ : Int) = (MX : Int)) := hide (by omega)
            have HWR : Hid (IntKind.i64.wrap (1 + (MX : Int)) = (D1 : Int)) := hide (by rw [IntKind.wrap_i64]; omega)
            have HI1 := hide hi1
            have HB1 := hide hb1
            clear hlen hde hi1 hb1 hdv hdz hs1 hs2 hDV hDZ hMX hD1
            generalize ONE.kind = ok at HI1 HB1
            generalize ONE.num = on at HI1 HB1
            generalize ONE.text = ot at HI1 HB1
            generalize ONE.list.length = on2 at HI1 HB1
            go_upto_region 12 with fail
            obtain ⟨rz, hrz⟩ : ∃ r, V.right PZ = r := ⟨_, rfl⟩
            cases hrv : V.right PV with
            | true =>
              rw [hrv, hrz, Bool.true_and] at hri
              have HR1 := hide hri
              have HRV := hide hrv
              have HRZ := hide hrz
              clear hri hrv hrz
              refine' wp_region_facts [(fun _ _ v _ => v = (.bool true)), (fun _ _ v _ => v = (.bool true)), (fun _ _ v _ => v = (.agg #[.int .i64 ok, .int .i64 on, .string ot, .slice oa1 3 oc1, .slice oa2 on2 oc2])), (fun _ _ v _ => v = (.agg #[d0, d1, d2, d3, d4])), (fun _ _ v _ => v = (.bool true)), (fun _ _ v _ => v = (.bool true)), (fun _ _ v _ => v = (.bool true)), (fun _ _ v _ => v = (.pointer (some ⟨g, 3, none⟩))), (fun _ _ v _ => v = (.slice oa1 3 oc1)), (fun _ _ v _ => v = (.int .i64 3)), (fun _ _ v _ => v = (.bool true)), (fun _ _ v _ => v = (.bool true)), (fun _ _ v _ => v = (.bool true)), (fun _ _ v _ => v = (.agg #[.int .i64 ok, .int .i64 on, .string ot, .slice oa1 3 oc1, .slice oa2 on2 oc2])), (fun _ _ v _ => v = (.bool rz)), (fun _ _ v _ => v = (.agg #[.int .i64 vk, .int .i64 vn, .string vt, .slice va1 vn1 vc1, .slice va2 vn2 vc2])), (fun _ _ v _ => v = (.bool true)), (fun _ _ v _ => v = (.bool true)), (fun _ _ v _ => v = (.agg #[.int .i64 zk, .int .i64 zn, .string zt, .slice za1 zn1 zc1, .slice za2 zn2 zc2])), (fun _ _ v _ => v = (.bool rz)), (fun _ _ v _ => v = (.bool rz)), (fun _ _ v _ => v = (.bool true)), (fun _ _ v _ => v = (.bool true)), (fun _ _ v _ => v = (.bool true)), (fun _ _ v _ => v = (.agg #[.int .i64 ok, .int .i64 on, .string ot, .slice oa1 3 oc1, .slice oa2 on2 oc2])), (fun _ _ v _ => v = (.int .i64 (D1 : Int))), (fun _ _ v _ => v = (.agg #[.int .i64 vk, .int .i64 vn, .string vt, .slice va1 vn1 vc1, .slice va2 vn2 vc2])), (fun _ _ v _ => v = (.int .i64 (DV : Int))), (fun _ _ v _ => v = (.agg #[.int .i64 zk, .int .i64 zn, .string zt, .slice za1 zn1 zc1, .slice za2 zn2 zc2])), (fun _ _ v _ => v = (.int .i64 (DZ : Int))), (fun _ _ v _ => v = (.int .i64 (MX : Int))), (fun _ _ v _ => v = (.int .i64 (D1 : Int))), (fun _ _ v _ => v = (.bool true)), (fun _ _ v _ => v = (.bool true))] (by kernel_rfl) rfl ?hA (by kernel_rfl) (by kernel_rfl) (by kernel_rfl) rfl ?mono ?steps ?last
              case hA =>
                intro vs
                simp only [puts, Act.put, List.setIfInBounds_toArray, List.set_cons_zero, List.set_cons_succ, Nat.zero_add, Nat.reduceAdd]
                rfl
              case mono => exact ⟨mono_eq _, mono_eq _, mono_eq _, mono_eq _, mono_eq _, mono_eq _, mono_eq _, mono_eq _, mono_eq _, mono_eq _, mono_eq _, mono_eq _, mono_eq _, mono_eq _, mono_eq _, mono_eq _, mono_eq _, mono_eq _, mono_eq _, mono_eq _, mono_eq _, mono_eq _, mono_eq _, mono_eq _, mono_eq _, mono_eq _, mono_eq _, mono_eq _, mono_eq _, mono_eq _, mono_eq _, mono_eq _, mono_eq _, mono_eq _, trivial⟩
              case steps =>
                intro Q'
                refine And.intro ?_ ?_
                · intro vs lo hi w' hM hd K' hK
                  dsimp only at hK ⊢
                  simp only [Act.put, List.setIfInBounds_toArray, List.set_cons_zero, List.set_cons_succ] at hK
                  go_simp
                  refine (known_any _).mono ?_
                  rintro e w7 ⟨rfl, b7⟩
                  exact hK.out _ _ rfl b7
                refine And.intro ?_ ?_
                · intro vs lo hi w' hM hd K' hK
                  dsimp only at hK ⊢
                  simp only [Act.put, List.setIfInBounds_toArray, List.set_cons_zero, List.set_cons_succ] at hK
                  have e0 : vs 0 = (.bool true) := hd 0 (by kernel_rfl)
                  simp only [e0] at hK ⊢
                  clear e0
                  go_simp
                  exact hK.out _ _ rfl (Below.refl _ _)
                refine And.intro ?_ ?_
                · intro vs lo hi w' hM hd K' hK
                  dsimp only at hK ⊢
                  simp only [Act.put, List.setIfInBounds_toArray, List.set_cons_zero, List.set_cons_succ] at hK
                  have e1 : vs 1 = (.bool true) := hd 1 (by kernel_rfl)
                  simp only [e1] at hK ⊢
                  clear e1
                  obtain ⟨y0, y1, y2, y3, y4⟩ := HB1.out.keep hM
                  go_simp
                  exact hK.out _ _ rfl (Below.refl _ _)
                refine And.intro ?_ ?_
                · intro vs lo hi w' hM hd K' hK
                  dsimp only at hK ⊢
                  simp only [Act.put, List.setIfInBounds_toArray, List.set_cons_zero, List.set_cons_succ] at hK
                  have e1 : vs 1 = (.bool true) := hd 1 (by kernel_rfl)
                  simp only [e1] at hK ⊢
                  clear e1
                  obtain ⟨y0, y1, y2, y3, y4⟩ := HB2.out.keep hM
                  go_simp
                  exact hK.out _ _ rfl (Below.refl _ _)
                refine And.intro ?_ ?_
                · intro vs lo hi w' hM hd K' hK
                  dsimp only at hK ⊢
                  simp only [Act.put, List.setIfInBounds_toArray, List.set_cons_zero, List.set_cons_succ] at hK
                  have e2 : vs 2 = (.agg #[.int .i64 ok, .int .i64 on, .string ot, .slice oa1 3 oc1, .slice oa2 on2 oc2]) := hd 2 (by kernel_rfl)
                  have e3 : vs 3 = (.agg #[d0, d1, d2, d3, d4]) := hd 3 (by kernel_rfl)
                  have e1 : vs 1 = (.bool true) := hd 1 (by kernel_rfl)
                  simp only [e2, e3, e1] at hK ⊢
                  clear e2 e3 e1
                  go_simp
                  refine (same_any (HI1.out.below hM) (HI2.out.below hM) HL1.out HL2.out true HSA.out).mono ?_
                  rintro e w7 ⟨rfl, b7⟩
                  exact hK.out _ _ rfl b7
                refine And.intro ?_ ?_
                · intro vs lo hi w' hM hd K' hK
                  dsimp only at hK ⊢
                  simp only [Act.put, List.setIfInBounds_toArray, List.set_cons_zero, List.set_cons_succ] at hK
                  have e1 : vs 1 = (.bool true) := hd 1 (by kernel_rfl)
                  have e4 : vs 4 = (.bool true) := hd 4 (by kernel_rfl)
                  simp only [e1, e4] at hK ⊢
                  clear e1 e4
                  go_simp
                  exact hK.out _ _ rfl (Below.refl _ _)
                refine And.intro ?_ ?_
                · intro vs lo hi w' hM hd K' hK
                  dsimp only at hK ⊢
                  simp only [Act.put, List.setIfInBounds_toArray, List.set_cons_zero, List.set_cons_succ] at hK
                  have e5 : vs 5 = (.bool true) := hd 5 (by kernel_rfl)
                  simp only [e5] at hK ⊢
                  clear e5
                  go_simp
                  exact hK.out _ _ rfl (Below.refl _ _)
                refine And.intro ?_ ?_
                · intro vs lo hi w' hM hd K' hK
                  dsimp only at hK ⊢
                  simp only [Act.put, List.setIfInBounds_toArray, List.set_cons_zero, List.set_cons_succ] at hK
                  have e6 : vs 6 = (.bool true) := hd 6 (by kernel_rfl)
                  simp only [e6] at hK ⊢
                  clear e6
                  go_simp
                  exact hK.out _ _ rfl (Below.refl _ _)
                refine And.intro ?_ ?_
                · intro vs lo hi w' hM hd K' hK
                  dsimp only at hK ⊢
                  simp only [Act.put, List.setIfInBounds_toArray, List.set_cons_zero, List.set_cons_succ] at hK
                  have e7 : vs 7 = (.pointer (some ⟨g, 3, none⟩)) := hd 7 (by kernel_rfl)
                  have e6 : vs 6 = (.bool true) := hd 6 (by kernel_rfl)
                  simp only [e7, e6] at hK ⊢
                  clear e7 e6
                  obtain ⟨y0, y1, y2, y3, y4⟩ := HB1.out.keep hM
                  go_simp
                  exact hK.out _ _ rfl (Below.refl _ _)
                refine And.intro ?_ ?_
                · intro vs lo hi w' hM hd K' hK
                  dsimp only at hK ⊢
                  simp only [Act.put, List.setIfInBounds_toArray, List.set_cons_zero, List.set_cons_succ] at hK
                  have e8 : vs 8 = (.slice oa1 3 oc1) := hd 8 (by kernel_rfl)
                  have e6 : vs 6 = (.bool true) := hd 6 (by kernel_rfl)
                  simp only [e8, e6] at hK ⊢
                  clear e8 e6
                  go_simp
                  exact hK.out _ _ rfl (Below.refl _ _)
                refine And.intro ?_ ?_
                · intro vs lo hi w' hM hd K' hK
                  dsimp only at hK ⊢
                  simp only [Act.put, List.setIfInBounds_toArray, List.set_cons_zero, List.set_cons_succ] at hK
                  have e9 : vs 9 = (.int .i64 3) := hd 9 (by kernel_rfl)
                  have e6 : vs 6 = (.bool true) := hd 6 (by kernel_rfl)
                  simp only [e9, e6] at hK ⊢
                  clear e9 e6
                  go_simp
                  exact hK.out _ _ rfl (Below.refl _ _)
                refine And.intro ?_ ?_
                · intro vs lo hi w' hM hd K' hK
                  dsimp only at hK ⊢
                  simp only [Act.put, List.setIfInBounds_toArray, List.set_cons_zero, List.set_cons_succ] at hK
                  have e6 : vs 6 = (.bool true) := hd 6 (by kernel_rfl)
                  have e10 : vs 10 = (.bool true) := hd 10 (by kernel_rfl)
                  simp only [e6, e10] at hK ⊢
                  clear e6 e10
                  go_simp
                  exact hK.out _ _ rfl (Below.refl _ _)
                refine And.intro ?_ ?_
                · intro vs lo hi w' hM hd K' hK
                  dsimp only at hK ⊢
                  simp only [Act.put, List.setIfInBounds_toArray, List.set_cons_zero, List.set_cons_succ] at hK
                  have e11 : vs 11 = (.bool true) := hd 11 (by kernel_rfl)
                  simp only [e11] at hK ⊢
                  clear e11
                  go_simp
                  exact hK.out _ _ rfl (Below.refl _ _)
                refine And.intro ?_ ?_
                · intro vs lo hi w' hM hd K' hK
                  dsimp only at hK ⊢
                  simp only [Act.put, List.setIfInBounds_toArray, List.set_cons_zero, List.set_cons_succ] at hK
                  have e12 : vs 12 = (.bool true) := hd 12 (by kernel_rfl)
                  simp only [e12] at hK ⊢
                  clear e12
                  obtain ⟨y0, y1, y2, y3, y4⟩ := HB1.out.keep hM
                  go_simp
                  exact hK.out _ _ rfl (Below.refl _ _)
                refine And.intro ?_ ?_
                · intro vs lo hi w' hM hd K' hK
                  dsimp only at hK ⊢
                  simp only [Act.put, List.setIfInBounds_toArray, List.set_cons_zero, List.set_cons_succ] at hK
                  have e13 : vs 13 = (.agg #[.int .i64 ok, .int .i64 on, .string ot, .slice oa1 3 oc1, .slice oa2 on2 oc2]) := hd 13 (by kernel_rfl)
                  have e12 : vs 12 = (.bool true) := hd 12 (by kernel_rfl)
                  simp only [e13, e12] at hK ⊢
                  clear e13 e12
                  go_simp
                  refine (right_any (HI1.out.below hM) HL1.out _ HR1.out).mono ?_
                  rintro e w7 ⟨rfl, b7⟩
                  exact hK.out _ _ rfl b7
                refine And.intro ?_ ?_
                · intro vs lo hi w' hM hd K' hK
                  dsimp only at hK ⊢
                  simp only [Act.put, List.setIfInBounds_toArray, List.set_cons_zero, List.set_cons_succ] at hK
                  have e12 : vs 12 = (.bool true) := hd 12 (by kernel_rfl)
                  simp only [e12] at hK ⊢
                  clear e12
                  obtain ⟨y0, y1, y2, y3, y4⟩ := HVBd.out.keep hM
                  go_simp
                  exact hK.out _ _ rfl (Below.refl _ _)
                refine And.intro ?_ ?_
                · intro vs lo hi w' hM hd K' hK
                  dsimp only at hK ⊢
                  simp only [Act.put, List.setIfInBounds_toArray, List.set_cons_zero, List.set_cons_succ] at hK
                  have e15 : vs 15 = (.agg #[.int .i64 vk, .int .i64 vn, .string vt, .slice va1 vn1 vc1, .slice va2 vn2 vc2]) := hd 15 (by kernel_rfl)
                  have e12 : vs 12 = (.bool true) := hd 12 (by kernel_rfl)
                  simp only [e15, e12] at hK ⊢
                  clear e15 e12
                  go_simp
                  refine (right_any (HVD.out.below hM) (Nat.le_trans HW.out (by decide)) _ HRV.out).mono ?_
                  rintro e w7 ⟨rfl, b7⟩
                  exact hK.out _ _ rfl b7
                refine And.intro ?_ ?_
                · intro vs lo hi w' hM hd K' hK
                  dsimp only at hK ⊢
                  simp only [Act.put, List.setIfInBounds_toArray, List.set_cons_zero, List.set_cons_succ] at hK
                  have e16 : vs 16 = (.bool true) := hd 16 (by kernel_rfl)
                  have e12 : vs 12 = (.bool true) := hd 12 (by kernel_rfl)
                  simp only [e16, e12] at hK ⊢
                  clear e16 e12
                  go_simp
                  exact hK.out _ _ rfl (Below.refl _ _)
                refine And.intro ?_ ?_
                · intro vs lo hi w' hM hd K' hK
                  dsimp only at hK ⊢
                  simp only [Act.put, List.setIfInBounds_toArray, List.set_cons_zero, List.set_cons_succ] at hK
                  have e17 : vs 17 = (.bool true) := hd 17 (by kernel_rfl)
                  simp only [e17] at hK ⊢
                  clear e17
                  obtain ⟨y0, y1, y2, y3, y4⟩ := HZBd.out.keep hM
                  go_simp
                  exact hK.out _ _ rfl (Below.refl _ _)
                refine And.intro ?_ ?_
                · intro vs lo hi w' hM hd K' hK
                  dsimp only at hK ⊢
                  simp only [Act.put, List.setIfInBounds_toArray, List.set_cons_zero, List.set_cons_succ] at hK
                  have e18 : vs 18 = (.agg #[.int .i64 zk, .int .i64 zn, .string zt, .slice za1 zn1 zc1, .slice za2 zn2 zc2]) := hd 18 (by kernel_rfl)
                  have e17 : vs 17 = (.bool true) := hd 17 (by kernel_rfl)
                  simp only [e18, e17] at hK ⊢
                  clear e18 e17
                  go_simp
                  refine (right_any (HZD.out.below hM) (Nat.le_trans HWZ.out (by decide)) _ HRZ.out).mono ?_
                  rintro e w7 ⟨rfl, b7⟩
                  exact hK.out _ _ rfl b7
                refine And.intro ?_ ?_
                · intro vs lo hi w' hM hd K' hK
                  dsimp only at hK ⊢
                  simp only [Act.put, List.setIfInBounds_toArray, List.set_cons_zero, List.set_cons_succ] at hK
                  have e17 : vs 17 = (.bool true) := hd 17 (by kernel_rfl)
                  have e19 : vs 19 = (.bool rz) := hd 19 (by kernel_rfl)
                  have e12 : vs 12 = (.bool true) := hd 12 (by kernel_rfl)
                  simp only [e17, e19, e12] at hK ⊢
                  clear e17 e19 e12
                  go_simp
                  exact hK.out _ _ rfl (Below.refl _ _)
                refine And.intro ?_ ?_
                · intro vs lo hi w' hM hd K' hK
                  dsimp only at hK ⊢
                  simp only [Act.put, List.setIfInBounds_toArray, List.set_cons_zero, List.set_cons_succ] at hK
                  have e14 : vs 14 = (.bool rz) := hd 14 (by kernel_rfl)
                  have e20 : vs 20 = (.bool rz) := hd 20 (by kernel_rfl)
                  have e12 : vs 12 = (.bool true) := hd 12 (by kernel_rfl)
                  simp only [e14, e20, e12] at hK ⊢
                  clear e14 e20 e12
                  go_simp
                  exact hK.out _ _ rfl (Below.refl _ _)
                refine And.intro ?_ ?_
                · intro vs lo hi w' hM hd K' hK
                  dsimp only at hK ⊢
                  simp only [Act.put, List.setIfInBounds_toArray, List.set_cons_zero, List.set_cons_succ] at hK
                  have e12 : vs 12 = (.bool true) := hd 12 (by kernel_rfl)
                  have e21 : vs 21 = (.bool true) := hd 21 (by kernel_rfl)
                  simp only [e12, e21] at hK ⊢
                  clear e12 e21
                  go_simp
                  exact hK.out _ _ rfl (Below.refl _ _)
                refine And.intro ?_ ?_
                · intro vs lo hi w' hM hd K' hK
                  dsimp only at hK ⊢
                  simp only [Act.put, List.setIfInBounds_toArray, List.set_cons_zero, List.set_cons_succ] at hK
                  have e22 : vs 22 = (.bool true) := hd 22 (by kernel_rfl)
                  simp only [e22] at hK ⊢
                  clear e22
                  go_simp
                  exact hK.out _ _ rfl (Below.refl _ _)
                refine And.intro ?_ ?_
                · intro vs lo hi w' hM hd K' hK
                  dsimp only at hK ⊢
                  simp only [Act.put, List.setIfInBounds_toArray, List.set_cons_zero, List.set_cons_succ] at hK
                  have e23 : vs 23 = (.bool true) := hd 23 (by kernel_rfl)
                  simp only [e23] at hK ⊢
                  clear e23
                  obtain ⟨y0, y1, y2, y3, y4⟩ := HB1.out.keep hM
                  go_simp
                  exact hK.out _ _ rfl (Below.refl _ _)
                refine And.intro ?_ ?_
                · intro vs lo hi w' hM hd K' hK
                  dsimp only at hK ⊢
                  simp only [Act.put, List.setIfInBounds_toArray, List.set_cons_zero, List.set_cons_succ] at hK
                  have e24 : vs 24 = (.agg #[.int .i64 ok, .int .i64 on, .string ot, .slice oa1 3 oc1, .slice oa2 on2 oc2]) := hd 24 (by kernel_rfl)
                  have e23 : vs 23 = (.bool true) := hd 23 (by kernel_rfl)
                  simp only [e24, e23] at hK ⊢
                  clear e24 e23
                  go_simp
                  refine (deep_any (HI1.out.below hM) HL1.out D1 HD1.out).mono ?_
                  rintro e w7 ⟨rfl, b7⟩
                  exact hK.out _ _ rfl b7
                refine And.intro ?_ ?_
                · intro vs lo hi w' hM hd K' hK
                  dsimp only at hK ⊢
                  simp only [Act.put, List.setIfInBounds_toArray, List.set_cons_zero, List.set_cons_succ] at hK
                  have e23 : vs 23 = (.bool true) := hd 23 (by kernel_rfl)
                  simp only [e23] at hK ⊢
                  clear e23
                  obtain ⟨y0, y1, y2, y3, y4⟩ := HVBd.out.keep hM
                  go_simp
                  exact hK.out _ _ rfl (Below.refl _ _)
                refine And.intro ?_ ?_
                · intro vs lo hi w' hM hd K' hK
                  dsimp only at hK ⊢
                  simp only [Act.put, List.setIfInBounds_toArray, List.set_cons_zero, List.set_cons_succ] at hK
                  have e26 : vs 26 = (.agg #[.int .i64 vk, .int .i64 vn, .string vt, .slice va1 vn1 vc1, .slice va2 vn2 vc2]) := hd 26 (by kernel_rfl)
                  have e23 : vs 23 = (.bool true) := hd 23 (by kernel_rfl)
                  simp only [e26, e23] at hK ⊢
                  clear e26 e23
                  go_simp
                  refine (deep_any (HVD.out.below hM) (Nat.le_trans HW.out (by decide)) DV HDV.out).mono ?_
                  rintro e w7 ⟨rfl, b7⟩
                  exact hK.out _ _ rfl b7
                refine And.intro ?_ ?_
                · intro vs lo hi w' hM hd K' hK
                  dsimp only at hK ⊢
                  simp only [Act.put, List.setIfInBounds_toArray, List.set_cons_zero, List.set_cons_succ] at hK
                  have e23 : vs 23 = (.bool true) := hd 23 (by kernel_rfl)
                  simp only [e23] at hK ⊢
                  clear e23
                  obtain ⟨y0, y1, y2, y3, y4⟩ := HZBd.out.keep hM
                  go_simp
                  exact hK.out _ _ rfl (Below.refl _ _)
                refine And.intro ?_ ?_
                · intro vs lo hi w' hM hd K' hK
                  dsimp only at hK ⊢
                  simp only [Act.put, List.setIfInBounds_toArray, List.set_cons_zero, List.set_cons_succ] at hK
                  have e28 : vs 28 = (.agg #[.int .i64 zk, .int .i64 zn, .string zt, .slice za1 zn1 zc1, .slice za2 zn2 zc2]) := hd 28 (by kernel_rfl)
                  have e23 : vs 23 = (.bool true) := hd 23 (by kernel_rfl)
                  simp only [e28, e23] at hK ⊢
                  clear e28 e23
                  go_simp
                  refine (deep_any (HZD.out.below hM) (Nat.le_trans HWZ.out (by decide)) DZ HDZ.out).mono ?_
                  rintro e w7 ⟨rfl, b7⟩
                  exact hK.out _ _ rfl b7
                refine And.intro ?_ ?_
                · intro vs lo hi w' hM hd K' hK
                  dsimp only at hK ⊢
                  simp only [Act.put, List.setIfInBounds_toArray, List.set_cons_zero, List.set_cons_succ] at hK
                  have e27 : vs 27 = (.int .i64 (DV : Int)) := hd 27 (by kernel_rfl)
                  have e29 : vs 29 = (.int .i64 (DZ : Int)) := hd 29 (by kernel_rfl)
                  have e23 : vs 23 = (.bool true) := hd 23 (by kernel_rfl)
                  simp only [e27, e29, e23] at hK ⊢
                  clear e27 e29 e23
                  have hmx := HMX.out
                  go_simp
                  exact hK.out _ _ rfl (Below.refl _ _)
                refine And.intro ?_ ?_
                · intro vs lo hi w' hM hd K' hK
                  dsimp only at hK ⊢
                  simp only [Act.put, List.setIfInBounds_toArray, List.set_cons_zero, List.set_cons_succ] at hK
                  have e30 : vs 30 = (.int .i64 (MX : Int)) := hd 30 (by kernel_rfl)
                  have e23 : vs 23 = (.bool true) := hd 23 (by kernel_rfl)
                  simp only [e30, e23] at hK ⊢
                  clear e30 e23
                  have hwr := HWR.out
                  go_simp
                  exact hK.out _ _ rfl (Below.refl _ _)
                refine And.intro ?_ ?_
                · intro vs lo hi w' hM hd K' hK
                  dsimp only at hK ⊢
                  simp only [Act.put, List.setIfInBounds_toArray, List.set_cons_zero, List.set_cons_succ] at hK
                  have e25 : vs 25 = (.int .i64 (D1 : Int)) := hd 25 (by kernel_rfl)
                  have e31 : vs 31 = (.int .i64 (D1 : Int)) := hd 31 (by kernel_rfl)
                  have e23 : vs 23 = (.bool true) := hd 23 (by kernel_rfl)
                  simp only [e25, e31, e23] at hK ⊢
                  clear e25 e31 e23
                  go_simp
                  exact hK.out _ _ rfl (Below.refl _ _)
                refine And.intro ?_ ?_
                · intro vs lo hi w' hM hd K' hK
                  dsimp only at hK ⊢
                  simp only [Act.put, List.setIfInBounds_toArray, List.set_cons_zero, List.set_cons_succ] at hK
                  have e23 : vs 23 = (.bool true) := hd 23 (by kernel_rfl)
                  have e32 : vs 32 = (.bool true) := hd 32 (by kernel_rfl)
                  simp only [e23, e32] at hK ⊢
                  clear e23 e32
                  go_simp
                  exact hK.out _ _ rfl (Below.refl _ _)
                exact trivial
              case last =>
                intro vs lo hi w' hM hlo hap hall K' Q' hK
                have h33 : vs 33 = .bool true := hall.2.2.2.2.2.2.2.2.2.2.2.2.2.2.2.2.2.2.2.2.2.2.2.2.2.2.2.2.2.2.2.2.2.1
                dsimp only
                simp only [h33]
                clear h33 hall hap hlo
                go_simp
                refine hK.out _ _ ?_
                clear hK
                go_wp2_with fail
                go_ret
                exact ⟨rfl, bthen HT.out (bthen B34.out (bthen HB4.out (bthen HBY.out (bthen HBD.out hM))))⟩
            | false =>
              rw [hrv, Bool.false_and] at hri
              have HR1 := hide hri
              have HRV := hide hrv
              clear hri hrv hrz
              refine' wp_region_facts [(fun _ _ v _ => v = (.bool true)), (fun _ _ v _ => v = (.bool true)), (fun _ _ v _ => v = (.agg #[.int .i64 ok, .int .i64 on, .string ot, .slice oa1 3 oc1, .slice oa2 on2 oc2])), (fun _ _ v _ => v = (.agg #[d0, d1, d2, d3, d4])), (fun _ _ v _ => v = (.bool true)), (fun _ _ v _ => v = (.bool true)), (fun _ _ v _ => v = (.bool true)), (fun _ _ v _ => v = (.pointer (some ⟨g, 3, none⟩))), (fun _ _ v _ => v = (.slice oa1 3 oc1)), (fun _ _ v _ => v = (.int .i64 3)), (fun _ _ v _ => v = (.bool true)), (fun _ _ v _ => v = (.bool true)), (fun _ _ v _ => v = (.bool true)), (fun _ _ v _ => v = (.agg #[.int .i64 ok, .int .i64 on, .string ot, .slice oa1 3 oc1, .slice oa2 on2 oc2])), (fun _ _ v _ => v = (.bool false)), (fun _ _ v _ => v = (.agg #[.int .i64 vk, .int .i64 vn, .string vt, .slice va1 vn1 vc1, .slice va2 vn2 vc2])), (fun _ _ v _ => v = (.bool false)), (fun _ _ v _ => v = (.bool false)), (fun _ _ v _ => v = undef), (fun _ _ v _ => v = undef), (fun _ _ v _ => v = (.bool false)), (fun _ _ v _ => v = (.bool true)), (fun _ _ v _ => v = (.bool true)), (fun _ _ v _ => v = (.bool true)), (fun _ _ v _ => v = (.agg #[.int .i64 ok, .int .i64 on, .string ot, .slice oa1 3 oc1, .slice oa2 on2 oc2])), (fun _ _ v _ => v = (.int .i64 (D1 : Int))), (fun _ _ v _ => v = (.agg #[.int .i64 vk, .int .i64 vn, .string vt, .slice va1 vn1 vc1, .slice va2 vn2 vc2])), (fun _ _ v _ => v = (.int .i64 (DV : Int))), (fun _ _ v _ => v = (.agg #[.int .i64 zk, .int .i64 zn, .string zt, .slice za1 zn1 zc1, .slice za2 zn2 zc2])), (fun _ _ v _ => v = (.int .i64 (DZ : Int))), (fun _ _ v _ => v = (.int .i64 (MX : Int))), (fun _ _ v _ => v = (.int .i64 (D1 : Int))), (fun _ _ v _ => v = (.bool true)), (fun _ _ v _ => v = (.bool true))] (by kernel_rfl) rfl ?hA (by kernel_rfl) (by kernel_rfl) (by kernel_rfl) rfl ?mono ?steps ?last
              case hA =>
                intro vs
                simp only [puts, Act.put, List.setIfInBounds_toArray, List.set_cons_zero, List.set_cons_succ, Nat.zero_add, Nat.reduceAdd]
                rfl
              case mono => exact ⟨mono_eq _, mono_eq _, mono_eq _, mono_eq _, mono_eq _, mono_eq _, mono_eq _, mono_eq _, mono_eq _, mono_eq _, mono_eq _, mono_eq _, mono_eq _, mono_eq _, mono_eq _, mono_eq _, mono_eq _, mono_eq _, mono_eq _, mono_eq _, mono_eq _, mono_eq _, mono_eq _, mono_eq _, mono_eq _, mono_eq _, mono_eq _, mono_eq _, mono_eq _, mono_eq _, mono_eq _, mono_eq _, mono_eq _, mono_eq _, trivial⟩
              case steps =>
                intro Q'
                refine And.intro ?_ ?_
                · intro vs lo hi w' hM hd K' hK
                  dsimp only at hK ⊢
                  simp only [Act.put, List.setIfInBounds_toArray, List.set_cons_zero, List.set_cons_succ] at hK
                  go_simp
                  refine (known_any _).mono ?_
                  rintro e w7 ⟨rfl, b7⟩
                  exact hK.out _ _ rfl b7
                refine And.intro ?_ ?_
                · intro vs lo hi w' hM hd K' hK
                  dsimp only at hK ⊢
                  simp only [Act.put, List.setIfInBounds_toArray, List.set_cons_zero, List.set_cons_succ] at hK
                  have e0 : vs 0 = (.bool true) := hd 0 (by kernel_rfl)
                  simp only [e0] at hK ⊢
                  clear e0
                  go_simp
                  exact hK.out _ _ rfl (Below.refl _ _)
                refine And.intro ?_ ?_
                · intro vs lo hi w' hM hd K' hK
                  dsimp only at hK ⊢
                  simp only [Act.put, List.setIfInBounds_toArray, List.set_cons_zero, List.set_cons_succ] at hK
                  have e1 : vs 1 = (.bool true) := hd 1 (by kernel_rfl)
                  simp only [e1] at hK ⊢
                  clear e1
                  obtain ⟨y0, y1, y2, y3, y4⟩ := HB1.out.keep hM
                  go_simp
                  exact hK.out _ _ rfl (Below.refl _ _)
                refine And.intro ?_ ?_
                · intro vs lo hi w' hM hd K' hK
                  dsimp only at hK ⊢
                  simp only [Act.put, List.setIfInBounds_toArray, List.set_cons_zero, List.set_cons_succ] at hK
                  have e1 : vs 1 = (.bool true) := hd 1 (by kernel_rfl)
                  simp only [e1] at hK ⊢
                  clear e1
                  obtain ⟨y0, y1, y2, y3, y4⟩ := HB2.out.keep hM
                  go_simp
                  exact hK.out _ _ rfl (Below.refl _ _)
                refine And.intro ?_ ?_
                · intro vs lo hi w' hM hd K' hK
                  dsimp only at hK ⊢
                  simp only [Act.put, List.setIfInBounds_toArray, List.set_cons_zero, List.set_cons_succ] at hK
                  have e2 : vs 2 = (.agg #[.int .i64 ok, .int .i64 on, .string ot, .slice oa1 3 oc1, .slice oa2 on2 oc2]) := hd 2 (by kernel_rfl)
                  have e3 : vs 3 = (.agg #[d0, d1, d2, d3, d4]) := hd 3 (by kernel_rfl)
                  have e1 : vs 1 = (.bool true) := hd 1 (by kernel_rfl)
                  simp only [e2, e3, e1] at hK ⊢
                  clear e2 e3 e1
                  go_simp
                  refine (same_any (HI1.out.below hM) (HI2.out.below hM) HL1.out HL2.out true HSA.out).mono ?_
                  rintro e w7 ⟨rfl, b7⟩
                  exact hK.out _ _ rfl b7
                refine And.intro ?_ ?_
                · intro vs lo hi w' hM hd K' hK
                  dsimp only at hK ⊢
                  simp only [Act.put, List.setIfInBounds_toArray, List.set_cons_zero, List.set_cons_succ] at hK
                  have e1 : vs 1 = (.bool true) := hd 1 (by kernel_rfl)
                  have e4 : vs 4 = (.bool true) := hd 4 (by kernel_rfl)
                  simp only [e1, e4] at hK ⊢
                  clear e1 e4
                  go_simp
                  exact hK.out _ _ rfl (Below.refl _ _)
                refine And.intro ?_ ?_
                · intro vs lo hi w' hM hd K' hK
                  dsimp only at hK ⊢
                  simp only [Act.put, List.setIfInBounds_toArray, List.set_cons_zero, List.set_cons_succ] at hK
                  have e5 : vs 5 = (.bool true) := hd 5 (by kernel_rfl)
                  simp only [e5] at hK ⊢
                  clear e5
                  go_simp
                  exact hK.out _ _ rfl (Below.refl _ _)
                refine And.intro ?_ ?_
                · intro vs lo hi w' hM hd K' hK
                  dsimp only at hK ⊢
                  simp only [Act.put, List.setIfInBounds_toArray, List.set_cons_zero, List.set_cons_succ] at hK
                  have e6 : vs 6 = (.bool true) := hd 6 (by kernel_rfl)
                  simp only [e6] at hK ⊢
                  clear e6
                  go_simp
                  exact hK.out _ _ rfl (Below.refl _ _)
                refine And.intro ?_ ?_
                · intro vs lo hi w' hM hd K' hK
                  dsimp only at hK ⊢
                  simp only [Act.put, List.setIfInBounds_toArray, List.set_cons_zero, List.set_cons_succ] at hK
                  have e7 : vs 7 = (.pointer (some ⟨g, 3, none⟩)) := hd 7 (by kernel_rfl)
                  have e6 : vs 6 = (.bool true) := hd 6 (by kernel_rfl)
                  simp only [e7, e6] at hK ⊢
                  clear e7 e6
                  obtain ⟨y0, y1, y2, y3, y4⟩ := HB1.out.keep hM
                  go_simp
                  exact hK.out _ _ rfl (Below.refl _ _)
                refine And.intro ?_ ?_
                · intro vs lo hi w' hM hd K' hK
                  dsimp only at hK ⊢
                  simp only [Act.put, List.setIfInBounds_toArray, List.set_cons_zero, List.set_cons_succ] at hK
                  have e8 : vs 8 = (.slice oa1 3 oc1) := hd 8 (by kernel_rfl)
                  have e6 : vs 6 = (.bool true) := hd 6 (by kernel_rfl)
                  simp only [e8, e6] at hK ⊢
                  clear e8 e6
                  go_simp
                  exact hK.out _ _ rfl (Below.refl _ _)
                refine And.intro ?_ ?_
                · intro vs lo hi w' hM hd K' hK
                  dsimp only at hK ⊢
                  simp only [Act.put, List.setIfInBounds_toArray, List.set_cons_zero, List.set_cons_succ] at hK
                  have e9 : vs 9 = (.int .i64 3) := hd 9 (by kernel_rfl)
                  have e6 : vs 6 = (.bool true) := hd 6 (by kernel_rfl)
                  simp only [e9, e6] at hK ⊢
                  clear e9 e6
                  go_simp
                  exact hK.out _ _ rfl (Below.refl _ _)
                refine And.intro ?_ ?_
                · intro vs lo hi w' hM hd K' hK
                  dsimp only at hK ⊢
                  simp only [Act.put, List.setIfInBounds_toArray, List.set_cons_zero, List.set_cons_succ] at hK
                  have e6 : vs 6 = (.bool true) := hd 6 (by kernel_rfl)
                  have e10 : vs 10 = (.bool true) := hd 10 (by kernel_rfl)
                  simp only [e6, e10] at hK ⊢
                  clear e6 e10
                  go_simp
                  exact hK.out _ _ rfl (Below.refl _ _)
                refine And.intro ?_ ?_
                · intro vs lo hi w' hM hd K' hK
                  dsimp only at hK ⊢
                  simp only [Act.put, List.setIfInBounds_toArray, List.set_cons_zero, List.set_cons_succ] at hK
                  have e11 : vs 11 = (.bool true) := hd 11 (by kernel_rfl)
                  simp only [e11] at hK ⊢
                  clear e11
                  go_simp
                  exact hK.out _ _ rfl (Below.refl _ _)
                refine And.intro ?_ ?_
                · intro vs lo hi w' hM hd K' hK
                  dsimp only at hK ⊢
                  simp only [Act.put, List.setIfInBounds_toArray, List.set_cons_zero, List.set_cons_succ] at hK
                  have e12 : vs 12 = (.bool true) := hd 12 (by kernel_rfl)
                  simp only [e12] at hK ⊢
                  clear e12
                  obtain ⟨y0, y1, y2, y3, y4⟩ := HB1.out.keep hM
                  go_simp
                  exact hK.out _ _ rfl (Below.refl _ _)
                refine And.intro ?_ ?_
                · intro vs lo hi w' hM hd K' hK
                  dsimp only at hK ⊢
                  simp only [Act.put, List.setIfInBounds_toArray, List.set_cons_zero, List.set_cons_succ] at hK
                  have e13 : vs 13 = (.agg #[.int .i64 ok, .int .i64 on, .string ot, .slice oa1 3 oc1, .slice oa2 on2 oc2]) := hd 13 (by kernel_rfl)
                  have e12 : vs 12 = (.bool true) := hd 12 (by kernel_rfl)
                  simp only [e13, e12] at hK ⊢
                  clear e13 e12
                  go_simp
                  refine (right_any (HI1.out.below hM) HL1.out _ HR1.out).mono ?_
                  rintro e w7 ⟨rfl, b7⟩
                  exact hK.out _ _ rfl b7
                refine And.intro ?_ ?_
                · intro vs lo hi w' hM hd K' hK
                  dsimp only at hK ⊢
                  simp only [Act.put, List.setIfInBounds_toArray, List.set_cons_zero, List.set_cons_succ] at hK
                  have e12 : vs 12 = (.bool true) := hd 12 (by kernel_rfl)
                  simp only [e12] at hK ⊢
                  clear e12
                  obtain ⟨y0, y1, y2, y3, y4⟩ := HVBd.out.keep hM
                  go_simp
                  exact hK.out _ _ rfl (Below.refl _ _)
                refine And.intro ?_ ?_
                · intro vs lo hi w' hM hd K' hK
                  dsimp only at hK ⊢
                  simp only [Act.put, List.setIfInBounds_toArray, List.set_cons_zero, List.set_cons_succ] at hK
                  have e15 : vs 15 = (.agg #[.int .i64 vk, .int .i64 vn, .string vt, .slice va1 vn1 vc1, .slice va2 vn2 vc2]) := hd 15 (by kernel_rfl)
                  have e12 : vs 12 = (.bool true) := hd 12 (by kernel_rfl)
                  simp only [e15, e12] at hK ⊢
                  clear e15 e12
                  go_simp
                  refine (right_any (HVD.out.below hM) (Nat.le_trans HW.out (by decide)) _ HRV.out).mono ?_
                  rintro e w7 ⟨rfl, b7⟩
                  exact hK.out _ _ rfl b7
                refine And.intro ?_ ?_
                · intro vs lo hi w' hM hd K' hK
                  dsimp only at hK ⊢
                  simp only [Act.put, List.setIfInBounds_toArray, List.set_cons_zero, List.set_cons_succ] at hK
                  have e16 : vs 16 = (.bool false) := hd 16 (by kernel_rfl)
                  have e12 : vs 12 = (.bool true) := hd 12 (by kernel_rfl)
                  simp only [e16, e12] at hK ⊢
                  clear e16 e12
                  go_simp
                  exact hK.out _ _ rfl (Below.refl _ _)
                refine And.intro ?_ ?_
                · intro vs lo hi w' hM hd K' hK
                  dsimp only at hK ⊢
                  simp only [Act.put, List.setIfInBounds_toArray, List.set_cons_zero, List.set_cons_succ] at hK
                  have e17 : vs 17 = (.bool false) := hd 17 (by kernel_rfl)
                  simp only [e17] at hK ⊢
                  clear e17
                  go_simp
                  exact hK.out _ _ rfl (Below.refl _ _)
                refine And.intro ?_ ?_
                · intro vs lo hi w' hM hd K' hK
                  dsimp only at hK ⊢
                  simp only [Act.put, List.setIfInBounds_toArray, List.set_cons_zero, List.set_cons_succ] at hK
                  have e18 : vs 18 = undef := hd 18 (by kernel_rfl)
                  have e17 : vs 17 = (.bool false) := hd 17 (by kernel_rfl)
                  simp only [e18, e17] at hK ⊢
                  clear e18 e17
                  go_simp
                  exact hK.out _ _ rfl (Below.refl _ _)
                refine And.intro ?_ ?_
                · intro vs lo hi w' hM hd K' hK
                  dsimp only at hK ⊢
                  simp only [Act.put, List.setIfInBounds_toArray, List.set_cons_zero, List.set_cons_succ] at hK
                  have e17 : vs 17 = (.bool false) := hd 17 (by kernel_rfl)
                  have e19 : vs 19 = undef := hd 19 (by kernel_rfl)
                  have e12 : vs 12 = (.bool true) := hd 12 (by kernel_rfl)
                  simp only [e17, e19, e12] at hK ⊢
                  clear e17 e19 e12
                  go_simp
                  exact hK.out _ _ rfl (Below.refl _ _)
                refine And.intro ?_ ?_
                · intro vs lo hi w' hM hd K' hK
                  dsimp only at hK ⊢
                  simp only [Act.put, List.setIfInBounds_toArray, List.set_cons_zero, List.set_cons_succ] at hK
                  have e14 : vs 14 = (.bool false) := hd 14 (by kernel_rfl)
                  have e20 : vs 20 = (.bool false) := hd 20 (by kernel_rfl)
                  have e12 : vs 12 = (.bool true) := hd 12 (by kernel_rfl)
                  simp only [e14, e20, e12] at hK ⊢
                  clear e14 e20 e12
                  go_simp
                  exact hK.out _ _ rfl (Below.refl _ _)
                refine And.intro ?_ ?_
                · intro vs lo hi w' hM hd K' hK
                  dsimp only at hK ⊢
                  simp only [Act.put, List.setIfInBounds_toArray, List.set_cons_zero, List.set_cons_succ] at hK
                  have e12 : vs 12 = (.bool true) := hd 12 (by kernel_rfl)
                  have e21 : vs 21 = (.bool true) := hd 21 (by kernel_rfl)
                  simp only [e12, e21] at hK ⊢
                  clear e12 e21
                  go_simp
                  exact hK.out _ _ rfl (Below.refl _ _)
                refine And.intro ?_ ?_
                · intro vs lo hi w' hM hd K' hK
                  dsimp only at hK ⊢
                  simp only [Act.put, List.setIfInBounds_toArray, List.set_cons_zero, List.set_cons_succ] at hK
                  have e22 : vs 22 = (.bool true) := hd 22 (by kernel_rfl)
                  simp only [e22] at hK ⊢
                  clear e22
                  go_simp
                  exact hK.out _ _ rfl (Below.refl _ _)
                refine And.intro ?_ ?_
                · intro vs lo hi w' hM hd K' hK
                  dsimp only at hK ⊢
                  simp only [Act.put, List.setIfInBounds_toArray, List.set_cons_zero, List.set_cons_succ] at hK
                  have e23 : vs 23 = (.bool true) := hd 23 (by kernel_rfl)
                  simp only [e23] at hK ⊢
                  clear e23
                  obtain ⟨y0, y1, y2, y3, y4⟩ := HB1.out.keep hM
                  go_simp
                  exact hK.out _ _ rfl (Below.refl _ _)
                refine And.intro ?_ ?_
                · intro vs lo hi w' hM hd K' hK
                  dsimp only at hK ⊢
                  simp only [Act.put, List.setIfInBounds_toArray, List.set_cons_zero, List.set_cons_succ] at hK
                  have e24 : vs 24 = (.agg #[.int .i64 ok, .int .i64 on, .string ot, .slice oa1 3 oc1, .slice oa2 on2 oc2]) := hd 24 (by kernel_rfl)
                  have e23 : vs 23 = (.bool true) := hd 23 (by kernel_rfl)
                  simp only [e24, e23] at hK ⊢
                  clear e24 e23
                  go_simp
                  refine (deep_any (HI1.out.below hM) HL1.out D1 HD1.out).mono ?_
                  rintro e w7 ⟨rfl, b7⟩
                  exact hK.out _ _ rfl b7
                refine And.intro ?_ ?_
                · intro vs lo hi w' hM hd K' hK
                  dsimp only at hK ⊢
                  simp only [Act.put, List.setIfInBounds_toArray, List.set_cons_zero, List.set_cons_succ] at hK
                  have e23 : vs 23 = (.bool true) := hd 23 (by kernel_rfl)
                  simp only [e23] at hK ⊢
                  clear e23
                  obtain ⟨y0, y1, y2, y3, y4⟩ := HVBd.out.keep hM
                  go_simp
                  exact hK.out _ _ rfl (Below.refl _ _)
                refine And.intro ?_ ?_
                · intro vs lo hi w' hM hd K' hK
                  dsimp only at hK ⊢
                  simp only [Act.put, List.setIfInBounds_toArray, List.set_cons_zero, List.set_cons_succ] at hK
                  have e26 : vs 26 = (.agg #[.int .i64 vk, .int .i64 vn, .string vt, .slice va1 vn1 vc1, .slice va2 vn2 vc2]) := hd 26 (by kernel_rfl)
                  have e23 : vs 23 = (.bool true) := hd 23 (by kernel_rfl)
                  simp only [e26, e23] at hK ⊢
                  clear e26 e23
                  go_simp
                  refine (deep_any (HVD.out.below hM) (Nat.le_trans HW.out (by decide)) DV HDV.out).mono ?_
                  rintro e w7 ⟨rfl, b7⟩
                  exact hK.out _ _ rfl b7
                refine And.intro ?_ ?_
                · intro vs lo hi w' hM hd K' hK
                  dsimp only at hK ⊢
                  simp only [Act.put, List.setIfInBounds_toArray, List.set_cons_zero, List.set_cons_succ] at hK
                  have e23 : vs 23 = (.bool true) := hd 23 (by kernel_rfl)
                  simp only [e23] at hK ⊢
                  clear e23
                  obtain ⟨y0, y1, y2, y3, y4⟩ := HZBd.out.keep hM
                  go_simp
                  exact hK.out _ _ rfl (Below.refl _ _)
                refine And.intro ?_ ?_
                · intro vs lo hi w' hM hd K' hK
                  dsimp only at hK ⊢
                  simp only [Act.put, List.setIfInBounds_toArray, List.set_cons_zero, List.set_cons_succ] at hK
                  have e28 : vs 28 = (.agg #[.int .i64 zk, .int .i64 zn, .string zt, .slice za1 zn1 zc1, .slice za2 zn2 zc2]) := hd 28 (by kernel_rfl)
                  have e23 : vs 23 = (.bool true) := hd 23 (by kernel_rfl)
                  simp only [e28, e23] at hK ⊢
                  clear e28 e23
                  go_simp
                  refine (deep_any (HZD.out.below hM) (Nat.le_trans HWZ.out (by decide)) DZ HDZ.out).mono ?_
                  rintro e w7 ⟨rfl, b7⟩
                  exact hK.out _ _ rfl b7
                refine And.intro ?_ ?_
                · intro vs lo hi w' hM hd K' hK
                  dsimp only at hK ⊢
                  simp only [Act.put, List.setIfInBounds_toArray, List.set_cons_zero, List.set_cons_succ] at hK
                  have e27 : vs 27 = (.int .i64 (DV : Int)) := hd 27 (by kernel_rfl)
                  have e29 : vs 29 = (.int .i64 (DZ : Int)) := hd 29 (by kernel_rfl)
                  have e23 : vs 23 = (.bool true) := hd 23 (by kernel_rfl)
                  simp only [e27, e29, e23] at hK ⊢
                  clear e27 e29 e23
                  have hmx := HMX.out
                  go_simp
                  exact hK.out _ _ rfl (Below.refl _ _)
                refine And.intro ?_ ?_
                · intro vs lo hi w' hM hd K' hK
                  dsimp only at hK ⊢
                  simp only [Act.put, List.setIfInBounds_toArray, List.set_cons_zero, List.set_cons_succ] at hK
                  have e30 : vs 30 = (.int .i64 (MX : Int)) := hd 30 (by kernel_rfl)
                  have e23 : vs 23 = (.bool true) := hd 23 (by kernel_rfl)
                  simp only [e30, e23] at hK ⊢
                  clear e30 e23
                  have hwr := HWR.out
                  go_simp
                  exact hK.out _ _ rfl (Below.refl _ _)
                refine And.intro ?_ ?_
                · intro vs lo hi w' hM hd K' hK
                  dsimp only at hK ⊢
                  simp only [Act.put, List.setIfInBounds_toArray, List.set_cons_zero, List.set_cons_succ] at hK
                  have e25 : vs 25 = (.int .i64 (D1 : Int)) := hd 25 (by kernel_rfl)
                  have e31 : vs 31 = (.int .i64 (D1 : Int)) := hd 31 (by kernel_rfl)
                  have e23 : vs 23 = (.bool true) := hd 23 (by kernel_rfl)
                  simp only [e25, e31, e23] at hK ⊢
                  clear e25 e31 e23
                  go_simp
                  exact hK.out _ _ rfl (Below.refl _ _)
                refine And.intro ?_ ?_
                · intro vs lo hi w' hM hd K' hK
                  dsimp only at hK ⊢
                  simp only [Act.put, List.setIfInBounds_toArray, List.set_cons_zero, List.set_cons_succ] at hK
                  have e23 : vs 23 = (.bool true) := hd 23 (by kernel_rfl)
                  have e32 : vs 32 = (.bool true) := hd 32 (by kernel_rfl)
                  simp only [e23, e32] at hK ⊢
                  clear e23 e32
                  go_simp
                  exact hK.out _ _ rfl (Below.refl _ _)
                exact trivial
              case last =>
                intro vs lo hi w' hM hlo hap hall K' Q' hK
                have h33 : vs 33 = .bool true := hall.2.2.2.2.2.2.2.2.2.2.2.2.2.2.2.2.2.2.2.2.2.2.2.2.2.2.2.2.2.2.2.2.2.1
                dsimp only
                simp only [h33]
                clear h33 hall hap hlo
                go_simp
                refine hK.out _ _ ?_
                clear hK
                go_wp2_with fail
                go_ret
                exact ⟨rfl, bthen HT.out (bthen B34.out (bthen HB4.out (bthen HBY.out (bthen HBD.out hM))))⟩

end Go.Proofs.Yteijnkdfacndoaa
