/-
  The law ValueAsks, up to a bound of what comes in.
-/
import Derived.Test.YteijnkdfacndoaaVAsksA
import Derived.Test.YteijnkdfacndoaaVAsksB
import Derived.Test.YteijnkdfacndoaaVAsksC
import Derived.Test.YteijnkdfacndoaaVTexts
import Derived.Test.YteijnkdfacndoaaWPart
set_option linter.unusedVariables false
set_option linter.unusedSimpArgs false
namespace Go.Proofs.Yteijnkdfacndoaa
open Go.RowKit

def asksArr : Array Value := #[.string ⟨#[97]⟩, .string ⟨#[98]⟩, .string ⟨#[117, 115, 101, 114, 115]⟩, .string ⟨#[122, 122]⟩, .string ⟨#[]⟩]
def asksKey (p : Nat) : ByteArray := (#[⟨#[97]⟩, ⟨#[98]⟩, ⟨#[117, 115, 101, 114, 115]⟩, ⟨#[122, 122]⟩, ⟨#[]⟩] : Array ByteArray).getD p ByteArray.empty
theorem asksArr_at (p : Nat) (h : p < 5) : asksArr.getD p undef = .string (asksKey p) := by
  have : p = 0 ∨ p = 1 ∨ p = 2 ∨ p = 3 ∨ p = 4 := by omega
  rcases this with rfl | rfl | rfl | rfl | rfl <;> rfl
theorem asksKey_size (p : Nat) : (asksKey p).size ≤ 5 := by
  by_cases h : p < 5
  · have : p = 0 ∨ p = 1 ∨ p = 2 ∨ p = 3 ∨ p = 4 := by omega
    rcases this with rfl | rfl | rfl | rfl | rfl <;> decide
  · have : asksKey p = ByteArray.empty := by
      unfold asksKey
      rw [Array.getD_eq_getD_getElem?, Array.getElem?_eq_none (by simp; omega)]
      rfl
    rw [this]
    decide
theorem row_keep {w w' : World} {g n : Nat} {c : Nat → Value} (h : Row w g n c) (b : Below w.heap.size w w') : Row w' g n c := fun i hi => by
  obtain ⟨h1, h2⟩ := h i hi
  exact ⟨cell_keep h1 b, by rw [b.frozen (p := ⟨g, i, none⟩) (cell_size h1)]; exact h2⟩

set_option maxHeartbeats 20000000 in
set_option maxRecDepth 100000 in
theorem valueAsks_walk (va vb : Value) (xV yV : V) (key : ByteArray) (n : Int) (la : Option Addr) (ln lc : Nat) (ks : List ByteArray) (a0 : Option Addr) (len0 cap0 : Nat) (z0 : List Int) (a1 : Option Addr) (len1 cap1 : Nat) (z1 : List Int) (k : Int) (w : World) (S1 S2 S3 : Nat → Prop)
    (hx : Is w S1 va xV) (hy : Is w S2 vb yV) (hwx : V.wt xV ≤ 1048576) (hwy : V.wt yV ≤ 1048576) (hkey : key.size ≤ 1048576) (hst : Strs w S3 (.slice la ln lc) ks) (hwk : V.wtK ks ≤ 1048576) (w5 : IsRow .u8 w a0 len0 cap0 z0) (w6 : IsRow .u8 w a1 len1 cap1 z1) (w7 : (Lit.int .u8 k).wf = true) :
    Calls Try.prog 3 #[va, vb, .string key, .int .i64 n, .slice la ln lc, .slice a0 len0 cap0, .slice a1 len1 cap1, .int .u8 k] w fun e w' => e = .returned (.bool true) ∧ Below w.heap.size w w' := by
  obtain ⟨rfl, _⟩ := hst.out
  obtain ⟨hk0, hk1⟩ := wf_u8 w7
  clear w7
  obtain ⟨p5, hp5⟩ : ∃ p : Nat, (k % 5).toNat = p := ⟨_, rfl⟩
  have HK5 : Hid (k % 5 = (p5 : Int)) := hide (by omega)
  have HK5T : Hid (Int.tmod k 5 = (p5 : Int)) := hide (by rw [Int.tmod_eq_emod_of_nonneg hk0]; omega)
  have HP5N : Hid (p5 < 5) := hide (by omega)
  have HP0 : Hid ((0 : Int) ≤ (p5 : Int)) := hide (by omega)
  have HP5 : Hid ((p5 : Int) < 5) := hide (by omega)
  clear hp5
  obtain ⟨kv, lv, rfl, h2, h8, _⟩ := id hx.open
  obtain ⟨xa1, xc1, rfl, _⟩ := id h2
  obtain ⟨xa2, xc2, _, rfl, _⟩ := id h8
  obtain ⟨kv', lv', rfl, h2', h8', _⟩ := id hy.open
  obtain ⟨ya1, yc1, rfl, _⟩ := id h2'
  obtain ⟨ya2, yc2, _, rfl, _⟩ := id h8'
  have HW4X : Hid (V.wt xV ≤ 4294967296) := hide (Nat.le_trans hwx (by decide))
  have HW4Y : Hid (V.wt yV ≤ 4294967296) := hide (Nat.le_trans hwy (by decide))
  have HW4K : Hid (V.wtK ks ≤ 4294967296) := hide (Nat.le_trans hwk (by decide))
  have HW6K := hide hwk
  have HKM : Hid (key.size ≤ maxLen) := hide (Nat.le_trans hkey (by decide))
  have HKB : Hid (key.size ≤ 281474976710656) := hide (Nat.le_trans hkey (by decide))
  have HWS : Hid (V.wt ⟨3, 0, key, [], []⟩ ≤ 4294967296) := hide (by rw [V.wt_mk, V.wtL_nil]; simp only [V.wtK]; omega)
  have HWN : Hid (V.wt ⟨2, n, ⟨#[]⟩, [], []⟩ ≤ 4294967296) := hide (by rw [V.wt_mk, V.wtL_nil]; decide)
  have HWT : Hid (V.wt (V.texts ks) ≤ 4294967296) := hide (by rw [V.wt_texts]; omega)
  obtain ⟨WA, hWA⟩ : ∃ n : Nat, n = min (V.wt xV) 1001 := ⟨_, rfl⟩
  obtain ⟨WB, hWB⟩ : ∃ n : Nat, n = min (V.wt yV) 1001 := ⟨_, rfl⟩
  obtain ⟨WAB, hWAB⟩ : ∃ n : Nat, n = WA + WB := ⟨_, rfl⟩
  have HWA := hide hWA
  have HWB := hide hWB
  have HWABN := hide hWAB
  have HWAB : Hid (IntKind.i64.wrap ((WA : Int) + (WB : Int)) = (WAB : Int)) := hide (by rw [IntKind.wrap_i64]; omega)
  clear hWA hWB hWAB hwx hwy hkey hwk h2 h8 h2' h8'
  have HX := hide hx
  have HY := hide hy
  have HS := hide hst
  have HR0 := hide w5
  have HR1 := hide w6
  clear hx hy hst w5 w6
  obtain ⟨xk, hxk⟩ : ∃ k, k = xV.kind := ⟨_, rfl⟩
  obtain ⟨xn, hxn⟩ : ∃ k, k = xV.num := ⟨_, rfl⟩
  obtain ⟨xt, hxt⟩ : ∃ k, k = xV.text := ⟨_, rfl⟩
  obtain ⟨xn1, hxn1⟩ : ∃ k, k = xV.keys.length := ⟨_, rfl⟩
  obtain ⟨xn2, hxn2⟩ : ∃ k, k = xV.list.length := ⟨_, rfl⟩
  obtain ⟨yk, hyk⟩ : ∃ k, k = yV.kind := ⟨_, rfl⟩
  obtain ⟨yn, hyn⟩ : ∃ k, k = yV.num := ⟨_, rfl⟩
  obtain ⟨yt, hyt⟩ : ∃ k, k = yV.text := ⟨_, rfl⟩
  obtain ⟨yn1, hyn1⟩ : ∃ k, k = yV.keys.length := ⟨_, rfl⟩
  obtain ⟨yn2, hyn2⟩ : ∃ k, k = yV.list.length := ⟨_, rfl⟩
  rw [← hxk, ← hxn, ← hxt, ← hxn1, ← hxn2] at HX ⊢
  rw [← hyk, ← hyn, ← hyt, ← hyn1, ← hyn2] at HY ⊢
  clear hxk hxn hxt hxn1 hxn2 hyk hyn hyt hyn1 hyn2
  have HT : Hid (Below w.heap.size w ((w.alloc (.cells #[.int .i64 xk, .int .i64 xn, .string xt, .slice xa1 xn1 xc1, .slice xa2 xn2 xc2] 25)).alloc (.cells #[.int .i64 yk, .int .i64 yn, .string yt, .slice ya1 yn1 yc1, .slice ya2 yn2 yc2] 25))) := hide (bthen (below_alloc _ _) (below_alloc _ _))
  have HBX : Hid (Box5 ((w.alloc (.cells #[.int .i64 xk, .int .i64 xn, .string xt, .slice xa1 xn1 xc1, .slice xa2 xn2 xc2] 25)).alloc (.cells #[.int .i64 yk, .int .i64 yn, .string yt, .slice ya1 yn1 yc1, .slice ya2 yn2 yc2] 25)) w.heap.size (.int .i64 xk) (.int .i64 xn) (.string xt) (.slice xa1 xn1 xc1) (.slice xa2 xn2 xc2)) := hide ((box5_new w _ _ _ _ _ 25).keep (below_alloc _ _))
  have HBY : Hid (Box5 ((w.alloc (.cells #[.int .i64 xk, .int .i64 xn, .string xt, .slice xa1 xn1 xc1, .slice xa2 xn2 xc2] 25)).alloc (.cells #[.int .i64 yk, .int .i64 yn, .string yt, .slice ya1 yn1 yc1, .slice ya2 yn2 yc2] 25)) (w.heap.size + 1) (.int .i64 yk) (.int .i64 yn) (.string yt) (.slice ya1 yn1 yc1) (.slice ya2 yn2 yc2)) := hide (box5_at _ _ _ _ _ _ 25 _ (by simp))
  replace HX := hide (HX.out.below HT.out)
  replace HY := hide (HY.out.below HT.out)
  replace HS := hide (HS.out.below HT.out)
  go_enter Try.func3, Try.ntmps3
  go_upto_region 1 with fail
  generalize ((w.alloc (.cells #[.int .i64 xk, .int .i64 xn, .string xt, .slice xa1 xn1 xc1, .slice xa2 xn2 xc2] 25)).alloc (.cells #[.int .i64 yk, .int .i64 yn, .string yt, .slice ya1 yn1 yc1, .slice ya2 yn2 yc2] 25)) = w1 at HT HBX HBY HX HY HS ⊢
  by_cases c1 : (250 : Int) < (WAB : Int)
  · have HC1 : Hid (decide ((250 : Int) < (WAB : Int)) = true) := hide (decide_eq_true c1)
    clear c1
    refine' wp_region_facts [(fun _ _ v _ => v = (.agg #[.int .i64 xk, .int .i64 xn, .string xt, .slice xa1 xn1 xc1, .slice xa2 xn2 xc2])), (fun _ _ v _ => v = (.int .i64 (WA : Int))), (fun _ _ v _ => v = (.agg #[.int .i64 yk, .int .i64 yn, .string yt, .slice ya1 yn1 yc1, .slice ya2 yn2 yc2])), (fun _ _ v _ => v = (.int .i64 (WB : Int))), (fun _ _ v _ => v = (.int .i64 (WAB : Int))), (fun _ _ v _ => v = (.bool true)), (fun _ _ v _ => v = (.bool true)), (fun _ _ v _ => v = undef), (fun _ _ v _ => v = undef), (fun _ _ v _ => v = undef), (fun _ _ v _ => v = (.bool true)), (fun _ _ v _ => v = (.bool true)), (fun _ _ v _ => v = undef), (fun _ _ v _ => v = undef), (fun _ _ v _ => v = (.bool true)), (fun _ _ v _ => v = (.bool true)), (fun _ _ v _ => v = undef), (fun _ _ v _ => v = undef)] (by kernel_rfl) rfl ?hA (by kernel_rfl) (by kernel_rfl) (by kernel_rfl) rfl ?mono ?steps ?last
    case hA =>
      intro vs
      simp only [puts, Act.put, List.setIfInBounds_toArray, List.set_cons_zero, List.set_cons_succ, Nat.zero_add, Nat.reduceAdd]
      rfl
    case mono => exact ⟨mono_eq _, mono_eq _, mono_eq _, mono_eq _, mono_eq _, mono_eq _, mono_eq _, mono_eq _, mono_eq _, mono_eq _, mono_eq _, mono_eq _, mono_eq _, mono_eq _, mono_eq _, mono_eq _, mono_eq _, mono_eq _, trivial⟩
    case steps =>
      intro Q'
      refine And.intro ?_ ?_
      · intro vs lo hi w' hM hd K' hK
        dsimp only at hK ⊢
        simp only [Act.put, List.setIfInBounds_toArray, List.set_cons_zero, List.set_cons_succ] at hK
        obtain ⟨y0, y1, y2, y3, y4⟩ := HBX.out.keep hM
        go_simp
        exact hK.out _ _ rfl (Below.refl _ _)
      refine And.intro ?_ ?_
      · intro vs lo hi w' hM hd K' hK
        dsimp only at hK ⊢
        simp only [Act.put, List.setIfInBounds_toArray, List.set_cons_zero, List.set_cons_succ] at hK
        have e0 : vs 0 = (.agg #[.int .i64 xk, .int .i64 xn, .string xt, .slice xa1 xn1 xc1, .slice xa2 xn2 xc2]) := hd 0 (by kernel_rfl)
        simp only [e0] at hK ⊢
        clear e0
        go_simp
        refine (weight_any (HX.out.below hM) HW4X.out WA HWA.out).mono ?_
        rintro e w7 ⟨rfl, b7⟩
        exact hK.out _ _ rfl b7
      refine And.intro ?_ ?_
      · intro vs lo hi w' hM hd K' hK
        dsimp only at hK ⊢
        simp only [Act.put, List.setIfInBounds_toArray, List.set_cons_zero, List.set_cons_succ] at hK
        obtain ⟨y0, y1, y2, y3, y4⟩ := HBY.out.keep hM
        go_simp
        exact hK.out _ _ rfl (Below.refl _ _)
      refine And.intro ?_ ?_
      · intro vs lo hi w' hM hd K' hK
        dsimp only at hK ⊢
        simp only [Act.put, List.setIfInBounds_toArray, List.set_cons_zero, List.set_cons_succ] at hK
        have e2 : vs 2 = (.agg #[.int .i64 yk, .int .i64 yn, .string yt, .slice ya1 yn1 yc1, .slice ya2 yn2 yc2]) := hd 2 (by kernel_rfl)
        simp only [e2] at hK ⊢
        clear e2
        go_simp
        refine (weight_any (HY.out.below hM) HW4Y.out WB HWB.out).mono ?_
        rintro e w7 ⟨rfl, b7⟩
        exact hK.out _ _ rfl b7
      refine And.intro ?_ ?_
      · intro vs lo hi w' hM hd K' hK
        dsimp only at hK ⊢
        simp only [Act.put, List.setIfInBounds_toArray, List.set_cons_zero, List.set_cons_succ] at hK
        have e1 : vs 1 = (.int .i64 (WA : Int)) := hd 1 (by kernel_rfl)
        have e3 : vs 3 = (.int .i64 (WB : Int)) := hd 3 (by kernel_rfl)
        simp only [e1, e3] at hK ⊢
        clear e1 e3
        have hq := HWAB.out
        go_simp
        exact hK.out _ _ rfl (Below.refl _ _)
      refine And.intro ?_ ?_
      · intro vs lo hi w' hM hd K' hK
        dsimp only at hK ⊢
        simp only [Act.put, List.setIfInBounds_toArray, List.set_cons_zero, List.set_cons_succ] at hK
        have e4 : vs 4 = (.int .i64 (WAB : Int)) := hd 4 (by kernel_rfl)
        simp only [e4] at hK ⊢
        clear e4
        have hq := HC1.out
        go_simp
        exact hK.out _ _ rfl (Below.refl _ _)
      refine And.intro ?_ ?_
      · intro vs lo hi w' hM hd K' hK
        dsimp only at hK ⊢
        simp only [Act.put, List.setIfInBounds_toArray, List.set_cons_zero, List.set_cons_succ] at hK
        have e5 : vs 5 = (.bool true) := hd 5 (by kernel_rfl)
        simp only [e5] at hK ⊢
        clear e5
        go_simp
        exact hK.out _ _ rfl (Below.refl _ _)
      refine And.intro ?_ ?_
      · intro vs lo hi w' hM hd K' hK
        dsimp only at hK ⊢
        simp only [Act.put, List.setIfInBounds_toArray, List.set_cons_zero, List.set_cons_succ] at hK
        have e6 : vs 6 = (.bool true) := hd 6 (by kernel_rfl)
        simp only [e6] at hK ⊢
        clear e6
        go_simp
        exact hK.out _ _ rfl (Below.refl _ _)
      refine And.intro ?_ ?_
      · intro vs lo hi w' hM hd K' hK
        dsimp only at hK ⊢
        simp only [Act.put, List.setIfInBounds_toArray, List.set_cons_zero, List.set_cons_succ] at hK
        have e7 : vs 7 = undef := hd 7 (by kernel_rfl)
        have e6 : vs 6 = (.bool true) := hd 6 (by kernel_rfl)
        simp only [e7, e6] at hK ⊢
        clear e7 e6
        go_simp
        exact hK.out _ _ rfl (Below.refl _ _)
      refine And.intro ?_ ?_
      · intro vs lo hi w' hM hd K' hK
        dsimp only at hK ⊢
        simp only [Act.put, List.setIfInBounds_toArray, List.set_cons_zero, List.set_cons_succ] at hK
        have e8 : vs 8 = undef := hd 8 (by kernel_rfl)
        have e6 : vs 6 = (.bool true) := hd 6 (by kernel_rfl)
        simp only [e8, e6] at hK ⊢
        clear e8 e6
        go_simp
        exact hK.out _ _ rfl (Below.refl _ _)
      refine And.intro ?_ ?_
      · intro vs lo hi w' hM hd K' hK
        dsimp only at hK ⊢
        simp only [Act.put, List.setIfInBounds_toArray, List.set_cons_zero, List.set_cons_succ] at hK
        have e6 : vs 6 = (.bool true) := hd 6 (by kernel_rfl)
        have e9 : vs 9 = undef := hd 9 (by kernel_rfl)
        simp only [e6, e9] at hK ⊢
        clear e6 e9
        go_simp
        exact hK.out _ _ rfl (Below.refl _ _)
      refine And.intro ?_ ?_
      · intro vs lo hi w' hM hd K' hK
        dsimp only at hK ⊢
        simp only [Act.put, List.setIfInBounds_toArray, List.set_cons_zero, List.set_cons_succ] at hK
        have e10 : vs 10 = (.bool true) := hd 10 (by kernel_rfl)
        simp only [e10] at hK ⊢
        clear e10
        go_simp
        exact hK.out _ _ rfl (Below.refl _ _)
      refine And.intro ?_ ?_
      · intro vs lo hi w' hM hd K' hK
        dsimp only at hK ⊢
        simp only [Act.put, List.setIfInBounds_toArray, List.set_cons_zero, List.set_cons_succ] at hK
        have e11 : vs 11 = (.bool true) := hd 11 (by kernel_rfl)
        simp only [e11] at hK ⊢
        clear e11
        go_simp
        exact hK.out _ _ rfl (Below.refl _ _)
      refine And.intro ?_ ?_
      · intro vs lo hi w' hM hd K' hK
        dsimp only at hK ⊢
        simp only [Act.put, List.setIfInBounds_toArray, List.set_cons_zero, List.set_cons_succ] at hK
        have e12 : vs 12 = undef := hd 12 (by kernel_rfl)
        have e11 : vs 11 = (.bool true) := hd 11 (by kernel_rfl)
        simp only [e12, e11] at hK ⊢
        clear e12 e11
        go_simp
        exact hK.out _ _ rfl (Below.refl _ _)
      refine And.intro ?_ ?_
      · intro vs lo hi w' hM hd K' hK
        dsimp only at hK ⊢
        simp only [Act.put, List.setIfInBounds_toArray, List.set_cons_zero, List.set_cons_succ] at hK
        have e11 : vs 11 = (.bool true) := hd 11 (by kernel_rfl)
        have e13 : vs 13 = undef := hd 13 (by kernel_rfl)
        simp only [e11, e13] at hK ⊢
        clear e11 e13
        go_simp
        exact hK.out _ _ rfl (Below.refl _ _)
      refine And.intro ?_ ?_
      · intro vs lo hi w' hM hd K' hK
        dsimp only at hK ⊢
        simp only [Act.put, List.setIfInBounds_toArray, List.set_cons_zero, List.set_cons_succ] at hK
        have e14 : vs 14 = (.bool true) := hd 14 (by kernel_rfl)
        simp only [e14] at hK ⊢
        clear e14
        go_simp
        exact hK.out _ _ rfl (Below.refl _ _)
      refine And.intro ?_ ?_
      · intro vs lo hi w' hM hd K' hK
        dsimp only at hK ⊢
        simp only [Act.put, List.setIfInBounds_toArray, List.set_cons_zero, List.set_cons_succ] at hK
        have e15 : vs 15 = (.bool true) := hd 15 (by kernel_rfl)
        simp only [e15] at hK ⊢
        clear e15
        go_simp
        exact hK.out _ _ rfl (Below.refl _ _)
      refine And.intro ?_ ?_
      · intro vs lo hi w' hM hd K' hK
        dsimp only at hK ⊢
        simp only [Act.put, List.setIfInBounds_toArray, List.set_cons_zero, List.set_cons_succ] at hK
        have e16 : vs 16 = undef := hd 16 (by kernel_rfl)
        have e15 : vs 15 = (.bool true) := hd 15 (by kernel_rfl)
        simp only [e16, e15] at hK ⊢
        clear e16 e15
        go_simp
        exact hK.out _ _ rfl (Below.refl _ _)
      exact trivial
    case last =>
      intro vs lo hi w' hM hlo hap hall K' Q' hK
      have h15 : vs 15 = (.bool true) := hall.2.2.2.2.2.2.2.2.2.2.2.2.2.2.2.1
      have h17 : vs 17 = undef := hall.2.2.2.2.2.2.2.2.2.2.2.2.2.2.2.2.2.1
      dsimp only
      simp only [h15, h17]
      clear h15 h17 hall hap hlo
      go_simp
      refine hK.out _ _ ?_
      clear hK
      go_wp2_with fail
      refine (known_any _).mono ?_
      rintro e w8 ⟨rfl, b8⟩
      go_wp2
      go_ret
      exact ⟨rfl, bthen HT.out (bthen hM b8)⟩
  have HC1 : Hid (decide ((250 : Int) < (WAB : Int)) = false) := hide (decide_eq_false c1)
  have HLAB : Hid (WAB ≤ 250) := hide (by omega)
  clear c1
  by_cases c2 : (50 : Int) < (key.size : Int)
  · have HC2 : Hid (decide ((50 : Int) < (key.size : Int)) = true) := hide (decide_eq_true c2)
    clear c2
    refine' wp_region_facts [(fun _ _ v _ => v = (.agg #[.int .i64 xk, .int .i64 xn, .string xt, .slice xa1 xn1 xc1, .slice xa2 xn2 xc2])), (fun _ _ v _ => v = (.int .i64 (WA : Int))), (fun _ _ v _ => v = (.agg #[.int .i64 yk, .int .i64 yn, .string yt, .slice ya1 yn1 yc1, .slice ya2 yn2 yc2])), (fun _ _ v _ => v = (.int .i64 (WB : Int))), (fun _ _ v _ => v = (.int .i64 (WAB : Int))), (fun _ _ v _ => v = (.bool false)), (fun _ _ v _ => v = (.bool false)), (fun _ _ v _ => v = (.string key)), (fun _ _ v _ => v = (.int .i64 (key.size : Int))), (fun _ _ v _ => v = (.bool true)), (fun _ _ v _ => v = (.bool true)), (fun _ _ v _ => v = (.bool true)), (fun _ _ v _ => v = undef), (fun _ _ v _ => v = undef), (fun _ _ v _ => v = (.bool true)), (fun _ _ v _ => v = (.bool true)), (fun _ _ v _ => v = undef), (fun _ _ v _ => v = undef)] (by kernel_rfl) rfl ?hA (by kernel_rfl) (by kernel_rfl) (by kernel_rfl) rfl ?mono ?steps ?last
    case hA =>
      intro vs
      simp only [puts, Act.put, List.setIfInBounds_toArray, List.set_cons_zero, List.set_cons_succ, Nat.zero_add, Nat.reduceAdd]
      rfl
    case mono => exact ⟨mono_eq _, mono_eq _, mono_eq _, mono_eq _, mono_eq _, mono_eq _, mono_eq _, mono_eq _, mono_eq _, mono_eq _, mono_eq _, mono_eq _, mono_eq _, mono_eq _, mono_eq _, mono_eq _, mono_eq _, mono_eq _, trivial⟩
    case steps =>
      intro Q'
      refine And.intro ?_ ?_
      · intro vs lo hi w' hM hd K' hK
        dsimp only at hK ⊢
        simp only [Act.put, List.setIfInBounds_toArray, List.set_cons_zero, List.set_cons_succ] at hK
        obtain ⟨y0, y1, y2, y3, y4⟩ := HBX.out.keep hM
        go_simp
        exact hK.out _ _ rfl (Below.refl _ _)
      refine And.intro ?_ ?_
      · intro vs lo hi w' hM hd K' hK
        dsimp only at hK ⊢
        simp only [Act.put, List.setIfInBounds_toArray, List.set_cons_zero, List.set_cons_succ] at hK
        have e0 : vs 0 = (.agg #[.int .i64 xk, .int .i64 xn, .string xt, .slice xa1 xn1 xc1, .slice xa2 xn2 xc2]) := hd 0 (by kernel_rfl)
        simp only [e0] at hK ⊢
        clear e0
        go_simp
        refine (weight_any (HX.out.below hM) HW4X.out WA HWA.out).mono ?_
        rintro e w7 ⟨rfl, b7⟩
        exact hK.out _ _ rfl b7
      refine And.intro ?_ ?_
      · intro vs lo hi w' hM hd K' hK
        dsimp only at hK ⊢
        simp only [Act.put, List.setIfInBounds_toArray, List.set_cons_zero, List.set_cons_succ] at hK
        obtain ⟨y0, y1, y2, y3, y4⟩ := HBY.out.keep hM
        go_simp
        exact hK.out _ _ rfl (Below.refl _ _)
      refine And.intro ?_ ?_
      · intro vs lo hi w' hM hd K' hK
        dsimp only at hK ⊢
        simp only [Act.put, List.setIfInBounds_toArray, List.set_cons_zero, List.set_cons_succ] at hK
        have e2 : vs 2 = (.agg #[.int .i64 yk, .int .i64 yn, .string yt, .slice ya1 yn1 yc1, .slice ya2 yn2 yc2]) := hd 2 (by kernel_rfl)
        simp only [e2] at hK ⊢
        clear e2
        go_simp
        refine (weight_any (HY.out.below hM) HW4Y.out WB HWB.out).mono ?_
        rintro e w7 ⟨rfl, b7⟩
        exact hK.out _ _ rfl b7
      refine And.intro ?_ ?_
      · intro vs lo hi w' hM hd K' hK
        dsimp only at hK ⊢
        simp only [Act.put, List.setIfInBounds_toArray, List.set_cons_zero, List.set_cons_succ] at hK
        have e1 : vs 1 = (.int .i64 (WA : Int)) := hd 1 (by kernel_rfl)
        have e3 : vs 3 = (.int .i64 (WB : Int)) := hd 3 (by kernel_rfl)
        simp only [e1, e3] at hK ⊢
        clear e1 e3
        have hq := HWAB.out
        go_simp
        exact hK.out _ _ rfl (Below.refl _ _)
      refine And.intro ?_ ?_
      · intro vs lo hi w' hM hd K' hK
        dsimp only at hK ⊢
        simp only [Act.put, List.setIfInBounds_toArray, List.set_cons_zero, List.set_cons_succ] at hK
        have e4 : vs 4 = (.int .i64 (WAB : Int)) := hd 4 (by kernel_rfl)
        simp only [e4] at hK ⊢
        clear e4
        have hq := HC1.out
        go_simp
        exact hK.out _ _ rfl (Below.refl _ _)
      refine And.intro ?_ ?_
      · intro vs lo hi w' hM hd K' hK
        dsimp only at hK ⊢
        simp only [Act.put, List.setIfInBounds_toArray, List.set_cons_zero, List.set_cons_succ] at hK
        have e5 : vs 5 = (.bool false) := hd 5 (by kernel_rfl)
        simp only [e5] at hK ⊢
        clear e5
        go_simp
        exact hK.out _ _ rfl (Below.refl _ _)
      refine And.intro ?_ ?_
      · intro vs lo hi w' hM hd K' hK
        dsimp only at hK ⊢
        simp only [Act.put, List.setIfInBounds_toArray, List.set_cons_zero, List.set_cons_succ] at hK
        have e6 : vs 6 = (.bool false) := hd 6 (by kernel_rfl)
        simp only [e6] at hK ⊢
        clear e6
        go_simp
        exact hK.out _ _ rfl (Below.refl _ _)
      refine And.intro ?_ ?_
      · intro vs lo hi w' hM hd K' hK
        dsimp only at hK ⊢
        simp only [Act.put, List.setIfInBounds_toArray, List.set_cons_zero, List.set_cons_succ] at hK
        have e7 : vs 7 = (.string key) := hd 7 (by kernel_rfl)
        have e6 : vs 6 = (.bool false) := hd 6 (by kernel_rfl)
        simp only [e7, e6] at hK ⊢
        clear e7 e6
        go_simp
        exact hK.out _ _ rfl (Below.refl _ _)
      refine And.intro ?_ ?_
      · intro vs lo hi w' hM hd K' hK
        dsimp only at hK ⊢
        simp only [Act.put, List.setIfInBounds_toArray, List.set_cons_zero, List.set_cons_succ] at hK
        have e8 : vs 8 = (.int .i64 (key.size : Int)) := hd 8 (by kernel_rfl)
        have e6 : vs 6 = (.bool false) := hd 6 (by kernel_rfl)
        simp only [e8, e6] at hK ⊢
        clear e8 e6
        have hq := HC2.out
        go_simp
        exact hK.out _ _ rfl (Below.refl _ _)
      refine And.intro ?_ ?_
      · intro vs lo hi w' hM hd K' hK
        dsimp only at hK ⊢
        simp only [Act.put, List.setIfInBounds_toArray, List.set_cons_zero, List.set_cons_succ] at hK
        have e6 : vs 6 = (.bool false) := hd 6 (by kernel_rfl)
        have e9 : vs 9 = (.bool true) := hd 9 (by kernel_rfl)
        simp only [e6, e9] at hK ⊢
        clear e6 e9
        go_simp
        exact hK.out _ _ rfl (Below.refl _ _)
      refine And.intro ?_ ?_
      · intro vs lo hi w' hM hd K' hK
        dsimp only at hK ⊢
        simp only [Act.put, List.setIfInBounds_toArray, List.set_cons_zero, List.set_cons_succ] at hK
        have e10 : vs 10 = (.bool true) := hd 10 (by kernel_rfl)
        simp only [e10] at hK ⊢
        clear e10
        go_simp
        exact hK.out _ _ rfl (Below.refl _ _)
      refine And.intro ?_ ?_
      · intro vs lo hi w' hM hd K' hK
        dsimp only at hK ⊢
        simp only [Act.put, List.setIfInBounds_toArray, List.set_cons_zero, List.set_cons_succ] at hK
        have e11 : vs 11 = (.bool true) := hd 11 (by kernel_rfl)
        simp only [e11] at hK ⊢
        clear e11
        go_simp
        exact hK.out _ _ rfl (Below.refl _ _)
      refine And.intro ?_ ?_
      · intro vs lo hi w' hM hd K' hK
        dsimp only at hK ⊢
        simp only [Act.put, List.setIfInBounds_toArray, List.set_cons_zero, List.set_cons_succ] at hK
        have e12 : vs 12 = undef := hd 12 (by kernel_rfl)
        have e11 : vs 11 = (.bool true) := hd 11 (by kernel_rfl)
        simp only [e12, e11] at hK ⊢
        clear e12 e11
        go_simp
        exact hK.out _ _ rfl (Below.refl _ _)
      refine And.intro ?_ ?_
      · intro vs lo hi w' hM hd K' hK
        dsimp only at hK ⊢
        simp only [Act.put, List.setIfInBounds_toArray, List.set_cons_zero, List.set_cons_succ] at hK
        have e11 : vs 11 = (.bool true) := hd 11 (by kernel_rfl)
        have e13 : vs 13 = undef := hd 13 (by kernel_rfl)
        simp only [e11, e13] at hK ⊢
        clear e11 e13
        go_simp
        exact hK.out _ _ rfl (Below.refl _ _)
      refine And.intro ?_ ?_
      · intro vs lo hi w' hM hd K' hK
        dsimp only at hK ⊢
        simp only [Act.put, List.setIfInBounds_toArray, List.set_cons_zero, List.set_cons_succ] at hK
        have e14 : vs 14 = (.bool true) := hd 14 (by kernel_rfl)
        simp only [e14] at hK ⊢
        clear e14
        go_simp
        exact hK.out _ _ rfl (Below.refl _ _)
      refine And.intro ?_ ?_
      · intro vs lo hi w' hM hd K' hK
        dsimp only at hK ⊢
        simp only [Act.put, List.setIfInBounds_toArray, List.set_cons_zero, List.set_cons_succ] at hK
        have e15 : vs 15 = (.bool true) := hd 15 (by kernel_rfl)
        simp only [e15] at hK ⊢
        clear e15
        go_simp
        exact hK.out _ _ rfl (Below.refl _ _)
      refine And.intro ?_ ?_
      · intro vs lo hi w' hM hd K' hK
        dsimp only at hK ⊢
        simp only [Act.put, List.setIfInBounds_toArray, List.set_cons_zero, List.set_cons_succ] at hK
        have e16 : vs 16 = undef := hd 16 (by kernel_rfl)
        have e15 : vs 15 = (.bool true) := hd 15 (by kernel_rfl)
        simp only [e16, e15] at hK ⊢
        clear e16 e15
        go_simp
        exact hK.out _ _ rfl (Below.refl _ _)
      exact trivial
    case last =>
      intro vs lo hi w' hM hlo hap hall K' Q' hK
      have h15 : vs 15 = (.bool true) := hall.2.2.2.2.2.2.2.2.2.2.2.2.2.2.2.1
      have h17 : vs 17 = undef := hall.2.2.2.2.2.2.2.2.2.2.2.2.2.2.2.2.2.1
      dsimp only
      simp only [h15, h17]
      clear h15 h17 hall hap hlo
      go_simp
      refine hK.out _ _ ?_
      clear hK
      go_wp2_with fail
      refine (known_any _).mono ?_
      rintro e w8 ⟨rfl, b8⟩
      go_wp2
      go_ret
      exact ⟨rfl, bthen HT.out (bthen hM b8)⟩
  have HC2 : Hid (decide ((50 : Int) < (key.size : Int)) = false) := hide (decide_eq_false c2)
  have HKL : Hid (key.size ≤ 1000000) := hide (by omega)
  clear c2
  by_cases c3 : 200 < V.wtK ks
  · have HC3 : Hid (true = decide (200 < V.wtK ks)) := hide (decide_eq_true c3).symm
    clear c3
    refine' wp_region_facts [(fun _ _ v _ => v = (.agg #[.int .i64 xk, .int .i64 xn, .string xt, .slice xa1 xn1 xc1, .slice xa2 xn2 xc2])), (fun _ _ v _ => v = (.int .i64 (WA : Int))), (fun _ _ v _ => v = (.agg #[.int .i64 yk, .int .i64 yn, .string yt, .slice ya1 yn1 yc1, .slice ya2 yn2 yc2])), (fun _ _ v _ => v = (.int .i64 (WB : Int))), (fun _ _ v _ => v = (.int .i64 (WAB : Int))), (fun _ _ v _ => v = (.bool false)), (fun _ _ v _ => v = (.bool false)), (fun _ _ v _ => v = (.string key)), (fun _ _ v _ => v = (.int .i64 (key.size : Int))), (fun _ _ v _ => v = (.bool false)), (fun _ _ v _ => v = (.bool false)), (fun _ _ v _ => v = (.bool false)), (fun _ _ v _ => v = (.slice la ks.length lc)), (fun _ _ v _ => v = (.bool true)), (fun _ _ v _ => v = (.bool true)), (fun _ _ v _ => v = (.bool true)), (fun _ _ v _ => v = undef), (fun _ _ v _ => v = undef)] (by kernel_rfl) rfl ?hA (by kernel_rfl) (by kernel_rfl) (by kernel_rfl) rfl ?mono ?steps ?last
    case hA =>
      intro vs
      simp only [puts, Act.put, List.setIfInBounds_toArray, List.set_cons_zero, List.set_cons_succ, Nat.zero_add, Nat.reduceAdd]
      rfl
    case mono => exact ⟨mono_eq _, mono_eq _, mono_eq _, mono_eq _, mono_eq _, mono_eq _, mono_eq _, mono_eq _, mono_eq _, mono_eq _, mono_eq _, mono_eq _, mono_eq _, mono_eq _, mono_eq _, mono_eq _, mono_eq _, mono_eq _, trivial⟩
    case steps =>
      intro Q'
      refine And.intro ?_ ?_
      · intro vs lo hi w' hM hd K' hK
        dsimp only at hK ⊢
        simp only [Act.put, List.setIfInBounds_toArray, List.set_cons_zero, List.set_cons_succ] at hK
        obtain ⟨y0, y1, y2, y3, y4⟩ := HBX.out.keep hM
        go_simp
        exact hK.out _ _ rfl (Below.refl _ _)
      refine And.intro ?_ ?_
      · intro vs lo hi w' hM hd K' hK
        dsimp only at hK ⊢
        simp only [Act.put, List.setIfInBounds_toArray, List.set_cons_zero, List.set_cons_succ] at hK
        have e0 : vs 0 = (.agg #[.int .i64 xk, .int .i64 xn, .string xt, .slice xa1 xn1 xc1, .slice xa2 xn2 xc2]) := hd 0 (by kernel_rfl)
        simp only [e0] at hK ⊢
        clear e0
        go_simp
        refine (weight_any (HX.out.below hM) HW4X.out WA HWA.out).mono ?_
        rintro e w7 ⟨rfl, b7⟩
        exact hK.out _ _ rfl b7
      refine And.intro ?_ ?_
      · intro vs lo hi w' hM hd K' hK
        dsimp only at hK ⊢
        simp only [Act.put, List.setIfInBounds_toArray, List.set_cons_zero, List.set_cons_succ] at hK
        obtain ⟨y0, y1, y2, y3, y4⟩ := HBY.out.keep hM
        go_simp
        exact hK.out _ _ rfl (Below.refl _ _)
      refine And.intro ?_ ?_
      · intro vs lo hi w' hM hd K' hK
        dsimp only at hK ⊢
        simp only [Act.put, List.setIfInBounds_toArray, List.set_cons_zero, List.set_cons_succ] at hK
        have e2 : vs 2 = (.agg #[.int .i64 yk, .int .i64 yn, .string yt, .slice ya1 yn1 yc1, .slice ya2 yn2 yc2]) := hd 2 (by kernel_rfl)
        simp only [e2] at hK ⊢
        clear e2
        go_simp
        refine (weight_any (HY.out.below hM) HW4Y.out WB HWB.out).mono ?_
        rintro e w7 ⟨rfl, b7⟩
        exact hK.out _ _ rfl b7
      refine And.intro ?_ ?_
      · intro vs lo hi w' hM hd K' hK
        dsimp only at hK ⊢
        simp only [Act.put, List.setIfInBounds_toArray, List.set_cons_zero, List.set_cons_succ] at hK
        have e1 : vs 1 = (.int .i64 (WA : Int)) := hd 1 (by kernel_rfl)
        have e3 : vs 3 = (.int .i64 (WB : Int)) := hd 3 (by kernel_rfl)
        simp only [e1, e3] at hK ⊢
        clear e1 e3
        have hq := HWAB.out
        go_simp
        exact hK.out _ _ rfl (Below.refl _ _)
      refine And.intro ?_ ?_
      · intro vs lo hi w' hM hd K' hK
        dsimp only at hK ⊢
        simp only [Act.put, List.setIfInBounds_toArray, List.set_cons_zero, List.set_cons_succ] at hK
        have e4 : vs 4 = (.int .i64 (WAB : Int)) := hd 4 (by kernel_rfl)
        simp only [e4] at hK ⊢
        clear e4
        have hq := HC1.out
        go_simp
        exact hK.out _ _ rfl (Below.refl _ _)
      refine And.intro ?_ ?_
      · intro vs lo hi w' hM hd K' hK
        dsimp only at hK ⊢
        simp only [Act.put, List.setIfInBounds_toArray, List.set_cons_zero, List.set_cons_succ] at hK
        have e5 : vs 5 = (.bool false) := hd 5 (by kernel_rfl)
        simp only [e5] at hK ⊢
        clear e5
        go_simp
        exact hK.out _ _ rfl (Below.refl _ _)
      refine And.intro ?_ ?_
      · intro vs lo hi w' hM hd K' hK
        dsimp only at hK ⊢
        simp only [Act.put, List.setIfInBounds_toArray, List.set_cons_zero, List.set_cons_succ] at hK
        have e6 : vs 6 = (.bool false) := hd 6 (by kernel_rfl)
        simp only [e6] at hK ⊢
        clear e6
        go_simp
        exact hK.out _ _ rfl (Below.refl _ _)
      refine And.intro ?_ ?_
      · intro vs lo hi w' hM hd K' hK
        dsimp only at hK ⊢
        simp only [Act.put, List.setIfInBounds_toArray, List.set_cons_zero, List.set_cons_succ] at hK
        have e7 : vs 7 = (.string key) := hd 7 (by kernel_rfl)
        have e6 : vs 6 = (.bool false) := hd 6 (by kernel_rfl)
        simp only [e7, e6] at hK ⊢
        clear e7 e6
        go_simp
        exact hK.out _ _ rfl (Below.refl _ _)
      refine And.intro ?_ ?_
      · intro vs lo hi w' hM hd K' hK
        dsimp only at hK ⊢
        simp only [Act.put, List.setIfInBounds_toArray, List.set_cons_zero, List.set_cons_succ] at hK
        have e8 : vs 8 = (.int .i64 (key.size : Int)) := hd 8 (by kernel_rfl)
        have e6 : vs 6 = (.bool false) := hd 6 (by kernel_rfl)
        simp only [e8, e6] at hK ⊢
        clear e8 e6
        have hq := HC2.out
        go_simp
        exact hK.out _ _ rfl (Below.refl _ _)
      refine And.intro ?_ ?_
      · intro vs lo hi w' hM hd K' hK
        dsimp only at hK ⊢
        simp only [Act.put, List.setIfInBounds_toArray, List.set_cons_zero, List.set_cons_succ] at hK
        have e6 : vs 6 = (.bool false) := hd 6 (by kernel_rfl)
        have e9 : vs 9 = (.bool false) := hd 9 (by kernel_rfl)
        simp only [e6, e9] at hK ⊢
        clear e6 e9
        go_simp
        exact hK.out _ _ rfl (Below.refl _ _)
      refine And.intro ?_ ?_
      · intro vs lo hi w' hM hd K' hK
        dsimp only at hK ⊢
        simp only [Act.put, List.setIfInBounds_toArray, List.set_cons_zero, List.set_cons_succ] at hK
        have e10 : vs 10 = (.bool false) := hd 10 (by kernel_rfl)
        simp only [e10] at hK ⊢
        clear e10
        go_simp
        exact hK.out _ _ rfl (Below.refl _ _)
      refine And.intro ?_ ?_
      · intro vs lo hi w' hM hd K' hK
        dsimp only at hK ⊢
        simp only [Act.put, List.setIfInBounds_toArray, List.set_cons_zero, List.set_cons_succ] at hK
        have e11 : vs 11 = (.bool false) := hd 11 (by kernel_rfl)
        simp only [e11] at hK ⊢
        clear e11
        go_simp
        exact hK.out _ _ rfl (Below.refl _ _)
      refine And.intro ?_ ?_
      · intro vs lo hi w' hM hd K' hK
        dsimp only at hK ⊢
        simp only [Act.put, List.setIfInBounds_toArray, List.set_cons_zero, List.set_cons_succ] at hK
        have e12 : vs 12 = (.slice la ks.length lc) := hd 12 (by kernel_rfl)
        have e11 : vs 11 = (.bool false) := hd 11 (by kernel_rfl)
        simp only [e12, e11] at hK ⊢
        clear e12 e11
        go_simp
        refine (many_any (HS.out.below hM) HW4K.out true HC3.out).mono ?_
        rintro e w7 ⟨rfl, b7⟩
        exact hK.out _ _ rfl b7
      refine And.intro ?_ ?_
      · intro vs lo hi w' hM hd K' hK
        dsimp only at hK ⊢
        simp only [Act.put, List.setIfInBounds_toArray, List.set_cons_zero, List.set_cons_succ] at hK
        have e11 : vs 11 = (.bool false) := hd 11 (by kernel_rfl)
        have e13 : vs 13 = (.bool true) := hd 13 (by kernel_rfl)
        simp only [e11, e13] at hK ⊢
        clear e11 e13
        go_simp
        exact hK.out _ _ rfl (Below.refl _ _)
      refine And.intro ?_ ?_
      · intro vs lo hi w' hM hd K' hK
        dsimp only at hK ⊢
        simp only [Act.put, List.setIfInBounds_toArray, List.set_cons_zero, List.set_cons_succ] at hK
        have e14 : vs 14 = (.bool true) := hd 14 (by kernel_rfl)
        simp only [e14] at hK ⊢
        clear e14
        go_simp
        exact hK.out _ _ rfl (Below.refl _ _)
      refine And.intro ?_ ?_
      · intro vs lo hi w' hM hd K' hK
        dsimp only at hK ⊢
        simp only [Act.put, List.setIfInBounds_toArray, List.set_cons_zero, List.set_cons_succ] at hK
        have e15 : vs 15 = (.bool true) := hd 15 (by kernel_rfl)
        simp only [e15] at hK ⊢
        clear e15
        go_simp
        exact hK.out _ _ rfl (Below.refl _ _)
      refine And.intro ?_ ?_
      · intro vs lo hi w' hM hd K' hK
        dsimp only at hK ⊢
        simp only [Act.put, List.setIfInBounds_toArray, List.set_cons_zero, List.set_cons_succ] at hK
        have e16 : vs 16 = undef := hd 16 (by kernel_rfl)
        have e15 : vs 15 = (.bool true) := hd 15 (by kernel_rfl)
        simp only [e16, e15] at hK ⊢
        clear e16 e15
        go_simp
        exact hK.out _ _ rfl (Below.refl _ _)
      exact trivial
    case last =>
      intro vs lo hi w' hM hlo hap hall K' Q' hK
      have h15 : vs 15 = (.bool true) := hall.2.2.2.2.2.2.2.2.2.2.2.2.2.2.2.1
      have h17 : vs 17 = undef := hall.2.2.2.2.2.2.2.2.2.2.2.2.2.2.2.2.2.1
      dsimp only
      simp only [h15, h17]
      clear h15 h17 hall hap hlo
      go_simp
      refine hK.out _ _ ?_
      clear hK
      go_wp2_with fail
      refine (known_any _).mono ?_
      rintro e w8 ⟨rfl, b8⟩
      go_wp2
      go_ret
      exact ⟨rfl, bthen HT.out (bthen hM b8)⟩
  have HC3 : Hid (false = decide (200 < V.wtK ks)) := hide (decide_eq_false c3).symm
  clear c3
  have HW6X : Hid (V.wt xV ≤ 1000000) := hide (by have h1 := HWA.out; have h2 := HWB.out; have h3 := HLAB.out; have h4 := HWABN.out; omega)
  have HW6Y : Hid (V.wt yV ≤ 1000000) := hide (by have h1 := HWA.out; have h2 := HWB.out; have h3 := HLAB.out; have h4 := HWABN.out; omega)
  refine' wp_region_facts [(fun _ _ v _ => v = (.agg #[.int .i64 xk, .int .i64 xn, .string xt, .slice xa1 xn1 xc1, .slice xa2 xn2 xc2])), (fun _ _ v _ => v = (.int .i64 (WA : Int))), (fun _ _ v _ => v = (.agg #[.int .i64 yk, .int .i64 yn, .string yt, .slice ya1 yn1 yc1, .slice ya2 yn2 yc2])), (fun _ _ v _ => v = (.int .i64 (WB : Int))), (fun _ _ v _ => v = (.int .i64 (WAB : Int))), (fun _ _ v _ => v = (.bool false)), (fun _ _ v _ => v = (.bool false)), (fun _ _ v _ => v = (.string key)), (fun _ _ v _ => v = (.int .i64 (key.size : Int))), (fun _ _ v _ => v = (.bool false)), (fun _ _ v _ => v = (.bool false)), (fun _ _ v _ => v = (.bool false)), (fun _ _ v _ => v = (.slice la ks.length lc)), (fun _ _ v _ => v = (.bool false)), (fun _ _ v _ => v = (.bool false)), (fun _ _ v _ => v = (.bool false)), (fun _ _ v _ => v = (.bool true)), (fun _ _ v _ => v = (.bool false))] (by kernel_rfl) rfl ?hA (by kernel_rfl) (by kernel_rfl) (by kernel_rfl) rfl ?mono ?steps ?last
  case hA =>
    intro vs
    simp only [puts, Act.put, List.setIfInBounds_toArray, List.set_cons_zero, List.set_cons_succ, Nat.zero_add, Nat.reduceAdd]
    rfl
  case mono => exact ⟨mono_eq _, mono_eq _, mono_eq _, mono_eq _, mono_eq _, mono_eq _, mono_eq _, mono_eq _, mono_eq _, mono_eq _, mono_eq _, mono_eq _, mono_eq _, mono_eq _, mono_eq _, mono_eq _, mono_eq _, mono_eq _, trivial⟩
  case steps =>
    intro Q'
    refine And.intro ?_ ?_
    · intro vs lo hi w' hM hd K' hK
      dsimp only at hK ⊢
      simp only [Act.put, List.setIfInBounds_toArray, List.set_cons_zero, List.set_cons_succ] at hK
      obtain ⟨y0, y1, y2, y3, y4⟩ := HBX.out.keep hM
      go_simp
      exact hK.out _ _ rfl (Below.refl _ _)
    refine And.intro ?_ ?_
    · intro vs lo hi w' hM hd K' hK
      dsimp only at hK ⊢
      simp only [Act.put, List.setIfInBounds_toArray, List.set_cons_zero, List.set_cons_succ] at hK
      have e0 : vs 0 = (.agg #[.int .i64 xk, .int .i64 xn, .string xt, .slice xa1 xn1 xc1, .slice xa2 xn2 xc2]) := hd 0 (by kernel_rfl)
      simp only [e0] at hK ⊢
      clear e0
      go_simp
      refine (weight_any (HX.out.below hM) HW4X.out WA HWA.out).mono ?_
      rintro e w7 ⟨rfl, b7⟩
      exact hK.out _ _ rfl b7
    refine And.intro ?_ ?_
    · intro vs lo hi w' hM hd K' hK
      dsimp only at hK ⊢
      simp only [Act.put, List.setIfInBounds_toArray, List.set_cons_zero, List.set_cons_succ] at hK
      obtain ⟨y0, y1, y2, y3, y4⟩ := HBY.out.keep hM
      go_simp
      exact hK.out _ _ rfl (Below.refl _ _)
    refine And.intro ?_ ?_
    · intro vs lo hi w' hM hd K' hK
      dsimp only at hK ⊢
      simp only [Act.put, List.setIfInBounds_toArray, List.set_cons_zero, List.set_cons_succ] at hK
      have e2 : vs 2 = (.agg #[.int .i64 yk, .int .i64 yn, .string yt, .slice ya1 yn1 yc1, .slice ya2 yn2 yc2]) := hd 2 (by kernel_rfl)
      simp only [e2] at hK ⊢
      clear e2
      go_simp
      refine (weight_any (HY.out.below hM) HW4Y.out WB HWB.out).mono ?_
      rintro e w7 ⟨rfl, b7⟩
      exact hK.out _ _ rfl b7
    refine And.intro ?_ ?_
    · intro vs lo hi w' hM hd K' hK
      dsimp only at hK ⊢
      simp only [Act.put, List.setIfInBounds_toArray, List.set_cons_zero, List.set_cons_succ] at hK
      have e1 : vs 1 = (.int .i64 (WA : Int)) := hd 1 (by kernel_rfl)
      have e3 : vs 3 = (.int .i64 (WB : Int)) := hd 3 (by kernel_rfl)
      simp only [e1, e3] at hK ⊢
      clear e1 e3
      have hq := HWAB.out
      go_simp
      exact hK.out _ _ rfl (Below.refl _ _)
    refine And.intro ?_ ?_
    · intro vs lo hi w' hM hd K' hK
      dsimp only at hK ⊢
      simp only [Act.put, List.setIfInBounds_toArray, List.set_cons_zero, List.set_cons_succ] at hK
      have e4 : vs 4 = (.int .i64 (WAB : Int)) := hd 4 (by kernel_rfl)
      simp only [e4] at hK ⊢
      clear e4
      have hq := HC1.out
      go_simp
      exact hK.out _ _ rfl (Below.refl _ _)
    refine And.intro ?_ ?_
    · intro vs lo hi w' hM hd K' hK
      dsimp only at hK ⊢
      simp only [Act.put, List.setIfInBounds_toArray, List.set_cons_zero, List.set_cons_succ] at hK
      have e5 : vs 5 = (.bool false) := hd 5 (by kernel_rfl)
      simp only [e5] at hK ⊢
      clear e5
      go_simp
      exact hK.out _ _ rfl (Below.refl _ _)
    refine And.intro ?_ ?_
    · intro vs lo hi w' hM hd K' hK
      dsimp only at hK ⊢
      simp only [Act.put, List.setIfInBounds_toArray, List.set_cons_zero, List.set_cons_succ] at hK
      have e6 : vs 6 = (.bool false) := hd 6 (by kernel_rfl)
      simp only [e6] at hK ⊢
      clear e6
      go_simp
      exact hK.out _ _ rfl (Below.refl _ _)
    refine And.intro ?_ ?_
    · intro vs lo hi w' hM hd K' hK
      dsimp only at hK ⊢
      simp only [Act.put, List.setIfInBounds_toArray, List.set_cons_zero, List.set_cons_succ] at hK
      have e7 : vs 7 = (.string key) := hd 7 (by kernel_rfl)
      have e6 : vs 6 = (.bool false) := hd 6 (by kernel_rfl)
      simp only [e7, e6] at hK ⊢
      clear e7 e6
      go_simp
      exact hK.out _ _ rfl (Below.refl _ _)
    refine And.intro ?_ ?_
    · intro vs lo hi w' hM hd K' hK
      dsimp only at hK ⊢
      simp only [Act.put, List.setIfInBounds_toArray, List.set_cons_zero, List.set_cons_succ] at hK
      have e8 : vs 8 = (.int .i64 (key.size : Int)) := hd 8 (by kernel_rfl)
      have e6 : vs 6 = (.bool false) := hd 6 (by kernel_rfl)
      simp only [e8, e6] at hK ⊢
      clear e8 e6
      have hq := HC2.out
      go_simp
      exact hK.out _ _ rfl (Below.refl _ _)
    refine And.intro ?_ ?_
    · intro vs lo hi w' hM hd K' hK
      dsimp only at hK ⊢
      simp only [Act.put, List.setIfInBounds_toArray, List.set_cons_zero, List.set_cons_succ] at hK
      have e6 : vs 6 = (.bool false) := hd 6 (by kernel_rfl)
      have e9 : vs 9 = (.bool false) := hd 9 (by kernel_rfl)
      simp only [e6, e9] at hK ⊢
      clear e6 e9
      go_simp
      exact hK.out _ _ rfl (Below.refl _ _)
    refine And.intro ?_ ?_
    · intro vs lo hi w' hM hd K' hK
      dsimp only at hK ⊢
      simp only [Act.put, List.setIfInBounds_toArray, List.set_cons_zero, List.set_cons_succ] at hK
      have e10 : vs 10 = (.bool false) := hd 10 (by kernel_rfl)
      simp only [e10] at hK ⊢
      clear e10
      go_simp
      exact hK.out _ _ rfl (Below.refl _ _)
    refine And.intro ?_ ?_
    · intro vs lo hi w' hM hd K' hK
      dsimp only at hK ⊢
      simp only [Act.put, List.setIfInBounds_toArray, List.set_cons_zero, List.set_cons_succ] at hK
      have e11 : vs 11 = (.bool false) := hd 11 (by kernel_rfl)
      simp only [e11] at hK ⊢
      clear e11
      go_simp
      exact hK.out _ _ rfl (Below.refl _ _)
    refine And.intro ?_ ?_
    · intro vs lo hi w' hM hd K' hK
      dsimp only at hK ⊢
      simp only [Act.put, List.setIfInBounds_toArray, List.set_cons_zero, List.set_cons_succ] at hK
      have e12 : vs 12 = (.slice la ks.length lc) := hd 12 (by kernel_rfl)
      have e11 : vs 11 = (.bool false) := hd 11 (by kernel_rfl)
      simp only [e12, e11] at hK ⊢
      clear e12 e11
      go_simp
      refine (many_any (HS.out.below hM) HW4K.out false HC3.out).mono ?_
      rintro e w7 ⟨rfl, b7⟩
      exact hK.out _ _ rfl b7
    refine And.intro ?_ ?_
    · intro vs lo hi w' hM hd K' hK
      dsimp only at hK ⊢
      simp only [Act.put, List.setIfInBounds_toArray, List.set_cons_zero, List.set_cons_succ] at hK
      have e11 : vs 11 = (.bool false) := hd 11 (by kernel_rfl)
      have e13 : vs 13 = (.bool false) := hd 13 (by kernel_rfl)
      simp only [e11, e13] at hK ⊢
      clear e11 e13
      go_simp
      exact hK.out _ _ rfl (Below.refl _ _)
    refine And.intro ?_ ?_
    · intro vs lo hi w' hM hd K' hK
      dsimp only at hK ⊢
      simp only [Act.put, List.setIfInBounds_toArray, List.set_cons_zero, List.set_cons_succ] at hK
      have e14 : vs 14 = (.bool false) := hd 14 (by kernel_rfl)
      simp only [e14] at hK ⊢
      clear e14
      go_simp
      exact hK.out _ _ rfl (Below.refl _ _)
    refine And.intro ?_ ?_
    · intro vs lo hi w' hM hd K' hK
      dsimp only at hK ⊢
      simp only [Act.put, List.setIfInBounds_toArray, List.set_cons_zero, List.set_cons_succ] at hK
      have e15 : vs 15 = (.bool false) := hd 15 (by kernel_rfl)
      simp only [e15] at hK ⊢
      clear e15
      go_simp
      refine (known_any _).mono ?_
      rintro e w7 ⟨rfl, b7⟩
      exact hK.out _ _ rfl b7
    refine And.intro ?_ ?_
    · intro vs lo hi w' hM hd K' hK
      dsimp only at hK ⊢
      simp only [Act.put, List.setIfInBounds_toArray, List.set_cons_zero, List.set_cons_succ] at hK
      have e16 : vs 16 = (.bool true) := hd 16 (by kernel_rfl)
      have e15 : vs 15 = (.bool false) := hd 15 (by kernel_rfl)
      simp only [e16, e15] at hK ⊢
      clear e16 e15
      go_simp
      exact hK.out _ _ rfl (Below.refl _ _)
    exact trivial
  case last =>
    intro vs lo hi w' hM hlo hap hall K' Q' hK
    have h15 : vs 15 = (.bool false) := hall.2.2.2.2.2.2.2.2.2.2.2.2.2.2.2.1
    have h17 : vs 17 = (.bool false) := hall.2.2.2.2.2.2.2.2.2.2.2.2.2.2.2.2.2.1
    dsimp only
    simp only [h15, h17]
    clear h15 h17 hall hap hlo
    go_simp
    refine hK.out _ _ ?_
    clear hK
    have HM := hide hM
    clear hM
    replace HBX := hide (HBX.out.keep HM.out)
    replace HX := hide (HX.out.below HM.out)
    replace HBY := hide (HBY.out.keep HM.out)
    replace HY := hide (HY.out.below HM.out)
    replace HS := hide (HS.out.below HM.out)
    replace HT := hide (bthen HT.out HM.out)
    clear HM
    go_wp2_with fail
    refine (part_any a0 len0 cap0 z0 k _ (isRow_keep HR0.out HT.out) hk0 hk1).mono ?_
    rintro e wp ⟨pk, pn, pt, pa1, pn1, pc1, pa2, pn2, pc2, rfl, hp, bp⟩
    have bb := bthen bp (below_alloc wp (.cells #[.int .i64 pk, .int .i64 pn, .string pt, .slice pa1 pn1 pc1, .slice pa2 pn2 pc2] 25))
    replace HBX := hide (HBX.out.keep bb)
    replace HX := hide (HX.out.below bb)
    replace HBY := hide (HBY.out.keep bb)
    replace HY := hide (HY.out.below bb)
    replace HS := hide (HS.out.below bb)
    replace HT := hide (bthen HT.out bb)
    have HBP := hide (box5_new wp (.int .i64 pk) (.int .i64 pn) (.string pt) (.slice pa1 pn1 pc1) (.slice pa2 pn2 pc2) 25)
    have HP := hide ((hp.weak (S' := fun _ => True) (fun _ _ _ => trivial)).below (below_alloc wp (.cells #[.int .i64 pk, .int .i64 pn, .string pt, .slice pa1 pn1 pc1, .slice pa2 pn2 pc2] 25)))
    have HWP := hide (V.wt_part z0 len0 k)
    generalize V.part z0 len0 k = PV at HP HWP
    clear hp bp bb
    go_wp2_with fail
    generalize (wp.alloc (.cells #[.int .i64 pk, .int .i64 pn, .string pt, .slice pa1 pn1 pc1, .slice pa2 pn2 pc2] 25)) = wp2 at HT HBX HX HBY HY HS HBP HP ⊢
    generalize wp.heap.size = gp at HT HBX HX HBY HY HS HBP HP ⊢
    refine (part_any a1 len1 cap1 z1 k _ (isRow_keep HR1.out HT.out) hk0 hk1).mono ?_
    rintro e wq ⟨qk, qn, qt, qa1, qn1, qc1, qa2, qn2, qc2, rfl, hq, bq⟩
    have bb := bthen bq (bthen (below_alloc wq (.cells #[.int .i64 qk, .int .i64 qn, .string qt, .slice qa1 qn1 qc1, .slice qa2 qn2 qc2] 25)) (below_alloc _ (.cells asksArr 9)))
    replace HBX := hide (HBX.out.keep bb)
    replace HX := hide (HX.out.below bb)
    replace HBY := hide (HBY.out.keep bb)
    replace HY := hide (HY.out.below bb)
    replace HS := hide (HS.out.below bb)
    replace HBP := hide (HBP.out.keep bb)
    replace HP := hide (HP.out.below bb)
    replace HT := hide (bthen HT.out bb)
    have HBQ := hide ((box5_new wq (.int .i64 qk) (.int .i64 qn) (.string qt) (.slice qa1 qn1 qc1) (.slice qa2 qn2 qc2) 25).keep (below_alloc _ (.cells asksArr 9)))
    have HQ := hide ((hq.weak (S' := fun _ => True) (fun _ _ _ => trivial)).below (bthen (below_alloc wq (.cells #[.int .i64 qk, .int .i64 qn, .string qt, .slice qa1 qn1 qc1, .slice qa2 qn2 qc2] 25)) (below_alloc _ (.cells asksArr 9))))
    have HWQ := hide (V.wt_part z1 len1 k)
    generalize V.part z1 len1 k = PZ at HQ HWQ
    clear hq bq bb
    have hrow := row_new (wq.alloc (.cells #[.int .i64 qk, .int .i64 qn, .string qt, .slice qa1 qn1 qc1, .slice qa2 qn2 qc2] 25)) asksArr 9 _ rfl
    rw [show (wq.alloc (.cells #[.int .i64 qk, .int .i64 qn, .string qt, .slice qa1 qn1 qc1, .slice qa2 qn2 qc2] 25)).heap.size = wq.heap.size + 1 by simp] at hrow
    have HROW := hide hrow
    clear hrow
    go_wp2_with fail
    change Calls _ _ _ ((wq.alloc (.cells #[.int .i64 qk, .int .i64 qn, .string qt, .slice qa1 qn1 qc1, .slice qa2 qn2 qc2] 25)).alloc (.cells asksArr 9)) _
    generalize ((wq.alloc (.cells #[.int .i64 qk, .int .i64 qn, .string qt, .slice qa1 qn1 qc1, .slice qa2 qn2 qc2] 25)).alloc (.cells asksArr 9)) = w6 at HT HROW HBX HX HBY HY HS HBP HP HBQ HQ ⊢
    generalize wq.heap.size = gq at HT HROW HBX HX HBY HY HS HBP HP HBQ HQ ⊢
    refine (str_any key _ HKB.out).mono ?_
    rintro e u1 ⟨rfl, b_⟩
    replace HBX := hide (HBX.out.keep b_)
    replace HX := hide (HX.out.below b_)
    replace HBY := hide (HBY.out.keep b_)
    replace HY := hide (HY.out.below b_)
    replace HS := hide (HS.out.below b_)
    replace HBP := hide (HBP.out.keep b_)
    replace HP := hide (HP.out.below b_)
    replace HBQ := hide (HBQ.out.keep b_)
    replace HQ := hide (HQ.out.below b_)
    replace HT := hide (bthen HT.out b_)
    replace HROW := hide (row_keep HROW.out b_)
    clear b_
    go_wp2_with fail
    refine (refStr_any key _).mono ?_
    rintro e u2 ⟨rfl, b_⟩
    replace HBX := hide (HBX.out.keep b_)
    replace HX := hide (HX.out.below b_)
    replace HBY := hide (HBY.out.keep b_)
    replace HY := hide (HY.out.below b_)
    replace HS := hide (HS.out.below b_)
    replace HBP := hide (HBP.out.keep b_)
    replace HP := hide (HP.out.below b_)
    replace HBQ := hide (HBQ.out.keep b_)
    replace HQ := hide (HQ.out.below b_)
    replace HT := hide (bthen HT.out b_)
    replace HROW := hide (row_keep HROW.out b_)
    clear b_
    go_wp2_with fail
    refine (refSame_any (is_plain _ (fun _ => True) 3 0 key HKM.out) (is_plain _ (fun _ => True) 3 0 key HKM.out) HWS.out HWS.out true ⟨fun _ => rfl, fun _ => rfl⟩).mono ?_
    rintro e u3 ⟨rfl, b_⟩
    replace HBX := hide (HBX.out.keep b_)
    replace HX := hide (HX.out.below b_)
    replace HBY := hide (HBY.out.keep b_)
    replace HY := hide (HY.out.below b_)
    replace HS := hide (HS.out.below b_)
    replace HBP := hide (HBP.out.keep b_)
    replace HP := hide (HP.out.below b_)
    replace HBQ := hide (HBQ.out.keep b_)
    replace HQ := hide (HQ.out.below b_)
    replace HT := hide (bthen HT.out b_)
    replace HROW := hide (row_keep HROW.out b_)
    clear b_
    go_wp2_with fail
    refine (num_any n _).mono ?_
    rintro e u4 ⟨rfl, b_⟩
    replace HBX := hide (HBX.out.keep b_)
    replace HX := hide (HX.out.below b_)
    replace HBY := hide (HBY.out.keep b_)
    replace HY := hide (HY.out.below b_)
    replace HS := hide (HS.out.below b_)
    replace HBP := hide (HBP.out.keep b_)
    replace HP := hide (HP.out.below b_)
    replace HBQ := hide (HBQ.out.keep b_)
    replace HQ := hide (HQ.out.below b_)
    replace HT := hide (bthen HT.out b_)
    replace HROW := hide (row_keep HROW.out b_)
    clear b_
    go_wp2_with fail
    refine (refNum_any n _).mono ?_
    rintro e u5 ⟨rfl, b_⟩
    replace HBX := hide (HBX.out.keep b_)
    replace HX := hide (HX.out.below b_)
    replace HBY := hide (HBY.out.keep b_)
    replace HY := hide (HY.out.below b_)
    replace HS := hide (HS.out.below b_)
    replace HBP := hide (HBP.out.keep b_)
    replace HP := hide (HP.out.below b_)
    replace HBQ := hide (HBQ.out.keep b_)
    replace HQ := hide (HQ.out.below b_)
    replace HT := hide (bthen HT.out b_)
    replace HROW := hide (row_keep HROW.out b_)
    clear b_
    go_wp2_with fail
    refine (refSame_any (is_plain _ (fun _ => True) 2 n ⟨#[]⟩ (by decide)) (is_plain _ (fun _ => True) 2 n ⟨#[]⟩ (by decide)) HWN.out HWN.out true ⟨fun _ => rfl, fun _ => rfl⟩).mono ?_
    rintro e u6 ⟨rfl, b_⟩
    replace HBX := hide (HBX.out.keep b_)
    replace HX := hide (HX.out.below b_)
    replace HBY := hide (HBY.out.keep b_)
    replace HY := hide (HY.out.below b_)
    replace HS := hide (HS.out.below b_)
    replace HBP := hide (HBP.out.keep b_)
    replace HP := hide (HP.out.below b_)
    replace HBQ := hide (HBQ.out.keep b_)
    replace HQ := hide (HQ.out.below b_)
    replace HT := hide (bthen HT.out b_)
    replace HROW := hide (row_keep HROW.out b_)
    clear b_
    go_wp2_with fail
    refine (texts_any HS.out HW4K.out).mono ?_
    rintro e u7 ⟨ta, tn, tc, rfl, ht, b_⟩
    replace HBX := hide (HBX.out.keep b_)
    replace HX := hide (HX.out.below b_)
    replace HBY := hide (HBY.out.keep b_)
    replace HY := hide (HY.out.below b_)
    replace HS := hide (HS.out.below b_)
    replace HBP := hide (HBP.out.keep b_)
    replace HP := hide (HP.out.below b_)
    replace HBQ := hide (HBQ.out.keep b_)
    replace HQ := hide (HQ.out.below b_)
    replace HT := hide (bthen HT.out b_)
    replace HROW := hide (row_keep HROW.out b_)
    have HTX := hide (ht.weak (S' := fun _ => True) (fun _ _ _ => trivial))
    clear b_ ht
    go_wp2_with fail
    refine (refTexts_any HS.out HW6K.out).mono ?_
    rintro e u8 ⟨ra, rn, rc, rfl, ht, b_⟩
    replace HBX := hide (HBX.out.keep b_)
    replace HX := hide (HX.out.below b_)
    replace HBY := hide (HBY.out.keep b_)
    replace HY := hide (HY.out.below b_)
    replace HS := hide (HS.out.below b_)
    replace HBP := hide (HBP.out.keep b_)
    replace HP := hide (HP.out.below b_)
    replace HBQ := hide (HBQ.out.keep b_)
    replace HQ := hide (HQ.out.below b_)
    replace HTX := hide (HTX.out.below b_)
    replace HT := hide (bthen HT.out b_)
    replace HROW := hide (row_keep HROW.out b_)
    have HRX := hide ht
    clear b_ ht
    go_wp2_with fail
    refine (refSame_any HTX.out HRX.out HWT.out HWT.out true ⟨fun _ => rfl, fun _ => rfl⟩).mono ?_
    rintro e u9 ⟨rfl, b_⟩
    replace HBX := hide (HBX.out.keep b_)
    replace HX := hide (HX.out.below b_)
    replace HBY := hide (HBY.out.keep b_)
    replace HY := hide (HY.out.below b_)
    replace HS := hide (HS.out.below b_)
    replace HBP := hide (HBP.out.keep b_)
    replace HP := hide (HP.out.below b_)
    replace HBQ := hide (HBQ.out.keep b_)
    replace HQ := hide (HQ.out.below b_)
    replace HTX := hide (HTX.out.below b_)
    replace HRX := hide (HRX.out.below b_)
    replace HT := hide (bthen HT.out b_)
    replace HROW := hide (row_keep HROW.out b_)
    clear b_
    go_upto_region 7 with fail
    have HKC := hide (HROW.out p5 HP5N.out).1
    clear HROW
    simp only [asksArr_at p5 HP5N.out] at HKC
    have HKK := hide (asksKey_size p5)
    generalize asksKey p5 = KEY at HKC HKK
    replace HKK : Hid (KEY.size ≤ 1000000) := hide (Nat.le_trans HKK.out (by decide))
    have HW6P : Hid (V.wt PV ≤ 1000000) := hide (Nat.le_trans HWP.out (by decide))
    have HW6Q : Hid (V.wt PZ ≤ 1000000) := hide (Nat.le_trans HWQ.out (by decide))
    have HW4P : Hid (V.wt PV ≤ 4294967296) := hide (Nat.le_trans HWP.out (by decide))
    have HW4Q : Hid (V.wt PZ ≤ 4294967296) := hide (Nat.le_trans HWQ.out (by decide))
    refine' wp_region_facts [(fun _ _ v _ => v = (.bool true)), (fun _ _ v _ => v = (.bool true)), (fun _ _ v _ => v = (.agg #[.int .i64 xk, .int .i64 xn, .string xt, .slice xa1 xn1 xc1, .slice xa2 xn2 xc2])), (fun _ _ v _ => v = (.agg #[.int .i64 yk, .int .i64 yn, .string yt, .slice ya1 yn1 yc1, .slice ya2 yn2 yc2])), (fun _ _ v _ => v = (.string key)), (fun _ _ v _ => v = (.bool true)), (fun _ _ v _ => v = (.bool true)), (fun _ _ v _ => v = (.bool true)), (fun _ _ v _ => v = (.agg #[.int .i64 pk, .int .i64 pn, .string pt, .slice pa1 pn1 pc1, .slice pa2 pn2 pc2])), (fun _ _ v _ => v = (.agg #[.int .i64 qk, .int .i64 qn, .string qt, .slice qa1 qn1 qc1, .slice qa2 qn2 qc2])), (fun _ _ v _ => v = (.slice (some ⟨gq + 1, 0, none⟩) 5 5)), (fun _ _ v _ => v = (.int .u8 k)), (fun _ _ v _ => v = (.int .u8 (p5 : Int))), (fun _ _ v _ => v = (.pointer (some ⟨gq + 1, p5, none⟩))), (fun _ _ v _ => v = (.string KEY)), (fun _ _ v _ => v = (.bool true)), (fun _ _ v _ => v = (.bool true)), (fun _ _ v _ => v = (.bool true)), (fun _ _ v _ => v = (.agg #[.int .i64 pk, .int .i64 pn, .string pt, .slice pa1 pn1 pc1, .slice pa2 pn2 pc2])), (fun _ _ v _ => v = (.agg #[.int .i64 xk, .int .i64 xn, .string xt, .slice xa1 xn1 xc1, .slice xa2 xn2 xc2])), (fun _ _ v _ => v = (.string key)), (fun _ _ v _ => v = (.bool true)), (fun _ _ v _ => v = (.bool true)), (fun _ _ v _ => v = (.bool true)), (fun _ _ v _ => v = (.agg #[.int .i64 yk, .int .i64 yn, .string yt, .slice ya1 yn1 yc1, .slice ya2 yn2 yc2])), (fun _ _ v _ => v = (.agg #[.int .i64 pk, .int .i64 pn, .string pt, .slice pa1 pn1 pc1, .slice pa2 pn2 pc2])), (fun _ _ v _ => v = (.slice (some ⟨gq + 1, 0, none⟩) 5 5)), (fun _ _ v _ => v = (.int .u8 k)), (fun _ _ v _ => v = (.int .u8 (p5 : Int))), (fun _ _ v _ => v = (.pointer (some ⟨gq + 1, p5, none⟩))), (fun _ _ v _ => v = (.string KEY)), (fun _ _ v _ => v = (.bool true)), (fun _ _ v _ => v = (.bool true)), (fun _ _ v _ => v = (.bool true)), (fun _ _ v _ => v = (.agg #[.int .i64 xk, .int .i64 xn, .string xt, .slice xa1 xn1 xc1, .slice xa2 xn2 xc2])), (fun _ _ v _ => v = (.agg #[.int .i64 yk, .int .i64 yn, .string yt, .slice ya1 yn1 yc1, .slice ya2 yn2 yc2])), (fun _ _ v _ => v = (.bool true)), (fun _ _ v _ => v = (.bool true)), (fun _ _ v _ => v = (.bool true)), (fun _ _ v _ => v = (.agg #[.int .i64 pk, .int .i64 pn, .string pt, .slice pa1 pn1 pc1, .slice pa2 pn2 pc2])), (fun _ _ v _ => v = (.agg #[.int .i64 qk, .int .i64 qn, .string qt, .slice qa1 qn1 qc1, .slice qa2 qn2 qc2])), (fun _ _ v _ => v = (.bool true)), (fun _ _ v _ => v = (.bool true)), (fun _ _ v _ => v = (.bool true)), (fun _ _ v _ => v = (.agg #[.int .i64 pk, .int .i64 pn, .string pt, .slice pa1 pn1 pc1, .slice pa2 pn2 pc2])), (fun _ _ v _ => v = (.agg #[.int .i64 pk, .int .i64 pn, .string pt, .slice pa1 pn1 pc1, .slice pa2 pn2 pc2])), (fun _ _ v _ => v = (.bool true)), (fun _ _ v _ => v = (.bool true))] (by kernel_rfl) rfl ?hA (by kernel_rfl) (by kernel_rfl) (by kernel_rfl) rfl ?mono ?steps ?last
    case hA =>
      intro vs
      simp only [puts, Act.put, List.setIfInBounds_toArray, List.set_cons_zero, List.set_cons_succ, Nat.zero_add, Nat.reduceAdd]
      rfl
    case mono => exact ⟨mono_eq _, mono_eq _, mono_eq _, mono_eq _, mono_eq _, mono_eq _, mono_eq _, mono_eq _, mono_eq _, mono_eq _, mono_eq _, mono_eq _, mono_eq _, mono_eq _, mono_eq _, mono_eq _, mono_eq _, mono_eq _, mono_eq _, mono_eq _, mono_eq _, mono_eq _, mono_eq _, mono_eq _, mono_eq _, mono_eq _, mono_eq _, mono_eq _, mono_eq _, mono_eq _, mono_eq _, mono_eq _, mono_eq _, mono_eq _, mono_eq _, mono_eq _, mono_eq _, mono_eq _, mono_eq _, mono_eq _, mono_eq _, mono_eq _, mono_eq _, mono_eq _, mono_eq _, mono_eq _, mono_eq _, mono_eq _, trivial⟩
    case steps =>
      intro Q'
      refine And.intro ?_ ?_
      · intro vs lo hi w' hM hd K' hK
        dsimp only at hK ⊢
        simp only [Act.put, List.setIfInBounds_toArray, List.set_cons_zero, List.set_cons_succ] at hK
        go_simp
        exact hK.out _ _ rfl (Below.refl _ _)
      refine And.intro ?_ ?_
      · intro vs lo hi w' hM hd K' hK
        dsimp only at hK ⊢
        simp only [Act.put, List.setIfInBounds_toArray, List.set_cons_zero, List.set_cons_succ] at hK
        have e0 : vs 0 = (.bool true) := hd 0 (by kernel_rfl)
        simp only [e0] at hK ⊢
        clear e0
        go_simp
        exact hK.out _ _ rfl (Below.refl _ _)
      refine And.intro ?_ ?_
      · intro vs lo hi w' hM hd K' hK
        dsimp only at hK ⊢
        simp only [Act.put, List.setIfInBounds_toArray, List.set_cons_zero, List.set_cons_succ] at hK
        have e1 : vs 1 = (.bool true) := hd 1 (by kernel_rfl)
        simp only [e1] at hK ⊢
        clear e1
        obtain ⟨y0, y1, y2, y3, y4⟩ := HBX.out.keep hM
        go_simp
        exact hK.out _ _ rfl (Below.refl _ _)
      refine And.intro ?_ ?_
      · intro vs lo hi w' hM hd K' hK
        dsimp only at hK ⊢
        simp only [Act.put, List.setIfInBounds_toArray, List.set_cons_zero, List.set_cons_succ] at hK
        have e1 : vs 1 = (.bool true) := hd 1 (by kernel_rfl)
        simp only [e1] at hK ⊢
        clear e1
        obtain ⟨y0, y1, y2, y3, y4⟩ := HBY.out.keep hM
        go_simp
        exact hK.out _ _ rfl (Below.refl _ _)
      refine And.intro ?_ ?_
      · intro vs lo hi w' hM hd K' hK
        dsimp only at hK ⊢
        simp only [Act.put, List.setIfInBounds_toArray, List.set_cons_zero, List.set_cons_succ] at hK
        have e1 : vs 1 = (.bool true) := hd 1 (by kernel_rfl)
        simp only [e1] at hK ⊢
        clear e1
        go_simp
        exact hK.out _ _ rfl (Below.refl _ _)
      refine And.intro ?_ ?_
      · intro vs lo hi w' hM hd K' hK
        dsimp only at hK ⊢
        simp only [Act.put, List.setIfInBounds_toArray, List.set_cons_zero, List.set_cons_succ] at hK
        have e2 : vs 2 = (.agg #[.int .i64 xk, .int .i64 xn, .string xt, .slice xa1 xn1 xc1, .slice xa2 xn2 xc2]) := hd 2 (by kernel_rfl)
        have e3 : vs 3 = (.agg #[.int .i64 yk, .int .i64 yn, .string yt, .slice ya1 yn1 yc1, .slice ya2 yn2 yc2]) := hd 3 (by kernel_rfl)
        have e4 : vs 4 = (.string key) := hd 4 (by kernel_rfl)
        have e1 : vs 1 = (.bool true) := hd 1 (by kernel_rfl)
        simp only [e2, e3, e4, e1] at hK ⊢
        clear e2 e3 e4 e1
        go_simp
        refine (asks_any (HX.out.below hM) (HY.out.below hM) HW6X.out HW6Y.out key HKL.out).mono ?_
        rintro e w7 ⟨rfl, b7⟩
        exact hK.out _ _ rfl b7
      refine And.intro ?_ ?_
      · intro vs lo hi w' hM hd K' hK
        dsimp only at hK ⊢
        simp only [Act.put, List.setIfInBounds_toArray, List.set_cons_zero, List.set_cons_succ] at hK
        have e1 : vs 1 = (.bool true) := hd 1 (by kernel_rfl)
        have e5 : vs 5 = (.bool true) := hd 5 (by kernel_rfl)
        simp only [e1, e5] at hK ⊢
        clear e1 e5
        go_simp
        exact hK.out _ _ rfl (Below.refl _ _)
      refine And.intro ?_ ?_
      · intro vs lo hi w' hM hd K' hK
        dsimp only at hK ⊢
        simp only [Act.put, List.setIfInBounds_toArray, List.set_cons_zero, List.set_cons_succ] at hK
        have e6 : vs 6 = (.bool true) := hd 6 (by kernel_rfl)
        simp only [e6] at hK ⊢
        clear e6
        go_simp
        exact hK.out _ _ rfl (Below.refl _ _)
      refine And.intro ?_ ?_
      · intro vs lo hi w' hM hd K' hK
        dsimp only at hK ⊢
        simp only [Act.put, List.setIfInBounds_toArray, List.set_cons_zero, List.set_cons_succ] at hK
        have e7 : vs 7 = (.bool true) := hd 7 (by kernel_rfl)
        simp only [e7] at hK ⊢
        clear e7
        obtain ⟨y0, y1, y2, y3, y4⟩ := HBP.out.keep hM
        go_simp
        exact hK.out _ _ rfl (Below.refl _ _)
      refine And.intro ?_ ?_
      · intro vs lo hi w' hM hd K' hK
        dsimp only at hK ⊢
        simp only [Act.put, List.setIfInBounds_toArray, List.set_cons_zero, List.set_cons_succ] at hK
        have e7 : vs 7 = (.bool true) := hd 7 (by kernel_rfl)
        simp only [e7] at hK ⊢
        clear e7
        obtain ⟨y0, y1, y2, y3, y4⟩ := HBQ.out.keep hM
        go_simp
        exact hK.out _ _ rfl (Below.refl _ _)
      refine And.intro ?_ ?_
      · intro vs lo hi w' hM hd K' hK
        dsimp only at hK ⊢
        simp only [Act.put, List.setIfInBounds_toArray, List.set_cons_zero, List.set_cons_succ] at hK
        have e7 : vs 7 = (.bool true) := hd 7 (by kernel_rfl)
        simp only [e7] at hK ⊢
        clear e7
        go_simp
        exact hK.out _ _ rfl (Below.refl _ _)
      refine And.intro ?_ ?_
      · intro vs lo hi w' hM hd K' hK
        dsimp only at hK ⊢
        simp only [Act.put, List.setIfInBounds_toArray, List.set_cons_zero, List.set_cons_succ] at hK
        have e7 : vs 7 = (.bool true) := hd 7 (by kernel_rfl)
        simp only [e7] at hK ⊢
        clear e7
        go_simp
        exact hK.out _ _ rfl (Below.refl _ _)
      refine And.intro ?_ ?_
      · intro vs lo hi w' hM hd K' hK
        dsimp only at hK ⊢
        simp only [Act.put, List.setIfInBounds_toArray, List.set_cons_zero, List.set_cons_succ] at hK
        have e11 : vs 11 = (.int .u8 k) := hd 11 (by kernel_rfl)
        have e7 : vs 7 = (.bool true) := hd 7 (by kernel_rfl)
        simp only [e11, e7] at hK ⊢
        clear e11 e7
        have hq := HK5.out
        have hq2 := HK5T.out
        go_simp
        exact hK.out _ _ rfl (Below.refl _ _)
      refine And.intro ?_ ?_
      · intro vs lo hi w' hM hd K' hK
        dsimp only at hK ⊢
        simp only [Act.put, List.setIfInBounds_toArray, List.set_cons_zero, List.set_cons_succ] at hK
        have e10 : vs 10 = (.slice (some ⟨gq + 1, 0, none⟩) 5 5) := hd 10 (by kernel_rfl)
        have e12 : vs 12 = (.int .u8 (p5 : Int)) := hd 12 (by kernel_rfl)
        have e7 : vs 7 = (.bool true) := hd 7 (by kernel_rfl)
        simp only [e10, e12, e7] at hK ⊢
        clear e10 e12 e7
        have hq1 := HP0.out
        have hq2 := HP5.out
        go_simp
        exact hK.out _ _ rfl (Below.refl _ _)
      refine And.intro ?_ ?_
      · intro vs lo hi w' hM hd K' hK
        dsimp only at hK ⊢
        simp only [Act.put, List.setIfInBounds_toArray, List.set_cons_zero, List.set_cons_succ] at hK
        have e13 : vs 13 = (.pointer (some ⟨gq + 1, p5, none⟩)) := hd 13 (by kernel_rfl)
        have e7 : vs 7 = (.bool true) := hd 7 (by kernel_rfl)
        simp only [e13, e7] at hK ⊢
        clear e13 e7
        have q0 := cell_keep HKC.out hM
        go_simp
        exact hK.out _ _ rfl (Below.refl _ _)
      refine And.intro ?_ ?_
      · intro vs lo hi w' hM hd K' hK
        dsimp only at hK ⊢
        simp only [Act.put, List.setIfInBounds_toArray, List.set_cons_zero, List.set_cons_succ] at hK
        have e8 : vs 8 = (.agg #[.int .i64 pk, .int .i64 pn, .string pt, .slice pa1 pn1 pc1, .slice pa2 pn2 pc2]) := hd 8 (by kernel_rfl)
        have e9 : vs 9 = (.agg #[.int .i64 qk, .int .i64 qn, .string qt, .slice qa1 qn1 qc1, .slice qa2 qn2 qc2]) := hd 9 (by kernel_rfl)
        have e14 : vs 14 = (.string KEY) := hd 14 (by kernel_rfl)
        have e7 : vs 7 = (.bool true) := hd 7 (by kernel_rfl)
        simp only [e8, e9, e14, e7] at hK ⊢
        clear e8 e9 e14 e7
        go_simp
        refine (asks_any (HP.out.below hM) (HQ.out.below hM) HW6P.out HW6Q.out KEY HKK.out).mono ?_
        rintro e w7 ⟨rfl, b7⟩
        exact hK.out _ _ rfl b7
      refine And.intro ?_ ?_
      · intro vs lo hi w' hM hd K' hK
        dsimp only at hK ⊢
        simp only [Act.put, List.setIfInBounds_toArray, List.set_cons_zero, List.set_cons_succ] at hK
        have e7 : vs 7 = (.bool true) := hd 7 (by kernel_rfl)
        have e15 : vs 15 = (.bool true) := hd 15 (by kernel_rfl)
        simp only [e7, e15] at hK ⊢
        clear e7 e15
        go_simp
        exact hK.out _ _ rfl (Below.refl _ _)
      refine And.intro ?_ ?_
      · intro vs lo hi w' hM hd K' hK
        dsimp only at hK ⊢
        simp only [Act.put, List.setIfInBounds_toArray, List.set_cons_zero, List.set_cons_succ] at hK
        have e16 : vs 16 = (.bool true) := hd 16 (by kernel_rfl)
        simp only [e16] at hK ⊢
        clear e16
        go_simp
        exact hK.out _ _ rfl (Below.refl _ _)
      refine And.intro ?_ ?_
      · intro vs lo hi w' hM hd K' hK
        dsimp only at hK ⊢
        simp only [Act.put, List.setIfInBounds_toArray, List.set_cons_zero, List.set_cons_succ] at hK
        have e17 : vs 17 = (.bool true) := hd 17 (by kernel_rfl)
        simp only [e17] at hK ⊢
        clear e17
        obtain ⟨y0, y1, y2, y3, y4⟩ := HBP.out.keep hM
        go_simp
        exact hK.out _ _ rfl (Below.refl _ _)
      refine And.intro ?_ ?_
      · intro vs lo hi w' hM hd K' hK
        dsimp only at hK ⊢
        simp only [Act.put, List.setIfInBounds_toArray, List.set_cons_zero, List.set_cons_succ] at hK
        have e17 : vs 17 = (.bool true) := hd 17 (by kernel_rfl)
        simp only [e17] at hK ⊢
        clear e17
        obtain ⟨y0, y1, y2, y3, y4⟩ := HBX.out.keep hM
        go_simp
        exact hK.out _ _ rfl (Below.refl _ _)
      refine And.intro ?_ ?_
      · intro vs lo hi w' hM hd K' hK
        dsimp only at hK ⊢
        simp only [Act.put, List.setIfInBounds_toArray, List.set_cons_zero, List.set_cons_succ] at hK
        have e17 : vs 17 = (.bool true) := hd 17 (by kernel_rfl)
        simp only [e17] at hK ⊢
        clear e17
        go_simp
        exact hK.out _ _ rfl (Below.refl _ _)
      refine And.intro ?_ ?_
      · intro vs lo hi w' hM hd K' hK
        dsimp only at hK ⊢
        simp only [Act.put, List.setIfInBounds_toArray, List.set_cons_zero, List.set_cons_succ] at hK
        have e18 : vs 18 = (.agg #[.int .i64 pk, .int .i64 pn, .string pt, .slice pa1 pn1 pc1, .slice pa2 pn2 pc2]) := hd 18 (by kernel_rfl)
        have e19 : vs 19 = (.agg #[.int .i64 xk, .int .i64 xn, .string xt, .slice xa1 xn1 xc1, .slice xa2 xn2 xc2]) := hd 19 (by kernel_rfl)
        have e20 : vs 20 = (.string key) := hd 20 (by kernel_rfl)
        have e17 : vs 17 = (.bool true) := hd 17 (by kernel_rfl)
        simp only [e18, e19, e20, e17] at hK ⊢
        clear e18 e19 e20 e17
        go_simp
        refine (asks_any (HP.out.below hM) (HX.out.below hM) HW6P.out HW6X.out key HKL.out).mono ?_
        rintro e w7 ⟨rfl, b7⟩
        exact hK.out _ _ rfl b7
      refine And.intro ?_ ?_
      · intro vs lo hi w' hM hd K' hK
        dsimp only at hK ⊢
        simp only [Act.put, List.setIfInBounds_toArray, List.set_cons_zero, List.set_cons_succ] at hK
        have e17 : vs 17 = (.bool true) := hd 17 (by kernel_rfl)
        have e21 : vs 21 = (.bool true) := hd 21 (by kernel_rfl)
        simp only [e17, e21] at hK ⊢
        clear e17 e21
        go_simp
        exact hK.out _ _ rfl (Below.refl _ _)
      refine And.intro ?_ ?_
      · intro vs lo hi w' hM hd K' hK
        dsimp only at hK ⊢
        simp only [Act.put, List.setIfInBounds_toArray, List.set_cons_zero, List.set_cons_succ] at hK
        have e22 : vs 22 = (.bool true) := hd 22 (by kernel_rfl)
        simp only [e22] at hK ⊢
        clear e22
        go_simp
        exact hK.out _ _ rfl (Below.refl _ _)
      refine And.intro ?_ ?_
      · intro vs lo hi w' hM hd K' hK
        dsimp only at hK ⊢
        simp only [Act.put, List.setIfInBounds_toArray, List.set_cons_zero, List.set_cons_succ] at hK
        have e23 : vs 23 = (.bool true) := hd 23 (by kernel_rfl)
        simp only [e23] at hK ⊢
        clear e23
        obtain ⟨y0, y1, y2, y3, y4⟩ := HBY.out.keep hM
        go_simp
        exact hK.out _ _ rfl (Below.refl _ _)
      refine And.intro ?_ ?_
      · intro vs lo hi w' hM hd K' hK
        dsimp only at hK ⊢
        simp only [Act.put, List.setIfInBounds_toArray, List.set_cons_zero, List.set_cons_succ] at hK
        have e23 : vs 23 = (.bool true) := hd 23 (by kernel_rfl)
        simp only [e23] at hK ⊢
        clear e23
        obtain ⟨y0, y1, y2, y3, y4⟩ := HBP.out.keep hM
        go_simp
        exact hK.out _ _ rfl (Below.refl _ _)
      refine And.intro ?_ ?_
      · intro vs lo hi w' hM hd K' hK
        dsimp only at hK ⊢
        simp only [Act.put, List.setIfInBounds_toArray, List.set_cons_zero, List.set_cons_succ] at hK
        have e23 : vs 23 = (.bool true) := hd 23 (by kernel_rfl)
        simp only [e23] at hK ⊢
        clear e23
        go_simp
        exact hK.out _ _ rfl (Below.refl _ _)
      refine And.intro ?_ ?_
      · intro vs lo hi w' hM hd K' hK
        dsimp only at hK ⊢
        simp only [Act.put, List.setIfInBounds_toArray, List.set_cons_zero, List.set_cons_succ] at hK
        have e23 : vs 23 = (.bool true) := hd 23 (by kernel_rfl)
        simp only [e23] at hK ⊢
        clear e23
        go_simp
        exact hK.out _ _ rfl (Below.refl _ _)
      refine And.intro ?_ ?_
      · intro vs lo hi w' hM hd K' hK
        dsimp only at hK ⊢
        simp only [Act.put, List.setIfInBounds_toArray, List.set_cons_zero, List.set_cons_succ] at hK
        have e27 : vs 27 = (.int .u8 k) := hd 27 (by kernel_rfl)
        have e23 : vs 23 = (.bool true) := hd 23 (by kernel_rfl)
        simp only [e27, e23] at hK ⊢
        clear e27 e23
        have hq := HK5.out
        have hq2 := HK5T.out
        go_simp
        exact hK.out _ _ rfl (Below.refl _ _)
      refine And.intro ?_ ?_
      · intro vs lo hi w' hM hd K' hK
        dsimp only at hK ⊢
        simp only [Act.put, List.setIfInBounds_toArray, List.set_cons_zero, List.set_cons_succ] at hK
        have e26 : vs 26 = (.slice (some ⟨gq + 1, 0, none⟩) 5 5) := hd 26 (by kernel_rfl)
        have e28 : vs 28 = (.int .u8 (p5 : Int)) := hd 28 (by kernel_rfl)
        have e23 : vs 23 = (.bool true) := hd 23 (by kernel_rfl)
        simp only [e26, e28, e23] at hK ⊢
        clear e26 e28 e23
        have hq1 := HP0.out
        have hq2 := HP5.out
        go_simp
        exact hK.out _ _ rfl (Below.refl _ _)
      refine And.intro ?_ ?_
      · intro vs lo hi w' hM hd K' hK
        dsimp only at hK ⊢
        simp only [Act.put, List.setIfInBounds_toArray, List.set_cons_zero, List.set_cons_succ] at hK
        have e29 : vs 29 = (.pointer (some ⟨gq + 1, p5, none⟩)) := hd 29 (by kernel_rfl)
        have e23 : vs 23 = (.bool true) := hd 23 (by kernel_rfl)
        simp only [e29, e23] at hK ⊢
        clear e29 e23
        have q0 := cell_keep HKC.out hM
        go_simp
        exact hK.out _ _ rfl (Below.refl _ _)
      refine And.intro ?_ ?_
      · intro vs lo hi w' hM hd K' hK
        dsimp only at hK ⊢
        simp only [Act.put, List.setIfInBounds_toArray, List.set_cons_zero, List.set_cons_succ] at hK
        have e24 : vs 24 = (.agg #[.int .i64 yk, .int .i64 yn, .string yt, .slice ya1 yn1 yc1, .slice ya2 yn2 yc2]) := hd 24 (by kernel_rfl)
        have e25 : vs 25 = (.agg #[.int .i64 pk, .int .i64 pn, .string pt, .slice pa1 pn1 pc1, .slice pa2 pn2 pc2]) := hd 25 (by kernel_rfl)
        have e30 : vs 30 = (.string KEY) := hd 30 (by kernel_rfl)
        have e23 : vs 23 = (.bool true) := hd 23 (by kernel_rfl)
        simp only [e24, e25, e30, e23] at hK ⊢
        clear e24 e25 e30 e23
        go_simp
        refine (asks_any (HY.out.below hM) (HP.out.below hM) HW6Y.out HW6P.out KEY HKK.out).mono ?_
        rintro e w7 ⟨rfl, b7⟩
        exact hK.out _ _ rfl b7
      refine And.intro ?_ ?_
      · intro vs lo hi w' hM hd K' hK
        dsimp only at hK ⊢
        simp only [Act.put, List.setIfInBounds_toArray, List.set_cons_zero, List.set_cons_succ] at hK
        have e23 : vs 23 = (.bool true) := hd 23 (by kernel_rfl)
        have e31 : vs 31 = (.bool true) := hd 31 (by kernel_rfl)
        simp only [e23, e31] at hK ⊢
        clear e23 e31
        go_simp
        exact hK.out _ _ rfl (Below.refl _ _)
      refine And.intro ?_ ?_
      · intro vs lo hi w' hM hd K' hK
        dsimp only at hK ⊢
        simp only [Act.put, List.setIfInBounds_toArray, List.set_cons_zero, List.set_cons_succ] at hK
        have e32 : vs 32 = (.bool true) := hd 32 (by kernel_rfl)
        simp only [e32] at hK ⊢
        clear e32
        go_simp
        exact hK.out _ _ rfl (Below.refl _ _)
      refine And.intro ?_ ?_
      · intro vs lo hi w' hM hd K' hK
        dsimp only at hK ⊢
        simp only [Act.put, List.setIfInBounds_toArray, List.set_cons_zero, List.set_cons_succ] at hK
        have e33 : vs 33 = (.bool true) := hd 33 (by kernel_rfl)
        simp only [e33] at hK ⊢
        clear e33
        obtain ⟨y0, y1, y2, y3, y4⟩ := HBX.out.keep hM
        go_simp
        exact hK.out _ _ rfl (Below.refl _ _)
      refine And.intro ?_ ?_
      · intro vs lo hi w' hM hd K' hK
        dsimp only at hK ⊢
        simp only [Act.put, List.setIfInBounds_toArray, List.set_cons_zero, List.set_cons_succ] at hK
        have e33 : vs 33 = (.bool true) := hd 33 (by kernel_rfl)
        simp only [e33] at hK ⊢
        clear e33
        obtain ⟨y0, y1, y2, y3, y4⟩ := HBY.out.keep hM
        go_simp
        exact hK.out _ _ rfl (Below.refl _ _)
      refine And.intro ?_ ?_
      · intro vs lo hi w' hM hd K' hK
        dsimp only at hK ⊢
        simp only [Act.put, List.setIfInBounds_toArray, List.set_cons_zero, List.set_cons_succ] at hK
        have e34 : vs 34 = (.agg #[.int .i64 xk, .int .i64 xn, .string xt, .slice xa1 xn1 xc1, .slice xa2 xn2 xc2]) := hd 34 (by kernel_rfl)
        have e35 : vs 35 = (.agg #[.int .i64 yk, .int .i64 yn, .string yt, .slice ya1 yn1 yc1, .slice ya2 yn2 yc2]) := hd 35 (by kernel_rfl)
        have e33 : vs 33 = (.bool true) := hd 33 (by kernel_rfl)
        simp only [e34, e35, e33] at hK ⊢
        clear e34 e35 e33
        go_simp
        refine (sameLaw_any (HX.out.below hM) (HY.out.below hM) HW4X.out HW4Y.out).mono ?_
        rintro e w7 ⟨rfl, b7⟩
        exact hK.out _ _ rfl b7
      refine And.intro ?_ ?_
      · intro vs lo hi w' hM hd K' hK
        dsimp only at hK ⊢
        simp only [Act.put, List.setIfInBounds_toArray, List.set_cons_zero, List.set_cons_succ] at hK
        have e33 : vs 33 = (.bool true) := hd 33 (by kernel_rfl)
        have e36 : vs 36 = (.bool true) := hd 36 (by kernel_rfl)
        simp only [e33, e36] at hK ⊢
        clear e33 e36
        go_simp
        exact hK.out _ _ rfl (Below.refl _ _)
      refine And.intro ?_ ?_
      · intro vs lo hi w' hM hd K' hK
        dsimp only at hK ⊢
        simp only [Act.put, List.setIfInBounds_toArray, List.set_cons_zero, List.set_cons_succ] at hK
        have e37 : vs 37 = (.bool true) := hd 37 (by kernel_rfl)
        simp only [e37] at hK ⊢
        clear e37
        go_simp
        exact hK.out _ _ rfl (Below.refl _ _)
      refine And.intro ?_ ?_
      · intro vs lo hi w' hM hd K' hK
        dsimp only at hK ⊢
        simp only [Act.put, List.setIfInBounds_toArray, List.set_cons_zero, List.set_cons_succ] at hK
        have e38 : vs 38 = (.bool true) := hd 38 (by kernel_rfl)
        simp only [e38] at hK ⊢
        clear e38
        obtain ⟨y0, y1, y2, y3, y4⟩ := HBP.out.keep hM
        go_simp
        exact hK.out _ _ rfl (Below.refl _ _)
      refine And.intro ?_ ?_
      · intro vs lo hi w' hM hd K' hK
        dsimp only at hK ⊢
        simp only [Act.put, List.setIfInBounds_toArray, List.set_cons_zero, List.set_cons_succ] at hK
        have e38 : vs 38 = (.bool true) := hd 38 (by kernel_rfl)
        simp only [e38] at hK ⊢
        clear e38
        obtain ⟨y0, y1, y2, y3, y4⟩ := HBQ.out.keep hM
        go_simp
        exact hK.out _ _ rfl (Below.refl _ _)
      refine And.intro ?_ ?_
      · intro vs lo hi w' hM hd K' hK
        dsimp only at hK ⊢
        simp only [Act.put, List.setIfInBounds_toArray, List.set_cons_zero, List.set_cons_succ] at hK
        have e39 : vs 39 = (.agg #[.int .i64 pk, .int .i64 pn, .string pt, .slice pa1 pn1 pc1, .slice pa2 pn2 pc2]) := hd 39 (by kernel_rfl)
        have e40 : vs 40 = (.agg #[.int .i64 qk, .int .i64 qn, .string qt, .slice qa1 qn1 qc1, .slice qa2 qn2 qc2]) := hd 40 (by kernel_rfl)
        have e38 : vs 38 = (.bool true) := hd 38 (by kernel_rfl)
        simp only [e39, e40, e38] at hK ⊢
        clear e39 e40 e38
        go_simp
        refine (sameLaw_any (HP.out.below hM) (HQ.out.below hM) HW4P.out HW4Q.out).mono ?_
        rintro e w7 ⟨rfl, b7⟩
        exact hK.out _ _ rfl b7
      refine And.intro ?_ ?_
      · intro vs lo hi w' hM hd K' hK
        dsimp only at hK ⊢
        simp only [Act.put, List.setIfInBounds_toArray, List.set_cons_zero, List.set_cons_succ] at hK
        have e38 : vs 38 = (.bool true) := hd 38 (by kernel_rfl)
        have e41 : vs 41 = (.bool true) := hd 41 (by kernel_rfl)
        simp only [e38, e41] at hK ⊢
        clear e38 e41
        go_simp
        exact hK.out _ _ rfl (Below.refl _ _)
      refine And.intro ?_ ?_
      · intro vs lo hi w' hM hd K' hK
        dsimp only at hK ⊢
        simp only [Act.put, List.setIfInBounds_toArray, List.set_cons_zero, List.set_cons_succ] at hK
        have e42 : vs 42 = (.bool true) := hd 42 (by kernel_rfl)
        simp only [e42] at hK ⊢
        clear e42
        go_simp
        exact hK.out _ _ rfl (Below.refl _ _)
      refine And.intro ?_ ?_
      · intro vs lo hi w' hM hd K' hK
        dsimp only at hK ⊢
        simp only [Act.put, List.setIfInBounds_toArray, List.set_cons_zero, List.set_cons_succ] at hK
        have e43 : vs 43 = (.bool true) := hd 43 (by kernel_rfl)
        simp only [e43] at hK ⊢
        clear e43
        obtain ⟨y0, y1, y2, y3, y4⟩ := HBP.out.keep hM
        go_simp
        exact hK.out _ _ rfl (Below.refl _ _)
      refine And.intro ?_ ?_
      · intro vs lo hi w' hM hd K' hK
        dsimp only at hK ⊢
        simp only [Act.put, List.setIfInBounds_toArray, List.set_cons_zero, List.set_cons_succ] at hK
        have e43 : vs 43 = (.bool true) := hd 43 (by kernel_rfl)
        simp only [e43] at hK ⊢
        clear e43
        obtain ⟨y0, y1, y2, y3, y4⟩ := HBP.out.keep hM
        go_simp
        exact hK.out _ _ rfl (Below.refl _ _)
      refine And.intro ?_ ?_
      · intro vs lo hi w' hM hd K' hK
        dsimp only at hK ⊢
        simp only [Act.put, List.setIfInBounds_toArray, List.set_cons_zero, List.set_cons_succ] at hK
        have e44 : vs 44 = (.agg #[.int .i64 pk, .int .i64 pn, .string pt, .slice pa1 pn1 pc1, .slice pa2 pn2 pc2]) := hd 44 (by kernel_rfl)
        have e45 : vs 45 = (.agg #[.int .i64 pk, .int .i64 pn, .string pt, .slice pa1 pn1 pc1, .slice pa2 pn2 pc2]) := hd 45 (by kernel_rfl)
        have e43 : vs 43 = (.bool true) := hd 43 (by kernel_rfl)
        simp only [e44, e45, e43] at hK ⊢
        clear e44 e45 e43
        go_simp
        refine (sameLaw_any (HP.out.below hM) (HP.out.below hM) HW4P.out HW4P.out).mono ?_
        rintro e w7 ⟨rfl, b7⟩
        exact hK.out _ _ rfl b7
      refine And.intro ?_ ?_
      · intro vs lo hi w' hM hd K' hK
        dsimp only at hK ⊢
        simp only [Act.put, List.setIfInBounds_toArray, List.set_cons_zero, List.set_cons_succ] at hK
        have e43 : vs 43 = (.bool true) := hd 43 (by kernel_rfl)
        have e46 : vs 46 = (.bool true) := hd 46 (by kernel_rfl)
        simp only [e43, e46] at hK ⊢
        clear e43 e46
        go_simp
        exact hK.out _ _ rfl (Below.refl _ _)
      exact trivial
    case last =>
      intro vs lo hi w' hM hlo hap hall K' Q' hK
      have hz : vs 47 = .bool true := hall.2.2.2.2.2.2.2.2.2.2.2.2.2.2.2.2.2.2.2.2.2.2.2.2.2.2.2.2.2.2.2.2.2.2.2.2.2.2.2.2.2.2.2.2.2.2.2.1
      dsimp only
      simp only [hz]
      clear hz hall hap hlo
      go_simp
      refine hK.out _ _ ?_
      clear hK
      go_wp2_with fail
      go_ret
      exact ⟨rfl, bthen HT.out hM⟩

end Go.Proofs.Yteijnkdfacndoaa
