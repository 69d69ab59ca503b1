/-
  What ValueAsks calls: left, Weight, same, asks.
-/
import Derived.Test.YteijnkdfacndoaaRefVB
import Derived.Test.YteijnkdfacndoaaWRight
import Derived.Test.YteijnkdfacndoaaVWithD
import Derived.Test.YteijnkdfacndoaaVWithE
import Derived.Test.YteijnkdfacndoaaVWalksB
import Derived.Deep.DeepCutAuto
import Derived.Deep.CutBlock
set_option linter.unusedVariables false
set_option linter.unusedSimpArgs false
namespace Go.Proofs.Yteijnkdfacndoaa
open Go.RowKit

/-- a value that was given, wherever it lies -/
def WithT (x : V) : Fact := fun _ _ v w => ∃ k n t a1 n1 c1 a2 n2 c2, v = .agg #[.int .i64 k, .int .i64 n, .string t, .slice a1 n1 c1, .slice a2 n2 c2] ∧ Hid (Is w (fun _ => True) (.agg #[.int .i64 k, .int .i64 n, .string t, .slice a1 n1 c1, .slice a2 n2 c2]) x)
theorem mono_withT (x : V) : Mono (WithT x) := by
  rintro lo hi v w w' ⟨k, n, t, a1, n1, c1, a2, n2, c2, rfl, h⟩ b
  exact ⟨k, n, t, a1, n1, c1, a2, n2, c2, rfl, h.out.below b⟩
theorem withT_fact {lo hi : Nat} {w : World} {S : Nat → Prop} {k n : Int} {t : ByteArray} {a1 : Option Addr} {n1 c1 : Nat} {a2 : Option Addr} {n2 c2 : Nat} {x : V} (h : Is w S (.agg #[.int .i64 k, .int .i64 n, .string t, .slice a1 n1 c1, .slice a2 n2 c2]) x) :
    WithT x lo hi (.agg #[.int .i64 k, .int .i64 n, .string t, .slice a1 n1 c1, .slice a2 n2 c2]) w :=
  ⟨k, n, t, a1, n1, c1, a2, n2, c2, rfl, h.weak (fun _ _ _ => trivial)⟩

/-- Get, either way -/
theorem getV_all {v : Value} {x : V} {w : World} {S : Nat → Prop} (h : Is w S v x) (key : ByteArray) (hwt : V.wt x ≤ 4294967296) :
    Calls Try.prog 26 #[v, .string key] w fun e w' => ∃ k n t a1 n1 c1 a2 n2 c2 is, e = .returned (.tuple #[.agg #[.int .i64 k, .int .i64 n, .string t, .slice a1 n1 c1, .slice a2 n2 c2], .bool is]) ∧ is = (V.get x key).isSome ∧ Is w' (fun _ => True) (.agg #[.int .i64 k, .int .i64 n, .string t, .slice a1 n1 c1, .slice a2 n2 c2]) ((V.get x key).getD V.nul) ∧ Below w.heap.size w w' := by
  by_cases hp : V.place x key < 0
  · refine (get_none h key hp).mono ?_
    rintro e w' ⟨rfl, b⟩
    have e1 : V.get x key = none := by rw [V.get_eq', if_pos hp]
    refine ⟨_, _, _, _, _, _, _, _, _, _, rfl, by rw [e1]; rfl, ?_, b⟩
    rw [e1]
    exact is_plain w' _ 0 0 ⟨#[]⟩ (by decide)
  · have hpl := (V.place_lt x key (by omega)).2
    have hpl2 : (V.place x key).toNat < x.list.length := by omega
    refine (get_some h key (V.place x key).toNat (by omega) hpl2 hwt).mono ?_
    rintro e w' ⟨k, n, t, a1, n1, c1, a2, n2, c2, rfl, his, b⟩
    have e1 : V.get x key = some x.list[(V.place x key).toNat] := by rw [V.get_eq', if_neg hp, List.getElem?_eq_getElem hpl2]
    exact ⟨k, n, t, a1, n1, c1, a2, n2, c2, true, rfl, by rw [e1]; rfl, by rw [e1]; exact his.weak (fun _ _ _ => trivial), b⟩
theorem V.wt_get_le (x : V) (key : ByteArray) : V.wt ((V.get x key).getD V.nul) ≤ V.wt x + 1 := by
  have hn : V.wt V.nul = 1 := by unfold V.nul; rw [V.wt_mk]; rfl
  rw [V.get_eq']
  split
  · simp [hn]
  · cases h : x.list[(V.place x key).toNat]? with
    | none => simp [hn]
    | some y =>
      obtain ⟨h1, h2⟩ := List.getElem?_eq_some_iff.1 h
      have := V.wt_get x _ h1
      rw [h2] at this
      simp
      omega

set_option maxHeartbeats 2000000 in
set_option maxRecDepth 100000 in
theorem sameLaw_any {va vb : Value} {x y : V} {w : World} {S S' : Nat → Prop} (h : Is w S va x) (h' : Is w S' vb y) (hwx : V.wt x ≤ 4294967296) (hwy : V.wt y ≤ 4294967296) :
    Calls Try.prog 23 #[va, vb] w fun e w' => e = .returned (.bool true) ∧ Below w.heap.size w w' := by
  obtain ⟨q, hq⟩ : ∃ q : Bool, q = true ↔ x = y := by
    by_cases h : x = y
    · exact ⟨true, ⟨fun _ => h, fun _ => rfl⟩⟩
    · exact ⟨false, ⟨fun h' => absurd h' (by decide), fun h' => absurd h' h⟩⟩
  obtain ⟨kv, lv, rfl, h2, h8, _⟩ := id h.open
  obtain ⟨xa1, xc1, rfl, _⟩ := id h2
  obtain ⟨xa2, xc2, _, rfl, _⟩ := id h8
  obtain ⟨kv', lv', rfl, h2', h8', _⟩ := id h'.open
  obtain ⟨ya1, yc1, rfl, _⟩ := id h2'
  obtain ⟨ya2, yc2, _, rfl, _⟩ := id h8'
  have HQ := hide hq
  have HWX := hide hwx
  have HWY := hide hwy
  clear hq hwx hwy h2 h8 h2' h8'
  have HX := hide h
  have HY := hide h'
  clear h h'
  obtain ⟨xk, hxk⟩ : ∃ k, k = x.kind := ⟨_, rfl⟩
  obtain ⟨xn, hxn⟩ : ∃ k, k = x.num := ⟨_, rfl⟩
  obtain ⟨xt, hxt⟩ : ∃ k, k = x.text := ⟨_, rfl⟩
  obtain ⟨xn1, hxn1⟩ : ∃ k, k = x.keys.length := ⟨_, rfl⟩
  obtain ⟨xn2, hxn2⟩ : ∃ k, k = x.list.length := ⟨_, rfl⟩
  obtain ⟨yk, hyk⟩ : ∃ k, k = y.kind := ⟨_, rfl⟩
  obtain ⟨yn, hyn⟩ : ∃ k, k = y.num := ⟨_, rfl⟩
  obtain ⟨yt, hyt⟩ : ∃ k, k = y.text := ⟨_, rfl⟩
  obtain ⟨yn1, hyn1⟩ : ∃ k, k = y.keys.length := ⟨_, rfl⟩
  obtain ⟨yn2, hyn2⟩ : ∃ k, k = y.list.length := ⟨_, rfl⟩
  rw [← hxk, ← hxn, ← hxt, ← hxn1, ← hxn2] at HX ⊢
  rw [← hyk, ← hyn, ← hyt, ← hyn1, ← hyn2] at HY ⊢
  clear hxk hxn hxt hxn1 hxn2 hyk hyn hyt hyn1 hyn2
  have HB0 : Hid (Below w.heap.size w ((w.alloc (.cells #[.int .i64 xk, .int .i64 xn, .string xt, .slice xa1 xn1 xc1, .slice xa2 xn2 xc2] 25)).alloc (.cells #[.int .i64 yk, .int .i64 yn, .string yt, .slice ya1 yn1 yc1, .slice ya2 yn2 yc2] 25))) := hide (bthen (below_alloc _ _) (below_alloc _ _))
  have HBX : Hid (Box5 ((w.alloc (.cells #[.int .i64 xk, .int .i64 xn, .string xt, .slice xa1 xn1 xc1, .slice xa2 xn2 xc2] 25)).alloc (.cells #[.int .i64 yk, .int .i64 yn, .string yt, .slice ya1 yn1 yc1, .slice ya2 yn2 yc2] 25)) w.heap.size (.int .i64 xk) (.int .i64 xn) (.string xt) (.slice xa1 xn1 xc1) (.slice xa2 xn2 xc2)) := hide ((box5_new w _ _ _ _ _ 25).keep (below_alloc _ _))
  have HBY : Hid (Box5 ((w.alloc (.cells #[.int .i64 xk, .int .i64 xn, .string xt, .slice xa1 xn1 xc1, .slice xa2 xn2 xc2] 25)).alloc (.cells #[.int .i64 yk, .int .i64 yn, .string yt, .slice ya1 yn1 yc1, .slice ya2 yn2 yc2] 25)) (w.heap.size + 1) (.int .i64 yk) (.int .i64 yn) (.string yt) (.slice ya1 yn1 yc1) (.slice ya2 yn2 yc2)) := hide (box5_at _ _ _ _ _ _ 25 _ (by simp))
  replace HX := hide (HX.out.below HB0.out)
  replace HY := hide (HY.out.below HB0.out)
  go_enter Try.func23, Try.ntmps23
  go_upto_region 1 with fail
  generalize ((w.alloc (.cells #[.int .i64 xk, .int .i64 xn, .string xt, .slice xa1 xn1 xc1, .slice xa2 xn2 xc2] 25)).alloc (.cells #[.int .i64 yk, .int .i64 yn, .string yt, .slice ya1 yn1 yc1, .slice ya2 yn2 yc2] 25)) = wz at HB0 HBX HBY HX HY ⊢
  refine' wp_region_facts [(fun _ _ v _ => v = (.agg #[.int .i64 xk, .int .i64 xn, .string xt, .slice xa1 xn1 xc1, .slice xa2 xn2 xc2])), (fun _ _ v _ => v = (.agg #[.int .i64 yk, .int .i64 yn, .string yt, .slice ya1 yn1 yc1, .slice ya2 yn2 yc2])), (fun _ _ v _ => v = (.bool q)), (fun _ _ v _ => v = (.agg #[.int .i64 xk, .int .i64 xn, .string xt, .slice xa1 xn1 xc1, .slice xa2 xn2 xc2])), (fun _ _ v _ => v = (.agg #[.int .i64 yk, .int .i64 yn, .string yt, .slice ya1 yn1 yc1, .slice ya2 yn2 yc2])), (fun _ _ v _ => v = (.bool q)), (fun _ _ v _ => v = (.bool true))] (by kernel_rfl) rfl ?hA (by kernel_rfl) (by kernel_rfl) (by kernel_rfl) rfl ?mono ?steps ?last
  case hA =>
    intro vs
    simp only [puts, Act.put, List.setIfInBounds_toArray, List.set_cons_zero, List.set_cons_succ, Nat.zero_add, Nat.reduceAdd]
    rfl
  case mono => exact ⟨mono_eq _, mono_eq _, mono_eq _, mono_eq _, mono_eq _, mono_eq _, mono_eq _, trivial⟩
  case steps =>
    intro Q'
    refine And.intro ?_ ?_
    · intro vs lo hi w' hM hd K' hK
      dsimp only at hK ⊢
      simp only [Act.put, List.setIfInBounds_toArray, List.set_cons_zero, List.set_cons_succ] at hK
      obtain ⟨y0, y1, y2, y3, y4⟩ := HBX.out.keep hM
      go_simp
      exact hK.out _ _ rfl (Below.refl _ _)
    refine And.intro ?_ ?_
    · intro vs lo hi w' hM hd K' hK
      dsimp only at hK ⊢
      simp only [Act.put, List.setIfInBounds_toArray, List.set_cons_zero, List.set_cons_succ] at hK
      obtain ⟨y0, y1, y2, y3, y4⟩ := HBY.out.keep hM
      go_simp
      exact hK.out _ _ rfl (Below.refl _ _)
    refine And.intro ?_ ?_
    · intro vs lo hi w' hM hd K' hK
      dsimp only at hK ⊢
      simp only [Act.put, List.setIfInBounds_toArray, List.set_cons_zero, List.set_cons_succ] at hK
      have e0 : vs 0 = (.agg #[.int .i64 xk, .int .i64 xn, .string xt, .slice xa1 xn1 xc1, .slice xa2 xn2 xc2]) := hd 0 (by kernel_rfl)
      have e1 : vs 1 = (.agg #[.int .i64 yk, .int .i64 yn, .string yt, .slice ya1 yn1 yc1, .slice ya2 yn2 yc2]) := hd 1 (by kernel_rfl)
      simp only [e0, e1] at hK ⊢
      clear e0 e1
      go_simp
      refine (same_any (HX.out.below hM) (HY.out.below hM) HWX.out HWY.out q HQ.out).mono ?_
      rintro e w7 ⟨rfl, b7⟩
      exact hK.out _ _ rfl b7
    refine And.intro ?_ ?_
    · intro vs lo hi w' hM hd K' hK
      dsimp only at hK ⊢
      simp only [Act.put, List.setIfInBounds_toArray, List.set_cons_zero, List.set_cons_succ] at hK
      obtain ⟨y0, y1, y2, y3, y4⟩ := HBX.out.keep hM
      go_simp
      exact hK.out _ _ rfl (Below.refl _ _)
    refine And.intro ?_ ?_
    · intro vs lo hi w' hM hd K' hK
      dsimp only at hK ⊢
      simp only [Act.put, List.setIfInBounds_toArray, List.set_cons_zero, List.set_cons_succ] at hK
      obtain ⟨y0, y1, y2, y3, y4⟩ := HBY.out.keep hM
      go_simp
      exact hK.out _ _ rfl (Below.refl _ _)
    refine And.intro ?_ ?_
    · intro vs lo hi w' hM hd K' hK
      dsimp only at hK ⊢
      simp only [Act.put, List.setIfInBounds_toArray, List.set_cons_zero, List.set_cons_succ] at hK
      have e3 : vs 3 = (.agg #[.int .i64 xk, .int .i64 xn, .string xt, .slice xa1 xn1 xc1, .slice xa2 xn2 xc2]) := hd 3 (by kernel_rfl)
      have e4 : vs 4 = (.agg #[.int .i64 yk, .int .i64 yn, .string yt, .slice ya1 yn1 yc1, .slice ya2 yn2 yc2]) := hd 4 (by kernel_rfl)
      simp only [e3, e4] at hK ⊢
      clear e3 e4
      go_simp
      refine (refSame_any (HX.out.below hM) (HY.out.below hM) HWX.out HWY.out q HQ.out).mono ?_
      rintro e w7 ⟨rfl, b7⟩
      exact hK.out _ _ rfl b7
    refine And.intro ?_ ?_
    · intro vs lo hi w' hM hd K' hK
      dsimp only at hK ⊢
      simp only [Act.put, List.setIfInBounds_toArray, List.set_cons_zero, List.set_cons_succ] at hK
      have e2 : vs 2 = (.bool q) := hd 2 (by kernel_rfl)
      have e5 : vs 5 = (.bool q) := hd 5 (by kernel_rfl)
      simp only [e2, e5] at hK ⊢
      clear e2 e5
      go_simp
      exact hK.out _ _ rfl (Below.refl _ _)
    exact trivial
  case last =>
    intro vs lo hi w' hM hlo hap hall K' Q' hK
    have hz : vs 6 = (.bool true) := hall.2.2.2.2.2.2.1
    dsimp only
    simp only [hz]
    clear hz hall hap hlo
    go_simp
    refine hK.out _ _ ?_
    clear hK
    go_wp2_with fail
    go_ret
    exact ⟨rfl, bthen HB0.out hM⟩

set_option maxHeartbeats 8000000 in
set_option maxRecDepth 100000 in
theorem asks_any {va vb : Value} {x y : V} {w : World} {S S' : Nat → Prop} (h : Is w S va x) (h' : Is w S' vb y) (hwx : V.wt x ≤ 1000000) (hwy : V.wt y ≤ 1000000) (key : ByteArray) (hkey : key.size ≤ 1000000) :
    Calls Try.prog 22 #[va, vb, .string key] w fun e w' => e = .returned (.bool true) ∧ Below w.heap.size w w' := by
  obtain ⟨kv, lv, rfl, h2, h8, _⟩ := id h.open
  obtain ⟨xa1, xc1, rfl, _⟩ := id h2
  obtain ⟨xa2, xc2, _, rfl, _⟩ := id h8
  obtain ⟨kv', lv', rfl, h2', h8', _⟩ := id h'.open
  obtain ⟨ya1, yc1, rfl, _⟩ := id h2'
  obtain ⟨ya2, yc2, _, rfl, _⟩ := id h8'
  have HLX : Hid (V.wt x ≤ 1000000000) := hide (Nat.le_trans hwx (by decide))
  have HLY : Hid (V.wt y ≤ 1000000000) := hide (Nat.le_trans hwy (by decide))
  have HLK : Hid (key.size ≤ 1000000000) := hide (Nat.le_trans hkey (by decide))
  have HL4 : Hid (V.wt x ≤ 4294967296) := hide (Nat.le_trans hwx (by decide))
  have HLG : Hid (V.wt ((V.get x key).getD V.nul) ≤ 4294967296) := hide (by have := V.wt_get_le x key; omega)
  have HLW : Hid (V.wt (V.withV x key y) ≤ 4294967296) := hide (by have := V.wt_withV x key y; omega)
  have HLO : Hid (V.wt (V.without x key) ≤ 4294967296) := hide (by have := V.wt_without x key; omega)
  obtain ⟨r, hr⟩ : ∃ r, V.right x = r := ⟨_, rfl⟩
  obtain ⟨D, hD⟩ : ∃ D, V.deep x = D := ⟨_, rfl⟩
  have HR := hide hr
  have HD := hide hD
  clear hwx hwy hkey h2 h8 h2' h8' hr hD
  have HX := hide h
  have HY := hide h'
  clear h h'
  obtain ⟨xk, hxk⟩ : ∃ k, k = x.kind := ⟨_, rfl⟩
  obtain ⟨xn, hxn⟩ : ∃ k, k = x.num := ⟨_, rfl⟩
  obtain ⟨xt, hxt⟩ : ∃ k, k = x.text := ⟨_, rfl⟩
  obtain ⟨xn1, hxn1⟩ : ∃ k, k = x.keys.length := ⟨_, rfl⟩
  obtain ⟨xn2, hxn2⟩ : ∃ k, k = x.list.length := ⟨_, rfl⟩
  obtain ⟨yk, hyk⟩ : ∃ k, k = y.kind := ⟨_, rfl⟩
  obtain ⟨yn, hyn⟩ : ∃ k, k = y.num := ⟨_, rfl⟩
  obtain ⟨yt, hyt⟩ : ∃ k, k = y.text := ⟨_, rfl⟩
  obtain ⟨yn1, hyn1⟩ : ∃ k, k = y.keys.length := ⟨_, rfl⟩
  obtain ⟨yn2, hyn2⟩ : ∃ k, k = y.list.length := ⟨_, rfl⟩
  rw [← hxk, ← hxn, ← hxt, ← hxn1, ← hxn2] at HX ⊢
  rw [← hyk, ← hyn, ← hyt, ← hyn1, ← hyn2] at HY ⊢
  clear hxk hxn hxt hxn1 hxn2 hyk hyn hyt hyn1 hyn2
  have HT : Hid (Below w.heap.size w ((w.alloc (.cells #[.int .i64 xk, .int .i64 xn, .string xt, .slice xa1 xn1 xc1, .slice xa2 xn2 xc2] 25)).alloc (.cells #[.int .i64 yk, .int .i64 yn, .string yt, .slice ya1 yn1 yc1, .slice ya2 yn2 yc2] 25))) := hide (bthen (below_alloc _ _) (below_alloc _ _))
  have HBX : Hid (Box5 ((w.alloc (.cells #[.int .i64 xk, .int .i64 xn, .string xt, .slice xa1 xn1 xc1, .slice xa2 xn2 xc2] 25)).alloc (.cells #[.int .i64 yk, .int .i64 yn, .string yt, .slice ya1 yn1 yc1, .slice ya2 yn2 yc2] 25)) w.heap.size (.int .i64 xk) (.int .i64 xn) (.string xt) (.slice xa1 xn1 xc1) (.slice xa2 xn2 xc2)) := hide ((box5_new w _ _ _ _ _ 25).keep (below_alloc _ _))
  have HBY : Hid (Box5 ((w.alloc (.cells #[.int .i64 xk, .int .i64 xn, .string xt, .slice xa1 xn1 xc1, .slice xa2 xn2 xc2] 25)).alloc (.cells #[.int .i64 yk, .int .i64 yn, .string yt, .slice ya1 yn1 yc1, .slice ya2 yn2 yc2] 25)) (w.heap.size + 1) (.int .i64 yk) (.int .i64 yn) (.string yt) (.slice ya1 yn1 yc1) (.slice ya2 yn2 yc2)) := hide (box5_at _ _ _ _ _ _ 25 _ (by simp))
  replace HX := hide (HX.out.below HT.out)
  replace HY := hide (HY.out.below HT.out)
  obtain ⟨x0, x1, x2, x3, x4⟩ := id HBX.out
  go_enter Try.func22, Try.ntmps22
  go_wp2_with fail
  clear x0 x1 x2 x3 x4
  generalize ((w.alloc (.cells #[.int .i64 xk, .int .i64 xn, .string xt, .slice xa1 xn1 xc1, .slice xa2 xn2 xc2] 25)).alloc (.cells #[.int .i64 yk, .int .i64 yn, .string yt, .slice ya1 yn1 yc1, .slice ya2 yn2 yc2] 25)) = w1 at HT HBX HBY HX HY ⊢
  refine (getV_all HX.out key HL4.out).mono ?_
  rintro e w2 ⟨pk, pn, pt, pa1, pn1, pc1, pa2, pn2, pc2, ip, rfl, hip, hp, bp⟩
  have HIP := hide hip
  clear hip
  have bb := bthen bp (below_alloc w2 (.cells #[.int .i64 pk, .int .i64 pn, .string pt, .slice pa1 pn1 pc1, .slice pa2 pn2 pc2] 25))
  replace HX := hide (HX.out.below bb)
  replace HY := hide (HY.out.below bb)
  replace HBX := hide (HBX.out.keep bb)
  replace HBY := hide (HBY.out.keep bb)
  replace HT := hide (bthen HT.out bb)
  have HBP := hide (box5_new w2 (.int .i64 pk) (.int .i64 pn) (.string pt) (.slice pa1 pn1 pc1) (.slice pa2 pn2 pc2) 25)
  have HP := hide (hp.below (below_alloc w2 (.cells #[.int .i64 pk, .int .i64 pn, .string pt, .slice pa1 pn1 pc1, .slice pa2 pn2 pc2] 25)))
  clear hp bp bb
  obtain ⟨x0, x1, x2, x3, x4⟩ := id HBX.out
  go_wp2_with fail
  clear x0 x1 x2 x3 x4
  generalize (w2.alloc (.cells #[.int .i64 pk, .int .i64 pn, .string pt, .slice pa1 pn1 pc1, .slice pa2 pn2 pc2] 25)) = w3 at HT HBX HBY HX HY HBP HP ⊢
  refine (refGet_all HX.out key HL4.out).mono ?_
  rintro e w4 ⟨qk, qn, qt, qa1, qn1, qc1, qa2, qn2, qc2, iq, rfl, hiq, hq, bq⟩
  obtain rfl : ip = iq := by rw [hiq, HIP.out]
  clear hiq HIP
  have bb := bthen bq (below_alloc w4 (.cells #[.int .i64 qk, .int .i64 qn, .string qt, .slice qa1 qn1 qc1, .slice qa2 qn2 qc2] 25))
  replace HX := hide (HX.out.below bb)
  replace HY := hide (HY.out.below bb)
  replace HBX := hide (HBX.out.keep bb)
  replace HBY := hide (HBY.out.keep bb)
  replace HBP := hide (HBP.out.keep bb)
  replace HP := hide (HP.out.below bb)
  replace HT := hide (bthen HT.out bb)
  have HBQ := hide (box5_new w4 (.int .i64 qk) (.int .i64 qn) (.string qt) (.slice qa1 qn1 qc1) (.slice qa2 qn2 qc2) 25)
  have HQ := hide (hq.below (below_alloc w4 (.cells #[.int .i64 qk, .int .i64 qn, .string qt, .slice qa1 qn1 qc1, .slice qa2 qn2 qc2] 25)))
  clear hq bq bb
  go_upto_region 3 with fail
  generalize (w4.alloc (.cells #[.int .i64 qk, .int .i64 qn, .string qt, .slice qa1 qn1 qc1, .slice qa2 qn2 qc2] 25)) = w5 at HT HBX HBY HX HY HBP HP HBQ HQ ⊢
  refine' wp_region_facts [(fun _ _ v _ => v = (.agg #[.int .i64 pk, .int .i64 pn, .string pt, .slice pa1 pn1 pc1, .slice pa2 pn2 pc2])), (fun _ _ v _ => v = (.agg #[.int .i64 qk, .int .i64 qn, .string qt, .slice qa1 qn1 qc1, .slice qa2 qn2 qc2])), (fun _ _ v _ => v = (.bool true)), (fun _ _ v _ => v = (.bool true)), (fun _ _ v _ => v = (.bool ip)), (fun _ _ v _ => v = (.bool ip)), (fun _ _ v _ => v = (.bool true)), (fun _ _ v _ => v = (.bool true)), (fun _ _ v _ => v = (.bool true)), (fun _ _ v _ => v = (.agg #[.int .i64 xk, .int .i64 xn, .string xt, .slice xa1 xn1 xc1, .slice xa2 xn2 xc2])), (fun _ _ v _ => v = (.string key)), (fun _ _ v _ => v = (.agg #[.int .i64 yk, .int .i64 yn, .string yt, .slice ya1 yn1 yc1, .slice ya2 yn2 yc2])), (WithT (V.withV x key y)), (fun _ _ v _ => v = (.agg #[.int .i64 xk, .int .i64 xn, .string xt, .slice xa1 xn1 xc1, .slice xa2 xn2 xc2])), (fun _ _ v _ => v = (.string key)), (fun _ _ v _ => v = (.agg #[.int .i64 yk, .int .i64 yn, .string yt, .slice ya1 yn1 yc1, .slice ya2 yn2 yc2])), (WithT (V.withV x key y)), (fun _ _ v _ => v = (.bool true)), (fun _ _ v _ => v = (.bool true)), (fun _ _ v _ => v = (.bool true)), (fun _ _ v _ => v = (.agg #[.int .i64 xk, .int .i64 xn, .string xt, .slice xa1 xn1 xc1, .slice xa2 xn2 xc2])), (fun _ _ v _ => v = (.string key)), (WithT (V.without x key)), (fun _ _ v _ => v = (.agg #[.int .i64 xk, .int .i64 xn, .string xt, .slice xa1 xn1 xc1, .slice xa2 xn2 xc2])), (fun _ _ v _ => v = (.string key)), (WithT (V.without x key)), (fun _ _ v _ => v = (.bool true)), (fun _ _ v _ => v = (.bool true)), (fun _ _ v _ => v = (.bool true)), (fun _ _ v _ => v = (.agg #[.int .i64 xk, .int .i64 xn, .string xt, .slice xa1 xn1 xc1, .slice xa2 xn2 xc2])), (WithT x), (fun _ _ v _ => v = (.agg #[.int .i64 xk, .int .i64 xn, .string xt, .slice xa1 xn1 xc1, .slice xa2 xn2 xc2])), (fun _ _ v _ => v = (.bool true)), (fun _ _ v _ => v = (.bool true)), (fun _ _ v _ => v = (.bool true)), (fun _ _ v _ => v = (.agg #[.int .i64 xk, .int .i64 xn, .string xt, .slice xa1 xn1 xc1, .slice xa2 xn2 xc2])), (fun _ _ v _ => v = (.bool r)), (fun _ _ v _ => v = (.agg #[.int .i64 xk, .int .i64 xn, .string xt, .slice xa1 xn1 xc1, .slice xa2 xn2 xc2])), (fun _ _ v _ => v = (.bool r)), (fun _ _ v _ => v = (.bool true)), (fun _ _ v _ => v = (.bool true)), (fun _ _ v _ => v = (.bool true)), (fun _ _ v _ => v = (.agg #[.int .i64 xk, .int .i64 xn, .string xt, .slice xa1 xn1 xc1, .slice xa2 xn2 xc2])), (fun _ _ v _ => v = (.int .i64 (D : Int))), (fun _ _ v _ => v = (.agg #[.int .i64 xk, .int .i64 xn, .string xt, .slice xa1 xn1 xc1, .slice xa2 xn2 xc2])), (fun _ _ v _ => v = (.int .i64 (D : Int))), (fun _ _ v _ => v = (.bool true)), (fun _ _ v _ => v = (.bool true))] (by kernel_rfl) rfl ?hA (by kernel_rfl) (by kernel_rfl) (by kernel_rfl) rfl ?mono ?steps ?last
  case hA =>
    intro vs
    simp only [puts, Act.put, List.setIfInBounds_toArray, List.set_cons_zero, List.set_cons_succ, Nat.zero_add, Nat.reduceAdd]
    rfl
  case mono => exact ⟨mono_eq _, mono_eq _, mono_eq _, mono_eq _, mono_eq _, mono_eq _, mono_eq _, mono_eq _, mono_eq _, mono_eq _, mono_eq _, mono_eq _, mono_withT _, mono_eq _, mono_eq _, mono_eq _, mono_withT _, mono_eq _, mono_eq _, mono_eq _, mono_eq _, mono_eq _, mono_withT _, mono_eq _, mono_eq _, mono_withT _, mono_eq _, mono_eq _, mono_eq _, mono_eq _, mono_withT _, mono_eq _, mono_eq _, mono_eq _, mono_eq _, mono_eq _, mono_eq _, mono_eq _, mono_eq _, mono_eq _, mono_eq _, mono_eq _, mono_eq _, mono_eq _, mono_eq _, mono_eq _, mono_eq _, mono_eq _, trivial⟩
  case steps =>
    intro Q'
    refine And.intro ?_ ?_
    · intro vs lo hi w' hM hd K' hK
      dsimp only at hK ⊢
      simp only [Act.put, List.setIfInBounds_toArray, List.set_cons_zero, List.set_cons_succ] at hK
      obtain ⟨y0, y1, y2, y3, y4⟩ := HBP.out.keep hM
      go_simp
      exact hK.out _ _ rfl (Below.refl _ _)
    refine And.intro ?_ ?_
    · intro vs lo hi w' hM hd K' hK
      dsimp only at hK ⊢
      simp only [Act.put, List.setIfInBounds_toArray, List.set_cons_zero, List.set_cons_succ] at hK
      obtain ⟨y0, y1, y2, y3, y4⟩ := HBQ.out.keep hM
      go_simp
      exact hK.out _ _ rfl (Below.refl _ _)
    refine And.intro ?_ ?_
    · intro vs lo hi w' hM hd K' hK
      dsimp only at hK ⊢
      simp only [Act.put, List.setIfInBounds_toArray, List.set_cons_zero, List.set_cons_succ] at hK
      have e0 : vs 0 = (.agg #[.int .i64 pk, .int .i64 pn, .string pt, .slice pa1 pn1 pc1, .slice pa2 pn2 pc2]) := hd 0 (by kernel_rfl)
      have e1 : vs 1 = (.agg #[.int .i64 qk, .int .i64 qn, .string qt, .slice qa1 qn1 qc1, .slice qa2 qn2 qc2]) := hd 1 (by kernel_rfl)
      simp only [e0, e1] at hK ⊢
      clear e0 e1
      go_simp
      refine (refSame_any (HP.out.below hM) (HQ.out.below hM) HLG.out HLG.out true ⟨fun _ => rfl, fun _ => rfl⟩).mono ?_
      rintro e w7 ⟨rfl, b7⟩
      exact hK.out _ _ rfl b7
    refine And.intro ?_ ?_
    · intro vs lo hi w' hM hd K' hK
      dsimp only at hK ⊢
      simp only [Act.put, List.setIfInBounds_toArray, List.set_cons_zero, List.set_cons_succ] at hK
      have e2 : vs 2 = (.bool true) := hd 2 (by kernel_rfl)
      simp only [e2] at hK ⊢
      clear e2
      go_simp
      exact hK.out _ _ rfl (Below.refl _ _)
    refine And.intro ?_ ?_
    · intro vs lo hi w' hM hd K' hK
      dsimp only at hK ⊢
      simp only [Act.put, List.setIfInBounds_toArray, List.set_cons_zero, List.set_cons_succ] at hK
      have e3 : vs 3 = (.bool true) := hd 3 (by kernel_rfl)
      simp only [e3] at hK ⊢
      clear e3
      go_simp
      exact hK.out _ _ rfl (Below.refl _ _)
    refine And.intro ?_ ?_
    · intro vs lo hi w' hM hd K' hK
      dsimp only at hK ⊢
      simp only [Act.put, List.setIfInBounds_toArray, List.set_cons_zero, List.set_cons_succ] at hK
      have e3 : vs 3 = (.bool true) := hd 3 (by kernel_rfl)
      simp only [e3] at hK ⊢
      clear e3
      go_simp
      exact hK.out _ _ rfl (Below.refl _ _)
    refine And.intro ?_ ?_
    · intro vs lo hi w' hM hd K' hK
      dsimp only at hK ⊢
      simp only [Act.put, List.setIfInBounds_toArray, List.set_cons_zero, List.set_cons_succ] at hK
      have e4 : vs 4 = (.bool ip) := hd 4 (by kernel_rfl)
      have e5 : vs 5 = (.bool ip) := hd 5 (by kernel_rfl)
      have e3 : vs 3 = (.bool true) := hd 3 (by kernel_rfl)
      simp only [e4, e5, e3] at hK ⊢
      clear e4 e5 e3
      go_simp
      exact hK.out _ _ rfl (Below.refl _ _)
    refine And.intro ?_ ?_
    · intro vs lo hi w' hM hd K' hK
      dsimp only at hK ⊢
      simp only [Act.put, List.setIfInBounds_toArray, List.set_cons_zero, List.set_cons_succ] at hK
      have e3 : vs 3 = (.bool true) := hd 3 (by kernel_rfl)
      have e6 : vs 6 = (.bool true) := hd 6 (by kernel_rfl)
      simp only [e3, e6] at hK ⊢
      clear e3 e6
      go_simp
      exact hK.out _ _ rfl (Below.refl _ _)
    refine And.intro ?_ ?_
    · intro vs lo hi w' hM hd K' hK
      dsimp only at hK ⊢
      simp only [Act.put, List.setIfInBounds_toArray, List.set_cons_zero, List.set_cons_succ] at hK
      have e7 : vs 7 = (.bool true) := hd 7 (by kernel_rfl)
      simp only [e7] at hK ⊢
      clear e7
      go_simp
      exact hK.out _ _ rfl (Below.refl _ _)
    refine And.intro ?_ ?_
    · intro vs lo hi w' hM hd K' hK
      dsimp only at hK ⊢
      simp only [Act.put, List.setIfInBounds_toArray, List.set_cons_zero, List.set_cons_succ] at hK
      have e8 : vs 8 = (.bool true) := hd 8 (by kernel_rfl)
      simp only [e8] at hK ⊢
      clear e8
      obtain ⟨y0, y1, y2, y3, y4⟩ := HBX.out.keep hM
      go_simp
      exact hK.out _ _ rfl (Below.refl _ _)
    refine And.intro ?_ ?_
    · intro vs lo hi w' hM hd K' hK
      dsimp only at hK ⊢
      simp only [Act.put, List.setIfInBounds_toArray, List.set_cons_zero, List.set_cons_succ] at hK
      have e8 : vs 8 = (.bool true) := hd 8 (by kernel_rfl)
      simp only [e8] at hK ⊢
      clear e8
      go_simp
      exact hK.out _ _ rfl (Below.refl _ _)
    refine And.intro ?_ ?_
    · intro vs lo hi w' hM hd K' hK
      dsimp only at hK ⊢
      simp only [Act.put, List.setIfInBounds_toArray, List.set_cons_zero, List.set_cons_succ] at hK
      have e8 : vs 8 = (.bool true) := hd 8 (by kernel_rfl)
      simp only [e8] at hK ⊢
      clear e8
      obtain ⟨y0, y1, y2, y3, y4⟩ := HBY.out.keep hM
      go_simp
      exact hK.out _ _ rfl (Below.refl _ _)
    refine And.intro ?_ ?_
    · intro vs lo hi w' hM hd K' hK
      dsimp only at hK ⊢
      simp only [Act.put, List.setIfInBounds_toArray, List.set_cons_zero, List.set_cons_succ] at hK
      have e9 : vs 9 = (.agg #[.int .i64 xk, .int .i64 xn, .string xt, .slice xa1 xn1 xc1, .slice xa2 xn2 xc2]) := hd 9 (by kernel_rfl)
      have e10 : vs 10 = (.string key) := hd 10 (by kernel_rfl)
      have e11 : vs 11 = (.agg #[.int .i64 yk, .int .i64 yn, .string yt, .slice ya1 yn1 yc1, .slice ya2 yn2 yc2]) := hd 11 (by kernel_rfl)
      have e8 : vs 8 = (.bool true) := hd 8 (by kernel_rfl)
      simp only [e9, e10, e11, e8] at hK ⊢
      clear e9 e10 e11 e8
      go_simp
      refine (with_any (HX.out.below hM) (HY.out.below hM) HLX.out HLY.out key HLK.out).mono ?_
      rintro e w7 ⟨k7, n7, t7, a17, n17, c17, a27, n27, c27, rfl, h7, b7⟩
      exact hK.out _ _ (withT_fact (lo := 0) (hi := 0) h7) b7
    refine And.intro ?_ ?_
    · intro vs lo hi w' hM hd K' hK
      dsimp only at hK ⊢
      simp only [Act.put, List.setIfInBounds_toArray, List.set_cons_zero, List.set_cons_succ] at hK
      have e8 : vs 8 = (.bool true) := hd 8 (by kernel_rfl)
      simp only [e8] at hK ⊢
      clear e8
      obtain ⟨y0, y1, y2, y3, y4⟩ := HBX.out.keep hM
      go_simp
      exact hK.out _ _ rfl (Below.refl _ _)
    refine And.intro ?_ ?_
    · intro vs lo hi w' hM hd K' hK
      dsimp only at hK ⊢
      simp only [Act.put, List.setIfInBounds_toArray, List.set_cons_zero, List.set_cons_succ] at hK
      have e8 : vs 8 = (.bool true) := hd 8 (by kernel_rfl)
      simp only [e8] at hK ⊢
      clear e8
      go_simp
      exact hK.out _ _ rfl (Below.refl _ _)
    refine And.intro ?_ ?_
    · intro vs lo hi w' hM hd K' hK
      dsimp only at hK ⊢
      simp only [Act.put, List.setIfInBounds_toArray, List.set_cons_zero, List.set_cons_succ] at hK
      have e8 : vs 8 = (.bool true) := hd 8 (by kernel_rfl)
      simp only [e8] at hK ⊢
      clear e8
      obtain ⟨y0, y1, y2, y3, y4⟩ := HBY.out.keep hM
      go_simp
      exact hK.out _ _ rfl (Below.refl _ _)
    refine And.intro ?_ ?_
    · intro vs lo hi w' hM hd K' hK
      dsimp only at hK ⊢
      simp only [Act.put, List.setIfInBounds_toArray, List.set_cons_zero, List.set_cons_succ] at hK
      have e13 : vs 13 = (.agg #[.int .i64 xk, .int .i64 xn, .string xt, .slice xa1 xn1 xc1, .slice xa2 xn2 xc2]) := hd 13 (by kernel_rfl)
      have e14 : vs 14 = (.string key) := hd 14 (by kernel_rfl)
      have e15 : vs 15 = (.agg #[.int .i64 yk, .int .i64 yn, .string yt, .slice ya1 yn1 yc1, .slice ya2 yn2 yc2]) := hd 15 (by kernel_rfl)
      have e8 : vs 8 = (.bool true) := hd 8 (by kernel_rfl)
      simp only [e13, e14, e15, e8] at hK ⊢
      clear e13 e14 e15 e8
      go_simp
      refine (refWith_all (HX.out.below hM) (HY.out.below hM) HLX.out key HLK.out).mono ?_
      rintro e w7 ⟨k7, n7, t7, a17, n17, c17, a27, n27, c27, rfl, h7, b7⟩
      exact hK.out _ _ (withT_fact (lo := 0) (hi := 0) h7) b7
    refine And.intro ?_ ?_
    · intro vs lo hi w' hM hd K' hK
      dsimp only at hK ⊢
      simp only [Act.put, List.setIfInBounds_toArray, List.set_cons_zero, List.set_cons_succ] at hK
      obtain ⟨k12, n12, t12, a112, n112, c112, a212, n212, c212, e12, H12⟩ := hd 12 (by kernel_rfl)
      obtain ⟨k16, n16, t16, a116, n116, c116, a216, n216, c216, e16, H16⟩ := hd 16 (by kernel_rfl)
      have e8 : vs 8 = (.bool true) := hd 8 (by kernel_rfl)
      simp only [e12, e16, e8] at hK ⊢
      clear e12 e16 e8
      go_simp
      refine (refSame_any H12.out H16.out HLW.out HLW.out true ⟨fun _ => rfl, fun _ => rfl⟩).mono ?_
      rintro e w7 ⟨rfl, b7⟩
      exact hK.out _ _ rfl b7
    refine And.intro ?_ ?_
    · intro vs lo hi w' hM hd K' hK
      dsimp only at hK ⊢
      simp only [Act.put, List.setIfInBounds_toArray, List.set_cons_zero, List.set_cons_succ] at hK
      have e8 : vs 8 = (.bool true) := hd 8 (by kernel_rfl)
      have e17 : vs 17 = (.bool true) := hd 17 (by kernel_rfl)
      simp only [e8, e17] at hK ⊢
      clear e8 e17
      go_simp
      exact hK.out _ _ rfl (Below.refl _ _)
    refine And.intro ?_ ?_
    · intro vs lo hi w' hM hd K' hK
      dsimp only at hK ⊢
      simp only [Act.put, List.setIfInBounds_toArray, List.set_cons_zero, List.set_cons_succ] at hK
      have e18 : vs 18 = (.bool true) := hd 18 (by kernel_rfl)
      simp only [e18] at hK ⊢
      clear e18
      go_simp
      exact hK.out _ _ rfl (Below.refl _ _)
    refine And.intro ?_ ?_
    · intro vs lo hi w' hM hd K' hK
      dsimp only at hK ⊢
      simp only [Act.put, List.setIfInBounds_toArray, List.set_cons_zero, List.set_cons_succ] at hK
      have e19 : vs 19 = (.bool true) := hd 19 (by kernel_rfl)
      simp only [e19] at hK ⊢
      clear e19
      obtain ⟨y0, y1, y2, y3, y4⟩ := HBX.out.keep hM
      go_simp
      exact hK.out _ _ rfl (Below.refl _ _)
    refine And.intro ?_ ?_
    · intro vs lo hi w' hM hd K' hK
      dsimp only at hK ⊢
      simp only [Act.put, List.setIfInBounds_toArray, List.set_cons_zero, List.set_cons_succ] at hK
      have e19 : vs 19 = (.bool true) := hd 19 (by kernel_rfl)
      simp only [e19] at hK ⊢
      clear e19
      go_simp
      exact hK.out _ _ rfl (Below.refl _ _)
    refine And.intro ?_ ?_
    · intro vs lo hi w' hM hd K' hK
      dsimp only at hK ⊢
      simp only [Act.put, List.setIfInBounds_toArray, List.set_cons_zero, List.set_cons_succ] at hK
      have e20 : vs 20 = (.agg #[.int .i64 xk, .int .i64 xn, .string xt, .slice xa1 xn1 xc1, .slice xa2 xn2 xc2]) := hd 20 (by kernel_rfl)
      have e21 : vs 21 = (.string key) := hd 21 (by kernel_rfl)
      have e19 : vs 19 = (.bool true) := hd 19 (by kernel_rfl)
      simp only [e20, e21, e19] at hK ⊢
      clear e20 e21 e19
      go_simp
      refine (without_any (HX.out.below hM) HLX.out key).mono ?_
      rintro e w7 ⟨k7, n7, t7, a17, n17, c17, a27, n27, c27, rfl, h7, b7⟩
      exact hK.out _ _ (withT_fact (lo := 0) (hi := 0) h7) b7
    refine And.intro ?_ ?_
    · intro vs lo hi w' hM hd K' hK
      dsimp only at hK ⊢
      simp only [Act.put, List.setIfInBounds_toArray, List.set_cons_zero, List.set_cons_succ] at hK
      have e19 : vs 19 = (.bool true) := hd 19 (by kernel_rfl)
      simp only [e19] at hK ⊢
      clear e19
      obtain ⟨y0, y1, y2, y3, y4⟩ := HBX.out.keep hM
      go_simp
      exact hK.out _ _ rfl (Below.refl _ _)
    refine And.intro ?_ ?_
    · intro vs lo hi w' hM hd K' hK
      dsimp only at hK ⊢
      simp only [Act.put, List.setIfInBounds_toArray, List.set_cons_zero, List.set_cons_succ] at hK
      have e19 : vs 19 = (.bool true) := hd 19 (by kernel_rfl)
      simp only [e19] at hK ⊢
      clear e19
      go_simp
      exact hK.out _ _ rfl (Below.refl _ _)
    refine And.intro ?_ ?_
    · intro vs lo hi w' hM hd K' hK
      dsimp only at hK ⊢
      simp only [Act.put, List.setIfInBounds_toArray, List.set_cons_zero, List.set_cons_succ] at hK
      have e23 : vs 23 = (.agg #[.int .i64 xk, .int .i64 xn, .string xt, .slice xa1 xn1 xc1, .slice xa2 xn2 xc2]) := hd 23 (by kernel_rfl)
      have e24 : vs 24 = (.string key) := hd 24 (by kernel_rfl)
      have e19 : vs 19 = (.bool true) := hd 19 (by kernel_rfl)
      simp only [e23, e24, e19] at hK ⊢
      clear e23 e24 e19
      go_simp
      refine (refWithout_any (HX.out.below hM) key HLX.out).mono ?_
      rintro e w7 ⟨k7, n7, t7, a17, n17, c17, a27, n27, c27, rfl, h7, b7⟩
      exact hK.out _ _ (withT_fact (lo := 0) (hi := 0) h7) b7
    refine And.intro ?_ ?_
    · intro vs lo hi w' hM hd K' hK
      dsimp only at hK ⊢
      simp only [Act.put, List.setIfInBounds_toArray, List.set_cons_zero, List.set_cons_succ] at hK
      obtain ⟨k22, n22, t22, a122, n122, c122, a222, n222, c222, e22, H22⟩ := hd 22 (by kernel_rfl)
      obtain ⟨k25, n25, t25, a125, n125, c125, a225, n225, c225, e25, H25⟩ := hd 25 (by kernel_rfl)
      have e19 : vs 19 = (.bool true) := hd 19 (by kernel_rfl)
      simp only [e22, e25, e19] at hK ⊢
      clear e22 e25 e19
      go_simp
      refine (refSame_any H22.out H25.out HLO.out HLO.out true ⟨fun _ => rfl, fun _ => rfl⟩).mono ?_
      rintro e w7 ⟨rfl, b7⟩
      exact hK.out _ _ rfl b7
    refine And.intro ?_ ?_
    · intro vs lo hi w' hM hd K' hK
      dsimp only at hK ⊢
      simp only [Act.put, List.setIfInBounds_toArray, List.set_cons_zero, List.set_cons_succ] at hK
      have e19 : vs 19 = (.bool true) := hd 19 (by kernel_rfl)
      have e26 : vs 26 = (.bool true) := hd 26 (by kernel_rfl)
      simp only [e19, e26] at hK ⊢
      clear e19 e26
      go_simp
      exact hK.out _ _ rfl (Below.refl _ _)
    refine And.intro ?_ ?_
    · intro vs lo hi w' hM hd K' hK
      dsimp only at hK ⊢
      simp only [Act.put, List.setIfInBounds_toArray, List.set_cons_zero, List.set_cons_succ] at hK
      have e27 : vs 27 = (.bool true) := hd 27 (by kernel_rfl)
      simp only [e27] at hK ⊢
      clear e27
      go_simp
      exact hK.out _ _ rfl (Below.refl _ _)
    refine And.intro ?_ ?_
    · intro vs lo hi w' hM hd K' hK
      dsimp only at hK ⊢
      simp only [Act.put, List.setIfInBounds_toArray, List.set_cons_zero, List.set_cons_succ] at hK
      have e28 : vs 28 = (.bool true) := hd 28 (by kernel_rfl)
      simp only [e28] at hK ⊢
      clear e28
      obtain ⟨y0, y1, y2, y3, y4⟩ := HBX.out.keep hM
      go_simp
      exact hK.out _ _ rfl (Below.refl _ _)
    refine And.intro ?_ ?_
    · intro vs lo hi w' hM hd K' hK
      dsimp only at hK ⊢
      simp only [Act.put, List.setIfInBounds_toArray, List.set_cons_zero, List.set_cons_succ] at hK
      have e29 : vs 29 = (.agg #[.int .i64 xk, .int .i64 xn, .string xt, .slice xa1 xn1 xc1, .slice xa2 xn2 xc2]) := hd 29 (by kernel_rfl)
      have e28 : vs 28 = (.bool true) := hd 28 (by kernel_rfl)
      simp only [e29, e28] at hK ⊢
      clear e29 e28
      go_simp
      refine (copy_any (HX.out.below hM) HL4.out).mono ?_
      rintro e w7 ⟨k7, n7, t7, a17, n17, c17, a27, n27, c27, rfl, h7, b7⟩
      exact hK.out _ _ (withT_fact (lo := 0) (hi := 0) h7) b7
    refine And.intro ?_ ?_
    · intro vs lo hi w' hM hd K' hK
      dsimp only at hK ⊢
      simp only [Act.put, List.setIfInBounds_toArray, List.set_cons_zero, List.set_cons_succ] at hK
      have e28 : vs 28 = (.bool true) := hd 28 (by kernel_rfl)
      simp only [e28] at hK ⊢
      clear e28
      obtain ⟨y0, y1, y2, y3, y4⟩ := HBX.out.keep hM
      go_simp
      exact hK.out _ _ rfl (Below.refl _ _)
    refine And.intro ?_ ?_
    · intro vs lo hi w' hM hd K' hK
      dsimp only at hK ⊢
      simp only [Act.put, List.setIfInBounds_toArray, List.set_cons_zero, List.set_cons_succ] at hK
      obtain ⟨k30, n30, t30, a130, n130, c130, a230, n230, c230, e30, H30⟩ := hd 30 (by kernel_rfl)
      have e31 : vs 31 = (.agg #[.int .i64 xk, .int .i64 xn, .string xt, .slice xa1 xn1 xc1, .slice xa2 xn2 xc2]) := hd 31 (by kernel_rfl)
      have e28 : vs 28 = (.bool true) := hd 28 (by kernel_rfl)
      simp only [e30, e31, e28] at hK ⊢
      clear e30 e31 e28
      go_simp
      refine (refSame_any H30.out (HX.out.below hM) HL4.out HL4.out true ⟨fun _ => rfl, fun _ => rfl⟩).mono ?_
      rintro e w7 ⟨rfl, b7⟩
      exact hK.out _ _ rfl b7
    refine And.intro ?_ ?_
    · intro vs lo hi w' hM hd K' hK
      dsimp only at hK ⊢
      simp only [Act.put, List.setIfInBounds_toArray, List.set_cons_zero, List.set_cons_succ] at hK
      have e28 : vs 28 = (.bool true) := hd 28 (by kernel_rfl)
      have e32 : vs 32 = (.bool true) := hd 32 (by kernel_rfl)
      simp only [e28, e32] at hK ⊢
      clear e28 e32
      go_simp
      exact hK.out _ _ rfl (Below.refl _ _)
    refine And.intro ?_ ?_
    · intro vs lo hi w' hM hd K' hK
      dsimp only at hK ⊢
      simp only [Act.put, List.setIfInBounds_toArray, List.set_cons_zero, List.set_cons_succ] at hK
      have e33 : vs 33 = (.bool true) := hd 33 (by kernel_rfl)
      simp only [e33] at hK ⊢
      clear e33
      go_simp
      exact hK.out _ _ rfl (Below.refl _ _)
    refine And.intro ?_ ?_
    · intro vs lo hi w' hM hd K' hK
      dsimp only at hK ⊢
      simp only [Act.put, List.setIfInBounds_toArray, List.set_cons_zero, List.set_cons_succ] at hK
      have e34 : vs 34 = (.bool true) := hd 34 (by kernel_rfl)
      simp only [e34] at hK ⊢
      clear e34
      obtain ⟨y0, y1, y2, y3, y4⟩ := HBX.out.keep hM
      go_simp
      exact hK.out _ _ rfl (Below.refl _ _)
    refine And.intro ?_ ?_
    · intro vs lo hi w' hM hd K' hK
      dsimp only at hK ⊢
      simp only [Act.put, List.setIfInBounds_toArray, List.set_cons_zero, List.set_cons_succ] at hK
      have e35 : vs 35 = (.agg #[.int .i64 xk, .int .i64 xn, .string xt, .slice xa1 xn1 xc1, .slice xa2 xn2 xc2]) := hd 35 (by kernel_rfl)
      have e34 : vs 34 = (.bool true) := hd 34 (by kernel_rfl)
      simp only [e35, e34] at hK ⊢
      clear e35 e34
      go_simp
      refine (right_any (HX.out.below hM) HL4.out r HR.out).mono ?_
      rintro e w7 ⟨rfl, b7⟩
      exact hK.out _ _ rfl b7
    refine And.intro ?_ ?_
    · intro vs lo hi w' hM hd K' hK
      dsimp only at hK ⊢
      simp only [Act.put, List.setIfInBounds_toArray, List.set_cons_zero, List.set_cons_succ] at hK
      have e34 : vs 34 = (.bool true) := hd 34 (by kernel_rfl)
      simp only [e34] at hK ⊢
      clear e34
      obtain ⟨y0, y1, y2, y3, y4⟩ := HBX.out.keep hM
      go_simp
      exact hK.out _ _ rfl (Below.refl _ _)
    refine And.intro ?_ ?_
    · intro vs lo hi w' hM hd K' hK
      dsimp only at hK ⊢
      simp only [Act.put, List.setIfInBounds_toArray, List.set_cons_zero, List.set_cons_succ] at hK
      have e37 : vs 37 = (.agg #[.int .i64 xk, .int .i64 xn, .string xt, .slice xa1 xn1 xc1, .slice xa2 xn2 xc2]) := hd 37 (by kernel_rfl)
      have e34 : vs 34 = (.bool true) := hd 34 (by kernel_rfl)
      simp only [e37, e34] at hK ⊢
      clear e37 e34
      go_simp
      refine (refRight_is (HX.out.below hM) HL4.out r HR.out).mono ?_
      rintro e w7 ⟨rfl, b7⟩
      exact hK.out _ _ rfl b7
    refine And.intro ?_ ?_
    · intro vs lo hi w' hM hd K' hK
      dsimp only at hK ⊢
      simp only [Act.put, List.setIfInBounds_toArray, List.set_cons_zero, List.set_cons_succ] at hK
      have e36 : vs 36 = (.bool r) := hd 36 (by kernel_rfl)
      have e38 : vs 38 = (.bool r) := hd 38 (by kernel_rfl)
      have e34 : vs 34 = (.bool true) := hd 34 (by kernel_rfl)
      simp only [e36, e38, e34] at hK ⊢
      clear e36 e38 e34
      go_simp
      exact hK.out _ _ rfl (Below.refl _ _)
    refine And.intro ?_ ?_
    · intro vs lo hi w' hM hd K' hK
      dsimp only at hK ⊢
      simp only [Act.put, List.setIfInBounds_toArray, List.set_cons_zero, List.set_cons_succ] at hK
      have e34 : vs 34 = (.bool true) := hd 34 (by kernel_rfl)
      have e39 : vs 39 = (.bool true) := hd 39 (by kernel_rfl)
      simp only [e34, e39] at hK ⊢
      clear e34 e39
      go_simp
      exact hK.out _ _ rfl (Below.refl _ _)
    refine And.intro ?_ ?_
    · intro vs lo hi w' hM hd K' hK
      dsimp only at hK ⊢
      simp only [Act.put, List.setIfInBounds_toArray, List.set_cons_zero, List.set_cons_succ] at hK
      have e40 : vs 40 = (.bool true) := hd 40 (by kernel_rfl)
      simp only [e40] at hK ⊢
      clear e40
      go_simp
      exact hK.out _ _ rfl (Below.refl _ _)
    refine And.intro ?_ ?_
    · intro vs lo hi w' hM hd K' hK
      dsimp only at hK ⊢
      simp only [Act.put, List.setIfInBounds_toArray, List.set_cons_zero, List.set_cons_succ] at hK
      have e41 : vs 41 = (.bool true) := hd 41 (by kernel_rfl)
      simp only [e41] at hK ⊢
      clear e41
      obtain ⟨y0, y1, y2, y3, y4⟩ := HBX.out.keep hM
      go_simp
      exact hK.out _ _ rfl (Below.refl _ _)
    refine And.intro ?_ ?_
    · intro vs lo hi w' hM hd K' hK
      dsimp only at hK ⊢
      simp only [Act.put, List.setIfInBounds_toArray, List.set_cons_zero, List.set_cons_succ] at hK
      have e42 : vs 42 = (.agg #[.int .i64 xk, .int .i64 xn, .string xt, .slice xa1 xn1 xc1, .slice xa2 xn2 xc2]) := hd 42 (by kernel_rfl)
      have e41 : vs 41 = (.bool true) := hd 41 (by kernel_rfl)
      simp only [e42, e41] at hK ⊢
      clear e42 e41
      go_simp
      refine (deep_any (HX.out.below hM) HL4.out D HD.out).mono ?_
      rintro e w7 ⟨rfl, b7⟩
      exact hK.out _ _ rfl b7
    refine And.intro ?_ ?_
    · intro vs lo hi w' hM hd K' hK
      dsimp only at hK ⊢
      simp only [Act.put, List.setIfInBounds_toArray, List.set_cons_zero, List.set_cons_succ] at hK
      have e41 : vs 41 = (.bool true) := hd 41 (by kernel_rfl)
      simp only [e41] at hK ⊢
      clear e41
      obtain ⟨y0, y1, y2, y3, y4⟩ := HBX.out.keep hM
      go_simp
      exact hK.out _ _ rfl (Below.refl _ _)
    refine And.intro ?_ ?_
    · intro vs lo hi w' hM hd K' hK
      dsimp only at hK ⊢
      simp only [Act.put, List.setIfInBounds_toArray, List.set_cons_zero, List.set_cons_succ] at hK
      have e44 : vs 44 = (.agg #[.int .i64 xk, .int .i64 xn, .string xt, .slice xa1 xn1 xc1, .slice xa2 xn2 xc2]) := hd 44 (by kernel_rfl)
      have e41 : vs 41 = (.bool true) := hd 41 (by kernel_rfl)
      simp only [e44, e41] at hK ⊢
      clear e44 e41
      go_simp
      refine (refDeep_any (HX.out.below hM) HL4.out D HD.out).mono ?_
      rintro e w7 ⟨rfl, b7⟩
      exact hK.out _ _ rfl b7
    refine And.intro ?_ ?_
    · intro vs lo hi w' hM hd K' hK
      dsimp only at hK ⊢
      simp only [Act.put, List.setIfInBounds_toArray, List.set_cons_zero, List.set_cons_succ] at hK
      have e43 : vs 43 = (.int .i64 (D : Int)) := hd 43 (by kernel_rfl)
      have e45 : vs 45 = (.int .i64 (D : Int)) := hd 45 (by kernel_rfl)
      have e41 : vs 41 = (.bool true) := hd 41 (by kernel_rfl)
      simp only [e43, e45, e41] at hK ⊢
      clear e43 e45 e41
      go_simp
      exact hK.out _ _ rfl (Below.refl _ _)
    refine And.intro ?_ ?_
    · intro vs lo hi w' hM hd K' hK
      dsimp only at hK ⊢
      simp only [Act.put, List.setIfInBounds_toArray, List.set_cons_zero, List.set_cons_succ] at hK
      have e41 : vs 41 = (.bool true) := hd 41 (by kernel_rfl)
      have e46 : vs 46 = (.bool true) := hd 46 (by kernel_rfl)
      simp only [e41, e46] at hK ⊢
      clear e41 e46
      go_simp
      exact hK.out _ _ rfl (Below.refl _ _)
    exact trivial
  case last =>
    intro vs lo hi w' hM hlo hap hall K' Q' hK
    have hz : vs 47 = (.bool true) := hall.2.2.2.2.2.2.2.2.2.2.2.2.2.2.2.2.2.2.2.2.2.2.2.2.2.2.2.2.2.2.2.2.2.2.2.2.2.2.2.2.2.2.2.2.2.2.2.1
    dsimp only
    simp only [hz]
    clear hz hall hap hlo
    go_simp
    refine hK.out _ _ ?_
    clear hK
    go_wp2_with fail
    go_ret
    exact ⟨rfl, bthen HT.out hM⟩

end Go.Proofs.Yteijnkdfacndoaa
