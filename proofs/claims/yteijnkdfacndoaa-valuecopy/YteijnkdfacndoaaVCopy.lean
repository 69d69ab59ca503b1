/-
  The law ValueCopy.
-/
import Derived.Test.YteijnkdfacndoaaWPart
import Derived.Test.YteijnkdfacndoaaVWithD
import Derived.Deep.RegionHeld3
set_option linter.unusedVariables false
set_option linter.unusedSimpArgs false
namespace Go.Proofs.Yteijnkdfacndoaa
open Go.RowKit

/-- m cells in a row from a on, in a block of S, that may be written -/
def Wr (w : World) (S : Nat → Prop) (a : Option Addr) (m : Nat) : Prop :=
  0 < m → ∃ b off, a = some ⟨b, off, none⟩ ∧ S b ∧ Fre w b ∧ ∀ i, i < m → ∃ v, w.cell? ⟨b, off + i, none⟩ = some v
theorem Wr.of {w : World} {B : Nat} {S : Nat → Prop} {a : Option Addr} {m : Nat} {c : Nat → Value} (h : Cells w (Own w B) a m c) (hs : ∀ b, B ≤ b → b < w.heap.size → S b) : Wr w S a m := by
  intro hm
  obtain ⟨b, off, ha, hb, hc⟩ := h hm
  exact ⟨b, off, ha, hs b hb.1 (cell_size (hc 0 hm)), hb.2, fun i hi => ⟨_, hc i hi⟩⟩
theorem Wr.keep {w w' : World} {S : Nat → Prop} {a : Option Addr} {m : Nat} (h : Wr w S a m) (k : Below w.heap.size w w') : Wr w' S a m := by
  intro hm
  obtain ⟨b, off, ha, hb, hf, hc⟩ := h hm
  obtain ⟨v0, hv0⟩ := hc 0 hm
  refine ⟨b, off, ha, hb, hf.below (cell_size hv0) k, fun i hi => ?_⟩
  obtain ⟨v, hv⟩ := hc i hi
  exact ⟨v, cell_keep hv k⟩
theorem cell_set_ex {w : World} {q p : Addr} {v : Value} (u : Value) (h : w.cell? q = some v) : ∃ v', (w.setCell p u).cell? q = some v' := by
  by_cases e : q = p
  · subst e
    exact ⟨u, World.cell?_setCell_same _ _ _ h⟩
  · exact ⟨v, by rw [World.cell?_setCell_other _ _ _ _ (Ne.symm e)]; exact h⟩
theorem Wr.set {w : World} {S : Nat → Prop} {a : Option Addr} {m : Nat} (h : Wr w S a m) (p : Addr) (u : Value) : Wr (w.setCell p u) S a m := by
  intro hm
  obtain ⟨b, off, ha, hb, hf, hc⟩ := h hm
  refine ⟨b, off, ha, hb, hf.set _ _, fun i hi => ?_⟩
  obtain ⟨v, hv⟩ := hc i hi
  exact cell_set_ex u hv
theorem Wr.weak {w : World} {S S' : Nat → Prop} {a : Option Addr} {m : Nat} (h : Wr w S a m) (hs : ∀ b, b < w.heap.size → S b → S' b) : Wr w S' a m := by
  intro hm
  obtain ⟨b, off, ha, hb, hf, hc⟩ := h hm
  obtain ⟨v0, hv0⟩ := hc 0 hm
  exact ⟨b, off, ha, hs b (cell_size hv0) hb, hf, hc⟩
/-- element j of a row of values -/
theorem Wr.five {w : World} {S : Nat → Prop} {a : Option Addr} {n j : Nat} (h : Wr w S a (n * 5)) (hj : j < n) :
    ∃ b off v0 v1 v2 v3 v4, a = some ⟨b, off, none⟩ ∧ Hid (S b) ∧ w.cell? ⟨b, off + j * 5, none⟩ = some v0 ∧ w.cell? ⟨b, off + j * 5 + 1, none⟩ = some v1 ∧ w.cell? ⟨b, off + j * 5 + 2, none⟩ = some v2 ∧ w.cell? ⟨b, off + j * 5 + 3, none⟩ = some v3 ∧ w.cell? ⟨b, off + j * 5 + 4, none⟩ = some v4 ∧ w.frozen? ⟨b, off + j * 5, none⟩ = false ∧ w.frozen? ⟨b, off + j * 5 + 1, none⟩ = false ∧ w.frozen? ⟨b, off + j * 5 + 2, none⟩ = false ∧ w.frozen? ⟨b, off + j * 5 + 3, none⟩ = false ∧ w.frozen? ⟨b, off + j * 5 + 4, none⟩ = false := by
  obtain ⟨b, off, ha, hb, hf, hc⟩ := h (by omega)
  obtain ⟨v0, h0⟩ := hc (j * 5) (by omega)
  obtain ⟨v1, h1⟩ := hc (j * 5 + 1) (by omega)
  obtain ⟨v2, h2⟩ := hc (j * 5 + 2) (by omega)
  obtain ⟨v3, h3⟩ := hc (j * 5 + 3) (by omega)
  obtain ⟨v4, h4⟩ := hc (j * 5 + 4) (by omega)
  exact ⟨b, off, v0, v1, v2, v3, v4, ha, hb, h0, h1, h2, h3, h4, hf _, hf _, hf _, hf _, hf _⟩
theorem Wr.one {w : World} {S : Nat → Prop} {a : Option Addr} {n j : Nat} (h : Wr w S a n) (hj : j < n) :
    ∃ b off v0, a = some ⟨b, off, none⟩ ∧ Hid (S b) ∧ w.cell? ⟨b, off + j, none⟩ = some v0 ∧ w.frozen? ⟨b, off + j, none⟩ = false := by
  obtain ⟨b, off, ha, hb, hf, hc⟩ := h (by omega)
  obtain ⟨v0, h0⟩ := hc j hj
  exact ⟨b, off, v0, ha, hb, h0, hf _⟩

/-- all that stays while what came out is spoilt -/
structure CI (wv : World) (g6 g7 g9 : Nat) (c0 c1 c2 c3 x0 x1 x2 x3 y0 y1 y2 y4 : Value) (ca xa ya : Option Addr) (cn cc xn xc yn yc : Nat) (wr : World) : Prop where
  low : Below wv.heap.size wv wr
  b6 : Box5 wr g6 c0 c1 c2 c3 (.slice ca cn cc)
  b7 : Box5 wr g7 x0 x1 x2 x3 (.slice xa xn xc)
  b9 : Box5 wr g9 y0 y1 y2 (.slice ya yn yc) y4
  r6 : Wr wr (fun b => wv.heap.size ≤ b ∧ b ≠ g6 ∧ b ≠ g7 ∧ b ≠ g9) ca (cn * 5)
  r7 : Wr wr (fun b => wv.heap.size ≤ b ∧ b ≠ g6 ∧ b ≠ g7 ∧ b ≠ g9) xa (xn * 5)
  r9 : Wr wr (fun b => wv.heap.size ≤ b ∧ b ≠ g6 ∧ b ≠ g7 ∧ b ≠ g9) ya yn
theorem Box5.apart {w : World} {g g' o' : Nat} {c0 c1 c2 c3 c4 : Value} (h : Box5 w g c0 c1 c2 c3 c4) (hg : g' ≠ g) (v : Value) : Box5 (w.setCell ⟨g', o', none⟩ v) g c0 c1 c2 c3 c4 := by
  obtain ⟨h0, h1, h2, h3, h4⟩ := h
  exact ⟨box_other h0 (.inl (Ne.symm hg)), box_other h1 (.inl (Ne.symm hg)), box_other h2 (.inl (Ne.symm hg)), box_other h3 (.inl (Ne.symm hg)), box_other h4 (.inl (Ne.symm hg))⟩
theorem CI.set {wv : World} {g6 g7 g9 : Nat} {c0 c1 c2 c3 x0 x1 x2 x3 y0 y1 y2 y4 : Value} {ca xa ya : Option Addr} {cn cc xn xc yn yc : Nat} {wr : World} (h : CI wv g6 g7 g9 c0 c1 c2 c3 x0 x1 x2 x3 y0 y1 y2 y4 ca xa ya cn cc xn xc yn yc wr) {b : Nat} (hb : wv.heap.size ≤ b ∧ b ≠ g6 ∧ b ≠ g7 ∧ b ≠ g9) (o : Nat) (v : Value) :
    CI wv g6 g7 g9 c0 c1 c2 c3 x0 x1 x2 x3 y0 y1 y2 y4 ca xa ya cn cc xn xc yn yc (wr.setCell ⟨b, o, none⟩ v) :=
  ⟨h.low.setCell hb.1 _, h.b6.apart hb.2.1 _, h.b7.apart hb.2.2.1 _, h.b9.apart hb.2.2.2 _, h.r6.set _ _, h.r7.set _ _, h.r9.set _ _⟩

/-- Get, either way, with what of the answer may be written -/
theorem getF_any {v : Value} {x : V} {w : World} {S : Nat → Prop} (h : Is w S v x) (key : ByteArray) (hwt : V.wt x ≤ 4294967296) :
    Calls Try.prog 26 #[v, .string key] w fun e w' => ∃ k n t a1 n1 c1 a2 n2 c2 is, e = .returned (.tuple #[.agg #[.int .i64 k, .int .i64 n, .string t, .slice a1 n1 c1, .slice a2 n2 c2], .bool is]) ∧ n2 ≤ 4294967296 ∧ Wr w' (fun b => w.heap.size ≤ b) a2 (n2 * 5) ∧ Below w.heap.size w w' := by
  by_cases hp : V.place x key < 0
  · refine (get_none h key hp).mono ?_
    rintro e w' ⟨rfl, b⟩
    exact ⟨_, _, _, _, _, _, _, _, _, _, rfl, Nat.zero_le _, fun hh => absurd hh (by simp), b⟩
  · have hpl := (V.place_lt x key (by omega)).2
    have hpl2 : (V.place x key).toNat < x.list.length := by omega
    refine (getF_some h key (V.place x key).toNat (by omega) hpl2 hwt).mono ?_
    rintro e w' ⟨k, n, t, a1, n1, c1, a2, n2, c2, rfl, his, b⟩
    obtain ⟨kv, lv, hq, _, hl, _⟩ := his.open
    simp only [Value.agg.injEq, Array.mk.injEq, List.cons.injEq, and_true] at hq
    obtain ⟨_, _, _, _, rfl⟩ := hq
    obtain ⟨a, cap, c, he, _, _, hc, _⟩ := hl
    simp only [Value.slice.injEq] at he
    obtain ⟨rfl, rfl, rfl⟩ := he
    have h1 := V.wt_get x _ hpl2
    have h2 := V.len_wt (x.list[(V.place x key).toNat])
    exact ⟨k, n, t, a1, n1, c1, a2, _, c2, true, rfl, by omega, Wr.of hc (fun b hb _ => hb), b⟩

theorem one_below {wz w' : World} {P : Prop} (h : Hid (Below wz.heap.size wz w') ∧ P) : Below wz.heap.size wz w' := h.1
theorem one_keep {wz w w' : World} {g : Nat} {v0 v1 v2 v3 v4 : Value}
    (h : Hid (Below wz.heap.size wz w) ∧ w.cell? ⟨g, 0, none⟩ = some v0 ∧ w.cell? ⟨g, 1, none⟩ = some v1 ∧ w.cell? ⟨g, 2, none⟩ = some v2 ∧ w.cell? ⟨g, 3, none⟩ = some v3 ∧ w.cell? ⟨g, 4, none⟩ = some v4)
    (b : Below w.heap.size w w') :
    Hid (Below wz.heap.size wz w') ∧ w'.cell? ⟨g, 0, none⟩ = some v0 ∧ w'.cell? ⟨g, 1, none⟩ = some v1 ∧ w'.cell? ⟨g, 2, none⟩ = some v2 ∧ w'.cell? ⟨g, 3, none⟩ = some v3 ∧ w'.cell? ⟨g, 4, none⟩ = some v4 := by
  obtain ⟨h, y0, y1, y2, y3, y4⟩ := h
  exact ⟨bthen h.out b, cell_keep y0 b, cell_keep y1 b, cell_keep y2 b, cell_keep y3 b, cell_keep y4 b⟩
theorem one_start {wz : World} {g : Nat} {v0 v1 v2 v3 v4 : Value} (h : Hid (Box5 wz g v0 v1 v2 v3 v4)) :
    Hid (Below wz.heap.size wz wz.drew) ∧ wz.drew.cell? ⟨g, 0, none⟩ = some v0 ∧ wz.drew.cell? ⟨g, 1, none⟩ = some v1 ∧ wz.drew.cell? ⟨g, 2, none⟩ = some v2 ∧ wz.drew.cell? ⟨g, 3, none⟩ = some v3 ∧ wz.drew.cell? ⟨g, 4, none⟩ = some v4 := by
  obtain ⟨y0, y1, y2, y3, y4⟩ := h.out
  exact ⟨(Below.refl _ _).drew, y0, y1, y2, y3, y4⟩

set_option maxHeartbeats 2000000 in
set_option maxRecDepth 100000 in
theorem valueCopy_walk (a0 : Option Addr) (len0 cap0 : Nat) (z0 : List Int) (k : Int) (w : World) (w0 : IsRow .u8 w a0 len0 cap0 z0) (w1 : (Lit.int .u8 k).wf = true) :
    Calls Try.prog 5 #[.slice a0 len0 cap0, .int .u8 k] w fun e w' => e = .returned (.bool true) ∧ Below w.heap.size w w' := by
  obtain ⟨hk0, hk1⟩ := wf_u8 w1
  have H0 := hide w0
  clear w1 w0
  go_enter Try.func5, Try.ntmps5
  go_wp2_with fail
  refine (part_any a0 len0 cap0 z0 k w H0.out hk0 hk1).mono ?_
  rintro e w3 ⟨vk, vn, vt, va1, vn1, vc1, va2, vn2, vc2, rfl, hv, b3⟩
  have hw := V.wt_part z0 len0 k
  obtain ⟨PV, hPV⟩ : ∃ P, V.part z0 len0 k = P := ⟨_, rfl⟩
  rw [hPV] at hv hw
  have HP := hide hPV
  have HV := hide (hv.weak (S' := fun _ => True) (fun _ _ _ => trivial))
  have HW := hide hw
  have HB3 := hide b3
  clear hPV hv hw b3
  go_wp2_with fail
  have hvv := HV.out.below (below_alloc w3 (.cells #[.int .i64 vk, .int .i64 vn, .string vt, .slice va1 vn1 vc1, .slice va2 vn2 vc2] 25))
  have hbv := box5_new w3 (.int .i64 vk) (.int .i64 vn) (.string vt) (.slice va1 vn1 vc1) (.slice va2 vn2 vc2) 25
  have hb3 := below_alloc w3 (.cells #[.int .i64 vk, .int .i64 vn, .string vt, .slice va1 vn1 vc1, .slice va2 vn2 vc2] 25)
  generalize w3.alloc (.cells #[.int .i64 vk, .int .i64 vn, .string vt, .slice va1 vn1 vc1, .slice va2 vn2 vc2] 25) = wv at hvv hbv hb3 ⊢
  have HVV := hide hvv
  have HBV := hide hbv
  have HBB := hide (bthen HB3.out hb3)
  clear hvv hbv hb3
  refine (copyF_any HVV.out (Nat.le_trans HW.out (by decide))).mono ?_
  rintro e w4 ⟨ck, cn, ct, ca1, cn1, cc1, ca2, cn2, cc2, rfl, hc, b4⟩
  have hrow : cn2 ≤ 4000 ∧ Wr w4 (fun b => wv.heap.size ≤ b ∧ b < w4.heap.size) ca2 (cn2 * 5) := by
    obtain ⟨kv, lv, hq, _, hl, _⟩ := hc.open
    simp only [Value.agg.injEq, Array.mk.injEq, List.cons.injEq, and_true] at hq
    obtain ⟨_, _, _, _, rfl⟩ := hq
    obtain ⟨a, cap, c, he, _, _, hcc, _⟩ := hl
    simp only [Value.slice.injEq] at he
    obtain ⟨rfl, rfl, rfl⟩ := he
    have h1 := V.len_wt PV
    have h2 := HW.out
    exact ⟨by omega, Wr.of hcc (fun b hb hb' => ⟨hb, hb'⟩)⟩
  obtain ⟨hcn, hrow⟩ := hrow
  have HR6 := hide hrow
  have HB4 := hide b4
  clear hc hrow b4
  obtain ⟨y0, y1, y2, y3, y4⟩ := HBV.out.keep (bthen HB4.out (below_alloc w4 (.cells #[.int .i64 ck, .int .i64 cn, .string ct, .slice ca1 cn1 cc1, .slice ca2 cn2 cc2] 25)))
  go_wp2_with fail
  clear y0 y1 y2 y3 y4
  have hb5 := bthen HB4.out (below_alloc w4 (.cells #[.int .i64 ck, .int .i64 cn, .string ct, .slice ca1 cn1 cc1, .slice ca2 cn2 cc2] 25))
  have hbx6 := box5_new w4 (.int .i64 ck) (.int .i64 cn) (.string ct) (.slice ca1 cn1 cc1) (.slice ca2 cn2 cc2) 25
  have hr6 := HR6.out.keep (below_alloc w4 (.cells #[.int .i64 ck, .int .i64 cn, .string ct, .slice ca1 cn1 cc1, .slice ca2 cn2 cc2] 25))
  have hs5 : w4.heap.size < (w4.alloc (.cells #[.int .i64 ck, .int .i64 cn, .string ct, .slice ca1 cn1 cc1, .slice ca2 cn2 cc2] 25)).heap.size := by simp
  generalize w4.alloc (.cells #[.int .i64 ck, .int .i64 cn, .string ct, .slice ca1 cn1 cc1, .slice ca2 cn2 cc2] 25) = w5 at hb5 hbx6 hr6 hs5 ⊢
  refine (getF_any (HVV.out.below hb5) _ (Nat.le_trans HW.out (by decide))).mono ?_
  rintro e w6 ⟨xk, xn, xt, xa1, xn1, xc1, xa2, xn2, xc2, is, rfl, hxn, hr7, b6⟩
  replace hr7 := hr7.weak (S' := fun b => w5.heap.size ≤ b ∧ b < w6.heap.size) (fun b hb hs => ⟨hs, hb⟩)
  have hb6 := bthen hb5 b6
  replace hbx6 := hbx6.keep b6
  replace hr6 := hr6.keep b6
  have hs6 := b6.size
  clear b6
  obtain ⟨y0, y1, y2, y3, y4⟩ := HBV.out.keep (bthen hb6 (below_alloc w6 (.cells #[.int .i64 xk, .int .i64 xn, .string xt, .slice xa1 xn1 xc1, .slice xa2 xn2 xc2] 25)))
  have H1 := hide hb5
  have H2 := hide hbx6
  have H3 := hide hr6
  have H4 := hide hs5
  have H5 := hide hr7
  have H6 := hide hb6
  have H7 := hide hs6
  clear hb5 hbx6 hr6 hs5 hr7 hb6 hs6
  go_wp2_with fail
  clear y0 y1 y2 y3 y4
  have hb7 := bthen H6.out (below_alloc w6 (.cells #[.int .i64 xk, .int .i64 xn, .string xt, .slice xa1 xn1 xc1, .slice xa2 xn2 xc2] 25))
  have hbx7 := box5_new w6 (.int .i64 xk) (.int .i64 xn) (.string xt) (.slice xa1 xn1 xc1) (.slice xa2 xn2 xc2) 25
  have hr7 := H5.out.keep (below_alloc w6 (.cells #[.int .i64 xk, .int .i64 xn, .string xt, .slice xa1 xn1 xc1, .slice xa2 xn2 xc2] 25))
  have hbx6 := H2.out.keep (below_alloc w6 (.cells #[.int .i64 xk, .int .i64 xn, .string xt, .slice xa1 xn1 xc1, .slice xa2 xn2 xc2] 25))
  have hr6 := H3.out.keep (below_alloc w6 (.cells #[.int .i64 xk, .int .i64 xn, .string xt, .slice xa1 xn1 xc1, .slice xa2 xn2 xc2] 25))
  have hs7 : w6.heap.size < (w6.alloc (.cells #[.int .i64 xk, .int .i64 xn, .string xt, .slice xa1 xn1 xc1, .slice xa2 xn2 xc2] 25)).heap.size := by simp
  generalize w6.alloc (.cells #[.int .i64 xk, .int .i64 xn, .string xt, .slice xa1 xn1 xc1, .slice xa2 xn2 xc2] 25) = w7 at hb7 hbx7 hr7 hbx6 hr6 hs7 ⊢
  refine (withF_any (HVV.out.below hb7) (is_plain _ (fun _ => True) 0 0 ⟨#[]⟩ (by decide)) (Nat.le_trans HW.out (by decide)) (by rw [V.wt_mk]; decide) ⟨#[98]⟩ (by decide)).mono ?_
  rintro e w8 ⟨yk, yn, yt, ya1, yn1, yc1, ya2, yn2, yc2, rfl, hy, b8⟩
  have hrow : yn1 ≤ 100000 ∧ Wr w8 (fun b => w7.heap.size ≤ b ∧ b < w8.heap.size) ya1 yn1 := by
    obtain ⟨kv, lv, hq, hl, _, _⟩ := hy.open
    simp only [Value.agg.injEq, Array.mk.injEq, List.cons.injEq, and_true] at hq
    obtain ⟨_, _, _, rfl, _⟩ := hq
    obtain ⟨a, cap, he, _, _, _, hcc⟩ := hl
    simp only [Value.slice.injEq] at he
    obtain ⟨rfl, rfl, rfl⟩ := he
    have h1 := V.klen_wt (V.withV PV ⟨#[98]⟩ ⟨0, 0, ⟨#[]⟩, [], []⟩)
    have h2 := V.wt_withV PV ⟨#[98]⟩ ⟨0, 0, ⟨#[]⟩, [], []⟩
    have h3 := HW.out
    have h4 : V.wt ⟨0, 0, ⟨#[]⟩, [], []⟩ = 1 := by rw [V.wt_mk]; rfl
    have h5 : (⟨#[98]⟩ : ByteArray).size = 1 := rfl
    exact ⟨by omega, Wr.of hcc (fun b hb hb' => ⟨hb, hb'⟩)⟩
  obtain ⟨hyn, hr9⟩ := hrow
  clear hy
  have hci : CI wv w4.heap.size w6.heap.size w8.heap.size (.int .i64 ck) (.int .i64 cn) (.string ct) (.slice ca1 cn1 cc1) (.int .i64 xk) (.int .i64 xn) (.string xt) (.slice xa1 xn1 xc1) (.int .i64 yk) (.int .i64 yn) (.string yt) (.slice ya2 yn2 yc2) ca2 xa2 ya1 cn2 cc2 xn2 xc2 yn1 yc1 (w8.alloc (.cells #[.int .i64 yk, .int .i64 yn, .string yt, .slice ya1 yn1 yc1, .slice ya2 yn2 yc2] 25)) := by
    have s4 := H4.out
    have s7 := H7.out
    have s8 := b8.size
    have s1 := H1.out.size
    have s0 := HB4.out.size
    exact ⟨bthen (bthen hb7 b8) (below_alloc _ _), (hbx6.keep b8).keep (below_alloc _ _), (hbx7.keep b8).keep (below_alloc _ _), box5_new w8 _ _ _ _ _ _,
      ((hr6.keep b8).weak (S' := fun b => wv.heap.size ≤ b ∧ b ≠ w4.heap.size ∧ b ≠ w6.heap.size ∧ b ≠ w8.heap.size) (fun b _ hb => by omega)).keep (below_alloc _ _),
      ((hr7.keep b8).weak (S' := fun b => wv.heap.size ≤ b ∧ b ≠ w4.heap.size ∧ b ≠ w6.heap.size ∧ b ≠ w8.heap.size) (fun b _ hb => by omega)).keep (below_alloc _ _),
      (hr9.weak (S' := fun b => wv.heap.size ≤ b ∧ b ≠ w4.heap.size ∧ b ≠ w6.heap.size ∧ b ≠ w8.heap.size) (fun b _ hb => by omega)).keep (below_alloc _ _)⟩
  clear hb7 hbx7 hr7 hbx6 hr6 hs7 hr9 b8 H1 H2 H3 H4 H5 H6 H7 HR6 HB4
  have HCI := hide hci
  clear hci
  go_wp2_with fail
  generalize w8.alloc (.cells #[.int .i64 yk, .int .i64 yn, .string yt, .slice ya1 yn1 yc1, .slice ya2 yn2 yc2] 25) = w9 at HCI ⊢
  generalize w4.heap.size = g6 at HCI ⊢
  generalize w6.heap.size = g7 at HCI ⊢
  generalize w8.heap.size = g9 at HCI ⊢
  go_loopg [10] cn2 (fun g i wr => ∃ j : Nat, j + g = cn2 ∧ i = .int .i64 j ∧ Hid (CI wv g6 g7 g9 (.int .i64 ck) (.int .i64 cn) (.string ct) (.slice ca1 cn1 cc1) (.int .i64 xk) (.int .i64 xn) (.string xt) (.slice xa1 xn1 xc1) (.int .i64 yk) (.int .i64 yn) (.string yt) (.slice ya2 yn2 yc2) ca2 xa2 ya1 cn2 cc2 xn2 xc2 yn1 yc1 wr))
  case atStart => exact ⟨0, by omega, rfl, HCI⟩
  case round =>
    clear HCI
    obtain ⟨j, hj, rfl, HC⟩ := hrel
    obtain ⟨y0, y1, y2, y3, y4⟩ := id HC.out.b6
    by_cases hjn : j < cn2
    · obtain ⟨b, off, v0, v1, v2, v3, v4, rfl, HS, q0, q1, q2, q3, q4, f0, f1, f2, f3, f4⟩ := HC.out.r6.five hjn
      go_wp2_with fail
      go_roundg (gk - 1)
      case measure => omega
      case rel => exact ⟨j + 1, by omega, rfl, ((((HC.out.set HS.out _ _).set HS.out _ _).set HS.out _ _).set HS.out _ _).set HS.out _ _⟩
    · go_wp2_with fail
      clear y0 y1 y2 y3 y4
      go_loopg [11] xn2 (fun g i wr => ∃ j : Nat, j + g = xn2 ∧ i = .int .i64 j ∧ Hid (CI wv g6 g7 g9 (.int .i64 ck) (.int .i64 cn) (.string ct) (.slice ca1 cn1 cc1) (.int .i64 xk) (.int .i64 xn) (.string xt) (.slice xa1 xn1 xc1) (.int .i64 yk) (.int .i64 yn) (.string yt) (.slice ya2 yn2 yc2) ca2 xa2 ya1 cn2 cc2 xn2 xc2 yn1 yc1 wr))
      case atStart => exact ⟨0, by omega, rfl, HC⟩
      case round =>
        clear HC hjn hj
        obtain ⟨j, hj, rfl, HC⟩ := hrel
        obtain ⟨y0, y1, y2, y3, y4⟩ := id HC.out.b7
        have hcase : (j < xn2 ∧ is = true) ∨ (j < xn2 ∧ is = false) ∨ ¬ j < xn2 := by
          by_cases h : j < xn2
          · cases is
            · exact .inr (.inl ⟨h, rfl⟩)
            · exact .inl ⟨h, rfl⟩
          · exact .inr (.inr h)
        rcases hcase with ⟨hjn, rfl⟩ | ⟨hjn, rfl⟩ | hjn
        · obtain ⟨b, off, v0, v1, v2, v3, v4, rfl, HS, q0, q1, q2, q3, q4, f0, f1, f2, f3, f4⟩ := HC.out.r7.five hjn
          go_wp2_with fail
          go_roundg (gk - 1)
          case measure => omega
          case rel => exact ⟨j + 1, by omega, rfl, ((((HC.out.set HS.out _ _).set HS.out _ _).set HS.out _ _).set HS.out _ _).set HS.out _ _⟩
        all_goals
          go_wp2_with fail
          clear y0 y1 y2 y3 y4
          go_loopg [12] yn1 (fun g i wr => ∃ j : Nat, j + g = yn1 ∧ i = .int .i64 j ∧ Hid (CI wv g6 g7 g9 (.int .i64 ck) (.int .i64 cn) (.string ct) (.slice ca1 cn1 cc1) (.int .i64 xk) (.int .i64 xn) (.string xt) (.slice xa1 xn1 xc1) (.int .i64 yk) (.int .i64 yn) (.string yt) (.slice ya2 yn2 yc2) ca2 xa2 ya1 cn2 cc2 xn2 xc2 yn1 yc1 wr))
          case atStart => exact ⟨0, by omega, rfl, HC⟩
          case round =>
            clear HC hjn hj
            obtain ⟨j, hj, rfl, HC⟩ := hrel
            obtain ⟨y0, y1, y2, y3, y4⟩ := id HC.out.b9
            by_cases hjn : j < yn1
            · obtain ⟨b, off, v0, rfl, HS, q0, f0⟩ := HC.out.r9.one hjn
              go_wp2_with fail
              go_roundg (gk - 1)
              case measure => omega
              case rel => exact ⟨j + 1, by omega, rfl, HC.out.set HS.out _ _⟩
            · go_upto_region 17 with fail
              have hlow := HC.out.low
              have HLO := hide hlow
              have HVZ := hide (HVV.out.below hlow)
              have HVB := hide (HBV.out.keep hlow)
              have HRZ := hide (isRow_keep H0.out (bthen HBB.out hlow))
              clear y0 y1 y2 y3 y4 hlow HC
              go_region_held3 (fun w' => Hid (Below wr.heap.size wr w') ∧ w'.cell? ⟨w3.heap.size, 0, none⟩ = some (.int .i64 vk) ∧ w'.cell? ⟨w3.heap.size, 1, none⟩ = some (.int .i64 vn) ∧ w'.cell? ⟨w3.heap.size, 2, none⟩ = some (.string vt) ∧ w'.cell? ⟨w3.heap.size, 3, none⟩ = some (.slice va1 vn1 vc1) ∧ w'.cell? ⟨w3.heap.size, 4, none⟩ = some (.slice va2 vn2 vc2)) (first | exact one_start HVB | exact one_keep (by assumption) (by assumption)) (first
                | (go_at_call 13; refine (known_any _).mono ?_; rintro e w5 ⟨rfl, b5⟩)
                | (go_at_call 14; refine (part_any a0 len0 cap0 z0 k _ (isRow_keep HRZ.out (one_below (by assumption))) hk0 hk1).mono ?_; rintro e w6 ⟨k6, n6, t6, a16, n16, c16, a26, n26, c26, rfl, h6, b6⟩; have H6 := hide h6; clear h6)
                | (go_at_call 28; refine (same_any (HVZ.out.below (one_below (by assumption))) H6.out (Nat.le_trans HW.out (by decide)) (Nat.le_trans (V.wt_part z0 len0 k) (by decide)) true (by simp [HP.out])).mono ?_; rintro e w7 ⟨rfl, b7⟩))
              have hlast : RowKit.Below wr.heap.size wr w7 := one_below (by assumption)
              go_wp2_with fail
              go_ret
              exact ⟨rfl, bthen HBB.out (bthen HLO.out hlast)⟩

end Go.Proofs.Yteijnkdfacndoaa
