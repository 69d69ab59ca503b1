/-
  The law ValueSpoilt.
-/
import Derived.Test.YtfdcekobdpfkgaaWPart
import Derived.Test.YtfdcekobdpfkgaaVWithD
import Derived.Deep.DeepCutAuto
import Derived.Deep.CutBlock
set_option linter.unusedVariables false
set_option linter.unusedSimpArgs false
namespace Go.Proofs.Ytfdcekobdpfkgaa
open Go.RowKit

namespace V
theorem right_false_of_mem {y x : V} (h : x ∈ y.list) (hx : right x = false) : right y = false := by
  obtain ⟨k, n, t, ks, l⟩ := y
  rw [right_mk]
  have q : l.all right = false := by
    rw [List.all_eq_false]
    exact ⟨x, h, by simp [hx]⟩
  rw [q, Bool.and_false, Bool.false_and]
theorem mem_laid (z x : V) (a b : Nat) (mk' : List ByteArray) : x ∈ (laid z a b mk' [x]).list := by
  obtain ⟨k, n, t, ks, l⟩ := z
  simp [laid, splice]
theorem mem_with (z x : V) (key : ByteArray) : x ∈ (withV z key x).list := by
  unfold withV with5
  split <;> split <;> exact mem_laid _ _ _ _ _
theorem right_with_false {v x : V} {key : ByteArray} (hx : right x = false) : right (withV v key x) = false := right_false_of_mem (mem_with v x key) hx
theorem right_bad7 : right ⟨7, 0, ⟨#[]⟩, [], []⟩ = false := by rw [right_mk]; rfl
theorem right_badff : right ⟨3, 0, ⟨#[255]⟩, [], []⟩ = false := by
  rw [right_mk]
  have : textOk 3 ⟨#[255]⟩ = false := by
    unfold textOk utf
    rw [show Gm.checkZ (⟨#[255]⟩ : ByteArray).data.toList = 0 by decide +kernel, Lib.toList_data]
    rfl
  rw [this, Bool.and_false, Bool.false_and, Bool.false_and, Bool.false_and]
theorem right_bad1 : right ⟨2, 0, ⟨#[49]⟩, [], []⟩ = false := by
  rw [right_mk]
  have : textOk 2 ⟨#[49]⟩ = false := by unfold textOk; rw [Lib.toList_data]; rfl
  rw [this, Bool.and_false, Bool.false_and, Bool.false_and, Bool.false_and]
theorem right_badba (a b : ByteArray) (h : less a b = false) : right ⟨5, 0, ⟨#[]⟩, [a, b], [nul, nul]⟩ = false := by
  rw [right_mk]
  have : keysOk 5 [a, b] [nul, nul].length = false := by
    simp [keysOk, rises, risesTo, keyOk, h]
  rw [this, Bool.and_false, Bool.false_and, Bool.false_and]
theorem wt_nul : wt nul = 1 := by unfold nul; rw [wt_mk]; rfl
theorem wt_two (a b : ByteArray) (ha : a.size = 1) (hb : b.size = 1) : wt ⟨5, 0, ⟨#[]⟩, [a, b], [nul, nul]⟩ = 7 := by
  rw [wt_mk, wtL_cons, wtL_cons, wtL_nil, wt_nul]
  simp only [wtK, ha, hb]
  rfl
end V

/-- an object of two keys, and nothing by them, written out -/
theorem two_is (w : World) (S : Nat → Prop) (a b : ByteArray) (ha : a.size = 1) (hb : b.size = 1) (g g' : Nat) (hg : g = w.heap.size) (hg' : g' = w.heap.size + 1) (h0 : S g) (h1 : S g') :
    Is ((w.alloc (.cells #[.string a, .string b] 9)).alloc (.cells #[.int .i64 0, .int .i64 0, .string ⟨#[]⟩, .slice none 0 0, .slice none 0 0, .int .i64 0, .int .i64 0, .string ⟨#[]⟩, .slice none 0 0, .slice none 0 0] 25)) S
      (.agg #[.int .i64 5, .int .i64 0, .string ⟨#[]⟩, .slice (some ⟨g, 0, none⟩) 2 2, .slice (some ⟨g', 0, none⟩) 2 2]) ⟨5, 0, ⟨#[]⟩, [a, b], [V.nul, V.nul]⟩ := by
  subst hg hg'
  refine Is.shut (x := ⟨5, 0, ⟨#[]⟩, [a, b], [V.nul, V.nul]⟩) ?_ ?_ (Nat.zero_le _)
  · have hr := Row.cells (row_new w #[.string a, .string b] 9 _ rfl) h0 (n := 2) (Nat.le_refl _)
    refine Strs.below ⟨_, _, rfl, Nat.le_refl _, by decide, ?_, hr.congr ?_⟩ (below_alloc _ _)
    · intro k hk
      have : k = a ∨ k = b := by simpa using hk
      rcases this with rfl | rfl
      · rw [ha]; decide
      · rw [hb]; decide
    · intro i hi
      have : i = 0 ∨ i = 1 := by have h2 : i < 2 := hi; omega
      rcases this with rfl | rfl <;> rfl
  · have hr := Row.cells (row_new (w.alloc (.cells #[.string a, .string b] 9)) #[.int .i64 0, .int .i64 0, .string ⟨#[]⟩, .slice none 0 0, .slice none 0 0, .int .i64 0, .int .i64 0, .string ⟨#[]⟩, .slice none 0 0, .slice none 0 0] 25 (w.heap.size + 1) (by simp)) h1 (n := 10) (Nat.le_refl _)
    refine ⟨_, _, _, rfl, Nat.le_refl _, by decide, hr, ?_⟩
    intro i hi
    have : i = 0 ∨ i = 1 := by have h2 : i < 2 := hi; omega
    rcases this with rfl | rfl
    · exact is_plain _ _ 0 0 ⟨#[]⟩ (by decide)
    · exact is_plain _ _ 0 0 ⟨#[]⟩ (by decide)

theorem box_five {w : World} {g g' o : Nat} {v v0 v1 v2 v3 v4 : Value} (h : w.cell? ⟨g, o, none⟩ = some v) (hg : g ≠ g') :
    (((((w.setCell ⟨g', 0, none⟩ v0).setCell ⟨g', 1, none⟩ v1).setCell ⟨g', 2, none⟩ v2).setCell ⟨g', 3, none⟩ v3).setCell ⟨g', 4, none⟩ v4).cell? ⟨g, o, none⟩ = some v :=
  box_other (box_other (box_other (box_other (box_other h (.inl hg)) (.inl hg)) (.inl hg)) (.inl hg)) (.inl hg)

/-- what the loop keeps: the value itself, and one that is spoilt -/
def BadX (w3 : World) (vv : Value × Value × Value × Value × Value) (n : Nat) (w : World) : Prop :=
  ∃ X k m t a1 n1 c1 a2 n2 c2, Below w3.heap.size w3 w ∧ Box5 w w3.heap.size vv.1 vv.2.1 vv.2.2.1 vv.2.2.2.1 vv.2.2.2.2 ∧ BoxF w (w3.heap.size + 1) (.int .i64 k) (.int .i64 m) (.string t) (.slice a1 n1 c1) (.slice a2 n2 c2) ∧ Is w (fun b => b ≠ w3.heap.size + 1) (.agg #[.int .i64 k, .int .i64 m, .string t, .slice a1 n1 c1, .slice a2 n2 c2]) X ∧ V.right X = false ∧ V.wt X ≤ n

theorem bad_plain (w3 : World) (c0 c1 c2 c3 c4 : Value) (k n : Int) (t : ByteArray) (ht : t.size ≤ 50) (hb : V.right ⟨k, n, t, [], []⟩ = false) :
    BadX w3 ⟨c0, c1, c2, c3, c4⟩ 100 ((w3.alloc (.cells #[c0, c1, c2, c3, c4] 25)).alloc (.cells #[.int .i64 k, .int .i64 n, .string t, .slice none 0 0, .slice none 0 0] 25)) := by
  refine ⟨⟨k, n, t, [], []⟩, k, n, t, none, 0, 0, none, 0, 0, bthen (below_alloc _ _) (below_alloc _ _), (box5_new w3 c0 c1 c2 c3 c4 _).keep (below_alloc _ _), boxF_at _ _ _ _ _ _ _ _ (by simp), is_plain _ _ k n t (Nat.le_trans ht (by decide)), hb, ?_⟩
  rw [V.wt_mk]
  simp only [V.wtK, V.wtL_nil]
  omega

theorem bad_two (w3 : World) (c0 c1 c2 c3 c4 : Value) (a b : ByteArray) (ha : a.size = 1) (hb : b.size = 1) (hl : V.less a b = false) :
    BadX w3 ⟨c0, c1, c2, c3, c4⟩ 100 ((((w3.alloc (.cells #[c0, c1, c2, c3, c4] 25)).alloc (.cells #[.int .i64 5, .int .i64 0, .string ⟨#[]⟩, .slice (some ⟨w3.heap.size + 1 + 1, 0, none⟩) 2 2, .slice (some ⟨w3.heap.size + 1 + 1 + 1, 0, none⟩) 2 2] 25)).alloc (.cells #[.string a, .string b] 9)).alloc (.cells #[.int .i64 0, .int .i64 0, .string ⟨#[]⟩, .slice none 0 0, .slice none 0 0, .int .i64 0, .int .i64 0, .string ⟨#[]⟩, .slice none 0 0, .slice none 0 0] 25)) := by
  refine ⟨⟨5, 0, ⟨#[]⟩, [a, b], [V.nul, V.nul]⟩, 5, 0, ⟨#[]⟩, _, _, _, _, _, _, bthen (below_alloc _ _) (bthen (below_alloc _ _) (bthen (below_alloc _ _) (below_alloc _ _))), (((box5_new w3 c0 c1 c2 c3 c4 _).keep (below_alloc _ _)).keep (below_alloc _ _)).keep (below_alloc _ _), ((boxF_at _ _ _ _ _ _ _ _ (by simp)).keep (below_alloc _ _)).keep (below_alloc _ _), two_is _ _ a b ha hb _ _ (by simp) (by simp) (by omega) (by omega), V.right_badba a b hl, ?_⟩
  rw [V.wt_two a b ha hb]
  decide

theorem pair_is (w : World) (S : Nat → Prop) (p0 p1 p2 p3 p4 q0 q1 q2 q3 q4 : Value) (x y : V) (h1 : Is w S (.agg #[p0, p1, p2, p3, p4]) x) (h2 : Is w S (.agg #[q0, q1, q2, q3, q4]) y) (g : Nat) (hg : g = w.heap.size) (h0 : S g) :
    Is (w.alloc (.cells #[p0, p1, p2, p3, p4, q0, q1, q2, q3, q4] 25)) S (.agg #[.int .i64 4, .int .i64 0, .string ⟨#[]⟩, .slice none 0 0, .slice (some ⟨g, 0, none⟩) 2 2]) ⟨4, 0, ⟨#[]⟩, [], [x, y]⟩ := by
  subst hg
  refine Is.shut (x := ⟨4, 0, ⟨#[]⟩, [], [x, y]⟩) ?_ ?_ (Nat.zero_le _)
  · exact strs_nil _ _
  · have hr := Row.cells (row_new w #[p0, p1, p2, p3, p4, q0, q1, q2, q3, q4] 25 _ rfl) h0 (n := 10) (Nat.le_refl _)
    refine ⟨_, _, _, rfl, Nat.le_refl _, by decide, hr, ?_⟩
    intro i hi
    have : i = 0 ∨ i = 1 := by have h2 : i < 2 := hi; omega
    rcases this with rfl | rfl
    · exact h1.below (below_alloc _ _)
    · exact h2.below (below_alloc _ _)

set_option maxHeartbeats 4000000 in
set_option maxRecDepth 100000 in
theorem valueSpoilt_walk (a0 : Option Addr) (len0 cap0 : Nat) (z0 : List Int) (k how : Int) (w : World) (w0 : IsRow .u8 w a0 len0 cap0 z0) (w1 : (Lit.int .u8 k).wf = true) (w2 : (Lit.int .u8 how).wf = true) :
    Calls Try.prog 10 #[.slice a0 len0 cap0, .int .u8 k, .int .u8 how] w fun e w' => e = .returned (.bool true) ∧ Below w.heap.size w w' := by
  obtain ⟨hk0, hk1⟩ := wf_u8 w1
  obtain ⟨hh0, hh1⟩ := wf_u8 w2
  clear w1 w2
  go_enter Try.func10, Try.ntmps10
  go_wp2_with fail
  refine (part_any a0 len0 cap0 z0 k w w0 hk0 hk1).mono ?_
  rintro e w3 ⟨vk, vn, vt, va1, vn1, vc1, va2, vn2, vc2, rfl, hv, b3⟩
  have hw := V.wt_part z0 len0 k
  have hr := V.right_part z0 len0 k
  obtain ⟨PV, hPV⟩ : ∃ P, V.part z0 len0 k = P := ⟨_, rfl⟩
  rw [hPV] at hv hw hr
  have HV := hide hv
  have HW := hide hw
  have HRI := hide hr
  have HB3 := hide b3
  clear hPV hv hw hr b3 w0
  go_upto_block 0 with fail
  go_cut [] (fun wc => Hid (BadX w3 ⟨.int .i64 vk, .int .i64 vn, .string vt, .slice va1 vn1 vc1, .slice va2 vn2 vc2⟩ 100 wc))
  case first =>
    have hqs : how % 5 = 0 ∨ how % 5 = 1 ∨ how % 5 = 2 ∨ how % 5 = 3 ∨ how % 5 = 4 := by omega
    rcases hqs with hq | hq | hq | hq | hq
    · have t1 : (how % 5 == 1) = false := by rw [hq]; rfl
      have t2 : (how % 5 == 2) = false := by rw [hq]; rfl
      have t3 : (how % 5 == 3) = false := by rw [hq]; rfl
      have t4 : (how % 5 == 4) = false := by rw [hq]; rfl
      clear hq
      go_wp2_with fail
      go_meet
      exact bad_plain w3 _ _ _ _ _ 7 0 ⟨#[]⟩ (by decide) V.right_bad7
    · have t1 : (how % 5 == 1) = true := by rw [hq]; rfl
      clear hq
      go_wp2_with fail
      go_meet
      exact bad_plain w3 _ _ _ _ _ 3 0 ⟨#[255]⟩ (by decide) V.right_badff
    · have t1 : (how % 5 == 1) = false := by rw [hq]; rfl
      have t2 : (how % 5 == 2) = true := by rw [hq]; rfl
      clear hq
      go_wp2_with fail
      go_meet
      exact bad_two w3 _ _ _ _ _ ⟨#[98]⟩ ⟨#[97]⟩ rfl rfl (by decide +kernel)
    · have t1 : (how % 5 == 1) = false := by rw [hq]; rfl
      have t2 : (how % 5 == 2) = false := by rw [hq]; rfl
      have t3 : (how % 5 == 3) = true := by rw [hq]; rfl
      clear hq
      go_wp2_with fail
      go_meet
      exact bad_plain w3 _ _ _ _ _ 2 0 ⟨#[49]⟩ (by decide) V.right_bad1
    · have t1 : (how % 5 == 1) = false := by rw [hq]; rfl
      have t2 : (how % 5 == 2) = false := by rw [hq]; rfl
      have t3 : (how % 5 == 3) = false := by rw [hq]; rfl
      have t4 : (how % 5 == 4) = true := by rw [hq]; rfl
      clear hq
      go_wp2_with fail
      go_meet
      exact bad_two w3 _ _ _ _ _ ⟨#[97]⟩ ⟨#[97]⟩ rfl rfl (by decide +kernel)
  case rest =>
    obtain ⟨N, hN⟩ : ∃ N : Nat, (how / 5 % 9).toNat = N := ⟨_, rfl⟩
    have hNI : how / 5 % 9 = (N : Int) := by omega
    have hN9 : N < 9 := by omega
    clear hN
    go_wp2_with fail
    go_loopg [9] N (fun g i wr => ∃ j : Nat, j + g = N ∧ i = .int .i64 j ∧ Hid (BadX w3 ⟨.int .i64 vk, .int .i64 vn, .string vt, .slice va1 vn1 vc1, .slice va2 vn2 vc2⟩ (100 + 5000 * j) wr))
    case atStart => exact ⟨0, by omega, rfl, hcut⟩
    case round =>
      clear hcut
      obtain ⟨j, hj, rfl, HX⟩ := hrel
      obtain ⟨X, xk, xm, xt, xa1, xn1, xc1, xa2, xn2, xc2, hbl, hbv, hbx, his, hri, hwt⟩ := HX.out
      obtain ⟨y0, y1, y2, y3, y4⟩ := id hbv
      obtain ⟨⟨z0, z1, z2, z3, z4⟩, g0, g1, g2, g3, g4⟩ := id hbx
      have hqI : IntKind.i64.wrap (how / 5 % 9) = (N : Int) := by rw [hNI, IntKind.wrap_i64]; omega
      by_cases hjn : j < N
      · have hsz := hbl.size
        have hgx := cell_size hbx.1.1
        have hv : Is wr (fun b => b ≠ w3.heap.size + 1) (.agg #[.int .i64 vk, .int .i64 vn, .string vt, .slice va1 vn1 vc1, .slice va2 vn2 vc2]) PV := (HV.out.weak (S' := fun b => b ≠ w3.heap.size + 1) (fun b hb _ => by omega)).below hbl
        have HIV := hide hv
        have HIS := hide his
        have HRX := hide hri
        have HWX := hide hwt
        have hwj : 100 + 5000 * j ≤ 100000 := by omega
        clear hv his hri hwt
        cases hpar : ((how + k) % 2 == 0) with
        | true =>
          go_wp2_with fail
          refine (with_any HIV.out HIS.out (Nat.le_trans HW.out (by decide)) (Nat.le_trans HWX.out (by omega)) ⟨#[122, 122]⟩ (by decide)).mono ?_
          rintro e w5 ⟨k5, m5, t5, a15, n15, c15, a25, n25, c25, rfl, his5, b5⟩
          clear y0 y1 y2 y3 y4 z0 z1 z2 z3 z4 g0 g1 g2 g3 g4
          have pb5 := hbx.keep b5
          obtain ⟨⟨y0, y1, y2, y3, y4⟩, g0, g1, g2, g3, g4⟩ := id pb5
          go_wp2_with fail
          go_roundg (gk - 1)
          case measure => omega
          case rel =>
            have hb5 := Box5.all pb5.1 (.int .i64 k5) (.int .i64 m5) (.string t5) (.slice a15 n15 c15) (.slice a25 n25 c25)
            have kp := keeps_set5 (S := fun b => b ≠ w3.heap.size + 1) (w := w5) (g := w3.heap.size + 1) (o := 0) (.int .i64 k5) (.int .i64 m5) (.string t5) (.slice a15 n15 c15) (.slice a25 n25 c25) (fun h => h rfl)
            refine ⟨j + 1, by omega, rfl, V.withV PV ⟨#[122, 122]⟩ X, k5, m5, t5, a15, n15, c15, a25, n25, c25, ?_, ?_, ⟨hb5, by simpa only [World.frozen?_setCell] using g0, by simpa only [World.frozen?_setCell] using g1, by simpa only [World.frozen?_setCell] using g2, by simpa only [World.frozen?_setCell] using g3, by simpa only [World.frozen?_setCell] using g4⟩, ?_, V.right_with_false HRX.out, ?_⟩
            · exact ((((((bthen hbl b5).setCell (Nat.le_succ _) _).setCell (Nat.le_succ _) _).setCell (Nat.le_succ _) _).setCell (Nat.le_succ _) _).setCell (Nat.le_succ _) _)
            · obtain ⟨x0, x1, x2, x3, x4⟩ := hbv.keep b5
              exact ⟨box_five x0 (by omega), box_five x1 (by omega), box_five x2 (by omega), box_five x3 (by omega), box_five x4 (by omega)⟩
            · exact (his5.weak (S' := fun b => b ≠ w3.heap.size + 1) (fun b _ h => by
                have h' : wr.heap.size ≤ b := h
                omega)).keep kp
            · have h1 := V.wt_with_le PV ⟨#[122, 122]⟩ X
              have h2 : (⟨#[122, 122]⟩ : ByteArray).size = 2 := rfl
              have h3 := HW.out
              have h4 := HWX.out
              omega
        | false =>
          have pb5 := hbx.keep (below_alloc wr (.cells #[.int .i64 vk, .int .i64 vn, .string vt, .slice va1 vn1 vc1, .slice va2 vn2 vc2, .int .i64 xk, .int .i64 xm, .string xt, .slice xa1 xn1 xc1, .slice xa2 xn2 xc2] 25))
          obtain ⟨⟨r0, r1, r2, r3, r4⟩, h0, h1, h2, h3, h4⟩ := id pb5
          go_wp2_with fail
          go_roundg (gk - 1)
          case measure => omega
          case rel =>
            have hb5 := Box5.all hbx.1 (.int .i64 4) (.int .i64 0) (.string ⟨#[]⟩) (.slice none 0 0) (.slice (some ⟨wr.heap.size, 0, none⟩) 2 2)
            have kp := keeps_set5 (S := fun b => b ≠ w3.heap.size + 1) (w := wr) (g := w3.heap.size + 1) (o := 0) (.int .i64 4) (.int .i64 0) (.string ⟨#[]⟩) (.slice none 0 0) (.slice (some ⟨wr.heap.size, 0, none⟩) 2 2) (fun h => h rfl)
            have hiv := HIV.out.keep kp
            have hix := HIS.out.keep kp
            have hbs : Below w3.heap.size w3 (set5 wr (w3.heap.size + 1) 0 (.int .i64 4) (.int .i64 0) (.string ⟨#[]⟩) (.slice none 0 0) (.slice (some ⟨wr.heap.size, 0, none⟩) 2 2)) := (((((hbl.setCell (Nat.le_succ _) _).setCell (Nat.le_succ _) _).setCell (Nat.le_succ _) _).setCell (Nat.le_succ _) _).setCell (Nat.le_succ _) _)
            have hs5 : (set5 wr (w3.heap.size + 1) 0 (.int .i64 4) (.int .i64 0) (.string ⟨#[]⟩) (.slice none 0 0) (.slice (some ⟨wr.heap.size, 0, none⟩) 2 2)).heap.size = wr.heap.size := by simp only [set5, size_set]
            have hv5 : Box5 (set5 wr (w3.heap.size + 1) 0 (.int .i64 4) (.int .i64 0) (.string ⟨#[]⟩) (.slice none 0 0) (.slice (some ⟨wr.heap.size, 0, none⟩) 2 2)) w3.heap.size (.int .i64 vk) (.int .i64 vn) (.string vt) (.slice va1 vn1 vc1) (.slice va2 vn2 vc2) := by
              obtain ⟨x0, x1, x2, x3, x4⟩ := hbv
              exact ⟨box_five x0 (by omega), box_five x1 (by omega), box_five x2 (by omega), box_five x3 (by omega), box_five x4 (by omega)⟩
            have hx5 : BoxF (set5 wr (w3.heap.size + 1) 0 (.int .i64 4) (.int .i64 0) (.string ⟨#[]⟩) (.slice none 0 0) (.slice (some ⟨wr.heap.size, 0, none⟩) 2 2)) (w3.heap.size + 1) (.int .i64 4) (.int .i64 0) (.string ⟨#[]⟩) (.slice none 0 0) (.slice (some ⟨wr.heap.size, 0, none⟩) 2 2) := by
              refine ⟨hb5, ?_, ?_, ?_, ?_, ?_⟩ <;> simp only [set5, World.frozen?_setCell] <;> assumption
            change ∃ j_1, _ ∧ _ ∧ Hid (BadX w3 _ _ ((set5 wr (w3.heap.size + 1) 0 (.int .i64 4) (.int .i64 0) (.string ⟨#[]⟩) (.slice none 0 0) (.slice (some ⟨wr.heap.size, 0, none⟩) 2 2)).alloc _))
            generalize set5 wr (w3.heap.size + 1) 0 (.int .i64 4) (.int .i64 0) (.string ⟨#[]⟩) (.slice none 0 0) (.slice (some ⟨wr.heap.size, 0, none⟩) 2 2) = wS at hiv hix hbs hs5 hv5 hx5 ⊢
            have hne : wr.heap.size ≠ w3.heap.size + 1 := by omega
            have hp := pair_is wS (fun b => b ≠ w3.heap.size + 1) (.int .i64 vk) (.int .i64 vn) (.string vt) (.slice va1 vn1 vc1) (.slice va2 vn2 vc2) (.int .i64 xk) (.int .i64 xm) (.string xt) (.slice xa1 xn1 xc1) (.slice xa2 xn2 xc2) PV X hiv hix wr.heap.size hs5.symm hne
            refine ⟨j + 1, by omega, rfl, ⟨4, 0, ⟨#[]⟩, [], [PV, X]⟩, 4, 0, ⟨#[]⟩, none, 0, 0, some ⟨wr.heap.size, 0, none⟩, 2, 2, bthen hbs (below_alloc _ _), hv5.keep (below_alloc _ _), hx5.keep (below_alloc _ _), hp, V.right_false_of_mem (x := X) (by simp) HRX.out, ?_⟩
            have h3 := HW.out
            have h4 := HWX.out
            rw [V.wt_mk, V.wtL_cons, V.wtL_cons, V.wtL_nil]
            simp only [V.wtK]
            have h5 : (⟨#[]⟩ : ByteArray).size = 0 := rfl
            omega
      · have hv := HV.out.below hbl
        have HIV := hide hv
        have HIS := hide his
        have HRX := hide hri
        have HWX := hide hwt
        have hwj : 100 + 5000 * j ≤ 100000 := by omega
        clear hv his hri hwt
        go_wp2_with fail
        refine (known_any wr).mono ?_
        rintro e w5 ⟨rfl, b5⟩
        clear y0 y1 y2 y3 y4 z0 z1 z2 z3 z4 g0 g1 g2 g3 g4
        obtain ⟨y0, y1, y2, y3, y4⟩ := (hbx.keep b5).1
        go_wp2_with fail
        refine (right_any (HIS.out.below b5) (Nat.le_trans HWX.out (by omega)) false HRX.out).mono ?_
        rintro e w6 ⟨rfl, b6⟩
        clear y0 y1 y2 y3 y4
        obtain ⟨y0, y1, y2, y3, y4⟩ := (hbv.keep b5).keep b6
        go_wp2_with fail
        refine (refRight_is ((HIV.out.below b5).below b6) (Nat.le_trans HW.out (by decide)) true HRI.out).mono ?_
        rintro e w7 ⟨rfl, b7⟩
        clear y0 y1 y2 y3 y4
        obtain ⟨y0, y1, y2, y3, y4⟩ := ((hbv.keep b5).keep b6).keep b7
        go_wp2_with fail
        refine (right_any (((HIV.out.below b5).below b6).below b7) (Nat.le_trans HW.out (by decide)) true HRI.out).mono ?_
        rintro e w8 ⟨rfl, b8⟩
        clear y0 y1 y2 y3 y4
        go_wp2
        go_ret
        exact ⟨rfl, bthen HB3.out (bthen hbl (bthen b5 (bthen b6 (bthen b7 b8))))⟩

end Go.Proofs.Ytfdcekobdpfkgaa
