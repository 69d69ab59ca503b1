/-
  The law ValueDeep.
-/
import Derived.Test.YtfdcekobdpfkgaaWPart
import Derived.Test.YtfdcekobdpfkgaaVWithD
import Derived.Deep.DeepCutAuto
import Derived.Deep.CutBlock
import Derived.Deep.RegionHeld3
import Derived.Lib.QuietBelow
set_option linter.unusedVariables false
set_option linter.unusedSimpArgs false
namespace Go.Proofs.Ytfdcekobdpfkgaa
open Go.RowKit Go.Sort

namespace V
theorem right_kinds {x : V} (hr : right x = true) : 0 ≤ x.kind ∧ x.kind ≤ 5 := by
  obtain ⟨k, n, t, ks, l⟩ := x
  rw [right_mk] at hr
  simp only [Bool.and_eq_true, kindOk, decide_eq_true_eq] at hr
  exact hr.1.1.1.1.1
theorem right_list {x : V} (hr : right x = true) (h : 0 < x.list.length) : x.kind = 4 ∨ x.kind = 5 := by
  obtain ⟨k, n, t, ks, l⟩ := x
  rw [right_mk] at hr
  simp only [Bool.and_eq_true, Bool.or_eq_true, beq_iff_eq] at hr
  rcases hr.2 with h1 | h1
  · exact h1
  · cases l with
    | nil => simp at h
    | cons _ _ => simp at h1
theorem deep_kid {x : V} (hr : right x = true) (j : Nat) (h : j < x.list.length) : deep x.list[j] < deep x := by
  have hk := right_list hr (by omega)
  have hm := deepL_mem (List.getElem_mem h)
  obtain ⟨k, n, t, ks, l⟩ := x
  rw [deep_mk, if_pos hk]
  simp only at hm ⊢
  omega
theorem deep_one (x : V) : deep ⟨4, 0, ⟨#[]⟩, [], [x]⟩ = deep x + 1 := by
  rw [deep_mk, if_pos (.inl rfl), deepL_one]
  omega
theorem deep_with_nul (key : ByteArray) (x : V) : deep (withV nul key x) = deep x + 1 := by
  have e : withV nul key x = ⟨5, 0, ⟨#[]⟩, [key], [x]⟩ := by
    unfold withV with5
    rw [if_neg (by decide)]
    have : ¬ (0 : Int) ≤ place none5 key := by
      show ¬ (0 : Int) ≤ Lib.idxOfS [] key
      rw [Lib.idxOfS_nonneg_iff]
      simp
    rw [if_neg this]
    rfl
  rw [e, deep_mk, if_pos (.inr rfl), deepL_one]
  omega
theorem deep_pos {x : V} (hr : right x = true) : decide (0 < (deep x : Int)) = decide (4 ≤ x.kind) := by
  have h := right_kinds hr
  obtain ⟨k, n, t, ks, l⟩ := x
  rw [deep_mk]
  simp only at h ⊢
  split
  · rename_i h4
    rw [decide_eq_true (by omega), decide_eq_true (by omega)]
  · rename_i h4
    rw [decide_eq_false (by omega), decide_eq_false (by omega)]
end V

theorem list1_is (w : World) (S : Nat → Prop) (p0 p1 p2 p3 p4 : Value) (x : V) (h1 : Is w S (.agg #[p0, p1, p2, p3, p4]) x) (g : Nat) (hg : g = w.heap.size) (h0 : S g) :
    Is (w.alloc (.cells #[p0, p1, p2, p3, p4] 25)) S (.agg #[.int .i64 4, .int .i64 0, .string ⟨#[]⟩, .slice none 0 0, .slice (some ⟨g, 0, none⟩) 1 1]) ⟨4, 0, ⟨#[]⟩, [], [x]⟩ := by
  subst hg
  refine Is.shut (x := ⟨4, 0, ⟨#[]⟩, [], [x]⟩) ?_ ?_ (Nat.zero_le _)
  · exact strs_nil _ _
  · have hr := Row.cells (row_new w #[p0, p1, p2, p3, p4] 25 _ rfl) h0 (n := 5) (Nat.le_refl _)
    refine ⟨_, _, _, rfl, Nat.le_refl _, by decide, hr, ?_⟩
    intro i hi
    have : i = 0 := by have h2 : i < 1 := hi; omega
    subst this
    exact h1.below (below_alloc _ _)

theorem below_of {wz w' : World} {P : Prop} (h : Hid (Below wz.heap.size wz w') ∧ P) : Below wz.heap.size wz w' := h.1
theorem two_keep {wz w w' : World} {g g' : Nat} {v0 v1 v2 v3 v4 x0 x1 x2 x3 x4 : Value}
    (h : Hid (Below wz.heap.size wz w) ∧ w.cell? ⟨g, 0, none⟩ = some v0 ∧ w.cell? ⟨g, 1, none⟩ = some v1 ∧ w.cell? ⟨g, 2, none⟩ = some v2 ∧ w.cell? ⟨g, 3, none⟩ = some v3 ∧ w.cell? ⟨g, 4, none⟩ = some v4 ∧ w.cell? ⟨g', 0, none⟩ = some x0 ∧ w.cell? ⟨g', 1, none⟩ = some x1 ∧ w.cell? ⟨g', 2, none⟩ = some x2 ∧ w.cell? ⟨g', 3, none⟩ = some x3 ∧ w.cell? ⟨g', 4, none⟩ = some x4)
    (b : Below w.heap.size w w') :
    Hid (Below wz.heap.size wz w') ∧ w'.cell? ⟨g, 0, none⟩ = some v0 ∧ w'.cell? ⟨g, 1, none⟩ = some v1 ∧ w'.cell? ⟨g, 2, none⟩ = some v2 ∧ w'.cell? ⟨g, 3, none⟩ = some v3 ∧ w'.cell? ⟨g, 4, none⟩ = some v4 ∧ w'.cell? ⟨g', 0, none⟩ = some x0 ∧ w'.cell? ⟨g', 1, none⟩ = some x1 ∧ w'.cell? ⟨g', 2, none⟩ = some x2 ∧ w'.cell? ⟨g', 3, none⟩ = some x3 ∧ w'.cell? ⟨g', 4, none⟩ = some x4 := by
  obtain ⟨h, y0, y1, y2, y3, y4, z0, z1, z2, z3, z4⟩ := h
  exact ⟨bthen h.out b, cell_keep y0 b, cell_keep y1 b, cell_keep y2 b, cell_keep y3 b, cell_keep y4 b, cell_keep z0 b, cell_keep z1 b, cell_keep z2 b, cell_keep z3 b, cell_keep z4 b⟩
theorem two_start {wz : World} {g g' : Nat} {v0 v1 v2 v3 v4 x0 x1 x2 x3 x4 : Value} (h : Hid (Box5 wz g v0 v1 v2 v3 v4)) (h' : Hid (Box5 wz g' x0 x1 x2 x3 x4)) :
    Hid (Below wz.heap.size wz wz.drew) ∧ wz.drew.cell? ⟨g, 0, none⟩ = some v0 ∧ wz.drew.cell? ⟨g, 1, none⟩ = some v1 ∧ wz.drew.cell? ⟨g, 2, none⟩ = some v2 ∧ wz.drew.cell? ⟨g, 3, none⟩ = some v3 ∧ wz.drew.cell? ⟨g, 4, none⟩ = some v4 ∧ wz.drew.cell? ⟨g', 0, none⟩ = some x0 ∧ wz.drew.cell? ⟨g', 1, none⟩ = some x1 ∧ wz.drew.cell? ⟨g', 2, none⟩ = some x2 ∧ wz.drew.cell? ⟨g', 3, none⟩ = some x3 ∧ wz.drew.cell? ⟨g', 4, none⟩ = some x4 := by
  obtain ⟨y0, y1, y2, y3, y4⟩ := h.out
  obtain ⟨z0, z1, z2, z3, z4⟩ := h'.out
  exact ⟨(Below.refl _ _).drew, y0, y1, y2, y3, y4, z0, z1, z2, z3, z4⟩

set_option maxHeartbeats 4000000 in
set_option maxRecDepth 100000 in
theorem valueDeep_walk (a0 : Option Addr) (len0 cap0 : Nat) (z0 : List Int) (k : Int) (w : World) (w0 : IsRow .u8 w a0 len0 cap0 z0) (w1 : (Lit.int .u8 k).wf = true) :
    Calls Try.prog 7 #[.slice a0 len0 cap0, .int .u8 k] w fun e w' => e = .returned (.bool true) ∧ Below w.heap.size w w' := by
  obtain ⟨hk0, hk1⟩ := wf_u8 w1
  clear w1
  go_enter Try.func7, Try.ntmps7
  go_wp2_with fail
  refine (part_any a0 len0 cap0 z0 k w w0 hk0 hk1).mono ?_
  rintro e w3 ⟨vk, vn, vt, va1, vn1, vc1, va2, vn2, vc2, rfl, hv, b3⟩
  have hw := V.wt_part z0 len0 k
  have hr := V.right_part z0 len0 k
  obtain ⟨PV, hPV⟩ : ∃ P, V.part z0 len0 k = P := ⟨_, rfl⟩
  rw [hPV] at hv hw hr
  obtain ⟨r1, r2, r3, r4, rfl⟩ := hv.parts
  have HK := hide r1
  clear r1 r2 r3 r4
  have HV := hide hv
  have HW := hide hw
  have HRI := hide hr
  have HB3 := hide b3
  have hd := V.deep_wt PV
  have hlw := V.len_wt PV
  have hlen : PV.list.length ≤ 4000 := by omega
  obtain ⟨D, hD⟩ : ∃ D, V.deep PV = D := ⟨_, rfl⟩
  have hD4 : D ≤ 4000 := by omega
  obtain ⟨LV, hLV⟩ : ∃ l, PV.list = l := ⟨_, rfl⟩
  rw [hLV] at HV hlen ⊢
  have HLV := hide hLV
  have HD := hide hD
  clear hPV hv hw hr b3 w0 hd hlw hD hLV
  go_wp2_with fail
  go_loopg [6] LV.length (fun g i wr => ∃ j : Nat, j + g = LV.length ∧ i = .int .i64 j ∧ Hid (Below w3.heap.size w3 wr) ∧ Hid (Box5 wr w3.heap.size (.int .i64 vk) (.int .i64 vn) (.string vt) (.slice va1 vn1 vc1) (.slice va2 LV.length vc2)))
  case atStart => exact ⟨0, by omega, rfl, below_alloc _ _, box5_new w3 _ _ _ _ _ _⟩
  case round =>
    obtain ⟨j, hj, rfl, HBL, HBX⟩ := hrel
    have hbl := HBL.out
    obtain ⟨y0, y1, y2, y3, y4⟩ := id HBX.out
    have hv := HV.out.below hbl
    have HIV := hide hv
    by_cases hjn : j < LV.length
    · obtain ⟨kv3, lv3, hq3, _, hl3, _⟩ := hv.open
      simp only [Value.agg.injEq, Array.mk.injEq, List.cons.injEq, and_true] at hq3
      obtain ⟨r1, r2, r3, r4, rfl⟩ := hq3
      clear r1 r2 r3 r4 hv
      rw [HLV.out] at hl3
      obtain ⟨b, off, k3, m3, t3, a13, n13, c13, a23, n23, c23, rfl, hel, q0, q1, q2, q3, q4⟩ := isL_open hl3 (Below.refl _ _) hjn
      clear hl3
      have hkid : V.deep LV[j] < D := by
        have := V.deep_kid HRI.out j (by rw [HLV.out]; exact hjn)
        rw [HD.out] at this
        simpa only [HLV.out] using this
      obtain ⟨E, hE⟩ : ∃ E, V.deep LV[j] = E := ⟨_, rfl⟩
      have hwe : V.wt LV[j] ≤ 4294967296 := by
        have h1 := V.wt_get PV j (by rw [HLV.out]; exact hjn)
        have h2 := HW.out
        have h3 : V.wt LV[j] = V.wt (PV.list[j]'(by rw [HLV.out]; exact hjn)) := by simp only [HLV.out]
        omega
      rw [hE] at hkid
      have HEL := hide hel
      have HE := hide hE
      have HWE := hide hwe
      clear hel hE hwe
      have hkI : ¬ (D : Int) ≤ (E : Int) := by omega
      have cK : ∀ d os, Calls Try.prog 31 #[.agg #[.int .i64 k3, .int .i64 m3, .string t3, .slice a13 n13 c13, .slice a23 n23 c23]] (grow (redrawn wr d) os) fun e w'' => e = .returned (.int .i64 E) ∧ ∃ p : Regrown, w'' = grow (redrawn wr p.d) p.os := fun d os => Calls.regrown_of (deep_any (HEL.out.below (below_regrown wr d os)) HWE.out E HE.out)
      have cV : ∀ d os, Calls Try.prog 31 #[.agg #[.int .i64 vk, .int .i64 vn, .string vt, .slice va1 vn1 vc1, .slice (some ⟨b, off, none⟩) LV.length vc2]] (grow (redrawn wr d) os) fun e w'' => e = .returned (.int .i64 D) ∧ ∃ p : Regrown, w'' = grow (redrawn wr p.d) p.os := fun d os => Calls.regrown_of (deep_any (HIV.out.below (below_regrown wr d os)) (Nat.le_trans HW.out (by decide)) D HD.out)
      have e0 := cell_regrown y0
      have e1 := cell_regrown y1
      have e2 := cell_regrown y2
      have e3 := cell_regrown y3
      have e4 := cell_regrown y4
      have f0 := cell_regrown q0
      have f1 := cell_regrown q1
      have f2 := cell_regrown q2
      have f3 := cell_regrown q3
      have f4 := cell_regrown q4
      go_wp2_with fail
      refine wp_region_quiet_below (by kernel_rfl) (by kernel_rfl) ?_
      repeat (go_big_quiet_step (first | exact cK _ _ | exact cV _ _))
      refine wpQuiet_nil ?_
      intro _ hw'
      obtain ⟨⟨dq, osq⟩, rfl⟩ := hw'
      have b1 := below_regrown wr dq osq
      generalize grow (redrawn wr dq) osq = w1 at b1 ⊢
      clear e0 e1 e2 e3 e4 f0 f1 f2 f3 f4 cK cV y0 y1 y2 y3 y4 q0 q1 q2 q3 q4
      go_wp2_with fail
      go_roundg (gk - 1)
      case measure => omega
      case rel => exact ⟨j + 1, by omega, rfl, bthen HBL.out b1, HBX.out.keep b1⟩
    · clear hv
      go_wp2_with fail
      have hx := (list1_is wr (fun _ => True) _ _ _ _ _ PV (HIV.out.weak (fun _ _ _ => trivial)) wr.heap.size rfl trivial).below (below_alloc (wr.alloc (.cells #[.int .i64 vk, .int .i64 vn, .string vt, .slice va1 vn1 vc1, .slice va2 LV.length vc2] 25)) (.cells #[.int .i64 4, .int .i64 0, .string ⟨#[]⟩, .slice none 0 0, .slice (some ⟨wr.heap.size, 0, none⟩) 1 1] 25))
      have hbz : Below wr.heap.size wr ((wr.alloc (.cells #[.int .i64 vk, .int .i64 vn, .string vt, .slice va1 vn1 vc1, .slice va2 LV.length vc2] 25)).alloc (.cells #[.int .i64 4, .int .i64 0, .string ⟨#[]⟩, .slice none 0 0, .slice (some ⟨wr.heap.size, 0, none⟩) 1 1] 25)) := bthen (below_alloc _ _) (below_alloc _ _)
      have hbx : Box5 ((wr.alloc (.cells #[.int .i64 vk, .int .i64 vn, .string vt, .slice va1 vn1 vc1, .slice va2 LV.length vc2] 25)).alloc (.cells #[.int .i64 4, .int .i64 0, .string ⟨#[]⟩, .slice none 0 0, .slice (some ⟨wr.heap.size, 0, none⟩) 1 1] 25)) (wr.heap.size + 1) _ _ _ _ _ := box5_at _ _ _ _ _ _ _ _ (by simp)
      have hbv := HBX.out.keep hbz
      have hvz := HIV.out.below hbz
      generalize ((wr.alloc (.cells #[.int .i64 vk, .int .i64 vn, .string vt, .slice va1 vn1 vc1, .slice va2 LV.length vc2] 25)).alloc (.cells #[.int .i64 4, .int .i64 0, .string ⟨#[]⟩, .slice none 0 0, .slice (some ⟨wr.heap.size, 0, none⟩) 1 1] 25)) = wz at hx hbz hbx hbv hvz ⊢
      have HXZ := hide hx
      have HVZ := hide hvz
      have HBZ := hide hbz
      have HXB := hide hbx
      have HVB := hide hbv
      clear hx hvz hbz hbx hbv y0 y1 y2 y3 y4 hbl
      have hwx : V.wt ⟨4, 0, ⟨#[]⟩, [], [PV]⟩ ≤ 5000 := by
        have h3 := HW.out
        have h5 : (⟨#[]⟩ : ByteArray).size = 0 := rfl
        rw [V.wt_mk, V.wtL_cons, V.wtL_nil]
        simp only [V.wtK]
        omega
      have hwz : V.wt (V.withV V.nul ⟨#[97]⟩ ⟨4, 0, ⟨#[]⟩, [], [PV]⟩) ≤ 4294967296 := by
        have h1 := V.wt_with_le V.nul ⟨#[97]⟩ ⟨4, 0, ⟨#[]⟩, [], [PV]⟩
        have h2 : (⟨#[97]⟩ : ByteArray).size = 1 := rfl
        have h3 : V.wt V.nul = 1 := by unfold V.nul; rw [V.wt_mk]; rfl
        omega
      have HWX := hide hwx
      have HWZ := hide hwz
      clear hwx hwz
      have hdp := V.deep_pos HRI.out
      rw [HD.out, ← HK.out] at hdp
      have HDP := hide hdp
      clear hdp
      have cV : ∀ w', Below wz.heap.size wz w' → Calls Try.prog 31 #[.agg #[.int .i64 vk, .int .i64 vn, .string vt, .slice va1 vn1 vc1, .slice va2 LV.length vc2]] w' fun e w'' => e = .returned (.int .i64 (D : Int)) ∧ Below w'.heap.size w' w'' := fun w' b => deep_any (HVZ.out.below b) (Nat.le_trans HW.out (by decide)) D HD.out
      have cX : ∀ w', Below wz.heap.size wz w' → Calls Try.prog 31 #[.agg #[.int .i64 4, .int .i64 0, .string ⟨#[]⟩, .slice none 0 0, .slice (some ⟨wr.heap.size, 0, none⟩) 1 1]] w' fun e w'' => e = .returned (.int .i64 ((D : Int) + 1)) ∧ Below w'.heap.size w' w'' := fun w' b => deep_any (HXZ.out.below b) (Nat.le_trans HWX.out (by decide)) (D + 1) (by rw [V.deep_one, HD.out])
      have cW : ∀ w', Below wz.heap.size wz w' → Calls Try.prog 25 #[.agg #[.int .i64 0, .int .i64 0, .string ⟨#[]⟩, .slice none 0 0, .slice none 0 0], .string ⟨#[97]⟩, .agg #[.int .i64 4, .int .i64 0, .string ⟨#[]⟩, .slice none 0 0, .slice (some ⟨wr.heap.size, 0, none⟩) 1 1]] w' fun e w'' => ∃ k n t a1 n1 c1 a2 n2 c2, e = .returned (.agg #[.int .i64 k, .int .i64 n, .string t, .slice a1 n1 c1, .slice a2 n2 c2]) ∧ Hid (Is w'' (fun b => w'.heap.size ≤ b) (.agg #[.int .i64 k, .int .i64 n, .string t, .slice a1 n1 c1, .slice a2 n2 c2]) (V.withV V.nul ⟨#[97]⟩ ⟨4, 0, ⟨#[]⟩, [], [PV]⟩)) ∧ Below w'.heap.size w' w'' := fun w' b => with_any (is_plain _ (fun _ => True) 0 0 ⟨#[]⟩ (by decide)) (HXZ.out.below b) (by show V.wt V.nul ≤ _; unfold V.nul; rw [V.wt_mk]; decide) (Nat.le_trans HWX.out (by decide)) ⟨#[97]⟩ (by decide)
      have CV := hide cV
      have CX := hide cX
      have CW := hide cW
      clear cV cX cW
      have hw1 : IntKind.i64.wrap ((D : Int) + 1) = (D : Int) + 1 := by rw [IntKind.wrap_i64]; omega
      have hw2 : IntKind.i64.wrap ((D : Int) + 2) = (D : Int) + 2 := by rw [IntKind.wrap_i64]; omega
      go_region_held3 (fun w' => Hid (Below wz.heap.size wz w') ∧ w'.cell? ⟨w3.heap.size, 0, none⟩ = some (.int .i64 vk) ∧ w'.cell? ⟨w3.heap.size, 1, none⟩ = some (.int .i64 vn) ∧ w'.cell? ⟨w3.heap.size, 2, none⟩ = some (.string vt) ∧ w'.cell? ⟨w3.heap.size, 3, none⟩ = some (.slice va1 vn1 vc1) ∧ w'.cell? ⟨w3.heap.size, 4, none⟩ = some (.slice va2 LV.length vc2) ∧ w'.cell? ⟨wr.heap.size + 1, 0, none⟩ = some (.int .i64 4) ∧ w'.cell? ⟨wr.heap.size + 1, 1, none⟩ = some (.int .i64 0) ∧ w'.cell? ⟨wr.heap.size + 1, 2, none⟩ = some (.string ⟨#[]⟩) ∧ w'.cell? ⟨wr.heap.size + 1, 3, none⟩ = some (.slice none 0 0) ∧ w'.cell? ⟨wr.heap.size + 1, 4, none⟩ = some (.slice (some ⟨wr.heap.size, 0, none⟩) 1 1)) (first | exact two_start HVB HXB | exact two_keep (by assumption) (by assumption)) (first
        | (go_at_call 13; refine (known_any _).mono ?_; rintro e w5 ⟨rfl, b5⟩)
        | (go_at_call 25; refine (CW.out _ (below_of (by assumption))).mono ?_; rintro e w6 ⟨k6, n6, t6, a16, n16, c16, a26, n26, c26, rfl, H6, b6⟩)
        | (go_at_call 31; refine (CV.out _ (below_of (by assumption))).mono ?_; rintro e w7 ⟨rfl, b7⟩)
        | (go_at_call 31; refine (CX.out _ (below_of (by assumption))).mono ?_; rintro e w7 ⟨rfl, b7⟩)
        | (go_at_call 31; refine (deep_any H6.out HWZ.out (D + 2) (by rw [V.deep_with_nul, V.deep_one, HD.out])).mono ?_; rintro e w7 ⟨rfl, b7⟩))
      have hlast : RowKit.Below wz.heap.size wz w7 := below_of (by assumption)
      go_wp2_with fail
      go_ret
      refine ⟨?_, bthen HB3.out (bthen HBL.out (bthen HBZ.out hlast))⟩
      simp
      have h2 := HDP.out
      rw [decide_eq_decide] at h2
      omega

end Go.Proofs.Ytfdcekobdpfkgaa
