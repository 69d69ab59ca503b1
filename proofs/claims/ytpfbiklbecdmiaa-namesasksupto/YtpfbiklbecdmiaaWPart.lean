/-
  THE WALK over the part of a value that choices make.
-/
import Derived.Test.YtpfbiklbecdmiaaWVal
import Derived.Test.YtpfbiklbecdmiaaWRight
import Derived.Test.YtpfbiklbecdmiaaVKnown
import Derived.BigRegion
set_option linter.unusedVariables false
set_option linter.unusedSimpArgs false
namespace Go.Proofs.Ytpfbiklbecdmiaa
open Go.RowKit

namespace V
def part (zs : List Int) (len : Nat) (k : Int) : V :=
  if (valV zs len).list.isEmpty || !(valV zs len).right then nul else (valV zs len).list.getD (k.toNat % (valV zs len).list.length) nul
theorem wt_part (zs : List Int) (len : Nat) (k : Int) : wt (part zs len k) ≤ 4000 := by
  unfold part
  have hn : wt nul = 1 := by unfold nul; rw [wt_mk]; rfl
  split
  · omega
  · have h1 := wt_val zs len
    simp only [List.getD]
    cases h : (valV zs len).list[k.toNat % (valV zs len).list.length]? with
    | none => simp only [Option.getD_none]; omega
    | some x =>
      have hm := List.mem_of_getElem? h
      have h2 := wtL_mem hm
      have h3 := wtL_list (valV zs len)
      simp only [Option.getD_some]
      omega
theorem right_nul : right nul = true := by
  unfold nul
  rw [right_mk]
  have e2 : textOk 0 ⟨#[]⟩ = true := by unfold textOk; rw [Lib.toList_data]; rfl
  rw [e2]
  rfl
theorem right_part (zs : List Int) (len : Nat) (k : Int) : right (part zs len k) = true := by
  unfold part
  split
  · exact right_nul
  · rename_i h
    simp only [Bool.or_eq_true, Bool.not_eq_true', not_or, Bool.not_eq_true, Bool.not_eq_false] at h
    have hr := h.2
    have hl : 0 < (valV zs len).list.length := by
      rcases Nat.eq_zero_or_pos (valV zs len).list.length with e | e
      · have := List.eq_nil_of_length_eq_zero e
        rw [this] at h
        simp at h
      · exact e
    have hlt : k.toNat % (valV zs len).list.length < (valV zs len).list.length := Nat.mod_lt _ hl
    have e : (valV zs len).list.getD (k.toNat % (valV zs len).list.length) nul = (valV zs len).list[k.toNat % (valV zs len).list.length] := by simp [List.getD, hlt]
    rw [e]
    have hall : (valV zs len).list.all right = true := by
      generalize valV zs len = x at hr
      obtain ⟨kk, n, t, ks, l⟩ := x
      rw [right_mk] at hr
      simp only [Bool.and_eq_true] at hr
      exact hr.1.2
    exact List.all_eq_true.1 hall _ (List.getElem_mem hlt)
end V

theorem isRow_keep {w w' : World} {a : Option Addr} {len cap : Nat} {zs : List Int} (h : IsRow .u8 w a len cap zs) (k : Below w.heap.size w w') : IsRow .u8 w' a len cap zs := by
  rcases h with h | ⟨x, ha, hl, hm, hz, hcell, hwz⟩
  · exact .inl h
  · exact .inr ⟨x, ha, hl, hm, hz, fun i hi => by rw [k.cell (p := x.add i) (World.block_lt_of_cell? w _ (hcell i hi))]; exact hcell i hi, hwz⟩

set_option maxHeartbeats 4000000 in
set_option maxRecDepth 100000 in
theorem part_any (a : Option Addr) (len cap : Nat) (zs : List Int) (k : Int) (w : World) (h : IsRow .u8 w a len cap zs) (hk0 : 0 ≤ k) (hk1 : k ≤ 255) :
    Calls Try.prog 18 #[.slice a len cap, .int .u8 k] w fun e w' => ∃ k2 n t a1 n1 c1 a2 n2 c2, e = .returned (.agg #[.int .i64 k2, .int .i64 n, .string t, .slice a1 n1 c1, .slice a2 n2 c2]) ∧ Is w' (fun b => w.heap.size ≤ b) (.agg #[.int .i64 k2, .int .i64 n, .string t, .slice a1 n1 c1, .slice a2 n2 c2]) (V.part zs len k) ∧ Below w.heap.size w w' := by
  have HH := hide h
  clear h
  go_enter Try.func18, Try.ntmps18
  go_wp2_with fail
  refine (val_any a len cap zs _ (isRow_keep HH.out (below_alloc _ _))).mono ?_
  rintro e w1 ⟨va, vn, vc, rfl, hv, b1⟩
  have hw := V.wt_val zs len
  obtain ⟨r1, r2, r3, r4, rfl⟩ := hv.parts
  clear r1 r2 r3 r4
  have hl := V.len_wt (V.valV zs len)
  obtain ⟨X, hX⟩ : ∃ X, V.valV zs len = X := ⟨_, rfl⟩
  rw [hX] at hv hw hl
  rw [hX]
  have hp : V.part zs len k = if X.list.isEmpty || !X.right then V.nul else X.list.getD (k.toNat % X.list.length) V.nul := by unfold V.part; rw [hX]
  have HP := hide hp
  have HV := hide hv
  have HW := hide hw
  have hl2 : X.list.length ≤ 4000 := by omega
  have pr : BoxF w1 w.heap.size _ _ _ _ _ := (boxF_at w _ _ _ _ _ 25 _ rfl).keep b1
  have bb := bthen (below_alloc w _) b1
  clear hp hv hw hl hX b1
  obtain ⟨LV, hLV⟩ : ∃ l, X.list = l := ⟨_, rfl⟩
  rw [hLV]
  rw [hLV] at hl2
  have HLV := hide hLV
  clear hLV
  by_cases h0 : LV.length = 0
  · have hb : ((LV.length : Int) == 0) = true := by simp [h0]
    have H0 := hide h0
    clear h0
    obtain ⟨⟨y0, y1, y2, y3, y4⟩, g0, g1, g2, g3, g4⟩ := id (pr.keep (below_alloc w1 (.cells #[.int .i64 4, .int .i64 0, .string ⟨#[]⟩, .slice none 0 0, .slice va LV.length vc] 25)))
    go_wp2_with fail
    obtain ⟨u0, u1, u2, u3, u4⟩ := Box5.all (pr.keep (below_alloc w1 (.cells #[.int .i64 4, .int .i64 0, .string ⟨#[]⟩, .slice none 0 0, .slice va LV.length vc] 25))).1 (.int .i64 0) (.int .i64 0) (.string ⟨#[]⟩) (.slice none 0 0) (.slice none 0 0)
    refine bodyPost_ret (v := .agg #[.int .i64 0, .int .i64 0, .string ⟨#[]⟩, .slice none 0 0, .slice none 0 0]) (by simp [results, Try.results18, go_sem, u0, u1, u2, u3, u4]) rfl ?_
    refine ⟨0, 0, ⟨#[]⟩, none, 0, 0, none, 0, 0, rfl, ?_, (((((bthen bb (below_alloc _ _)).setCell (Nat.le_refl _) _).setCell (Nat.le_refl _) _).setCell (Nat.le_refl _) _).setCell (Nat.le_refl _) _).setCell (Nat.le_refl _) _⟩
    have e : V.part zs len k = V.nul := by
      rw [HP.out, HLV.out, List.eq_nil_of_length_eq_zero H0.out]
      rfl
    rw [e]
    exact is_plain _ _ 0 0 ⟨#[]⟩ (by decide)
  · have hb : ((LV.length : Int) == 0) = false := by rw [beq_eq_false_iff_ne]; omega
    have hne : LV.isEmpty = false := by
      cases LV with
      | nil => simp at h0
      | cons _ _ => rfl
    have HNE := hide hne
    clear hne
    have hvv : Is (w1.alloc (.cells #[.int .i64 4, .int .i64 0, .string ⟨#[]⟩, .slice none 0 0, .slice va LV.length vc] 25)) (fun b => w.heap.size + 1 ≤ b) (.agg #[.int .i64 4, .int .i64 0, .string ⟨#[]⟩, .slice none 0 0, .slice va LV.length vc]) X := by
      have := HV.out
      rw [HLV.out] at this
      exact (this.weak (fun b _ hb => by simpa using hb)).below (below_alloc _ _)
    cases hr : X.right with
    | false =>
      have HR := hide hr
      clear hr
      go_wp2_with fail
      refine (refRight_is hvv (Nat.le_trans HW.out (by decide)) false HR.out).mono ?_
      rintro e w2 ⟨rfl, b2⟩
      have pr2 := (pr.keep (below_alloc _ _)).keep b2
      obtain ⟨⟨y0, y1, y2, y3, y4⟩, g0, g1, g2, g3, g4⟩ := id pr2
      go_wp2_with fail
      obtain ⟨u0, u1, u2, u3, u4⟩ := Box5.all pr2.1 (.int .i64 0) (.int .i64 0) (.string ⟨#[]⟩) (.slice none 0 0) (.slice none 0 0)
      refine bodyPost_ret (v := .agg #[.int .i64 0, .int .i64 0, .string ⟨#[]⟩, .slice none 0 0, .slice none 0 0]) (by simp [results, Try.results18, go_sem, u0, u1, u2, u3, u4]) rfl ?_
      refine ⟨0, 0, ⟨#[]⟩, none, 0, 0, none, 0, 0, rfl, ?_, (((((bthen bb (bthen (below_alloc _ _) b2)).setCell (Nat.le_refl _) _).setCell (Nat.le_refl _) _).setCell (Nat.le_refl _) _).setCell (Nat.le_refl _) _).setCell (Nat.le_refl _) _⟩
      have e : V.part zs len k = V.nul := by rw [HP.out, HR.out]; simp
      rw [e]
      exact is_plain _ _ 0 0 ⟨#[]⟩ (by decide)
    | true =>
      have HR := hide hr
      clear hr
      go_wp2_with fail
      refine (refRight_is hvv (Nat.le_trans HW.out (by decide)) true HR.out).mono ?_
      rintro e w2 ⟨rfl, b2⟩
      have pr2 := (pr.keep (below_alloc _ _)).keep b2
      have pv2 := (boxF_at w1 (.int .i64 4) (.int .i64 0) (.string ⟨#[]⟩) (.slice none 0 0) (.slice va LV.length vc) 25 _ rfl).keep b2
      have hvv2 := hvv.below b2
      have hs1 : w.heap.size < w1.heap.size := cell_size pr.1.1
      obtain ⟨p, hp⟩ : ∃ p, k.toNat % LV.length = p := ⟨_, rfl⟩
      have hpl : p < LV.length := by rw [← hp]; exact Nat.mod_lt _ (by omega)
      obtain ⟨kv3, lv3, hq3, _, hl3, _⟩ := hvv2.open
      simp only [Value.agg.injEq, Array.mk.injEq, List.cons.injEq, and_true] at hq3
      obtain ⟨r1, r2, r3, r4, rfl⟩ := hq3
      clear r1 r2 r3 r4
      rw [HLV.out] at hl3
      obtain ⟨b, off, k3, m3, t3, a13, n13, c13, a23, n23, c23, rfl, hel, q0, q1, q2, q3, q4⟩ := isL_open hl3 (Below.refl _ _) hpl
      have hpI : k % (LV.length : Int) = (p : Int) := by
        rw [← hp]
        have : (k.toNat : Int) = k := Int.toNat_of_nonneg hk0
        rw [Int.natCast_emod, this]
      have hpt : k.tmod (LV.length : Int) = (p : Int) := by rw [Int.tmod_eq_emod_of_nonneg hk0]; exact hpI
      have hkw : IntKind.i64.wrap k = k := by rw [IntKind.wrap_i64]; omega
      have hlz : ((LV.length : Int) == 0) = false := hb
      have hlz' : ¬ (LV.length : Int) = 0 := by omega
      have hpw : IntKind.i64.wrap (p : Int) = (p : Int) := by rw [IntKind.wrap_i64]; omega
      have HEL := hide hel
      obtain ⟨⟨y0, y1, y2, y3, y4⟩, g0, g1, g2, g3, g4⟩ := id pr2
      obtain ⟨⟨v0, v1, v2, v3, v4⟩, _⟩ := id pv2
      have HPP := hide hp
      clear hel hvv hvv2 hl3 hp
      have hpL : (p : Int) < (LV.length : Int) := by omega
      go_wp2_with fail
      go_region
      go_wp2_with fail
      obtain ⟨u0, u1, u2, u3, u4⟩ := Box5.all pr2.1 (.int .i64 k3) (.int .i64 m3) (.string t3) (.slice a13 n13 c13) (.slice a23 n23 c23)
      refine bodyPost_ret (v := .agg #[.int .i64 k3, .int .i64 m3, .string t3, .slice a13 n13 c13, .slice a23 n23 c23]) (by simp [results, Try.results18, go_sem, u0, u1, u2, u3, u4]) rfl ?_
      refine ⟨k3, m3, t3, a13, n13, c13, a23, n23, c23, rfl, ?_, ?_⟩
      · have kp := keeps_set5 (S := fun b => w.heap.size + 1 ≤ b) (w := w2) (g := w.heap.size) (o := 0) (.int .i64 k3) (.int .i64 m3) (.string t3) (.slice a13 n13 c13) (.slice a23 n23 c23) (by omega)
        have e : V.part zs len k = LV[p] := by
          rw [HP.out, HR.out, HLV.out, HNE.out]
          simp only [Bool.not_true, Bool.or_self, Bool.false_eq_true, if_false]
          simp [List.getD, HPP.out, List.getElem?_eq_getElem hpl]
        rw [e]
        refine Is.weak (S := fun b => w.heap.size + 1 ≤ b) (Is.keep (w := w2) HEL.out ?_) (fun b _ hb => Nat.le_of_succ_le hb)
        exact fun b hb hl => kp b hb hl
      · exact ((((((bthen bb (bthen (below_alloc _ _) b2)).setCell (Nat.le_refl _) _).setCell (Nat.le_refl _) _).setCell (Nat.le_refl _) _).setCell (Nat.le_refl _) _).setCell (Nat.le_refl _) _).drew

end Go.Proofs.Ytpfbiklbecdmiaa
