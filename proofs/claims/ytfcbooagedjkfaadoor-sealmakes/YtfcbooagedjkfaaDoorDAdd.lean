/-
  THE WALK of a block into a sum (add).
-/
import Derived.Test.YtfcbooagedjkfaaDoorDSpread
set_option linter.unusedVariables false
set_option linter.unusedSimpArgs false
namespace Go.Proofs.YtfcbooagedjkfaaDoor
open Go.RowKit

/-- the table lies in memory -/
def Cubes (w : World) : Prop := ∀ i : Nat, i < 64 → w.cell? ⟨0, i, none⟩ = some (w32 (Dg.K[i]?.getD 0))
theorem Cubes.lt {w : World} (h : Cubes w) : 0 < w.heap.size := block_lt_of_cell (h 0 (by omega))
theorem Cubes.below {w w' : World} (h : Cubes w) {B : Nat} (b : Below B w w') (hB : 0 < B) : Cubes w' := fun i hi => (b.cell (p := ⟨0, i, none⟩) hB).trans (h i hi)
theorem Cubes.below' {w w' : World} (h : Cubes w) (b : Below w.heap.size w w') : Cubes w' := h.below b h.lt
theorem Cubes.but {w w' : World} (h : Cubes w) {g : Nat} (b : But g w w') (hg : 0 ≠ g) : Cubes w' := fun i hi => (World.cell?_of_block (w := w) (b.block _ h.lt hg)).trans (h i hi)

theorem step_list (g t : Nat) (s : List Int) (x : Int) (w : World) (hs : s.length = 8) (hb : Blk w g t (wds s)) :
    Calls Tryd.prog 65 #[.pointer (some ⟨g, 0, none⟩), .int .u32 x] w fun r w' => (∃ v, r = .returned v) ∧ But g w w' ∧ Blk w' g t (wds (Dg.step s x)) := by
  obtain ⟨a, b, c, d, e, f, i, z, rfl⟩ := Dg.eight hs
  exact step_any g t a b c d e f i z x w hb

theorem run_index_wds {P : Program} (w : World) (t e n : Nat) (l : List Int) (i : Nat) (h : P.underlying t = some (.array n e)) (d : TypeDesc) (hd : P.underlying e = some d) (he : (match d with | .struct _ | .array _ _ => true | _ => false) = false) (hs : (P.info? e).map (·.size) = some 1) (hi : i < n) (hl : i < l.length) :
    (Instr.index t (.agg (wds l)) (.int .i64 i)).run P w = .ok (w32 (l[i]?.getD 0)) w := by
  have hin : 0 ≤ (i : Int) ∧ (i : Int) < n := by omega
  have hagg : (isAgg e).run P w = .ok false w := by
    unfold isAgg
    rw [Sem.run_bind, run_underlying hd w]
    cases d <;> simp_all
  cases hq : P.info? e with
  | none => simp [hq] at hs
  | some j =>
    have hj : j.size = 1 := by simpa [hq] using hs
    have hc := wds_at hl
    simp [Instr.index, run_underlying h, asIntOf, part, hagg, sizeOf, typeInfo, hq, hj, hl, hi, hc, go_sem]

theorem app_at {l : List Int} {r : Array Value} {i : Nat} (h : i < l.length) : (wds l ++ r)[i]? = some (w32 (l[i]?.getD 0)) := by
  rw [Array.getElem?_append_left (by rw [wds_size]; exact h), wds_at h]
theorem app_set (l : List Int) (r : Array Value) (i : Nat) (h : i < l.length) (x : Int) : (wds l ++ r).setIfInBounds i (w32 x) = wds (l.set i x) ++ r := by
  rw [← wds_set]
  apply Array.ext_getElem?
  intro j
  by_cases hj : j < l.length
  · rw [Array.getElem?_append_left (by simp [wds_size]; exact hj), Array.getElem?_setIfInBounds, Array.getElem?_setIfInBounds, Array.getElem?_append_left (by rw [wds_size]; exact hj)]
    by_cases e : i = j
    · subst e
      simp [wds_size, h, show i < l.length + r.size by omega]
    · simp [e]
  · have hne : ¬ i = j := by omega
    rw [Array.getElem?_append_right (by simp [wds_size]; omega), Array.getElem?_setIfInBounds, if_neg hne, Array.getElem?_append_right (by rw [wds_size]; omega)]
    simp

set_option maxHeartbeats 1000000 in
theorem add_any (g t b o cap : Nat) (s bs : List Int) (rest : Array Value) (w : World) (hs : s.length = 8) (hb : Blk w g t (wds s ++ rest)) (hg : 0 ≠ g) (hc : Cubes w)
    (hl : bs.length = 64) (hcap : 64 ≤ cap) (hr : Rd w b o bs) (h8 : ∀ i : Nat, 0 ≤ bs[i]?.getD 0 ∧ bs[i]?.getD 0 ≤ 255) :
    Calls Tryd.prog 54 #[.pointer (some ⟨g, 0, none⟩), .slice (some ⟨b, o, none⟩) 64 cap] w fun e w' => (∃ v, e = .returned v) ∧ But g w w' ∧ Blk w' g t (wds (Dg.block s bs) ++ rest) := by
  obtain ⟨s0, s1, s2, s3, s4, s5, s6, s7, e8⟩ := Dg.eight hs
  have HBg := hide hb
  have c0 := (hb.cell 0).trans (app_at (by omega))
  have c1 := (hb.cell 1).trans (app_at (by omega))
  have c2 := (hb.cell 2).trans (app_at (by omega))
  have c3 := (hb.cell 3).trans (app_at (by omega))
  have c4 := (hb.cell 4).trans (app_at (by omega))
  have c5 := (hb.cell 5).trans (app_at (by omega))
  have c6 := (hb.cell 6).trans (app_at (by omega))
  have c7 := (hb.cell 7).trans (app_at (by omega))
  rw [e8] at c0 c1 c2 c3 c4 c5 c6 c7
  simp only [List.getElem?_cons_zero, List.getElem?_cons_succ, Option.getD_some] at c0 c1 c2 c3 c4 c5 c6 c7
  have HE8 := hide e8
  have HG := hide hg
  have HC := hide hc
  have HL := hide hl
  have HR := hide hr
  have H8 := hide h8
  have HS := hide hs
  clear e8 hb hg hc hl hr h8 hs
  go_enter Tryd.func54, Tryd.ntmps54
  go_wp2_with fail
  have hN : Blk (w.alloc (.cells #[w32 s0, w32 s1, w32 s2, w32 s3, w32 s4, w32 s5, w32 s6, w32 s7] 74)) w.heap.size 74 (wds s) := by rw [HE8.out]; exact blk_new _ _ _
  have hb1 : Below w.heap.size w (w.alloc (.cells #[w32 s0, w32 s1, w32 s2, w32 s3, w32 s4, w32 s5, w32 s6, w32 s7] 74)) := (Below.refl _ _).alloc (Nat.le_refl _) _
  refine (spread_any b o cap bs _ HL.out hcap (HR.out.below hb1) H8.out).mono ?_
  rintro e w2 ⟨rfl, b2⟩
  have HN2 := hide (hN.below' b2)
  have HB2 := hide (bthen hb1 b2)
  clear hN hb1 b2 c0 c1 c2 c3 c4 c5 c6 c7 HE8 HR H8 HL
  obtain ⟨W, hW⟩ : ∃ W, W = Dg.spread bs := ⟨_, rfl⟩
  have HWl : Hid (W.length = 64) := by rw [hW]; exact Dg.spread_length bs
  rw [← hW]
  have HW := hide hW
  clear hW
  go_wp2_with fail
  go_loopw [14] (fun i wr => ∃ k : Nat, k ≤ 64 ∧ i = .int .i64 k ∧ Blk wr w.heap.size 74 (wds (Dg.rounds s W k)) ∧ But w.heap.size w2 wr) (fun i _ => 64 - (intOf i).toNat)
  case atStart => exact ⟨0, by omega, rfl, HN2.out, But.refl _ _⟩
  case round =>
    obtain ⟨k, hk, rfl, hB, hbut⟩ := hrel
    by_cases hlt : k < 64
    · have hcube := ((HC.out.below' HB2.out).but hbut (by have := HC.out.lt; omega)) k hlt
      have hix := run_index_wds (P := Tryd.prog) wr 88 72 64 W k Tryd.underlying88 _ Tryd.underlying72 rfl (by kernel_rfl) hlt (by rw [HWl.out]; exact hlt)
      have HBk := hide hB
      have HBu := hide hbut
      clear hB hbut
      go_wp2_with fail
      refine (step_list w.heap.size 74 (Dg.rounds s W k) _ _ (by rw [Dg.rounds_length]; exact HS.out) HBk.out).mono ?_
      rintro e w3 ⟨⟨v3, rfl⟩, b3, hB3⟩
      clear hcube hix
      go_wp2_with fail
      go_roundw
      case rel => exact ⟨k + 1, by omega, by go_num, hB3, HBu.out.trans b3⟩
      case measure => simp [intOf]; omega
    · have HK : Hid (k = 64) := by show k = 64; omega
      have HBg2 : Hid (Blk wr g t (wds s ++ rest)) := (hbut.other (HBg.out.below' HB2.out) (by have := HBg.out.lt; omega))
      have HW2 : Hid (Below w.heap.size w wr) := HB2.out.trans (hbut.to_below HB2.out.size (Nat.le_refl _))
      obtain ⟨n, hn⟩ : ∃ n, n = Dg.rounds s W 64 := ⟨_, rfl⟩
      have HNB : Hid (Blk wr w.heap.size 74 (wds n)) := by rw [hn, ← HK.out]; exact hB
      have HNn : Hid (n.length = 8) := by rw [hn]; exact (Dg.rounds_length s W 64).trans HS.out
      have HN := hide hn
      clear hn hB hbut HN2 HB2 HBg
      go_upto_region 6 with fail
      clear hlt hk
      refine wp_region_lit ?_
      refine wpList_load_row rfl _ _ rfl w.heap.size rfl 74 (wds n) (0, 0) _ HNB.out Tryd.underlying74 rfl (by rw [wds_size, HNn.out]; kernel_rfl) ?_
      simp only [Act.put, List.setIfInBounds_toArray, List.set_cons_zero, List.set_cons_succ]
      go_wp2_with fail
      go_loopw [26] (fun i wq => ∃ k : Nat, k ≤ 8 ∧ i = .int .i64 k ∧ Blk wq g t (wds (Dg.plus s n k) ++ rest) ∧ But g wr wq) (fun i _ => 8 - (intOf i).toNat)
      case atStart => exact ⟨0, by omega, rfl, HBg2.out, But.refl _ _⟩
      case round =>
        rename_i wr0 _
        obtain ⟨j, hj, rfl, hB, hbut⟩ := hrel
        by_cases hlt : j < 8
        · have hix := run_index_wds (P := Tryd.prog) wr 74 72 8 n j Tryd.underlying74 _ Tryd.underlying72 rfl (by kernel_rfl) hlt (by rw [HNn.out]; exact hlt)
          have hcell := (hB.cell j).trans (app_at (by rw [Dg.plus_length, HS.out]; exact hlt))
          have hfr := hB.frozen j
          have HBk := hide hB
          have HBu := hide hbut
          clear hB hbut
          go_wp2_with fail
          go_region
          go_wp2_with fail
          go_roundw
          case rel =>
            refine ⟨j + 1, by omega, by go_num, ?_, HBu.out.trans ((But.refl _ _).set j _).drew⟩
            have h9 := (HBk.out.set j (w32 (((Dg.plus s n j)[j]?.getD 0 + n[j]?.getD 0) % 4294967296))).drew
            rw [app_set _ _ _ (by rw [Dg.plus_length, HS.out]; exact hlt)] at h9
            exact h9
          case measure => simp [intOf]; omega
        · have HJ : Hid (j = 8) := by show j = 8; omega
          go_wp2_with fail
          go_end0
          refine ⟨⟨_, rfl⟩, (But.of_below HW2.out).trans hbut, ?_⟩
          rw [HJ.out, HN.out, HW.out] at hB
          exact hB

end Go.Proofs.YtfcbooagedjkfaaDoor
