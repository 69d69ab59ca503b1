/-
  THE WALKS of whole, summed and Code (layer 5).
-/
import Derived.Test.YtfcbooagedjkfaaDoorSWalks
import Derived.Deep.DeepCutAuto
import Derived.Deep.CutBlock
set_option linter.unusedVariables false
set_option linter.unusedSimpArgs false
namespace Go.Proofs.YtfcbooagedjkfaaDoor
open Go.RowKit

/-- bytes, as cells -/
def by8 (l : List Int) : Array Value := (l.map b8).toArray
theorem by8_size (l : List Int) : (by8 l).size = l.length := by simp [by8]
theorem by8_at {l : List Int} {i : Nat} (h : i < l.length) : (by8 l)[i]? = some (b8 (l[i]?.getD 0)) := by simp [by8, h]
theorem by8_set (l : List Int) (i : Nat) (x : Int) : (by8 l).setIfInBounds i (b8 x) = by8 (l.set i x) := by simp [by8, List.map_set]
theorem by8_one (l : List Int) : (by8 l).all (·.oneCell') = true := by
  rw [Array.all_eq_true_iff_forall_mem]
  intro x hx
  simp only [by8, List.mem_toArray, List.mem_map] at hx
  obtain ⟨y, _, rfl⟩ := hx
  rfl
def zero64 : List Int := List.replicate 64 0
theorem size39 : (Tryd.prog.info? 39).map (·.size) = some 64 := by kernel_rfl

theorem run_copy_64 (w : World) (g len cap : Nat) (a : Option Addr) (bs : List Int) (hb : Blk w g 39 (by8 zero64)) (hB : IsB w a len cap bs) (hl : len ≤ 64) :
    (Builtin.copy_ #[22, 22] 3 #[.slice (some ⟨g, 0, none⟩) 64 64, .slice a len cap]).run Tryd.prog w = .ok (.int .i64 len) (w.setRow g (by8 (bs ++ List.replicate (64 - bs.length) 0))) := by
  obtain ⟨h1, h2, h3, h4, h5⟩ := hB
  by_cases h0 : len = 0
  · subst h0
    have hbe : bs = [] := List.eq_nil_of_length_eq_zero h1
    rw [hbe]
    have e : w.setRow g (by8 ([] ++ List.replicate (64 - ([] : List Int).length) 0)) = w := setRow_self w g _ _ _ hb
    rw [e]
    exact run_copy_none w 22 22 3 5 (some ⟨g, 0, none⟩) a 64 64 0 cap Tryd.underlying22 (by kernel_rfl) (by simp)
  · rcases h5 with ⟨_, hc0⟩ | ⟨x, rfl, h6⟩
    · omega
    · obtain ⟨b, o, rfl, hR⟩ := h6 (by omega)
      have h := run_copy_row (P := Tryd.prog) w 22 22 3 5 g 0 64 64 ⟨b, o, none⟩ len cap (by8 zero64) 39 (bs.map b8) Tryd.underlying22 (by kernel_rfl) hb (by rw [List.length_map, h1]; exact (Nat.min_eq_left hl).symm)
        (fun j v hv => by
          have hadd : (⟨b, o, none⟩ : Addr).add j = ⟨b, o + j, none⟩ := by unfold Addr.add; split <;> simp_all
          refine Eq.trans (congrArg _ hadd) ?_
          have hj : j < bs.length := by have := (List.getElem?_eq_some_iff.1 hv).1; simpa using this
          refine (hR j hj).trans ?_
          rw [List.getElem?_map, List.getElem?_eq_getElem hj] at hv
          simp at hv
          simp [hj, hv])
        (by rw [by8_size, List.length_map, h1]; simp [zero64]; omega) (fun v hv => by simp only [List.mem_map] at hv; obtain ⟨x, _, rfl⟩ := hv; rfl)
      rw [List.length_map, h1] at h
      have e : (((by8 zero64).toList.take 0 ++ bs.map b8 ++ (by8 zero64).toList.drop (0 + len)).toArray) = by8 (bs ++ List.replicate (64 - bs.length) 0) := by
        unfold by8 zero64
        simp only [List.map_replicate, List.take_zero, List.nil_append, Nat.zero_add, List.drop_replicate, List.map_append, h1]
      rw [e] at h
      exact h
theorem whole_length (bs : List Int) : (Sl.whole bs).length = 64 := by
  unfold Sl.whole
  simp only
  split
  · simp
    omega
  · simp [Dg.sha_length]
theorem run_whole64 (w : World) (g : Nat) : (Instr.sliceAt 39 (.pointer (some ⟨g, 0, none⟩)) none none none).run Tryd.prog w = .ok (.slice (some ⟨g, 0, none⟩) 64 64) w := by
  have hu : (Tryd.prog.underlying 39) = some (.array 64 5) := Tryd.underlying39
  have hs : (sizeOf 5).run Tryd.prog w = .ok 1 w := by
    cases hq : Tryd.prog.info? 5 with
    | none => have := infoByte; simp [hq] at this
    | some j =>
      have hj : j.size = 1 := by have := infoByte; simp [hq] at this; exact this.2.1
      simp [sizeOf, typeInfo, hq, hj]
  simp [Instr.sliceAt, Instr.sureAddr, run_underlying hu, Instr.sliceBounds, run_sliceBound, hs, Addr.add]

set_option maxRecDepth 100000 in
set_option maxHeartbeats 1000000 in
theorem whole_any (bs : List Int) (a : Option Addr) (len cap : Nat) (w : World) (hB : IsB w a len cap bs) (hC : Cubes w) (hmax : len ≤ 1000000) :
    Calls Tryd.prog 26 #[.slice a len cap] w fun e w' => e = .returned (.agg (by8 (Sl.whole bs))) ∧ Below w.heap.size w w' := by
  have HB := hide hB
  have HC := hide hC
  clear hB hC
  go_enter Tryd.func26, Tryd.ntmps26
  go_upto_region 1 with fail
  change Code.wp _ _ _ _ (w.alloc (.cells (by8 zero64) 39))
  have b0 : Below w.heap.size w (w.alloc (.cells (by8 zero64) 39)) := (Below.refl _ _).alloc (Nat.le_refl _) _
  have HR := hide (blk_new w 39 (by8 zero64))
  have HI := hide (HB.out.below b0)
  have HC1 := hide (HC.out.below' b0)
  have HB0 := hide b0
  clear b0 HB HC
  generalize w.alloc (.cells (by8 zero64) 39) = w1 at HR HI HC1 HB0 ⊢
  go_upto_if 6 with fail
  go_cut [0] from 6 to 8 (fun v wc => ∃ a' len' cap', v = .slice a' len' cap' ∧ len' ≤ 64 ∧ Hid (∃ q, IsB wc a' len' cap' q ∧ Sl.whole bs = q ++ List.replicate (64 - q.length) 0 ∧ Below w1.heap.size w1 wc))
  case first =>
    by_cases h64 : 64 < len
    · go_wp2_with fail
      refine (digestI bs a len cap _ HI.out HC1.out (by omega)).mono ?_
      rintro e w2 ⟨g', rfl, hI2, hg2, b2⟩
      go_wp2_with fail
      go_meet
      case rel =>
        refine ⟨_, 32, 32, rfl, by omega, Dg.sha bs, hI2, ?_, b2⟩
        unfold Sl.whole
        simp only
        rw [if_neg (by rw [HI.out.1]; omega)]
    · go_wp2_with fail
      go_meet
      case rel =>
        refine ⟨a, len, cap, rfl, by omega, bs, HI.out, ?_, Below.refl _ _⟩
        unfold Sl.whole
        simp only
        rw [if_pos (by rw [HI.out.1]; omega)]
  case rest =>
    obtain ⟨a', len', cap', rfl, hl', hq⟩ := hcut
    obtain ⟨q, hI2, hwq, b2⟩ := hq.out
    have HI2 := hide hI2
    have HW := hide hwq
    have HB2 := hide (HB0.out.trans (b2.mono HB0.out.size))
    have HR2 := hide (HR.out.below' b2)
    clear hq hI2 hwq b2 HI HC1 HR HB0
    go_upto_region 4 with fail
    change Code.wp _ _ _ _ (wc.alloc (.cells (by8 zero64) 39))
    have b3 : Below wc.heap.size wc (wc.alloc (.cells (by8 zero64) 39)) := (Below.refl _ _).alloc (Nat.le_refl _) _
    have hnw := blk_new wc 39 (by8 zero64)
    have hsl := run_whole64 (wc.alloc (.cells (by8 zero64) 39)) wc.heap.size
    have hcp := run_copy_64 (wc.alloc (.cells (by8 zero64) 39)) wc.heap.size len' cap' a' q hnw (HI2.out.below b3) hl'
    rw [← HW.out] at hcp
    have hrow := hnw.row (by8 (Sl.whole bs))
    have HB4 : Hid (Below w.heap.size w ((wc.alloc (.cells (by8 zero64) 39)).setRow wc.heap.size (by8 (Sl.whole bs)))) := (HB2.out.trans (b3.mono HB2.out.size)).trans ((But.row (.refl _ _) _).to_below (by have := HB2.out.size; simp; omega) HB2.out.size)
    have HR4 : Hid (Blk ((wc.alloc (.cells (by8 zero64) 39)).setRow wc.heap.size (by8 (Sl.whole bs))) w.heap.size 39 (by8 zero64)) := (But.row (.refl wc.heap.size (wc.alloc (.cells (by8 zero64) 39))) _).other (HR2.out.below' b3) (by have := HR2.out.lt; omega)
    have HN4 := hide hrow
    clear hrow hnw b3
    go_upto_region 5 with fail
    generalize (wc.alloc (.cells (by8 zero64) 39)).setRow wc.heap.size (by8 (Sl.whole bs)) = w4 at HB4 HR4 HN4 ⊢
    clear hsl hcp
    refine wp_region_lit ?_
    refine wpList_load_row rfl _ _ rfl wc.heap.size rfl 39 (by8 (Sl.whole bs)) (0, 0) _ HN4.out Tryd.underlying39 rfl (by rw [by8_size, whole_length]; exact size39) ?_
    refine wpList_store_row rfl _ _ _ rfl w.heap.size (by8 (Sl.whole bs)) rfl rfl 39 _ HR4.out (by rw [by8_size, whole_length]; exact size39) (by rw [by8_size, by8_size, whole_length]; rfl) (by8_one _) ?_
    have hR5 := HR4.out.row (by8 (Sl.whole bs))
    have hb5 : Below w.heap.size w (w4.setRow w.heap.size (by8 (Sl.whole bs))) := HB4.out.trans ((But.row (.refl _ _) _).to_below HB4.out.size (Nat.le_refl _))
    generalize w4.setRow w.heap.size (by8 (Sl.whole bs)) = w5 at hR5 hb5 ⊢
    simp only [wpList, Act.put]
    go_wp2_with fail
    refine bodyPost_ret (v := .agg (by8 (Sl.whole bs))) ?_ rfl ⟨rfl, hb5⟩
    exact results_cell_row rfl _ _ w.heap.size 39 _ (0, 0) _ rfl hR5 Tryd.underlying39 rfl (by rw [by8_size, whole_length]; exact size39)

/-- a key of which the first i bytes are masked -/
def mk (m : Int) (k : List Int) (i : Nat) : List Int := Sl.mask m (k.take i) ++ k.drop i
theorem mk_length (m : Int) (k : List Int) (i : Nat) : (mk m k i).length = k.length := by simp [mk, Sl.mask]; omega
theorem mk_at (m : Int) (k : List Int) (i : Nat) : (mk m k i)[i]?.getD 0 = k[i]?.getD 0 := by
  unfold mk Sl.mask
  by_cases h : i < k.length
  · rw [List.getElem?_append_right (by simp; omega)]
    simp only [List.length_map, List.length_take, List.getElem?_drop]
    rw [show i + (i - min i k.length) = i by omega]
  · rw [List.getElem?_eq_none (by simp; omega), List.getElem?_eq_none (by omega)]
theorem mk_set (m : Int) (k : List Int) (i : Nat) (h : i < k.length) : (mk m k i).set i (bits .xor .u8 (k[i]?.getD 0) m) = mk m k (i + 1) := by
  unfold mk Sl.mask
  rw [List.set_append_right _ _ (by simp; omega)]
  simp only [List.length_map, List.length_take]
  rw [show i - min i k.length = 0 by omega, List.drop_eq_getElem_cons h, List.set_cons_zero, List.take_succ_eq_append_getElem h, List.map_append, List.getElem?_eq_getElem h]
  simp
theorem b8_mask {k : List Int} {m : Int} (h : Dg.B8 k) (h0 : 0 ≤ m) (h1 : m ≤ 255) : Dg.B8 (Sl.mask m k) := by
  refine Dg.b8_of_mem fun x hx => ?_
  unfold Sl.mask at hx
  obtain ⟨y, hy, rfl⟩ := List.mem_map.1 hx
  obtain ⟨i, hi, rfl⟩ := List.getElem_of_mem hy
  have := h i
  rw [List.getElem?_eq_getElem hi] at this
  have := xor8 this.1 this.2 h0 h1
  exact ⟨this.1, this.2.1⟩
theorem blk_isB {w : World} {g : Nat} {t : TypeId} {l : List Int} (hb : Blk w g t (by8 l)) (hl : l.length = 64) (h8 : Dg.B8 l) : IsB w (some ⟨g, 0, none⟩) 64 64 l := by
  refine ⟨hl, Nat.le_refl _, by omega, h8, .inr ⟨_, rfl, fun _ => ⟨g, 0, rfl, fun i hi => ?_⟩⟩⟩
  rw [Nat.zero_add, hb.cell i]
  exact by8_at hi

set_option maxRecDepth 100000 in
set_option maxHeartbeats 1000000 in
theorem summed_any (k row : List Int) (m : Int) (a : Option Addr) (len cap : Nat) (w : World) (hk : k.length = 64) (h8 : Dg.B8 k) (hm0 : 0 ≤ m) (hm1 : m ≤ 255) (hB : IsB w a len cap row) (hC : Cubes w) (hmax : len ≤ 1000000) :
    Calls Tryd.prog 27 #[.agg (by8 k), .int .u8 m, .slice a len cap] w fun e w' => ∃ g', e = .returned (.slice (some ⟨g', 0, none⟩) 32 32) ∧ IsB w' (some ⟨g', 0, none⟩) 32 32 (Sl.summed k m row) ∧ w.heap.size ≤ g' ∧ Below w.heap.size w w' := by
  have HB := hide hB
  have HC := hide hC
  have H8 := hide h8
  have HK := hide hk
  clear hB hC h8 hk
  go_enter Tryd.func27, Tryd.ntmps27
  go_upto_region 1 with fail
  have b0 : Below w.heap.size w (w.alloc (.cells (by8 k) 39)) := (Below.refl _ _).alloc (Nat.le_refl _) _
  have HR := hide (blk_new w 39 (by8 k))
  have HB0 := hide b0
  have hs0 : (w.alloc (.cells (by8 k) 39)).heap.size = w.heap.size + 1 := by simp
  clear b0
  generalize w.alloc (.cells (by8 k) 39) = w1 at HR HB0 hs0 ⊢
  obtain ⟨N, hN⟩ : ∃ N, N = w.heap.size := ⟨_, rfl⟩
  rw [← hN] at HR hs0 ⊢
  have HN := hide hN
  clear hN
  go_wp2_with fail
  go_loopw [9] (fun i wr => ∃ q : Nat, q ≤ 64 ∧ i = .int .i64 q ∧ Hid (Blk wr N 39 (by8 (mk m k q))) ∧ Hid (Below N w wr) ∧ Hid (wr.heap.size = N + 1)) (fun i _ => 64 - (intOf i).toNat)
  case atStart =>
    refine ⟨0, by omega, rfl, ?_, by rw [HN.out]; exact HB0, hs0⟩
    show Blk w1 N _ (by8 (mk m k 0))
    rw [show mk m k 0 = k by simp [mk, Sl.mask]]
    exact HR.out
  case round =>
    obtain ⟨q, hq, rfl, HRr, HBr, HSr⟩ := hrel
    by_cases hlt : q < 64
    · have hc := (HRr.out.cell q).trans (by8_at (by rw [mk_length, HK.out]; exact hlt))
      rw [mk_at] at hc
      have hf := HRr.out.frozen q
      have hset := by8_set (mk m k q) q (bits .xor .u8 (k[q]?.getD 0) m)
      rw [mk_set m k q (by rw [HK.out]; exact hlt)] at hset
      have hR2 := HRr.out.set q (b8 (bits .xor .u8 (k[q]?.getD 0) m))
      rw [hset] at hR2
      obtain ⟨x, hx⟩ : ∃ x, x = k[q]?.getD 0 := ⟨_, rfl⟩
      rw [← hx] at hc hR2
      have HR2 := hide hR2
      clear hset hR2 hx
      go_wp2_with fail
      go_roundw
      case rel =>
        refine ⟨q + 1, by omega, by go_num, HR2, HBr.out.setCell (p := ⟨N, q, none⟩) (Nat.le_refl _) _, ?_⟩
        have := HSr.out
        show (wr.setCell _ _).heap.size = N + 1
        simp [World.setCell, this]
      case measure => simp [intOf]; omega
    · have hq64 : q = 64 := by omega
      have hmk : mk m k q = Sl.mask m k := by
        unfold mk
        rw [List.take_of_length_le (by rw [HK.out]; omega), List.drop_eq_nil_of_le (by rw [HK.out]; omega), List.append_nil]
      have hRm := HRr.out
      rw [hmk] at hRm
      have HRm := hide hRm
      have hml : (Sl.mask m k).length = 64 := by simp [Sl.mask, HK.out]
      have HML := hide hml
      clear hmk hRm hml
      have HCr : Hid (Cubes wr) := HC.out.below HBr.out (by rw [HN.out]; exact HC.out.lt)
      have HIr : Hid (IsB wr a len cap row) := HB.out.below (HN.out ▸ HBr.out)
      have hslc := fun w => run_whole64 w N
      go_wp2_with fail
      refine (new_any _).mono ?_
      rintro e w2 ⟨rfl, b2, hn⟩
      have HH2 := hide (hs_new hn)
      have HB2 := hide b2
      have hg : N ≠ wr.heap.size := by have := HSr.out; omega
      obtain ⟨g, hgd⟩ : ∃ g, g = wr.heap.size := ⟨_, rfl⟩
      rw [← hgd] at HH2 hg ⊢
      have HG := hide hgd
      clear hn b2 hgd
      have HI2 : Hid (IsB w2 (some ⟨N, 0, none⟩) 64 64 (Sl.mask m k)) := (blk_isB HRm.out HML.out (b8_mask H8.out hm0 hm1)).below HB2.out
      have hcl := HC.out.lt
      have hSr := HSr.out
      have hNe := HN.out
      have HSg : Hid (N < g) := by rw [HG.out]; show N < wr.heap.size; omega
      have hgc : 0 ≠ g := by rw [HG.out]; omega
      clear hSr hNe
      go_wp2_with fail
      refine (write_any g [] (Sl.mask m k) (some ⟨N, 0, none⟩) 64 64 _ HH2.out HI2.out (fun _ x hx => by cases hx; exact hg) hgc (HCr.out.below' HB2.out) (by simp)).mono ?_
      rintro e w3 ⟨rfl, b3, hH3⟩
      have HH3 := hide hH3
      have HB3 := hide b3
      have HI3 : Hid (IsB w3 a len cap row) := (HIr.out.below HB2.out).but b3 (HIr.out.off (by rw [HG.out]; exact Nat.le_refl _))
      have HC3 : Hid (Cubes w3) := (HCr.out.below' HB2.out).but b3 hgc
      clear hH3 b3
      go_wp2_with fail
      refine (write_any g (Sl.mask m k) row a len cap _ HH3.out HI3.out (HIr.out.off (by rw [HG.out]; exact Nat.le_refl _)) hgc HC3.out (by rw [HML.out]; omega)).mono ?_
      rintro e w4 ⟨rfl, b4, hH4⟩
      have HH4 := hide hH4
      have HB4 := hide b4
      have HC4 : Hid (Cubes w4) := HC3.out.but b4 hgc
      clear hH4 b4
      go_wp2_with fail
      refine (sumI g (Sl.mask m k ++ row) _ HH4.out HC4.out (by rw [List.length_append, HML.out, HB.out.1]; omega)).mono ?_
      rintro e w5 ⟨g', rfl, hI5, hg5, b5⟩
      have HI5 := hide hI5
      have HB5 := hide b5
      have Hg5 := hide hg5
      clear hI5 b5 hg5
      go_wp2_with fail
      go_ret
      have hb24 : Below wr.heap.size wr w4 := HB2.out.trans ((HB3.out.trans HB4.out).to_below HB2.out.size (by rw [HG.out]; exact Nat.le_refl _))
      have hbw : Below w.heap.size w wr := by have := HBr.out; rw [HN.out] at this; exact this
      exact ⟨g', rfl, HI5.out, Nat.le_trans (Nat.le_trans hbw.size hb24.size) Hg5.out, bthen (bthen hbw hb24) HB5.out⟩

/-- a sum that a call made -/
def SumF (l : List Int) : Fact := fun _ _ v w => ∃ g, v = .slice (some ⟨g, 0, none⟩) 32 32 ∧ Hid (IsB w (some ⟨g, 0, none⟩) 32 32 l)
theorem mono_sumF (l : List Int) : Mono (SumF l) := fun _ _ _ _ _ h b => by
  obtain ⟨g, h1, h2⟩ := h
  exact ⟨g, h1, h2.out.below b⟩
theorem whole_b8 {bs : List Int} (h : Dg.B8 bs) : Dg.B8 (Sl.whole bs) := by
  refine Dg.b8_of_mem fun x hx => ?_
  unfold Sl.whole at hx
  simp only at hx
  rcases List.mem_append.1 hx with hx | hx
  · split at hx
    · obtain ⟨i, hi, rfl⟩ := List.getElem_of_mem hx
      have := h i
      rw [List.getElem?_eq_getElem hi] at this
      exact this
    · exact Dg.sha_mem _ x hx
  · have := List.eq_of_mem_replicate hx
    omega

set_option maxRecDepth 100000 in
set_option maxHeartbeats 1000000 in
theorem code_any (key msg : List Int) (a a' : Option Addr) (len cap len' cap' : Nat) (w : World) (hB : IsB w a len cap key) (hB' : IsB w a' len' cap' msg) (hC : Cubes w) (hmax : len ≤ 1000000) (hmax' : len' ≤ 1000000) :
    Calls Tryd.prog 14 #[.slice a len cap, .slice a' len' cap'] w fun e w' => ∃ g', e = .returned (.slice (some ⟨g', 0, none⟩) 32 32) ∧ IsB w' (some ⟨g', 0, none⟩) 32 32 (Sl.code key msg) ∧ Below w.heap.size w w' := by
  have HB := hide hB
  have HB' := hide hB'
  have HC := hide hC
  clear hB hB' hC
  go_enter Tryd.func14, Tryd.ntmps14
  go_wp2_with fail
  refine (whole_any key a len cap _ HB.out HC.out hmax).mono ?_
  rintro e w1 ⟨rfl, b1⟩
  obtain ⟨K, hK⟩ : ∃ K, K = Sl.whole key := ⟨_, rfl⟩
  have hKl : K.length = 64 := by rw [hK]; exact whole_length _
  have hK8 : Dg.B8 K := by rw [hK]; exact whole_b8 HB.out.2.2.2.1
  rw [← hK]
  have HK := hide hK
  have HKl := hide hKl
  have HK8 := hide hK8
  have HB1 := hide b1
  clear hK hKl hK8 b1
  have hnew := blk_new w1 39 (by8 zero64)
  have HN1 := hide hnew
  clear hnew
  go_upto_region 2 with (refine wpList_store_row rfl 39 _ _ rfl w1.heap.size (by8 K) rfl rfl 39 (by8 zero64) HN1.out (by rw [by8_size, HKl.out]; exact size39) (by rw [by8_size, by8_size, HKl.out]; rfl) (by8_one _) ?_)
  have hB2 : Below w.heap.size w ((w1.alloc (.cells (by8 zero64) 39)).setRow w1.heap.size (by8 K)) := (HB1.out.alloc HB1.out.size _).trans ((But.row (.refl _ _) _).to_below (by have := HB1.out.size; simp; omega) HB1.out.size)
  have hR2 : Blk ((w1.alloc (.cells (by8 zero64) 39)).setRow w1.heap.size (by8 K)) w1.heap.size 39 (by8 K) := HN1.out.row _
  change Code.wp _ _ _ _ ((w1.alloc (.cells (by8 zero64) 39)).setRow w1.heap.size (by8 K))
  generalize (w1.alloc (.cells (by8 zero64) 39)).setRow w1.heap.size (by8 K) = w2 at hB2 hR2 ⊢
  obtain ⟨N, hN⟩ : ∃ N, N = w1.heap.size := ⟨_, rfl⟩
  rw [← hN] at hR2 ⊢
  have HR2 := hide hR2
  have HB2 := hide hB2
  have HC2 := hide (HC.out.below' hB2)
  have HI2 := hide (HB'.out.below hB2)
  clear hN hR2 hB2 HN1 HB1 HC HB' HB
  refine' wp_region_facts [(fun _ _ v _ => v = .agg (by8 K)), (fun _ _ v _ => v = .agg (by8 K)), (fun _ _ v _ => v = .slice a' len' cap'), SumF (Sl.summed K 54 msg), SumF (Sl.summed K 92 (Sl.summed K 54 msg))] (by kernel_rfl) rfl ?hA (by kernel_rfl) (by kernel_rfl) (by kernel_rfl) rfl ?mono ?steps ?last
  case hA =>
    intro vs
    simp only [puts, Act.put, List.setIfInBounds_toArray, List.set_cons_zero, List.set_cons_succ, Nat.zero_add, Nat.reduceAdd]
    rfl
  case mono => exact ⟨mono_eq _, mono_eq _, mono_eq _, mono_sumF _, mono_sumF _, trivial⟩
  case steps =>
    intro Q'
    refine And.intro ?_ ?_
    · intro vs lo hi w' hM hd K' hK
      dsimp only at hK ⊢
      simp only [Act.put, List.setIfInBounds_toArray, List.set_cons_zero, List.set_cons_succ] at hK
      refine wp_load_row _ _ rfl N rfl 39 (by8 K) (0, 0) _ (HR2.out.below' hM) Tryd.underlying39 rfl (by rw [by8_size, HKl.out]; exact size39) ?_
      exact hK.out _ _ rfl (Below.refl _ _)
    refine And.intro ?_ ?_
    · intro vs lo hi w' hM hd K' hK
      dsimp only at hK ⊢
      simp only [Act.put, List.setIfInBounds_toArray, List.set_cons_zero, List.set_cons_succ] at hK
      refine wp_load_row _ _ rfl N rfl 39 (by8 K) (0, 0) _ (HR2.out.below' hM) Tryd.underlying39 rfl (by rw [by8_size, HKl.out]; exact size39) ?_
      exact hK.out _ _ rfl (Below.refl _ _)
    refine And.intro ?_ ?_
    · intro vs lo hi w' hM hd K' hK
      dsimp only at hK ⊢
      simp only [Act.put, List.setIfInBounds_toArray, List.set_cons_zero, List.set_cons_succ] at hK
      go_simp
      exact hK.out _ _ rfl (Below.refl _ _)
    refine And.intro ?_ ?_
    · intro vs lo hi w' hM hd K' hK
      dsimp only at hK ⊢
      simp only [Act.put, List.setIfInBounds_toArray, List.set_cons_zero, List.set_cons_succ] at hK
      have e1 : vs 1 = .agg (by8 K) := hd 1 (by kernel_rfl)
      have e2 : vs 2 = .slice a' len' cap' := hd 2 (by kernel_rfl)
      simp only [e1, e2] at hK ⊢
      clear e1 e2
      go_simp
      refine (summed_any K msg 54 a' len' cap' w' HKl.out HK8.out (by omega) (by omega) (HI2.out.below hM) (HC2.out.below' hM) hmax').mono ?_
      rintro e w7 ⟨g7, rfl, hI7, _, b7⟩
      exact hK.out _ _ ⟨g7, rfl, hI7⟩ b7
    refine And.intro ?_ ?_
    · intro vs lo hi w' hM hd K' hK
      dsimp only at hK ⊢
      simp only [Act.put, List.setIfInBounds_toArray, List.set_cons_zero, List.set_cons_succ] at hK
      have e0 : vs 0 = .agg (by8 K) := hd 0 (by kernel_rfl)
      obtain ⟨g3, e3, h3⟩ : SumF (Sl.summed K 54 msg) (lo 3) (hi 3) (vs 3) w' := hd 3 (by kernel_rfl)
      simp only [e0, e3] at hK ⊢
      clear e0 e3
      go_simp
      refine (summed_any K (Sl.summed K 54 msg) 92 (some ⟨g3, 0, none⟩) 32 32 w' HKl.out HK8.out (by omega) (by omega) h3.out (HC2.out.below' hM) (by omega)).mono ?_
      rintro e w7 ⟨g7, rfl, hI7, _, b7⟩
      exact hK.out _ _ ⟨g7, rfl, hI7⟩ b7
    exact trivial
  case last =>
    intro vs lo hi w' hM hlo hap hall K' Q' hK
    obtain ⟨g4, e4, h4⟩ : SumF (Sl.summed K 92 (Sl.summed K 54 msg)) (lo 4) (hi 4) (vs 4) w' := hall.2.2.2.2.1
    dsimp only
    simp only [e4]
    clear e4 hall hap hlo
    go_simp
    refine hK.out _ _ ?_
    clear hK
    go_wp2_with fail
    go_ret
    refine ⟨g4, rfl, ?_, bthen HB2.out hM⟩
    have := h4.out
    rw [HK.out] at this
    exact this
end Go.Proofs.YtfcbooagedjkfaaDoor
