/-
  THE WALK of Write.
-/
import Derived.Test.YtfcbooagedjkfaaDoorDChunk
set_option linter.unusedVariables false
set_option linter.unusedSimpArgs false
namespace Go.Proofs.YtfcbooagedjkfaaDoor
open Go.RowKit Go.Shelf
attribute [local go_sem] Oper.semAt_some

/-- in block g lies a Hasher to which bs was written -/
def Hs (w : World) (g : Nat) (bs : List Int) : Prop := ∃ s r, Blk w g 76 (hc s r bs.length) ∧ s.length = 8 ∧ r.length = 64 ∧ (∀ i : Nat, 0 ≤ r[i]?.getD 0 ∧ r[i]?.getD 0 ≤ 255) ∧ (bs ≠ [] → s = Dg.sumOf bs) ∧ r.take (bs.length % 64) = bs.drop (bs.length - bs.length % 64)

theorem run_store_sum (w : World) (g : Nat) (s s' r : List Int) (n : Int) (hs : s.length = 8) (hs' : s'.length = 8) (hb : Blk w g 76 (hc s r n)) :
    (storeCells ⟨g, 0, none⟩ (wds s').toList).run Tryd.prog w = .ok () (w.setRow g (hc s' r n)) := by
  have h := run_storeCells_at Tryd.prog g 0 76 (wds s').toList 0 (hc s r n) w hb (by simp [wds_size, hc_size]; omega) (fun v hv => (Array.all_eq_true_iff_forall_mem.1 (wds_one s')) v (by simpa using hv))
  have e : (((hc s r n).toList.take (0 + 0) ++ (wds s').toList ++ (hc s r n).toList.drop (0 + 0 + (wds s').toList.length)).toArray) = hc s' r n := by
    obtain ⟨a, b, c, d, e, f, g, i, rfl⟩ := Dg.eight hs
    obtain ⟨a', b', c', d', e', f', g', i', rfl⟩ := Dg.eight hs'
    simp [hc, wds, hr]
  rw [e] at h
  exact h

set_option maxRecDepth 100000 in
set_option maxHeartbeats 2000000 in
theorem write_any (g : Nat) (bs b : List Int) (a : Option Addr) (len cap : Nat) (w : World) (hH : Hs w g bs) (hB : IsB w a len cap b) (ho : Off g a len) (hg : 0 ≠ g) (hC : Cubes w) (hmax : bs.length + len ≤ 1152921504606846976) :
    Calls Tryd.prog 41 #[.pointer (some ⟨g, 0, none⟩), .slice a len cap] w fun e w' => e = .returned (.int .i64 len) ∧ But g w w' ∧ Hs w' g (bs ++ b) := by
  obtain ⟨s, r, hb, hs, hr', h8, hsum, htk⟩ := hH
  obtain ⟨n, hn⟩ : ∃ n, n = bs.length := ⟨_, rfl⟩
  rw [← hn] at hb hmax
  refine (callsIn_wide (n := 3)).1 (callsIn_of_wp_marks Tryd.func41 rfl trivial ?_ rfl)
  refine wpIn_wide.2 ?_
  simp only [Tryd.ntmps41, List.size_toArray, List.length_cons, List.length_nil, Nat.reduceAdd, Nat.reduceSub, Array.replicate_succ, Array.replicate_zero, List.push_toArray, List.append_toArray, List.nil_append, List.cons_append]
  go_upto_region 1 with fail
  have hb0 : Below w.heap.size w (w.alloc (.cells #[.pointer (some ⟨g, 0, none⟩)] 62)) := (Below.refl _ _).alloc (Nat.le_refl _) _
  have hbx := blk_new w 62 #[.pointer (some ⟨g, 0, none⟩)]
  have hgl := hb.lt
  obtain ⟨N, hN⟩ : ∃ N, N = w.heap.size := ⟨_, rfl⟩
  rw [← hN] at hbx hgl ⊢
  have HB0 := hide hb0
  have hb1 := hb.below' hb0
  have hB1 := hB.below hb0
  have hC1 := hC.below' hb0
  clear hb hB hC hb0
  generalize w.alloc (.cells #[.pointer (some ⟨g, 0, none⟩)] 62) = w1 at hbx HB0 hb1 hB1 hC1 ⊢
  have hx1 := hbx.cell 0
  simp only [List.getElem?_toArray, List.getElem?_cons_zero] at hx1
  have hl1 := (hb1.cell 72).trans (hc_long hs hr')
  have HX := hide hbx
  have HB1 := hide hb1
  have HI1 := hide hB1
  have HC1 := hide hC1
  have HN := hide hN
  have Hn := hide hn
  have Hs8 := hide hs
  have Hr64 := hide hr'
  have H8 := hide h8
  have HSum := hide hsum
  have HTk := hide htk
  have HO := hide ho
  have HG := hide hg
  clear hbx hb1 hB1 hC1 hN hn hs hr' h8 hsum htk ho hg
  go_upto_if 13 with fail
  go_cut [] from 13 to 17 (fun wc => Hid (∃ r', Blk wc g 76 (hc (Dg.sumOf bs) r' n) ∧ r'.length = 64 ∧ (∀ i : Nat, 0 ≤ r'[i]?.getD 0 ∧ r'[i]?.getD 0 ≤ 255) ∧ r'.take (n % 64) = bs.drop (n - n % 64) ∧ But g w1 wc))
  case first =>
    by_cases h0 : n = 0
    · have h0b : ((n : Int) == 0) = true := by simp [h0]
      have H0 := hide h0
      have H0 := hide h0
      have H0 := hide h0
      have H0 := hide h0
      have H0 := hide h0
      have H0 := hide h0
      have H0 := hide h0
      have H0 := hide h0
      have H0 := hide h0
      have H0 := hide h0
      have H0 := hide h0
      have H0 := hide h0
      have H0 := hide h0
      clear h0
      go_upto_region 4 with fail
      clear h0b
      generalize ((n : Int) == 0) = bz
      refine' wp_region_facts [(fun _ _ v _ => v = (.pointer (some ⟨g, 0, none⟩))), (fun _ _ v _ => v = (.agg (wds Dg.start))), (fun _ _ v _ => v = (.pointer (some ⟨g, 0, none⟩))), (fun _ _ v _ => v = (.pointer (some ⟨g, 0, none⟩)))] (by kernel_rfl) rfl ?hA (by kernel_rfl) (by kernel_rfl) (by kernel_rfl) rfl ?mono ?steps ?last
      case hA =>
        intro vs
        simp only [puts, Act.put, List.setIfInBounds_toArray, List.set_cons_zero, List.set_cons_succ, Nat.zero_add, Nat.reduceAdd]
        rfl
      case mono => exact ⟨mono_eq _, mono_eq _, mono_eq _, mono_eq _, trivial⟩
      case steps =>
        intro Q'
        refine And.intro ?_ ?_
        · intro vs lo hi w' hM hd K' hK
          dsimp only at hK ⊢
          simp only [Act.put, List.setIfInBounds_toArray, List.set_cons_zero, List.set_cons_succ] at hK
          have q0 := (hM.cell (p := ⟨N, 0, none⟩) HX.out.lt).trans hx1
          go_simp
          exact hK.out _ _ rfl (Below.refl _ _)
        refine And.intro ?_ ?_
        · intro vs lo hi w' hM hd K' hK
          dsimp only at hK ⊢
          simp only [Act.put, List.setIfInBounds_toArray, List.set_cons_zero, List.set_cons_succ] at hK
          go_simp
          refine (start_any _).mono ?_
          rintro e w7 ⟨rfl, b7⟩
          exact hK.out _ _ rfl b7
        refine And.intro ?_ ?_
        · intro vs lo hi w' hM hd K' hK
          dsimp only at hK ⊢
          simp only [Act.put, List.setIfInBounds_toArray, List.set_cons_zero, List.set_cons_succ] at hK
          have e0 : vs 0 = (.pointer (some ⟨g, 0, none⟩)) := hd 0 (by kernel_rfl)
          simp only [e0] at hK ⊢
          clear e0
          go_simp
          exact hK.out _ _ rfl (Below.refl _ _)
        refine And.intro ?_ ?_
        · intro vs lo hi w' hM hd K' hK
          dsimp only at hK ⊢
          simp only [Act.put, List.setIfInBounds_toArray, List.set_cons_zero, List.set_cons_succ] at hK
          have e2 : vs 2 = (.pointer (some ⟨g, 0, none⟩)) := hd 2 (by kernel_rfl)
          simp only [e2] at hK ⊢
          clear e2
          go_simp
          exact hK.out _ _ rfl (Below.refl _ _)
        exact trivial
      case last =>
        intro vs lo hi w' hM hlo hap hall K' Q' hK
        have h1 : vs 1 = (.agg (wds Dg.start)) := hall.2.1
        have h3 : vs 3 = (.pointer (some ⟨g, 0, none⟩)) := hall.2.2.2.1
        dsimp only
        simp only [h1, h3]
        clear h1 h3 hall hap hlo
        have hb2 := HB1.out.below' hM
        have hst := run_store_sum _ g s Dg.start r n Hs8.out rfl hb2
        have hsz : (wds Dg.start).size = 8 := rfl
        go_simp
        refine hK.out _ _ ?_
        clear hK hst hsz
        have b3 : But g w1 (w'.setRow g (hc Dg.start r n)) := (But.of_below hM).row _
        have hb3 := hb2.row (hc Dg.start r n)
        go_wp2_with fail
        go_meet
        case rel =>
          have hbe : bs = [] := List.eq_nil_of_length_eq_zero (by rw [← Hn.out]; exact H0.out)
          refine ⟨r, ?_, Hr64.out, H8.out, ?_, b3⟩
          · rw [hbe]
            exact hb3
          · rw [H0.out, hbe]
            rfl
    · have h0b : ((n : Int) == 0) = false := by simp; omega
      go_wp2_with fail
      go_meet
      case rel =>
        have hbe : bs ≠ [] := fun e => h0 (by rw [Hn.out, e]; rfl)
        refine ⟨r, ?_, Hr64.out, H8.out, by rw [Hn.out]; exact HTk.out, But.refl _ _⟩
        rw [← HSum.out hbe]
        exact HB1.out
  case rest =>
    obtain ⟨r2, hb2, hr2, h82, htk2, hbut2⟩ := hcut.out
    clear hcut hx1 hl1 HB1 H8 HTk HSum Hs8 Hr64
    have hx2 : wc.cell? ⟨N, 0, none⟩ = some (.pointer (some ⟨g, 0, none⟩)) := (hbut2.other HX.out (by omega)).cell 0
    have HI2 : Hid (IsB wc a len cap b) := HI1.out.but hbut2 HO.out
    have HC2 : Hid (Cubes wc) := HC1.out.but hbut2 HG.out
    have HX2 : Hid (Blk wc N 62 #[.pointer (some ⟨g, 0, none⟩)]) := hbut2.other HX.out (by omega)
    have HB2 := hide hb2
    have Hr2 := hide hr2
    have H82 := hide h82
    have HT2 := hide htk2
    have HU2 := hide hbut2
    clear hb2 hr2 h82 htk2 hbut2 HX HI1 HC1
    go_upto_region 5 with fail
    go_cut [5] from 18 to 20 (fun v wd => ∃ a' len' cap', v = .slice a' len' cap' ∧ Hid (∃ q r', q.length = len' ∧ q.length ≤ b.length ∧ IsB wd a' len' cap' q ∧ Off g a' len' ∧ Blk wd g 76 (hc (Dg.sums Dg.start (bs ++ b) ((n + b.length - q.length) / 64)) r' n) ∧ r'.length = 64 ∧ (∀ i : Nat, 0 ≤ r'[i]?.getD 0 ∧ r'[i]?.getD 0 ≤ 255) ∧
        (bs ++ b).drop (n + b.length - q.length) = q ∧ ((n + b.length - q.length) % 64 = 0 ∨ (q = [] ∧ r'.take ((n + b.length) % 64) = (bs ++ b).drop (n + b.length - (n + b.length) % 64))) ∧ But g wc wd))
    case first =>
      go_wp2_with fail
      have hbl := HI2.out.1
      by_cases hk0 : n % 64 = 0
      · refine (fill_zero g _ r2 n a len cap _ (Dg.sumOf_length bs) Hr2.out HB2.out (by omega) (by omega) (by omega)).mono ?_
        rintro e w' ⟨rfl, rfl⟩
        go_wp2_with fail
        go_meet
        case rel =>
          refine ⟨a, len, cap, rfl, b, r2, hbl, Nat.le_refl _, HI2.out, HO.out, ?_, Hr2.out, H82.out, ?_, .inl (by omega), But.refl _ _⟩
          · rw [Nat.add_sub_cancel, Dg.sums_front _ _ _ _ (by rw [← Hn.out]; omega)]
            have := HB2.out
            unfold Dg.sumOf at this
            rw [← Hn.out] at this
            exact this
          · rw [Nat.add_sub_cancel, Hn.out]
            simp
      · obtain ⟨k, hk⟩ : ∃ k, k = n % 64 := ⟨_, rfl⟩
        by_cases hlt : k + len < 64
        · refine (fill_part g _ r2 b n k a len cap _ (Dg.sumOf_length bs) Hr2.out HB2.out (by omega) (by omega) (by omega) (by omega) HI2.out hlt).mono ?_
          rintro e w' ⟨rfl, b3, hb3⟩
          have HK := hide hk
          clear hk
          go_wp2_with fail
          go_meet
          case rel =>
            have hk := HK.out
            refine ⟨_, 0, _, rfl, [], splice r2 b k, rfl, Nat.zero_le _, ?_, (by have := HO.out.cut len cap; rw [Nat.sub_self] at this; exact this), ?_, ?_, splice_bytes H82.out HI2.out.2.2.2.1 k, ?_, ?_, b3⟩
            · have := (HI2.out.but b3 HO.out).cut (m := len) (Nat.le_refl _)
              rw [Nat.sub_self, List.drop_eq_nil_of_le (by omega)] at this
              exact this
            · have e1 : Dg.sumOf bs = Dg.sums Dg.start (bs ++ b) ((n + b.length - ([] : List Int).length) / 64) := by
                have := Dg.sumOf_more bs b (by rw [← Hn.out]; omega)
                rw [← this]
                unfold Dg.sumOf
                rw [List.length_append, ← Hn.out]
                rfl
              rw [← e1]
              exact hb3
            · exact (splice_length _ _ _ (by rw [Hr2.out]; omega)).trans Hr2.out
            · rw [List.drop_eq_nil_of_le (by simp [← Hn.out])]
            · refine .inr ⟨rfl, ?_⟩
              have e2 : (n + b.length) % 64 = k + b.length := by omega
              rw [e2, List.drop_append_of_le_length (by rw [← Hn.out]; omega), show n + b.length - (k + b.length) = n - n % 64 by omega, ← HT2.out, ← hk]
              unfold splice
              rw [List.append_assoc, List.take_append, List.take_take, List.length_take, Hr2.out, show min (k + b.length) k = k by omega, show k + b.length - min k 64 = b.length by omega, List.take_append_of_le_length (Nat.le_refl _), List.take_length]
        · refine (fill_full g _ r2 b n k a len cap _ (Dg.sumOf_length bs) Hr2.out HB2.out (by omega) (by omega) (by omega) (by omega) HI2.out (by omega) HG.out HC2.out H82.out).mono ?_
          rintro e w' ⟨rfl, b3, hb3⟩
          have HK := hide hk
          clear hk
          go_wp2_with fail
          go_meet
          case rel =>
            have hk := HK.out
            have hkk : k < 64 := by omega
            have hsp : splice r2 (b.take (64 - k)) k = bs.drop (n - n % 64) ++ b.take (64 - k) := by
              unfold splice
              rw [show r2.drop (k + (b.take (64 - k)).length) = [] from List.drop_eq_nil_of_le (by rw [List.length_take, Hr2.out]; omega), List.append_nil, show r2.take k = bs.drop (n - n % 64) by rw [hk]; exact HT2.out]
            have hbb : bs ++ b = (bs ++ b.take (64 - k)) ++ b.drop (64 - k) := by rw [List.append_assoc, List.take_append_drop]
            have hdl : (b.drop (64 - k)).length = b.length - (64 - k) := by simp
            have hnn : n + b.length - (b.drop (64 - k)).length = n + (64 - k) := by rw [hdl]; omega
            refine ⟨_, _, _, rfl, b.drop (64 - k), splice r2 (b.take (64 - k)) k, by rw [hdl, hbl], by rw [hdl]; omega, (HI2.out.but b3 HO.out).cut (by omega), HO.out.cut _ _, ?_, ?_, splice_bytes H82.out (fun i => take_bytes HI2.out.2.2.2.1 _ i) k, ?_, .inl (by rw [hnn]; omega), b3⟩
            · rw [hnn]
              have e1 := Dg.sumOf_block bs (b.take (64 - k)) (by rw [← Hn.out, List.length_take]; omega)
              rw [← Hn.out, ← hsp] at e1
              rw [← e1] at hb3
              unfold Dg.sumOf at hb3
              rw [List.length_append, ← Hn.out, List.length_take, show min (64 - k) b.length = 64 - k by omega, ← Dg.sums_front _ _ (b.drop (64 - k)) _ (by rw [List.length_append, ← Hn.out, List.length_take]; omega), ← hbb] at hb3
              exact hb3
            · exact (splice_length _ _ _ (by rw [Hr2.out, List.length_take]; omega)).trans Hr2.out
            · rw [hnn, hbb, List.drop_append, List.drop_eq_nil_of_le (by rw [List.length_append, ← Hn.out, List.length_take]; omega), List.length_append, ← Hn.out, List.length_take, show n + (64 - k) - (n + min (64 - k) b.length) = 0 by omega]
              rfl
    case rest =>
      obtain ⟨a', len', cap', rfl, hd⟩ := hcut
      obtain ⟨q, r3, hql, hqb, hI3, hO3, hb3, hr3, h83, hdr, hcase, hbut3⟩ := hd.out
      have hbl := HI2.out.1
      have hx3 : wc.cell? ⟨N, 0, none⟩ = some (.pointer (some ⟨g, 0, none⟩)) := (hbut3.other HX2.out (by omega)).cell 0
      have hS8 : (Dg.sums Dg.start (bs ++ b) ((n + b.length - q.length) / 64)).length = 8 := Dg.sums_length _ _ _
      have HS8 := hide hS8
      have hl3 := (hb3.cell 72).trans (hc_long hS8 hr3)
      have hf3 := hb3.frozen 72
      have HX3 : Hid (Blk wc N 62 #[.pointer (some ⟨g, 0, none⟩)]) := hbut3.other HX2.out (by omega)
      have HC3 : Hid (Cubes wc) := HC2.out.but hbut3 HG.out
      have HU3 : Hid (But g w1 wc) := HU2.out.trans hbut3
      have HB3 := hide hb3
      have HI3 := hide hI3
      have HO3 := hide hO3
      have Hr3 := hide hr3
      have H83 := hide h83
      have HDr := hide hdr
      have HCs := hide hcase
      have Hql := hide hql
      have Hqb := hide hqb
      have Hbl := hide hbl
      clear hd hql hqb hI3 hO3 hb3 hr3 h83 hdr hcase hbut3 hbl hS8 HX2 HC2 HU2 HB2 HI2 H82 HT2 Hr2 hx2
      go_upto_region 7 with fail
      clear hx3 hl3 hf3
      have hb4 := HB3.out.set 72 (.int .u64 ((n : Int) + (len : Int)))
      rw [hc_setLong HS8.out Hr3.out] at hb4
      have u4 : But g wc (wc.setCell ⟨g, 72, none⟩ (.int .u64 ((n : Int) + (len : Int)))) := (But.refl _ _).set 72 _
      have HI4 : Hid (IsB (wc.setCell ⟨g, 72, none⟩ (.int .u64 ((n : Int) + (len : Int)))) a' len' cap' q) := HI3.out.but u4 HO3.out
      have HC4 : Hid (Cubes (wc.setCell ⟨g, 72, none⟩ (.int .u64 ((n : Int) + (len : Int))))) := HC3.out.but u4 HG.out
      have HX4 : Hid (Blk (wc.setCell ⟨g, 72, none⟩ (.int .u64 ((n : Int) + (len : Int)))) N 62 #[.pointer (some ⟨g, 0, none⟩)]) := u4.other HX3.out (by omega)
      have HU4 : Hid (But g w1 (wc.setCell ⟨g, 72, none⟩ (.int .u64 ((n : Int) + (len : Int))))) := HU3.out.trans u4
      have HB4 := hide hb4
      clear hb4 u4 HI3 HC3 HX3 HU3 HB3
      generalize wc.setCell ⟨g, 72, none⟩ (.int .u64 ((n : Int) + (len : Int))) = w4 at HB4 HI4 HC4 HX4 HU4 ⊢
      go_wp2_with (go_at_call 29; refine (callsIn_wide.1 (chunk_any 3 _ _ _ _)).mono ?_; rintro e w' ⟨rfl, rfl⟩)
      have b5 : Below w4.heap.size w4 ((w4.alloc (.cells #[.slice a' len' cap'] 22)).alloc (.cells #[.int .i64 64] 3)) := ((Below.refl _ _).alloc (Nat.le_refl _) _).alloc (by simp) _
      have hs5 : ((w4.alloc (.cells #[.slice a' len' cap'] 22)).alloc (.cells #[.int .i64 64] 3)).heap.size = w4.heap.size + 2 := by simp
      have hk1 : ((w4.alloc (.cells #[.slice a' len' cap'] 22)).alloc (.cells #[.int .i64 64] 3)).cell? ⟨w4.heap.size, 0, none⟩ = some (.slice a' len' cap') := ((blk_new w4 22 #[.slice a' len' cap']).below' ((Below.refl _ _).alloc (Nat.le_refl _) _)).cell 0
      have hk2 : ((w4.alloc (.cells #[.slice a' len' cap'] 22)).alloc (.cells #[.int .i64 64] 3)).cell? ⟨w4.heap.size + 1, 0, none⟩ = some (.int .i64 64) := by
        have := (blk_new (w4.alloc (.cells #[.slice a' len' cap'] 22)) 3 #[.int .i64 64]).cell 0
        rw [World.size_alloc] at this
        exact this
      have hgl4 := HB4.out.lt
      have HB5 := hide (HB4.out.below' b5)
      have HI5 := hide (HI4.out.below b5)
      have HC5 := hide (HC4.out.below' b5)
      have HX5 := hide (HX4.out.below' b5)
      have HU5 := hide (HU4.out.then b5)
      have hNl : N < w4.heap.size := HX4.out.lt
      generalize (w4.alloc (.cells #[.slice a' len' cap'] 22)).alloc (.cells #[.int .i64 64] 3) = w5 at hs5 hk1 hk2 HB5 HI5 HC5 HX5 HU5 ⊢
      clear HB4 HI4 HC4 HX4 HU4 b5
      obtain ⟨Bs, hBs⟩ : ∃ Bs, Bs = w4.heap.size := ⟨_, rfl⟩
      rw [← hBs] at hs5 hk1 hk2 hgl4 hNl ⊢
      clear hBs
      obtain ⟨S, hS⟩ : ∃ S, S = Dg.sums Dg.start (bs ++ b) ((n + b.length - q.length) / 64) := ⟨_, rfl⟩
      rw [← hS] at HB5 HS8
      have HSS := hide hS
      clear hS
      obtain ⟨cb, co, hcc⟩ : ∃ cb co, 0 < len' → a' = some ⟨cb, co, none⟩ ∧ Rd w5 cb co q ∧ cb ≠ g := by
        rcases Nat.eq_zero_or_pos len' with h | h
        · exact ⟨0, 0, fun h' => by omega⟩
        · obtain ⟨_, h2, _, _, ⟨_, h3⟩ | ⟨x, hx, hR⟩⟩ := HI5.out
          · omega
          · obtain ⟨cb, co, rfl, hR2⟩ := hR h
            exact ⟨cb, co, fun _ => ⟨hx, hR2, HO3.out h _ hx⟩⟩
      have HCC := hide hcc
      clear hcc
      refine (wpIn_wide (n := 3)).1 ?_
      refine' wpIn_rangeFunc_ownG rfl (by omega) (gf := 45) (lb := #[.pointer (some ⟨Bs, 0, none⟩), .pointer (some ⟨Bs + 1, 0, none⟩)]) rfl trivial (enters_of Tryd.func45 (by kernel_rfl) rfl)
        (chunk_stops 2 (by omega) Bs (Bs + 1) cb co a' len' cap' HI5.out.2.1 (by have := Hql.out; have := Hqb.out; have := Hbl.out; omega) w5 (fun h => (HCC.out h).1) hk1 hk2)
        (fun h k => ⟨k.1.trans h.1, k.2.trans h.2⟩) (fun W l o o' hl ho hc hw => ⟨World.putObj_heap_other (by omega), World.putObj_heap_other (by omega)⟩) (Below.refl _ _) (fun _ => rfl)
        (fun pre W => (∀ x ∈ pre, 64 * (x.val + 1) ≤ q.length) ∧ Blk W g 76 (hc (pre.foldl (fun s x => Dg.block s ((q.drop (64 * x.val)).take 64)) S) r3 ((n : Int) + (len : Int))) ∧ But g w5 W)
        (fun c pre W => ∃ p x, pre = p ++ [x] ∧ (∀ y ∈ p, 64 * (y.val + 1) ≤ q.length) ∧ q.length < 64 * (x.val + 1) ∧ c = .exit 0 ∧ Blk W g 76 (hc (p.foldl (fun s x => Dg.block s ((q.drop (64 * x.val)).take 64)) S) (splice r3 (q.drop (64 * x.val)) 0) ((n : Int) + (len : Int))) ∧ But g w5 W)
        (fun s W W' row hs hg' hr => ⟨hs.1, hs.2.1.grown hg' (fun r e => (hr r e).2), hs.2.2.grown hg' (fun r e => (hr r e).1)⟩)
        (fun c s W W' row hs hg' hr => by
          obtain ⟨p, x, h1, h2, h3, h4, h5, h6⟩ := hs
          exact ⟨p, x, h1, h2, h3, h4, h5.grown hg' (fun r e => (hr r e).2), h6.grown hg' (fun r e => (hr r e).1)⟩)
        ⟨fun x hx => (by cases hx), HB5.out, But.refl _ _⟩ _ ?assign ?body ?done ?stop
      case assign =>
        intro l x W K hK
        gi_wp2
        exact hK
      case body =>
        rintro l pre x W ⟨hfull, hbW, hbu⟩ hlen
        have hx64 : 64 * x.val < len' := by have := x.isLt; unfold nch at this; omega
        obtain ⟨ha', hRd, hcbg⟩ := HCC.out (by omega)
        obtain ⟨j, hj⟩ : ∃ j, j = x.val := ⟨_, rfl⟩
        rw [← hj] at hx64
        obtain ⟨m, hm⟩ : ∃ m, m = min 64 (len' - 64 * j) := ⟨_, rfl⟩
        have hcv : chV cb co len' x.val = .slice (some ⟨cb, co + 64 * j, none⟩) m m := by rw [← hj, hm]; rfl
        have hql := Hql.out
        have hcl : ((q.drop (64 * j)).take 64).length = m := by rw [List.length_take, List.length_drop, hm, hql]
        have hRc : Rd W cb (co + 64 * j) ((q.drop (64 * j)).take 64) := fun i hi => by
          rw [hcl] at hi
          have := (hRd.but hbu hcbg) (64 * j + i) (by omega)
          rw [List.getElem?_take, if_pos (by omega), List.getElem?_drop, Nat.add_assoc]
          exact this
        have h8c : ∀ i : Nat, 0 ≤ ((q.drop (64 * j)).take 64)[i]?.getD 0 ∧ ((q.drop (64 * j)).take 64)[i]?.getD 0 ≤ 255 := fun i => take_bytes (fun i => by rw [List.getElem?_drop]; exact HI5.out.2.2.2.1 _) 64 i
        have hxW : W.cell? ⟨N, 0, none⟩ = some (.pointer (some ⟨g, 0, none⟩)) := (hbu.other HX5.out (by omega)).cell 0
        have hF8 : (pre.foldl (fun s x => Dg.block s ((q.drop (64 * x.val)).take 64)) S).length = 8 := by
          have : ∀ (p : List (Fin (nch len'))) (s : List Int), s.length = 8 → (p.foldl (fun s x => Dg.block s ((q.drop (64 * x.val)).take 64)) s).length = 8 := by
            intro p
            induction p with
            | nil => intro s h; exact h
            | cons y p ih => intro s h; exact ih _ ((Dg.block_length _ _).trans h)
          exact this pre S HS8.out
        obtain ⟨F, hFe⟩ : ∃ F, F = pre.foldl (fun s x => Dg.block s ((q.drop (64 * x.val)).take 64)) S := ⟨_, rfl⟩
        rw [← hFe] at hbW hF8
        have HCl := hide hcl
        have HM := hide hm
        have HJ := hide hj
        have HF := hide hFe
        have HFu := hide hfull
        have HF8 := hide hF8
        have HbW := hide hbW
        have HRc := hide hRc
        have H8c := hide h8c
        have Hbu := hide hbu
        have HRd := hide hRd
        have HCb := hide hcbg
        simp only [hcv]
        clear hcv hcl hm hj hFe hfull hF8 hbW hRc h8c hbu hRd hcbg ha' hql
        by_cases hsh : m < 64
        · have hIc : IsB W (some ⟨cb, co + 64 * j, none⟩) m m (q.drop (64 * j)) := by
            have hql := Hql.out
            have hm := HM.out
            have hdt : (q.drop (64 * j)).take 64 = q.drop (64 * j) := List.take_of_length_le (by rw [List.length_drop, hql]; omega)
            have h1 := HRc.out
            have h2 := H8c.out
            rw [hdt] at h1 h2
            exact ⟨by rw [List.length_drop, hql]; omega, Nat.le_refl _, by omega, h2, .inr ⟨_, rfl, fun _ => ⟨_, _, rfl, h1⟩⟩⟩
          have hcp := run_copy_isB W g F r3 (q.drop (64 * j)) ((n : Int) + (len : Int)) 0 64 64 m m m (some ⟨cb, co + 64 * j, none⟩) HF8.out Hr3.out HbW.out hIc (Nat.min_eq_left (by omega)).symm (by omega)
          rw [List.take_of_length_le (by rw [hIc.1]; exact Nat.le_refl _)] at hcp
          clear hIc
          gi_wp2
          refine ⟨((But.refl g W).row _).keepsFrom HbW.out _, pre, x, rfl, HFu.out, ?_, rfl, ?_, Hbu.out.row _⟩
          · have := HM.out
            have := HJ.out
            have := Hql.out
            omega
          · have := HbW.out.row (hc F (splice r3 (q.drop (64 * j)) 0) ((n : Int) + (len : Int)))
            rw [HF.out, HJ.out] at this
            rw [HF.out, HJ.out]
            exact this
        · have hm64 : m = 64 := by have := HM.out; omega
          subst hm64
          gi_wp2_with fail
          refine ⟨trivial, ?_⟩
          refine (CallsIn.inRound l (callsIn_wide.2 (add_any g 76 cb (co + 64 * j) 64 F ((q.drop (64 * j)).take 64) (hr r3 ((n : Int) + (len : Int))) W HF8.out HbW.out HG.out (HC5.out.but Hbu.out HG.out) HCl.out (Nat.le_refl _) HRc.out H8c.out))).mono ?_
          rintro e w7 ⟨⟨v7, rfl⟩, b7, hb7⟩
          gi_wp2_with fail
          have hW5 := Hbu.out.size
          refine ⟨b7.keepsFrom HbW.out _, ⟨b7.block _ (by omega) (by omega), b7.block _ (by omega) (by omega)⟩, fun y hy => ?_, ?_, Hbu.out.trans b7⟩
          · rcases List.mem_append.1 hy with hy | hy
            · exact HFu.out y hy
            · rw [List.mem_singleton] at hy
              subst hy
              have := HM.out
              have := HJ.out
              have := Hql.out
              omega
          · rw [List.foldl_append, ← HF.out]
            show Blk w7 g 76 (hc (Dg.block F ((q.drop (64 * x.val)).take 64)) r3 ((n : Int) + (len : Int)))
            rw [← HJ.out]
            exact hb7
      case done =>
        rintro D xs W hD hxs ⟨hfull, hbW, hbu⟩ hK
        rw [hxs, upto_fold q S _ _ (Nat.le_refl _)] at hbW
        have hqe : q.length = 64 * nch len' := by
          have hql := Hql.out
          rcases Nat.eq_zero_or_pos len' with h | h
          · rw [hql, h]; rfl
          · have hn1 : nch len' - 1 < nch len' := by unfold nch; omega
            have := hfull ⟨nch len' - 1, hn1⟩ (by rw [hxs]; unfold upto; rw [List.take_of_length_le (by simp)]; exact List.mem_finRange _)
            simp only at this
            unfold nch at this ⊢
            omega
        have HHs : Hid (Hs (W.putObj D (.deferred none)) g (bs ++ b)) := by
          have hqb := Hqb.out
          have hal : (bs ++ b).length = n + b.length := by rw [List.length_append, Hn.out]
          have hb8 := hbW.grown (grownBy_putObj' W D (.deferred none)) (fun r e => by cases e; exact ⟨_, hK, rfl⟩)
          have hnl : ((n : Int) + (len : Int)) = ((bs ++ b).length : Int) := by rw [hal, Hbl.out]; simp
          rw [hnl] at hb8
          have hsum : Dg.sums S q (nch len') = Dg.sumOf (bs ++ b) := by
            rcases HCs.out with h | ⟨h, _⟩
            · have := Dg.sums_split (bs ++ b) q (by rw [hal]; omega) (by rw [hal]; exact HDr.out) (by rw [hal]; exact h)
              rw [hal, ← HSS.out, show q.length / 64 = nch len' by omega] at this
              exact this
            · have h0 : nch len' = 0 := by rw [h] at hqe; simp at hqe; omega
              rw [h0, HSS.out, h]
              unfold Dg.sumOf
              rw [hal]
              rfl
          rw [hsum] at hb8
          refine ⟨_, _, hb8, Dg.sumOf_length _, Hr3.out, H83.out, fun _ => rfl, ?_⟩
          rw [hal]
          rcases HCs.out with h | ⟨_, h⟩
          · have hz : (n + b.length) % 64 = 0 := by omega
            rw [hz, List.take_zero, Nat.sub_zero, List.drop_eq_nil_of_le (by rw [hal]; exact Nat.le_refl _)]
          · exact h
        have HBF : Hid (But g w (W.putObj D (.deferred none))) := ((But.of_below HB0.out).trans (HU5.out.trans hbu)).grown (grownBy_putObj' W D (.deferred none)) (fun r e => by cases e; have := HU5.out.size; have := HB0.out.size; omega)
        clear hfull hbW hbu hqe
        go_wp2_with fail
        refine ⟨by simp, .inl ⟨_, _, rfl, run_takeDeferred hK, ?_⟩⟩
        exact ⟨_, results_tmp rfl _ _ _, rfl, HBF.out, HHs.out⟩
      case stop =>
        rintro D c pre W hD ⟨k, hk, hpre⟩ ⟨p, x, hpx, hfull, hshort, rfl, hbW, hbu⟩ hK
        refine wpIn_wide.2 ?_
        have hk0 : 0 < k := by
          rcases Nat.eq_zero_or_pos k with h | h
          · subst h
            rw [hpx] at hpre
            have := congrArg List.length hpre
            simp [upto] at this
          · exact h
        obtain ⟨k', rfl⟩ : ∃ k', k = k' + 1 := ⟨k - 1, by omega⟩
        rw [hpx, upto_succ hk] at hpre
        obtain ⟨hp1, hp2⟩ := List.append_inj' hpre rfl
        have hxk : x.val = k' := by have := List.singleton_inj.1 hp2; rw [this]
        rw [hp1, upto_fold q S _ _ (by omega), hxk] at hbW
        rw [hxk] at hshort
        have hql := Hql.out
        have hk64 : 64 * k' < len' := by unfold nch at hk; omega
        have HHs : Hid (Hs (W.putObj D (.deferred none)) g (bs ++ b)) := by
          have hqb := Hqb.out
          have hal : (bs ++ b).length = n + b.length := by rw [List.length_append, Hn.out]
          have hb8 := hbW.grown (grownBy_putObj' W D (.deferred none)) (fun r e => by cases e; exact ⟨_, hK, rfl⟩)
          have hnl : ((n : Int) + (len : Int)) = ((bs ++ b).length : Int) := by rw [hal, Hbl.out]; simp
          rw [hnl] at hb8
          have hA : (n + b.length - q.length) % 64 = 0 := by
            rcases HCs.out with h | ⟨h, _⟩
            · exact h
            · rw [h] at hql; simp at hql; omega
          have hsum : Dg.sums S q k' = Dg.sumOf (bs ++ b) := by
            have := Dg.sums_split (bs ++ b) q (by rw [hal]; omega) (by rw [hal]; exact HDr.out) (by rw [hal]; exact hA)
            rw [hal, ← HSS.out, show q.length / 64 = k' by omega] at this
            exact this
          rw [hsum] at hb8
          have hdl : (q.drop (64 * k')).length = q.length - 64 * k' := by rw [List.length_drop]
          refine ⟨_, _, hb8, Dg.sumOf_length _, (splice_length _ _ _ (by rw [hdl, Hr3.out]; omega)).trans Hr3.out, splice_bytes H83.out (fun i => by rw [List.getElem?_drop]; exact HI5.out.2.2.2.1 _) 0, fun _ => rfl, ?_⟩
          have hz : (n + b.length) % 64 = q.length - 64 * k' := by omega
          rw [hal, hz, show n + b.length - (q.length - 64 * k') = (n + b.length - q.length) + 64 * k' by omega, ← List.drop_drop, HDr.out]
          unfold splice
          rw [List.take_zero, List.nil_append, List.take_append_of_le_length (by rw [hdl]; exact Nat.le_refl _), List.take_of_length_le (by rw [hdl]; exact Nat.le_refl _)]
        have HBF : Hid (But g w (W.putObj D (.deferred none))) := ((But.of_below HB0.out).trans (HU5.out.trans hbu)).grown (grownBy_putObj' W D (.deferred none)) (fun r e => by cases e; have := HU5.out.size; have := HB0.out.size; omega)
        clear hfull hbW hbu hshort hpre hpx hp1 hp2 hxk
        go_wp2_with fail
        refine ⟨by simp, .inl ⟨_, _, rfl, run_takeDeferred hK, ?_⟩⟩
        exact ⟨_, results_tmp rfl _ _ _, rfl, HBF.out, HHs.out⟩
end Go.Proofs.YtfcbooagedjkfaaDoor
