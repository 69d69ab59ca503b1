/-
  THE WALKS of Sum (of a Hasher, of bytes); Write without a Hasher.
-/
import Derived.Test.YtfcbooagedjkfaaDoorDWrite
import Derived.Deep.WholeRow
set_option linter.unusedVariables false
set_option linter.unusedSimpArgs false
namespace Go.Proofs.YtfcbooagedjkfaaDoor
open Go.RowKit

theorem hs_new {w : World} {g : Nat} (h : Blk w g 76 (hc (List.replicate 8 0) (List.replicate 64 0) 0)) : Hs w g [] :=
  ⟨_, _, h, rfl, rfl, fun i => by rw [List.getElem?_replicate]; split <;> simp, fun h => absurd rfl h, rfl⟩
theorem Hs.below {w w' : World} {g : Nat} {bs : List Int} (h : Hs w g bs) (b : Below w.heap.size w w') : Hs w' g bs := by
  obtain ⟨s, r, h1, h2⟩ := h
  exact ⟨s, r, h1.below' b, h2⟩
theorem Hs.lt {w : World} {g : Nat} {bs : List Int} (h : Hs w g bs) : g < w.heap.size := by
  obtain ⟨s, r, h1, h2⟩ := h
  exact h1.lt

theorem write_nil (v : Value) (w : World) : Calls Tryd.prog 41 #[.pointer none, v] w fun e w' => e = .returned (.int .i64 0) ∧ Below w.heap.size w w' := by
  go_enter Tryd.func41, Tryd.ntmps41
  go_wp2_with fail
  go_ret
  exact ⟨rfl, (Below.refl _ _).alloc (Nat.le_refl _) _⟩

theorem infoHasher : (Tryd.prog.info? 76).map (fun i => (i.zero, i.size)) = some (some (.agg (hc (List.replicate 8 0) (List.replicate 64 0) 0)), 73) := by kernel_rfl

theorem own_isB {w : World} {base g m c : Nat} {l : List Int} (h : w.ownsRow base 5 1 (.slice (some ⟨g, 0, none⟩) m c) m (l.map b8)) (hl : Dg.B8 l) (hc : c ≤ 9223372036854775807) : IsB w (some ⟨g, 0, none⟩) m c l ∧ base ≤ g ∧ g < w.heap.size := by
  obtain ⟨h1, h2⟩ := h
  rcases h2 with ⟨h2, _⟩ | ⟨g', cap, cur, hv, hg, hh, hn, hm, hs, ht⟩
  · cases h2
  · simp only [Value.slice.injEq, Option.some.injEq, Addr.mk.injEq] at hv
    obtain ⟨⟨rfl, _, _⟩, _, rfl⟩ := hv
    have hlen : l.length = m := by simpa using h1
    refine ⟨⟨hlen, hn, hc, hl, .inr ⟨_, rfl, fun _ => ⟨g, 0, rfl, fun i hi => ?_⟩⟩⟩, hg, (Array.getElem?_eq_some_iff.1 hh).1⟩
    rw [Nat.zero_add, cell_of_row w g i cur 5 _ hh]
    have e : (cur.toList.take (m * 1))[i]? = (l.map b8)[i]? := by rw [ht]
    rw [List.getElem?_take, if_pos (by omega), Array.getElem?_toList, List.getElem?_map, List.getElem?_eq_getElem hi] at e
    rw [e, List.getElem?_eq_getElem hi]
    rfl

theorem own_base {w : World} {b b' e size n : Nat} {v : Value} {xs : List Value} (h : w.ownsRow b e size v n xs) (hb : b' ≤ b) : w.ownsRow b' e size v n xs := by
  obtain ⟨h1, h2⟩ := h
  refine ⟨h1, ?_⟩
  rcases h2 with h2 | ⟨g, cap, cur, hv, hg, r⟩
  · exact .inl h2
  · exact .inr ⟨g, cap, cur, hv, Nat.le_trans hb hg, r⟩

/-- the end of Sum: the tail is written, and the words are told -/
theorem sum_end (G : Nat) (bs : List Int) (s : List Int) (r : Array Value) (h : Dg.sumOf (bs ++ Dg.tail bs.length) = s) : (s.flatMap (Dg.be · 4)) = Dg.sha bs := by rw [← h]; rfl
theorem hs_whole {w : World} {g : Nat} {bs : List Int} (h : Hs w g bs) (hn : bs ≠ []) : ∃ r, Blk w g 76 (wds (Dg.sumOf bs) ++ r) := by
  obtain ⟨s, r, h1, _, _, _, h2, _⟩ := h
  rw [h2 hn] at h1
  exact ⟨_, h1⟩

set_option maxRecDepth 100000 in
set_option maxHeartbeats 2000000 in
theorem sum_any (g : Nat) (bs : List Int) (w : World) (hH : Hs w g bs) (hC : Cubes w) (hmax : bs.length ≤ 1125899906842624) :
    Calls Tryd.prog 42 #[.pointer (some ⟨g, 0, none⟩)] w fun e w' => ∃ g', e = .returned (.slice (some ⟨g', 0, none⟩) 32 32) ∧
      w'.ownsRow w.heap.size 5 1 (.slice (some ⟨g', 0, none⟩) 32 32) 32 ((Dg.sha bs).map b8) ∧ Below w.heap.size w w' := by
  obtain ⟨hz, hz2⟩ := zero_of_info infoHasher
  obtain ⟨Z, hZ⟩ : ∃ Z, Z = hc (List.replicate 8 0) (List.replicate 64 0) 0 := ⟨_, rfl⟩
  have hZs : Z.size = 73 := by rw [hZ, hc_size]; rfl
  rw [← hZ] at hz
  obtain ⟨s, r, h1, h2, h3, h4⟩ := hH
  have hC73 : (hc s r bs.length).size = 73 := by rw [hc_size, h2, h3]
  obtain ⟨C, hCe⟩ : ∃ C, C = hc s r bs.length := ⟨_, rfl⟩
  have hone : C.all (·.oneCell') = true := by
    rw [hCe, Array.all_eq_true_iff_forall_mem]
    intro x hx
    unfold hc at hx
    rcases Array.mem_append.1 hx with hx | hx
    · exact (Array.all_eq_true_iff_forall_mem.1 (wds_one s)) x hx
    · simp only [hr, List.mem_toArray, List.mem_append, List.mem_map, List.mem_singleton] at hx
      rcases hx with ⟨y, _, rfl⟩ | rfl <;> rfl
  rw [← hCe] at h1 hC73
  have HE := hide hCe
  have HC := hide hC
  have H2 := hide h2
  have H3 := hide h3
  have H4 := hide h4
  have H1 := hide h1
  clear hC hZ hCe h2 h3 h4 h1
  go_enter Tryd.func42, Tryd.ntmps42
  go_upto_region 3 with fail
  have hg1 := H1.out.below' ((Below.refl w.heap.size w).alloc (Nat.le_refl _) (.cells Z 76))
  have hn1 := blk_new w 76 Z
  have hb1 := (Below.refl w.heap.size w).alloc (Nat.le_refl _) (.cells Z 76)
  have HB1 := hide hb1
  have Hg1 := hide hg1
  have Hn1 := hide hn1
  clear hb1 hg1 hn1 hz
  have hgl := H1.out.lt
  generalize w.alloc (.cells Z 76) = w1 at HB1 Hg1 Hn1 ⊢
  obtain ⟨N, hN⟩ : ∃ N, N = w.heap.size := ⟨_, rfl⟩
  rw [← hN] at Hn1 hgl ⊢
  have HN := hide hN
  clear hN
  go_upto_region 4 with (first
    | (refine wpList_load_row rfl 76 _ rfl g rfl 76 C (0, 0) _ Hg1.out Tryd.underlying76 rfl (by rw [hC73]; exact hz2) ?_)
    | (refine wpList_store_row rfl 76 _ _ rfl N C rfl rfl 76 Z Hn1.out (by rw [hC73]; exact hz2) (by rw [hC73, hZs]) hone ?_))
  have hb2 := Hn1.out.row C
  have HB2 : Hid (Below w.heap.size w (w1.setRow N C)) := HB1.out.trans ((But.row (.refl _ _) C).to_below HB1.out.size (by rw [HN.out]; exact Nat.le_refl _))
  have HC2 : Hid (Cubes (w1.setRow N C)) := HC.out.below HB2.out HC.out.lt
  have HH2 : Hid (Hs (w1.setRow N C) N bs) := ⟨s, r, by rw [HE.out] at hb2 ⊢; exact hb2, H2.out, H3.out, H4.out⟩
  clear hb2 Hn1 Hg1 HB1
  generalize w1.setRow N C = w2 at HB2 HC2 HH2 ⊢
  -- here: w2, HH2 : Hs w2 N bs; HB2 : Below w.heap.size w w2; HC2 : Cubes w2; HN : N = w.heap.size
  obtain ⟨s2, r2, hb2, hs2, hr2, h82, hsum2, htk2⟩ := HH2.out
  have hl2 := (hb2.cell 72).trans (hc_long hs2 hr2)
  clear hb2 hs2 hr2 h82 hsum2 htk2
  obtain ⟨n, hn⟩ : ∃ n, n = bs.length := ⟨_, rfl⟩
  rw [← hn] at hl2 hmax
  have Hn := hide hn
  clear hn
  go_wp2_with (go_at_call 55; refine (tail_any (n : Int) _ (by omega) (by omega)).mono ?_; rintro e w3 ⟨gt, m, hm, rfl, hown3, b3⟩)
  clear hl2
  have hm' := hm.out
  have hnz := Dg.noughts_le (n : Int)
  have hmb : m ≤ 72 := by rw [hm', Dg.tail_length]; omega
  obtain ⟨hI3, hgt, hgt2⟩ := own_isB hown3 (Dg.b8_of_mem (Dg.tail_mem _)) (by omega)
  have hNlt := HH2.out.lt
  refine (write_any N bs (Dg.tail n) (some ⟨gt, 0, none⟩) m m _ (HH2.out.below b3) hI3 (fun _ x hx => by cases hx; show gt ≠ N; omega) (by have := HC.out.lt; have := HN.out; omega) (HC2.out.below' b3) (by rw [← Hn.out]; omega)).mono ?_
  rintro e w4 ⟨rfl, b4, hH4⟩
  have hb4 : Below w.heap.size w w4 := (bthen HB2.out b3).trans (b4.to_below (bthen HB2.out b3).size (by rw [HN.out]; exact Nat.le_refl _))
  obtain ⟨r4, hB4⟩ := hs_whole hH4 (by simp [Dg.tail])
  have HB4 := hide hB4
  have Hb4 := hide hb4
  clear hB4 hb4 hH4 b4 hI3 hown3 hm hm' hnz
  go_wp2_with fail
  refine (bytes_any N _ _ r4 _ (Dg.sumOf_length _) HB4.out (Dg.sumOf_w32 _)).mono ?_
  rintro e w5 ⟨g5, rfl, hown5, b5⟩
  go_wp2_with fail
  go_ret
  refine ⟨g5, rfl, ?_, bthen Hb4.out b5⟩
  have e : (Dg.sumOf (bs ++ Dg.tail n)).flatMap (Dg.be · 4) = Dg.sha bs := by rw [Hn.out]; rfl
  rw [e] at hown5
  exact own_base hown5 Hb4.out.size

set_option maxRecDepth 100000 in
set_option maxHeartbeats 2000000 in
theorem sum_nil (w : World) (hC : Cubes w) :
    Calls Tryd.prog 42 #[.pointer none] w fun e w' => ∃ g', e = .returned (.slice (some ⟨g', 0, none⟩) 32 32) ∧
      w'.ownsRow w.heap.size 5 1 (.slice (some ⟨g', 0, none⟩) 32 32) 32 ((Dg.sha []).map b8) ∧ Below w.heap.size w w' := by
  obtain ⟨hz, hz2⟩ := zero_of_info infoHasher
  obtain ⟨Z, hZ⟩ : ∃ Z, Z = hc (List.replicate 8 0) (List.replicate 64 0) 0 := ⟨_, rfl⟩
  rw [← hZ] at hz
  have HZ := hide hZ
  have HC := hide hC
  clear hC hZ
  go_enter Tryd.func42, Tryd.ntmps42
  go_upto_region 4 with fail
  have hn1 := blk_new w 76 Z
  have HB2 : Hid (Below w.heap.size w (w.alloc (.cells Z 76))) := (Below.refl w.heap.size w).alloc (Nat.le_refl _) (.cells Z 76)
  have HC2 : Hid (Cubes (w.alloc (.cells Z 76))) := HC.out.below' HB2.out
  obtain ⟨bs, hbs⟩ : ∃ bs : List Int, bs = [] := ⟨_, rfl⟩
  have HH2 : Hid (Hs (w.alloc (.cells Z 76)) w.heap.size bs) := by rw [hbs]; exact hs_new (by rw [HZ.out] at hn1 ⊢; exact hn1)
  have hmax : bs.length ≤ 1125899906842624 := by rw [hbs]; decide
  have HBs := hide hbs
  clear hn1 hz hbs
  obtain ⟨N, hN⟩ : ∃ N, N = w.heap.size := ⟨_, rfl⟩
  rw [← hN] at HH2 ⊢
  have HN := hide hN
  clear hN
  generalize w.alloc (.cells Z 76) = w2 at HB2 HC2 HH2 ⊢
  -- here: w2, HH2 : Hs w2 N bs; HB2 : Below w.heap.size w w2; HC2 : Cubes w2; HN : N = w.heap.size
  obtain ⟨s2, r2, hb2, hs2, hr2, h82, hsum2, htk2⟩ := HH2.out
  have hl2 := (hb2.cell 72).trans (hc_long hs2 hr2)
  clear hb2 hs2 hr2 h82 hsum2 htk2
  obtain ⟨n, hn⟩ : ∃ n, n = bs.length := ⟨_, rfl⟩
  rw [← hn] at hl2 hmax
  have Hn := hide hn
  clear hn
  go_wp2_with (go_at_call 55; refine (tail_any (n : Int) _ (by omega) (by omega)).mono ?_; rintro e w3 ⟨gt, m, hm, rfl, hown3, b3⟩)
  clear hl2
  have hm' := hm.out
  have hnz := Dg.noughts_le (n : Int)
  have hmb : m ≤ 72 := by rw [hm', Dg.tail_length]; omega
  obtain ⟨hI3, hgt, hgt2⟩ := own_isB hown3 (Dg.b8_of_mem (Dg.tail_mem _)) (by omega)
  have hNlt := HH2.out.lt
  refine (write_any N bs (Dg.tail n) (some ⟨gt, 0, none⟩) m m _ (HH2.out.below b3) hI3 (fun _ x hx => by cases hx; show gt ≠ N; omega) (by have := HC.out.lt; have := HN.out; omega) (HC2.out.below' b3) (by rw [← Hn.out]; omega)).mono ?_
  rintro e w4 ⟨rfl, b4, hH4⟩
  have hb4 : Below w.heap.size w w4 := (bthen HB2.out b3).trans (b4.to_below (bthen HB2.out b3).size (by rw [HN.out]; exact Nat.le_refl _))
  obtain ⟨r4, hB4⟩ := hs_whole hH4 (by simp [Dg.tail])
  have HB4 := hide hB4
  have Hb4 := hide hb4
  clear hB4 hb4 hH4 b4 hI3 hown3 hm hm' hnz
  go_wp2_with fail
  refine (bytes_any N _ _ r4 _ (Dg.sumOf_length _) HB4.out (Dg.sumOf_w32 _)).mono ?_
  rintro e w5 ⟨g5, rfl, hown5, b5⟩
  go_wp2_with fail
  go_ret
  refine ⟨g5, rfl, ?_, bthen Hb4.out b5⟩
  have e : (Dg.sumOf (bs ++ Dg.tail n)).flatMap (Dg.be · 4) = Dg.sha bs := by rw [Hn.out]; rfl
  rw [e] at hown5
  rw [HBs.out] at hown5
  exact own_base hown5 Hb4.out.size

theorem digestSum_any (bs : List Int) (a : Option Addr) (len cap : Nat) (w : World) (hB : IsB w a len cap bs) (hC : Cubes w) (hmax : len ≤ 1125899906842624) :
    Calls Tryd.prog 35 #[.slice a len cap] w fun e w' => ∃ g', e = .returned (.slice (some ⟨g', 0, none⟩) 32 32) ∧
      w'.ownsRow w.heap.size 5 1 (.slice (some ⟨g', 0, none⟩) 32 32) 32 ((Dg.sha bs).map b8) ∧ Below w.heap.size w w' := by
  have HB := hide hB
  have HC := hide hC
  clear hB hC
  go_enter Tryd.func35, Tryd.ntmps35
  go_wp2_with fail
  refine (new_any _).mono ?_
  rintro e w1 ⟨rfl, b1, hn⟩
  have HH1 := hide (hs_new hn)
  have HB1 := hide b1
  clear hn b1
  go_wp2_with fail
  refine (write_any w.heap.size [] bs a len cap _ HH1.out (HB.out.below HB1.out) (HB.out.off (Nat.le_refl _)) (by have := HC.out.lt; omega) (HC.out.below' HB1.out) (by simp; omega)).mono ?_
  rintro e w2 ⟨rfl, b2, hH2⟩
  have HB2 : Hid (Below w.heap.size w w2) := HB1.out.trans (b2.to_below HB1.out.size (Nat.le_refl _))
  have HH2 := hide hH2
  clear hH2 b2
  go_wp2_with fail
  refine (sum_any w.heap.size bs _ HH2.out (HC.out.below' HB2.out) (by rw [HB.out.1]; exact hmax)).mono ?_
  rintro e w3 ⟨g3, rfl, hown3, b3⟩
  go_wp2_with fail
  go_ret
  exact ⟨g3, rfl, own_base hown3 HB2.out.size, bthen HB2.out b3⟩
end Go.Proofs.YtfcbooagedjkfaaDoor
