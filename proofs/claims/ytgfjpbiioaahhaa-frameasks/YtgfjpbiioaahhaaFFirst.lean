/-
  THE WALK of (*table).first (frame).
-/
import Derived.Test.YtgfjpbiioaahhaaFRef
import Derived.Test.YtgfjpbiioaahhaaFFacts
import Derived.Laws.DeepStrings4
set_option linter.unusedVariables false
set_option linter.unusedSimpArgs false
set_option maxRecDepth 100000
namespace Go.Proofs.Ytgfjpbiioaahhaa
open Go.RowKit Fr

theorem bs_extract (s : ByteArray) (i j : Nat) : bs (s.extract i j) = ((bs s).take j).drop i := by
  show (s.extract i j).data.toList = _
  rw [ByteArray.data_extract, Array.toList_extract, List.extract_eq_take_drop, List.drop_take]
/-- a row of two strings just made -/
def TwoR (a b : ByteArray) : Fact := fun lo hi v w => v = .slice (some ⟨lo, 0, none⟩) 2 2 ∧ Hid (∀ j (h : j < [a, b].length), w.cell? ⟨lo, 0 + j, none⟩ = some (.string [a, b][j]))
theorem mono_twoR (a b : ByteArray) : Mono (TwoR a b) := by
  rintro lo hi v w w' ⟨rfl, h⟩ k
  exact ⟨rfl, fun j hj => (k.cell (p := ⟨lo, 0 + j, none⟩) (block_lt_of_cell (h.out j hj))).trans (h.out j hj)⟩
theorem twoR_fact (a b : ByteArray) (w : World) : TwoR a b w.heap.size (w.alloc (.cells #[.string a, .string b] 9)).heap.size (.slice (some ⟨w.heap.size, 0, none⟩) 2 2) (w.alloc (.cells #[.string a, .string b] 9)) :=
  ⟨rfl, two_rows w a b⟩
theorem tsum_two (w : World) (g l cap : Nat) (a b : ByteArray) (q : Nat) (hT : Tab w g) (c : Hid (∀ j (h : j < [a, b].length), w.cell? ⟨l, 0 + j, none⟩ = some (.string [a, b][j]))) (ha : a.size ≤ 1152921504606846976) (hb : b.size ≤ 1152921504606846976) (hq : q = sum (bs a ++ bs b)) :
    Calls Try.prog 21 #[.pointer (some ⟨g, 0, none⟩), .slice (some ⟨l, 0, none⟩) 2 cap] w fun e w' => e = .returned (u32v q) ∧ ∃ n, w' = w.drewN n := by
  subst hq
  rw [← cat_two]
  refine tsum_any w g l 0 cap [a, b] hT c.out (by simp) ?_
  intro r hr
  simp at hr
  rcases hr with rfl | rfl
  · exact ha
  · exact hb
theorem read_is (w : World) (s : ByteArray) (p : Nat) (hs : 4 ≤ s.size) (hp : p = num (bs s)) : Calls Try.prog 41 #[.string s] w fun e w' => e = .returned (u32v p) ∧ ∃ n, w' = w.drewN n := by
  subst hp
  exact read_any w s hs

def FirstIs (s : ByteArray) (e : Ending) : Prop := (∃ b, nx (bs s) = some b ∧ e = .returned (.tuple #[.string (strOf b), .bool true])) ∨ (nx (bs s) = none ∧ e = .returned (.tuple #[.string ⟨#[]⟩, .bool false]))

set_option maxHeartbeats 1000000 in
theorem first_any (w : World) (g : Nat) (s : ByteArray) (hT : Tab w g) (hs : s.size ≤ 1152921504606846976) :
    Calls Try.prog 36 #[.pointer (some ⟨g, 0, none⟩), .string s] w fun e w' => FirstIs s e ∧ Below w.heap.size w w' := by
  have HT := hide hT
  clear hT
  by_cases h8 : s.size < 8
  · have hnx : nx (bs s) = none := nx_short (by rw [bs_length]; exact h8)
    have HN := hide hnx
    clear hnx
    go_enter Try.func36, Try.ntmps36
    go_wp2_with fail
    go_ret2
    exact ⟨.inr ⟨HN.out, rfl⟩, Below.refl _ _⟩
  · obtain ⟨n, hn⟩ : ∃ n, n = num (bs s) := ⟨_, rfl⟩
    have hnl : n < 4294967296 := by rw [hn]; exact num_lt _
    have HN := hide hn
    clear hn
    by_cases hbig : 131072 < n
    · have hnx : nx (bs s) = none := by
        unfold nx
        rw [if_neg (by rw [bs_length]; omega), if_pos (.inl (by rw [← HN.out]; exact hbig))]
      have HX := hide hnx
      clear hnx
      go_enter Try.func36, Try.ntmps36
      go_wp2_with (go_at_call 41; refine (read_is _ s n (by omega) HN.out).mono ?_; rintro e w2 ⟨rfl, n2, rfl⟩)
      go_ret2
      exact ⟨.inr ⟨HX.out, rfl⟩, below_drewN (Below.refl _ _) _⟩
    · by_cases hlong : s.size - 8 < n
      · have hnx : nx (bs s) = none := by
          unfold nx
          rw [if_neg (by rw [bs_length]; omega), if_pos (.inr (by rw [← HN.out, bs_length]; exact hlong))]
        have HX := hide hnx
        clear hnx
        have hli : (s.size : Int) - 8 < n := by omega
        go_enter Try.func36, Try.ntmps36
        go_wp2_with (go_at_call 41; refine (read_is _ s n (by omega) HN.out).mono ?_; rintro e w2 ⟨rfl, n2, rfl⟩)
        go_ret2
        exact ⟨.inr ⟨HX.out, rfl⟩, below_drewN (Below.refl _ _) _⟩
      · obtain ⟨X, hX⟩ : ∃ X, X = s.extract 8 (8 + n) := ⟨_, rfl⟩
        obtain ⟨N, hNN⟩ : ∃ N, N = s.extract 4 s.size := ⟨_, rfl⟩
        have hbX : bs X = ((bs s).drop 8).take n := by rw [hX, bs_extract, List.drop_take, Nat.add_sub_cancel_left]
        have hbN : bs N = (bs s).drop 4 := by rw [hNN, bs_extract, List.take_of_length_le (by rw [bs_length]; exact Nat.le_refl _)]
        have hb4 : bs (s.extract 0 4) = (bs s).take 4 := by rw [bs_extract, List.drop_zero]
        obtain ⟨q, hq⟩ : ∃ q, q = sum (bs (s.extract 0 4) ++ bs X) := ⟨_, rfl⟩
        obtain ⟨p, hp⟩ : ∃ p, p = num (bs N) := ⟨_, rfl⟩
        have HQ := hide hq
        have HP := hide hp
        have hX2 : X.size ≤ 1152921504606846976 := by rw [← bs_length, hbX, List.length_take]; omega
        have hN2 : 4 ≤ N.size := by rw [← bs_length, hbN, List.length_drop, bs_length]; omega
        have h42 : (s.extract 0 4).size ≤ 1152921504606846976 := by rw [← bs_length, hb4, List.length_take]; omega
        have HZX := hide hX2
        have HZN := hide hN2
        have HZ4 := hide h42
        have hnx : nx (bs s) = if q = p then some (bs X) else none := by
          unfold nx
          rw [if_neg (by rw [bs_length]; omega), if_neg (by rw [← HN.out, bs_length]; unfold most; omega), ← HN.out, ← hbX, ← hbN, ← hb4, ← hq, ← hp]
        have HXX := hide hX
        have HN4 := hide hNN
        clear hX2 hN2 h42 hq hp hbX hbN hb4 hX hNN
        have hs4 : (4 : Int) ≤ (s.size : Int) := by omega
        have hs4n : 4 ≤ s.size := by omega
        have hw1 : (8 : Int) + (n : Int) ≤ s.size := by omega
        have HB : Hid (Below w.heap.size w w) := Below.refl _ _
        by_cases hqp : q = p
        · rw [if_pos hqp] at hnx
          have HNX : Hid (q = p → nx (bs s) = some (bs X)) := fun _ => hnx
          clear hnx
          go_enter Try.func36, Try.ntmps36
          go_wp2_with (go_at_call 41; refine (read_is _ s n (by omega) HN.out).mono ?_; rintro e w2 ⟨rfl, n2, rfl⟩)
          simp only [← HXX.out]
          have HB2 : Hid (Below w.heap.size w (w.drewN n2)) := below_drewN (Below.refl _ _) _
          have HT2 : Hid (Tab (w.drewN n2) g) := HT.out
          generalize w.drewN n2 = w2 at HB2 HT2 ⊢
          go_upto_region 7 with fail
          refine' wp_region_facts [(fun _ _ v _ => v = (.pointer (some ⟨g, 0, none⟩))), (fun _ _ v _ => v = (.string s)), (fun _ _ v _ => v = (.string (s.extract 0 4))), (fun _ _ v _ => v = (.string X)), (TwoR (s.extract 0 4) X), (fun _ _ v _ => v = (u32v q)), (fun _ _ v _ => v = (.string s)), (fun _ _ v _ => v = (.string N)), (fun _ _ v _ => v = (u32v p))] (by kernel_rfl) rfl ?hA (by kernel_rfl) (by kernel_rfl) (by kernel_rfl) rfl ?mono ?steps ?last
          case hA =>
            intro vs
            simp only [puts, Act.put, List.setIfInBounds_toArray, List.set_cons_zero, List.set_cons_succ, Nat.zero_add, Nat.reduceAdd]
            rfl
          case mono => exact ⟨mono_eq _, mono_eq _, mono_eq _, mono_eq _, mono_twoR _ _, mono_eq _, mono_eq _, mono_eq _, mono_eq _, trivial⟩
          case steps =>
            intro Q'
            refine And.intro ?_ ?_
            · intro vs lo hi w' hM hd K' hK
              dsimp only at hK ⊢
              simp only [Act.put, List.setIfInBounds_toArray, List.set_cons_zero, List.set_cons_succ] at hK
              go_simp
              exact hK.out _ _ rfl (Below.refl _ _)
            refine And.intro ?_ ?_
            · intro vs lo hi w' hM hd K' hK
              dsimp only at hK ⊢
              simp only [Act.put, List.setIfInBounds_toArray, List.set_cons_zero, List.set_cons_succ] at hK
              go_simp
              exact hK.out _ _ rfl (Below.refl _ _)
            refine And.intro ?_ ?_
            · intro vs lo hi w' hM hd K' hK
              dsimp only at hK ⊢
              simp only [Act.put, List.setIfInBounds_toArray, List.set_cons_zero, List.set_cons_succ] at hK
              have e1 : vs 1 = (.string s) := hd 1 (by kernel_rfl)
              simp only [e1] at hK ⊢
              clear e1
              go_simp
              exact hK.out _ _ rfl (Below.refl _ _)
            refine And.intro ?_ ?_
            · intro vs lo hi w' hM hd K' hK
              dsimp only at hK ⊢
              simp only [Act.put, List.setIfInBounds_toArray, List.set_cons_zero, List.set_cons_succ] at hK
              go_simp
              exact hK.out _ _ rfl (Below.refl _ _)
            refine And.intro ?_ ?_
            · intro vs lo hi w' hM hd K' hK
              dsimp only at hK ⊢
              simp only [Act.put, List.setIfInBounds_toArray, List.set_cons_zero, List.set_cons_succ] at hK
              have e2 : vs 2 = (.string (s.extract 0 4)) := hd 2 (by kernel_rfl)
              have e3 : vs 3 = (.string X) := hd 3 (by kernel_rfl)
              simp only [e2, e3] at hK ⊢
              clear e2 e3
              go_simp
              exact hK.out _ _ (twoR_fact _ _ w') (below_alloc _ _)
            refine And.intro ?_ ?_
            · intro vs lo hi w' hM hd K' hK
              dsimp only at hK ⊢
              simp only [Act.put, List.setIfInBounds_toArray, List.set_cons_zero, List.set_cons_succ] at hK
              have e0 : vs 0 = (.pointer (some ⟨g, 0, none⟩)) := hd 0 (by kernel_rfl)
              obtain ⟨e4, c4⟩ := hd 4 (by kernel_rfl)
              simp only [e0, e4] at hK ⊢
              clear e0 e4
              have hT := tab_later HT2.out hM
              go_simp
              refine (tsum_two w' g (lo 4) 2 (s.extract 0 4) X q hT c4 HZ4.out HZX.out HQ.out).mono ?_
              rintro r w7 ⟨rfl, n7, rfl⟩
              exact hK.out _ _ rfl (below_drewN (Below.refl _ _) _)
            refine And.intro ?_ ?_
            · intro vs lo hi w' hM hd K' hK
              dsimp only at hK ⊢
              simp only [Act.put, List.setIfInBounds_toArray, List.set_cons_zero, List.set_cons_succ] at hK
              go_simp
              exact hK.out _ _ rfl (Below.refl _ _)
            refine And.intro ?_ ?_
            · intro vs lo hi w' hM hd K' hK
              dsimp only at hK ⊢
              simp only [Act.put, List.setIfInBounds_toArray, List.set_cons_zero, List.set_cons_succ] at hK
              have e6 : vs 6 = (.string s) := hd 6 (by kernel_rfl)
              simp only [e6] at hK ⊢
              clear e6
              go_simp
              exact hK.out _ _ (show Value.string (s.extract 4 s.size) = Value.string N by rw [HN4.out]) (Below.refl _ _)
            refine And.intro ?_ ?_
            · intro vs lo hi w' hM hd K' hK
              dsimp only at hK ⊢
              simp only [Act.put, List.setIfInBounds_toArray, List.set_cons_zero, List.set_cons_succ] at hK
              have e7 : vs 7 = (.string N) := hd 7 (by kernel_rfl)
              simp only [e7] at hK ⊢
              clear e7
              go_simp
              refine (read_is w' N p HZN.out HP.out).mono ?_
              rintro r w7 ⟨rfl, n7, rfl⟩
              exact hK.out _ _ rfl (below_drewN (Below.refl _ _) _)
            exact trivial
          case last =>
            intro vs lo hi w' hM hlo hap hall K' Q' hK
            obtain ⟨_, _, _, _, _, e5, _, _, e8, _⟩ := hall
            dsimp only
            simp only [e5, e8]
            clear e5 e8 hap hlo
            go_simp
            refine hK.out _ _ ?_
            clear hK
            replace HB2 := hide (bthen HB2.out hM)
            clear hM
            go_wp2_with fail
            go_ret2
            exact ⟨.inl ⟨bs X, HNX.out hqp, by rw [strOf_bs]; rfl⟩, HB2.out⟩
        · rw [if_neg hqp] at hnx
          have HNX : Hid (¬ q = p → nx (bs s) = none) := fun _ => hnx
          clear hnx
          go_enter Try.func36, Try.ntmps36
          go_wp2_with (go_at_call 41; refine (read_is _ s n (by omega) HN.out).mono ?_; rintro e w2 ⟨rfl, n2, rfl⟩)
          simp only [← HXX.out]
          have HB2 : Hid (Below w.heap.size w (w.drewN n2)) := below_drewN (Below.refl _ _) _
          have HT2 : Hid (Tab (w.drewN n2) g) := HT.out
          generalize w.drewN n2 = w2 at HB2 HT2 ⊢
          go_upto_region 7 with fail
          refine' wp_region_facts [(fun _ _ v _ => v = (.pointer (some ⟨g, 0, none⟩))), (fun _ _ v _ => v = (.string s)), (fun _ _ v _ => v = (.string (s.extract 0 4))), (fun _ _ v _ => v = (.string X)), (TwoR (s.extract 0 4) X), (fun _ _ v _ => v = (u32v q)), (fun _ _ v _ => v = (.string s)), (fun _ _ v _ => v = (.string N)), (fun _ _ v _ => v = (u32v p))] (by kernel_rfl) rfl ?hA (by kernel_rfl) (by kernel_rfl) (by kernel_rfl) rfl ?mono ?steps ?last
          case hA =>
            intro vs
            simp only [puts, Act.put, List.setIfInBounds_toArray, List.set_cons_zero, List.set_cons_succ, Nat.zero_add, Nat.reduceAdd]
            rfl
          case mono => exact ⟨mono_eq _, mono_eq _, mono_eq _, mono_eq _, mono_twoR _ _, mono_eq _, mono_eq _, mono_eq _, mono_eq _, trivial⟩
          case steps =>
            intro Q'
            refine And.intro ?_ ?_
            · intro vs lo hi w' hM hd K' hK
              dsimp only at hK ⊢
              simp only [Act.put, List.setIfInBounds_toArray, List.set_cons_zero, List.set_cons_succ] at hK
              go_simp
              exact hK.out _ _ rfl (Below.refl _ _)
            refine And.intro ?_ ?_
            · intro vs lo hi w' hM hd K' hK
              dsimp only at hK ⊢
              simp only [Act.put, List.setIfInBounds_toArray, List.set_cons_zero, List.set_cons_succ] at hK
              go_simp
              exact hK.out _ _ rfl (Below.refl _ _)
            refine And.intro ?_ ?_
            · intro vs lo hi w' hM hd K' hK
              dsimp only at hK ⊢
              simp only [Act.put, List.setIfInBounds_toArray, List.set_cons_zero, List.set_cons_succ] at hK
              have e1 : vs 1 = (.string s) := hd 1 (by kernel_rfl)
              simp only [e1] at hK ⊢
              clear e1
              go_simp
              exact hK.out _ _ rfl (Below.refl _ _)
            refine And.intro ?_ ?_
            · intro vs lo hi w' hM hd K' hK
              dsimp only at hK ⊢
              simp only [Act.put, List.setIfInBounds_toArray, List.set_cons_zero, List.set_cons_succ] at hK
              go_simp
              exact hK.out _ _ rfl (Below.refl _ _)
            refine And.intro ?_ ?_
            · intro vs lo hi w' hM hd K' hK
              dsimp only at hK ⊢
              simp only [Act.put, List.setIfInBounds_toArray, List.set_cons_zero, List.set_cons_succ] at hK
              have e2 : vs 2 = (.string (s.extract 0 4)) := hd 2 (by kernel_rfl)
              have e3 : vs 3 = (.string X) := hd 3 (by kernel_rfl)
              simp only [e2, e3] at hK ⊢
              clear e2 e3
              go_simp
              exact hK.out _ _ (twoR_fact _ _ w') (below_alloc _ _)
            refine And.intro ?_ ?_
            · intro vs lo hi w' hM hd K' hK
              dsimp only at hK ⊢
              simp only [Act.put, List.setIfInBounds_toArray, List.set_cons_zero, List.set_cons_succ] at hK
              have e0 : vs 0 = (.pointer (some ⟨g, 0, none⟩)) := hd 0 (by kernel_rfl)
              obtain ⟨e4, c4⟩ := hd 4 (by kernel_rfl)
              simp only [e0, e4] at hK ⊢
              clear e0 e4
              have hT := tab_later HT2.out hM
              go_simp
              refine (tsum_two w' g (lo 4) 2 (s.extract 0 4) X q hT c4 HZ4.out HZX.out HQ.out).mono ?_
              rintro r w7 ⟨rfl, n7, rfl⟩
              exact hK.out _ _ rfl (below_drewN (Below.refl _ _) _)
            refine And.intro ?_ ?_
            · intro vs lo hi w' hM hd K' hK
              dsimp only at hK ⊢
              simp only [Act.put, List.setIfInBounds_toArray, List.set_cons_zero, List.set_cons_succ] at hK
              go_simp
              exact hK.out _ _ rfl (Below.refl _ _)
            refine And.intro ?_ ?_
            · intro vs lo hi w' hM hd K' hK
              dsimp only at hK ⊢
              simp only [Act.put, List.setIfInBounds_toArray, List.set_cons_zero, List.set_cons_succ] at hK
              have e6 : vs 6 = (.string s) := hd 6 (by kernel_rfl)
              simp only [e6] at hK ⊢
              clear e6
              go_simp
              exact hK.out _ _ (show Value.string (s.extract 4 s.size) = Value.string N by rw [HN4.out]) (Below.refl _ _)
            refine And.intro ?_ ?_
            · intro vs lo hi w' hM hd K' hK
              dsimp only at hK ⊢
              simp only [Act.put, List.setIfInBounds_toArray, List.set_cons_zero, List.set_cons_succ] at hK
              have e7 : vs 7 = (.string N) := hd 7 (by kernel_rfl)
              simp only [e7] at hK ⊢
              clear e7
              go_simp
              refine (read_is w' N p HZN.out HP.out).mono ?_
              rintro r w7 ⟨rfl, n7, rfl⟩
              exact hK.out _ _ rfl (below_drewN (Below.refl _ _) _)
            exact trivial
          case last =>
            intro vs lo hi w' hM hlo hap hall K' Q' hK
            obtain ⟨_, _, _, _, _, e5, _, _, e8, _⟩ := hall
            dsimp only
            simp only [e5, e8]
            clear e5 e8 hap hlo
            go_simp
            refine hK.out _ _ ?_
            clear hK
            replace HB2 := hide (bthen HB2.out hM)
            clear hM
            go_wp2_with fail
            go_ret2
            exact ⟨.inr ⟨HNX.out hqp, rfl⟩, HB2.out⟩
end Go.Proofs.Ytgfjpbiioaahhaa
