/-
  THE WALK of the document's Next (frame).
-/
import Derived.Test.YtgfjpbiioaahhaaFFirst
set_option linter.unusedVariables false
set_option linter.unusedSimpArgs false
set_option maxRecDepth 100000
namespace Go.Proofs.Ytgfjpbiioaahhaa
open Go.RowKit Fr

theorem nx_num {s b : Bs} (h : nx s = some b) : b.length = num s := by
  unfold nx at h
  split at h
  · cases h
  · split at h
    · cases h
    · split at h
      · simp only [Option.some.injEq] at h
        rw [← h]
        simp
        omega
      · cases h
theorem nx_of_fr {s b : Bs} {n : Nat} (hb : b.length ≤ most) (h : fr b = s.take n) : nx s = some b := by
  have := nx_fr hb (s.drop n)
  rwa [h, List.take_append_drop] at this
theorem number_is (w : World) (s : ByteArray) (p : Nat) (hs : 4 ≤ s.size) (hp : p = num (bs s)) : Calls Try.prog 34 #[.string s] w fun e w' => e = .returned (.int .i64 (p : Int)) ∧ ∃ n, w' = w.drewN n := by
  subst hp
  exact number_any w s hs
theorem rframe_is (w : World) (s F : ByteArray) (hs : s.size ≤ 1152921504606846976) (hF : F = strOf (fr (bs s))) : Calls Try.prog 11 #[.string s] w fun e w' => e = .returned (.string F) ∧ Below w.heap.size w w' := by
  subst hF
  exact rframe_any w s hs

def NextIs (s : ByteArray) (e : Ending) : Prop := (∃ b, nx (bs s) = some b ∧ e = .returned (.tuple #[.string (strOf b), .int .i64 (8 + (b.length : Int))])) ∨ (nx (bs s) = none ∧ e = .returned (.tuple #[.string ⟨#[]⟩, .int .i64 0]))

set_option maxHeartbeats 1000000 in
theorem rnext_any (w : World) (s : ByteArray) (hs : s.size ≤ 1152921504606846976) :
    Calls Try.prog 27 #[.string s] w fun e w' => NextIs s e ∧ Below w.heap.size w w' := by
  by_cases h8 : s.size < 8
  · have hnx : nx (bs s) = none := nx_short (by rw [bs_length]; exact h8)
    have HN := hide hnx
    clear hnx
    go_enter Try.func27, Try.ntmps27
    go_wp2_with fail
    go_ret2
    exact ⟨.inr ⟨HN.out, rfl⟩, Below.refl _ _⟩
  · obtain ⟨n, hn⟩ : ∃ n, n = num (bs s) := ⟨_, rfl⟩
    have hnl : n < 4294967296 := by rw [hn]; exact num_lt _
    have HN := hide hn
    clear hn
    by_cases hbig : 131072 < n
    · have hnx : nx (bs s) = none := by
        unfold nx
        rw [if_neg (by rw [bs_length]; omega), if_pos (.inl (by rw [← HN.out]; exact hbig))]
      have HX := hide hnx
      clear hnx
      go_enter Try.func27, Try.ntmps27
      go_wp2_with (go_at_call 34; refine (number_is _ s n (by omega) HN.out).mono ?_; rintro e w2 ⟨rfl, n2, rfl⟩)
      go_ret2
      exact ⟨.inr ⟨HX.out, rfl⟩, below_drewN (Below.refl _ _) _⟩
    · by_cases hlong : s.size - 8 < n
      · have hnx : nx (bs s) = none := by
          unfold nx
          rw [if_neg (by rw [bs_length]; omega), if_pos (.inr (by rw [← HN.out, bs_length]; exact hlong))]
        have HX := hide hnx
        clear hnx
        have hli : (s.size : Int) - 8 < n := by omega
        go_enter Try.func27, Try.ntmps27
        go_wp2_with (go_at_call 34; refine (number_is _ s n (by omega) HN.out).mono ?_; rintro e w2 ⟨rfl, n2, rfl⟩)
        go_ret2
        exact ⟨.inr ⟨HX.out, rfl⟩, below_drewN (Below.refl _ _) _⟩
      · obtain ⟨X, hX⟩ : ∃ X, X = s.extract 8 (8 + n) := ⟨_, rfl⟩
        obtain ⟨Y, hY⟩ : ∃ Y, Y = s.extract 0 (8 + n) := ⟨_, rfl⟩
        have hbX : bs X = ((bs s).drop 8).take n := by rw [hX, bs_extract, List.drop_take, Nat.add_sub_cancel_left]
        have hbY : bs Y = (bs s).take (8 + n) := by rw [hY, bs_extract, List.drop_zero]
        have hXl : (bs X).length = n := by rw [hbX, List.length_take, List.length_drop, bs_length]; omega
        have hX2 : X.size ≤ 1152921504606846976 := by rw [← bs_length, hXl]; omega
        obtain ⟨F, hF⟩ : ∃ F, F = strOf (fr (bs X)) := ⟨_, rfl⟩
        have hbF : bs F = fr (bs X) := by rw [hF]
        have hw1 : (8 : Int) + (n : Int) ≤ s.size := by omega
        have hw2 : (0 : Int) ≤ 8 + (n : Int) := by omega
        have hw3 : 8 + n ≤ s.size := by omega
        have HW8 : Hid (IntKind.i64.wrap (8 + (n : Int)) = 8 + (n : Int)) := by show IntKind.i64.wrap (8 + (n : Int)) = 8 + (n : Int); rw [IntKind.wrap_i64]; omega
        have HX := hide hX
        have HY := hide hY
        have HF := hide hF
        have HZX := hide hX2
        cases hnx : nx (bs s) with
        | some b =>
          have hb := nx_num hnx
          rw [← HN.out] at hb
          have hbs := (nx_some hnx).2.2
          rw [hb, ← hbX] at hbs
          have hfe : F = Y := str_ext (by rw [hbF, hbY, ← hbs, ← fr_nx hnx, hb])
          have HXb : Hid (strOf b = X) := by show strOf b = X; rw [hbs, strOf_bs]
          have HBL : Hid (b.length = n) := hb
          have HNX := hide hnx
          have heq : (F.toList == Y.toList) = true := by rw [hfe]; exact beq_self_eq_true _
          have heq2 : decide (F.toList = Y.toList) = true := by rw [hfe]; exact decide_eq_true rfl
          have heq3 : F.toList = Y.toList := by rw [hfe]
          have heq4 : (F.toList != Y.toList) = false := by rw [hfe]; exact bne_self_eq_false _
          clear hX hY hbX hbY hXl hX2 hF hbF hb hbs hnx
          have hfe' := hide hfe
          clear hfe
          go_enter Try.func27, Try.ntmps27
          go_wp2_with (go_at_call 34; refine (number_is _ s n (by omega) HN.out).mono ?_; rintro e w2 ⟨rfl, n2, rfl⟩)
          simp only [← HX.out]
          have HB2 : Hid (Below w.heap.size w (w.drewN n2)) := below_drewN (Below.refl _ _) _
          generalize w.drewN n2 = w2 at HB2 ⊢
          go_upto_region 7 with fail
          refine' wp_region_facts [(fun _ _ v _ => v = (.string X)), (fun _ _ v _ => v = (.string F)), (fun _ _ v _ => v = (.string s)), (fun _ _ v _ => v = (.int .i64 (n : Int))), (fun _ _ v _ => v = (.int .i64 (8 + (n : Int)))), (fun _ _ v _ => v = (.string Y))] (by kernel_rfl) rfl ?hA (by kernel_rfl) (by kernel_rfl) (by kernel_rfl) rfl ?mono ?steps ?last
          case hA =>
            intro vs
            simp only [puts, Act.put, List.setIfInBounds_toArray, List.set_cons_zero, List.set_cons_succ, Nat.zero_add, Nat.reduceAdd]
            rfl
          case mono => exact ⟨mono_eq _, mono_eq _, mono_eq _, mono_eq _, mono_eq _, mono_eq _, trivial⟩
          case steps =>
            intro Q'
            refine And.intro ?_ ?_
            · intro vs lo hi w' hM hd K' hK
              dsimp only at hK ⊢
              simp only [Act.put, List.setIfInBounds_toArray, List.set_cons_zero, List.set_cons_succ] at hK
              go_simp
              exact hK.out _ _ rfl (Below.refl _ _)
            refine And.intro ?_ ?_
            · intro vs lo hi w' hM hd K' hK
              dsimp only at hK ⊢
              simp only [Act.put, List.setIfInBounds_toArray, List.set_cons_zero, List.set_cons_succ] at hK
              have e0 : vs 0 = (.string X) := hd 0 (by kernel_rfl)
              simp only [e0] at hK ⊢
              clear e0
              go_simp
              refine (rframe_is w' X F HZX.out HF.out).mono ?_
              rintro r w7 ⟨rfl, b7⟩
              exact hK.out _ _ rfl b7
            refine And.intro ?_ ?_
            · intro vs lo hi w' hM hd K' hK
              dsimp only at hK ⊢
              simp only [Act.put, List.setIfInBounds_toArray, List.set_cons_zero, List.set_cons_succ] at hK
              go_simp
              exact hK.out _ _ rfl (Below.refl _ _)
            refine And.intro ?_ ?_
            · intro vs lo hi w' hM hd K' hK
              dsimp only at hK ⊢
              simp only [Act.put, List.setIfInBounds_toArray, List.set_cons_zero, List.set_cons_succ] at hK
              go_simp
              exact hK.out _ _ rfl (Below.refl _ _)
            refine And.intro ?_ ?_
            · intro vs lo hi w' hM hd K' hK
              dsimp only at hK ⊢
              simp only [Act.put, List.setIfInBounds_toArray, List.set_cons_zero, List.set_cons_succ] at hK
              have e3 : vs 3 = (.int .i64 (n : Int)) := hd 3 (by kernel_rfl)
              simp only [e3] at hK ⊢
              clear e3
              go_simp
              exact hK.out _ _ (show Value.int .i64 (IntKind.i64.wrap (8 + (n : Int))) = Value.int .i64 (8 + (n : Int)) by rw [HW8.out]) (Below.refl _ _)
            refine And.intro ?_ ?_
            · intro vs lo hi w' hM hd K' hK
              dsimp only at hK ⊢
              simp only [Act.put, List.setIfInBounds_toArray, List.set_cons_zero, List.set_cons_succ] at hK
              have e2 : vs 2 = (.string s) := hd 2 (by kernel_rfl)
              have e4 : vs 4 = (.int .i64 (8 + (n : Int))) := hd 4 (by kernel_rfl)
              simp only [e2, e4] at hK ⊢
              clear e2 e4
              go_simp
              exact hK.out _ _ (show Value.string (s.extract 0 (8 + n)) = Value.string Y by rw [HY.out]) (Below.refl _ _)
            exact trivial
          case last =>
            intro vs lo hi w' hM hlo hap hall K' Q' hK
            obtain ⟨_, e1, _, _, _, e5, _⟩ := hall
            dsimp only
            simp only [e1, e5]
            clear e1 e5 hap hlo
            go_simp
            refine hK.out _ _ ?_
            clear hK
            replace HB2 := hide (bthen HB2.out hM)
            clear hM
            go_wp2_with fail
            go_ret2
            exact ⟨.inl ⟨b, HNX.out, by rw [HXb.out, HBL.out]; rfl⟩, HB2.out⟩
        | none =>
          have hne : F ≠ Y := fun h => by
            have h2 := nx_of_fr (s := bs s) (b := bs X) (n := 8 + n) (by rw [hXl]; unfold most; omega) (by rw [← hbY, ← h, hbF])
            rw [hnx] at h2
            cases h2
          have hneL : ¬ F.toList = Y.toList := fun h => hne (str_ext (by
            show F.data.toList = Y.data.toList
            rw [← Lib.toList_data, ← Lib.toList_data]
            exact h))
          have HNX := hide hnx
          have heq : (F.toList == Y.toList) = false := by simpa using hneL
          have heq2 : decide (F.toList = Y.toList) = false := by simpa using hneL
          have heq4 : (F.toList != Y.toList) = true := by simpa using hneL
          clear hX hY hbX hbY hXl hX2 hF hbF hnx hne
          go_enter Try.func27, Try.ntmps27
          go_wp2_with (go_at_call 34; refine (number_is _ s n (by omega) HN.out).mono ?_; rintro e w2 ⟨rfl, n2, rfl⟩)
          simp only [← HX.out]
          have HB2 : Hid (Below w.heap.size w (w.drewN n2)) := below_drewN (Below.refl _ _) _
          generalize w.drewN n2 = w2 at HB2 ⊢
          go_upto_region 7 with fail
          refine' wp_region_facts [(fun _ _ v _ => v = (.string X)), (fun _ _ v _ => v = (.string F)), (fun _ _ v _ => v = (.string s)), (fun _ _ v _ => v = (.int .i64 (n : Int))), (fun _ _ v _ => v = (.int .i64 (8 + (n : Int)))), (fun _ _ v _ => v = (.string Y))] (by kernel_rfl) rfl ?hA (by kernel_rfl) (by kernel_rfl) (by kernel_rfl) rfl ?mono ?steps ?last
          case hA =>
            intro vs
            simp only [puts, Act.put, List.setIfInBounds_toArray, List.set_cons_zero, List.set_cons_succ, Nat.zero_add, Nat.reduceAdd]
            rfl
          case mono => exact ⟨mono_eq _, mono_eq _, mono_eq _, mono_eq _, mono_eq _, mono_eq _, trivial⟩
          case steps =>
            intro Q'
            refine And.intro ?_ ?_
            · intro vs lo hi w' hM hd K' hK
              dsimp only at hK ⊢
              simp only [Act.put, List.setIfInBounds_toArray, List.set_cons_zero, List.set_cons_succ] at hK
              go_simp
              exact hK.out _ _ rfl (Below.refl _ _)
            refine And.intro ?_ ?_
            · intro vs lo hi w' hM hd K' hK
              dsimp only at hK ⊢
              simp only [Act.put, List.setIfInBounds_toArray, List.set_cons_zero, List.set_cons_succ] at hK
              have e0 : vs 0 = (.string X) := hd 0 (by kernel_rfl)
              simp only [e0] at hK ⊢
              clear e0
              go_simp
              refine (rframe_is w' X F HZX.out HF.out).mono ?_
              rintro r w7 ⟨rfl, b7⟩
              exact hK.out _ _ rfl b7
            refine And.intro ?_ ?_
            · intro vs lo hi w' hM hd K' hK
              dsimp only at hK ⊢
              simp only [Act.put, List.setIfInBounds_toArray, List.set_cons_zero, List.set_cons_succ] at hK
              go_simp
              exact hK.out _ _ rfl (Below.refl _ _)
            refine And.intro ?_ ?_
            · intro vs lo hi w' hM hd K' hK
              dsimp only at hK ⊢
              simp only [Act.put, List.setIfInBounds_toArray, List.set_cons_zero, List.set_cons_succ] at hK
              go_simp
              exact hK.out _ _ rfl (Below.refl _ _)
            refine And.intro ?_ ?_
            · intro vs lo hi w' hM hd K' hK
              dsimp only at hK ⊢
              simp only [Act.put, List.setIfInBounds_toArray, List.set_cons_zero, List.set_cons_succ] at hK
              have e3 : vs 3 = (.int .i64 (n : Int)) := hd 3 (by kernel_rfl)
              simp only [e3] at hK ⊢
              clear e3
              go_simp
              exact hK.out _ _ (show Value.int .i64 (IntKind.i64.wrap (8 + (n : Int))) = Value.int .i64 (8 + (n : Int)) by rw [HW8.out]) (Below.refl _ _)
            refine And.intro ?_ ?_
            · intro vs lo hi w' hM hd K' hK
              dsimp only at hK ⊢
              simp only [Act.put, List.setIfInBounds_toArray, List.set_cons_zero, List.set_cons_succ] at hK
              have e2 : vs 2 = (.string s) := hd 2 (by kernel_rfl)
              have e4 : vs 4 = (.int .i64 (8 + (n : Int))) := hd 4 (by kernel_rfl)
              simp only [e2, e4] at hK ⊢
              clear e2 e4
              go_simp
              exact hK.out _ _ (show Value.string (s.extract 0 (8 + n)) = Value.string Y by rw [HY.out]) (Below.refl _ _)
            exact trivial
          case last =>
            intro vs lo hi w' hM hlo hap hall K' Q' hK
            obtain ⟨_, e1, _, _, _, e5, _⟩ := hall
            dsimp only
            simp only [e1, e5]
            clear e1 e5 hap hlo
            go_simp
            refine hK.out _ _ ?_
            clear hK
            replace HB2 := hide (bthen HB2.out hM)
            clear hM
            go_wp2_with fail
            go_ret2
            exact ⟨.inr ⟨HNX.out, rfl⟩, HB2.out⟩
end Go.Proofs.Ytgfjpbiioaahhaa
