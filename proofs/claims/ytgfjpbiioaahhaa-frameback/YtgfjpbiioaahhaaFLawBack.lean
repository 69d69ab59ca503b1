/-
  THE WALK of FrameBack (layer 10).
-/
import Derived.Test.YtgfjpbiioaahhaaFOpen
set_option linter.unusedVariables false
set_option linter.unusedSimpArgs false
set_option maxRecDepth 100000
namespace Go.Proofs.Ytgfjpbiioaahhaa
open Go.RowKit Fr

theorem took_mem {l : List Bs} {y : Bs} (h : y ∈ l) : y.length ≤ took l := by
  induction l with
  | nil => cases h
  | cons x l ih =>
    rcases List.mem_cons.1 h with rfl | h
    · simp [took]; omega
    · have := ih h
      simp [took] at this ⊢
      omega
theorem took_take {l : List Bs} {k : Nat} (h : k < l.length) : took (l.take (k + 1)) = took (l.take k) + (8 + l[k].length) := by
  rw [List.take_succ_eq_append_getElem h, took_one]

set_option maxHeartbeats 1000000 in
theorem frameBack_walk (v : Value) (L : List Bs) (a1 : ByteArray) (w : World) (hv : SV w v L) (hL : ∀ y ∈ L, y.length ≤ 140737488355328) (s1 : a1.size ≤ 140737488355328) :
    Calls Try.prog 4 #[v, .string a1] w fun e w' => e = .returned (.bool true) ∧ Below w.heap.size w w' := by
  have HSV := hide hv
  obtain ⟨a, cap, rfl, hcap, hcl⟩ := hv
  obtain ⟨N, hN⟩ : ∃ N, N = L.length := ⟨_, rfl⟩
  have HN := hide hN
  have HLs := hide hL
  have HC : Hid (0 < N → ∃ b o, a = some ⟨b, o, none⟩ ∧ ∀ j (h : j < L.length), w.cell? ⟨b, o + j, none⟩ = some (.string (strOf L[j]))) := fun h => hcl (by rw [← hN]; exact h)
  rw [← hN] at hcap HSV ⊢
  clear hN hL hcl
  go_enter Try.func4, Try.ntmps4
  go_wp2_with fail
  go_loopw [5, 6] (fun nv i wr => ∃ k m : Nat, k ≤ N ∧ k ≤ 60 ∧ m ≤ 1000000000000000 ∧ nv = .int .i64 m ∧ i = .int .i64 k ∧ Hid (m = a1.size + took (L.take k)) ∧ w = wr) (fun nv i _ => N - (intOf i).toNat)
  case atStart => exact ⟨0, a1.size, by omega, by omega, by omega, rfl, rfl, rfl, rfl⟩
  case round =>
    obtain ⟨k, m, hk, hk60, hm, rfl, rfl, HM, rfl⟩ := hrel
    by_cases hlt : k < N
    · by_cases hm4 : m ≤ 400
      · have hkl : k < L.length := by rw [← HN.out]; exact hlt
        obtain ⟨b, o, rfl, hc⟩ := HC.out (by omega)
        obtain ⟨S, hS⟩ : ∃ S, S = strOf L[k] := ⟨_, rfl⟩
        have x1 : w.cell? ⟨b, o + k, none⟩ = some (.string S) := by rw [hS]; exact hc k hkl
        have hSz : S.size ≤ 140737488355328 := by rw [hS]; exact HLs.out _ (List.getElem_mem hkl)
        have hk50 : k ≤ 50 := by
          have h1 := took_len (L.take k)
          have h2 := HM.out
          rw [List.length_take] at h1
          omega
        have HM2 : Hid (m + (8 + S.size) = a1.size + took (L.take (k + 1))) := by
          show _ = _
          rw [took_take hkl, HM.out, hS]
          show _ + (8 + L[k].length) = _
          omega
        clear hc hS hkl
        go_wp2_with fail
        go_roundw
        case rel => exact ⟨k + 1, m + (8 + S.size), by omega, by omega, by omega, by go_num, by go_num, HM2.out, trivial⟩
        case measure => simp [intOf]; omega
      · have hm4i : (400 : Int) < (m : Int) := by omega
        go_wp2_with (go_at_call 10; refine (known_any _).mono ?_; rintro e w1 ⟨rfl, b1⟩)
        go_ret
        exact ⟨rfl, b1⟩
    · have hkN : k = N := by omega
      subst hkN
      have hTl : Hid (L.take k = L) := by show _ = _; rw [HN.out, List.take_length]
      by_cases hm4 : m ≤ 400
      · by_cases h7 : a1.size ≤ 7
        · have hm4i : (m : Int) ≤ 400 := by omega
          have htk : took L ≤ 400 := by have := HM.out; rw [hTl.out] at this; omega
          have hk50 : k ≤ 50 := by
            have h1 := took_len L
            rw [← HN.out] at h1
            omega
          have HTK := hide htk
          have HA : Hid (∀ T : ByteArray, bs T = L.flatMap fr ++ bs a1 → L = all (bs T)) := fun T h => by
            rw [h, all_frs L _ (fun y hy => by have := took_mem hy; unfold most; omega), all_none (nx_short (by rw [bs_length]; omega)), List.append_nil]
          have HTF : Hid (∀ j, took (L.take j) = ((L.take j).flatMap fr).length) := fun j => took_frs _ (fun y hy => by have := took_mem (List.mem_of_mem_take hy); unfold most; omega)
          have HTJ : Hid (∀ j, took (L.take j) ≤ 400) := fun j => by
            have h1 : took L = took (L.take j) + took (L.drop j) := by rw [← took_append, List.take_append_drop]
            omega
          clear htk HM hTl
          go_wp2_with fail
          go_loopw [7, 8] (fun sv i wr => ∃ (j : Nat) (S : ByteArray), j ≤ k ∧ i = .int .i64 j ∧ sv = .string S ∧ Hid (bs S = (L.take j).flatMap fr) ∧ Hid (Below w.heap.size w wr)) (fun sv i _ => k - (intOf i).toNat)
          case atStart => exact ⟨0, ⟨#[]⟩, by omega, rfl, rfl, rfl, Below.refl _ _⟩
          case round =>
            obtain ⟨j, S, hj, rfl, rfl, HS, HB⟩ := hrel
            have hSs : S.size ≤ 400 := by rw [← bs_length, HS.out, ← HTF.out]; exact HTJ.out j
            by_cases hlt2 : j < k
            · have hjl : j < L.length := by rw [← HN.out]; exact hlt2
              obtain ⟨b, o, rfl, hc⟩ := HC.out (by omega)
              obtain ⟨Y, hY⟩ : ∃ S, S = strOf L[j] := ⟨_, rfl⟩
              have x1 : wr.cell? ⟨b, o + j, none⟩ = some (.string Y) := by
                have := hc j hjl
                rw [← hY] at this
                exact (HB.out.cell (p := ⟨b, o + j, none⟩) (block_lt_of_cell this)).trans this
              have hYs : Y.size ≤ 400 := by
                rw [hY]
                show L[j].length ≤ 400
                have h1 := took_mem (List.getElem_mem hjl)
                have h2 := HTK.out
                omega
              obtain ⟨F, hF⟩ : ∃ F, F = strOf (fr (bs Y)) := ⟨_, rfl⟩
              have hFs : F.size ≤ 408 := by
                rw [hF]
                show (fr (bs Y)).length ≤ 408
                rw [fr_length (by rw [bs_length]; unfold most; omega), bs_length]
                omega
              have hcat : ¬ 9223372036854775807 < S.size + F.size := by omega
              have HF := hide hF
              have HS2 : Hid (bs (S ++ F) = (L.take (j + 1)).flatMap fr) := by
                show _ = _
                rw [bs_append, HS.out, List.take_succ_eq_append_getElem hjl, List.flatMap_append, List.flatMap_singleton, hF, bs_strOf, hY, bs_strOf]
              clear hc hY hF hjl
              go_wp2_with (go_at_call 14; refine (frame_is _ Y F (by omega) HF.out).mono ?_; rintro e w1 ⟨rfl, b1⟩)
              go_roundw
              case rel => exact ⟨j + 1, S ++ F, by omega, by go_num, rfl, HS2.out, bthen HB.out b1⟩
              case measure => simp [intOf]; omega
            · have hjk : j = k := by omega
              subst hjk
              obtain ⟨T, hT⟩ : ∃ T, T = S ++ a1 := ⟨_, rfl⟩
              have hbS : bs S = L.flatMap fr := by rw [HS.out, HN.out, List.take_length]
              have hbT : bs T = L.flatMap fr ++ bs a1 := by rw [hT, bs_append, hbS]
              have hTs : T.size ≤ 1000000000 := by rw [← bs_length, hT, bs_append, List.length_append, bs_length, bs_length]; omega
              have hAT := HA.out T hbT
              have htk2 : S.size = took L := by
                have := HTF.out j
                rw [HN.out, List.take_length] at this
                rw [this, ← hbS, bs_length]
              have hcat : ¬ 9223372036854775807 < S.size + a1.size := by omega
              have HT := hide hT
              have HTs := hide hTs
              have HAT := hide hAT
              have HTK2 := hide htk2
              clear hT hbS hbT hTs hAT htk2 HS
              go_wp2_with fail
              rw [← HT.out]
              refine (all_is _ T L S.size HTs.out HAT.out HTK2.out).mono ?_
              rintro e w2 ⟨x, rfl, hs2, b2⟩
              have HS2 := hide hs2
              obtain ⟨xa, xc, rfl⟩ := hs2.shape
              have HB2 := hide (bthen HB.out b2)
              clear b2 hs2
              go_wp2_with fail
              refine (known_any _).mono ?_
              rintro e w3 ⟨rfl, b3⟩
              have HV1 := hide (HS2.out.later b3).view
              have HB3 := hide (bthen HB2.out b3)
              have HV2 := hide (HSV.out.later HB3.out)
              clear b3
              go_wp2_with (go_at_call 17; refine (same_true _ _ _ L HV1.out HV2.out (by rw [← HN.out]; omega)).mono ?_; rintro e w4 ⟨rfl, n4, rfl⟩)
              go_ret
              exact ⟨rfl, below_drewN HB3.out _⟩
        · have hm4i : (m : Int) ≤ 400 := by omega
          have h7i : (7 : Int) < (a1.size : Int) := by omega
          go_wp2_with (go_at_call 10; refine (known_any _).mono ?_; rintro e w1 ⟨rfl, b1⟩)
          go_ret
          exact ⟨rfl, b1⟩
      · have hm4i : (400 : Int) < (m : Int) := by omega
        go_wp2_with (go_at_call 10; refine (known_any _).mono ?_; rintro e w1 ⟨rfl, b1⟩)
        go_ret
        exact ⟨rfl, b1⟩
end Go.Proofs.Ytgfjpbiioaahhaa
