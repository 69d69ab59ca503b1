/-
  THE WALK of FrameAsks (layer 10).
-/
import Derived.Test.YtgfjpbiioaahhaaFOpen
set_option linter.unusedVariables false
set_option linter.unusedSimpArgs false
set_option maxRecDepth 100000
namespace Go.Proofs.Ytgfjpbiioaahhaa
open Go.RowKit Fr

theorem took_mem {l : List Bs} {y : Bs} (h : y ∈ l) : y.length ≤ took l := by
  induction l with
  | nil => cases h
  | cons x l ih =>
    rcases List.mem_cons.1 h with rfl | h
    · simp [took]; omega
    · have := ih h
      simp [took] at this ⊢
      omega
theorem took_take {l : List Bs} {k : Nat} (h : k < l.length) : took (l.take (k + 1)) = took (l.take k) + (8 + l[k].length) := by
  rw [List.take_succ_eq_append_getElem h, took_one]

/-- a row of one byte just made -/
def OneB (x : Int) : Fact := fun lo hi v w => v = .slice (some ⟨lo, 0, none⟩) 1 1 ∧ Hid (w.cell? ⟨lo, 0, none⟩ = some (.int .u8 x))
theorem mono_oneB (x : Int) : Mono (OneB x) := by
  rintro lo hi v w w' ⟨rfl, h⟩ k
  exact ⟨rfl, (k.cell (p := ⟨lo, 0, none⟩) (block_lt_of_cell h.out)).trans h.out⟩
theorem oneB_fact (x : Int) (w : World) : OneB x w.heap.size (w.alloc (.cells #[.int .u8 x] 5)).heap.size (.slice (some ⟨w.heap.size, 0, none⟩) 1 1) (w.alloc (.cells #[.int .u8 x] 5)) :=
  ⟨rfl, (Blk.new w #[.int .u8 x] 5).cell 0⟩
theorem conv_one (w : World) (lo : Nat) (x : Int) (C : ByteArray) (hc : w.cell? ⟨lo, 0, none⟩ = some (.int .u8 x)) (hC : C = ⟨#[x.toNat.toUInt8]⟩) : (convert 26 9 (.slice (some ⟨lo, 0, none⟩) 1 1)).run Try.prog w = .ok (.string C) w := by
  subst hC
  have h := run_convert_bytes_arg (P := Try.prog) w 26 5 Try.underlying26 Try.underlying5 lo 0 1 1 [x] rfl
    (fun i hi => by
      have : i = 0 := by omega
      subst this
      exact hc) 9 Try.underlying9
  rw [h]
  rfl
theorem bthen0 {B : Nat} {a b c : World} (h : Below B a b) (k : Below b.heap.size b c) (hB : B ≤ b.heap.size := by omega) : Below B a c := h.trans (k.mono hB)

set_option maxHeartbeats 1000000 in
theorem frameAsks_walk (a0 : ByteArray) (v : Value) (L : List Bs) (a2 a3 a4 : Int) (w : World) (hv : SV w v L) (hL : ∀ y ∈ L, y.length ≤ 140737488355328) (s0 : a0.size ≤ 140737488355328) (w2 : (Lit.int .u16 a2).wf = true) (w3 : (Lit.int .u8 a3).wf = true) (w4 : (Lit.int .u8 a4).wf = true) :
    Calls Try.prog 3 #[.string a0, v, .int .u16 a2, .int .u8 a3, .int .u8 a4] w fun e w' => e = .returned (.bool true) ∧ Below w.heap.size w w' := by
  obtain ⟨n2, e2, l2⟩ : ∃ n : Nat, a2 = (n : Int) ∧ n < 65536 := by
    simp [Lit.wf, IntKind.min, IntKind.max, IntKind.bits, IntKind.signed] at w2
    exact ⟨a2.toNat, by omega, by omega⟩
  obtain ⟨c, e3, l3⟩ : ∃ n : Nat, a3 = (n : Int) ∧ n < 256 := by
    simp [Lit.wf, IntKind.min, IntKind.max, IntKind.bits, IntKind.signed] at w3
    exact ⟨a3.toNat, by omega, by omega⟩
  obtain ⟨n4, e4, l4⟩ : ∃ n : Nat, a4 = (n : Int) ∧ n < 256 := by
    simp [Lit.wf, IntKind.min, IntKind.max, IntKind.bits, IntKind.signed] at w4
    exact ⟨a4.toNat, by omega, by omega⟩
  subst e2
  subst e3
  subst e4
  clear w2 w3 w4
  have HSV := hide hv
  obtain ⟨a, cap, rfl, hcap, hcl⟩ := hv
  obtain ⟨N, hN⟩ : ∃ N, N = L.length := ⟨_, rfl⟩
  have HN := hide hN
  have HLs := hide hL
  have HC : Hid (0 < N → ∃ b o, a = some ⟨b, o, none⟩ ∧ ∀ j (h : j < L.length), w.cell? ⟨b, o + j, none⟩ = some (.string (strOf L[j]))) := fun h => hcl (by rw [← hN]; exact h)
  rw [← hN] at hcap HSV ⊢
  clear hN hL hcl
  go_enter Try.func3, Try.ntmps3
  go_wp2_with fail
  go_loopw [11, 12] (fun nv i wr => ∃ k m : Nat, k ≤ N ∧ k ≤ 60 ∧ m ≤ 1000000000000000 ∧ nv = .int .i64 m ∧ i = .int .i64 k ∧ Hid (m = a0.size + took (L.take k)) ∧ w = wr) (fun nv i _ => N - (intOf i).toNat)
  case atStart => exact ⟨0, a0.size, by omega, by omega, by omega, rfl, rfl, rfl, rfl⟩
  case round =>
    obtain ⟨k, m, hk, hk60, hm, rfl, rfl, HM, rfl⟩ := hrel
    by_cases hlt : k < N
    · by_cases hm4 : m ≤ 400
      · have hkl : k < L.length := by rw [← HN.out]; exact hlt
        obtain ⟨b, o, rfl, hc⟩ := HC.out (by omega)
        obtain ⟨S, hS⟩ : ∃ S, S = strOf L[k] := ⟨_, rfl⟩
        have x1 : w.cell? ⟨b, o + k, none⟩ = some (.string S) := by rw [hS]; exact hc k hkl
        have hSz : S.size ≤ 140737488355328 := by rw [hS]; exact HLs.out _ (List.getElem_mem hkl)
        have hk50 : k ≤ 50 := by
          have h1 := took_len (L.take k)
          have h2 := HM.out
          rw [List.length_take] at h1
          omega
        have HM2 : Hid (m + (8 + S.size) = a0.size + took (L.take (k + 1))) := by
          show _ = _
          rw [took_take hkl, HM.out, hS]
          show _ + (8 + L[k].length) = _
          omega
        clear hc hS hkl
        go_wp2_with fail
        go_roundw
        case rel => exact ⟨k + 1, m + (8 + S.size), by omega, by omega, by omega, by go_num, by go_num, HM2.out, trivial⟩
        case measure => simp [intOf]; omega
      · have hm4i : (400 : Int) < (m : Int) := by omega
        go_wp2_with (go_at_call 10; refine (known_any _).mono ?_; rintro e w1 ⟨rfl, b1⟩)
        go_ret
        exact ⟨rfl, b1⟩
    · have hkN : k = N := by omega
      subst hkN
      have hTl : Hid (L.take k = L) := by show _ = _; rw [HN.out, List.take_length]
      by_cases hm4 : m ≤ 400
      · have hm4i : (m : Int) ≤ 400 := by omega
        have htk : took L ≤ 400 := by have := HM.out; rw [hTl.out] at this; omega
        have ha0 : a0.size ≤ 400 := by have := HM.out; omega
        have hk50 : k ≤ 50 := by
          have h1 := took_len L
          rw [← HN.out] at h1
          omega
        have HTK := hide htk
        have HTF : Hid (∀ j, took (L.take j) = ((L.take j).flatMap fr).length) := fun j => took_frs _ (fun y hy => by have := took_mem (List.mem_of_mem_take hy); unfold most; omega)
        have HTJ : Hid (∀ j, took (L.take j) ≤ 400) := fun j => by
          have h1 : took L = took (L.take j) + took (L.drop j) := by rw [← took_append, List.take_append_drop]
          omega
        obtain ⟨q, hq⟩ : ∃ q, q = sum (bs a0) := ⟨_, rfl⟩
        obtain ⟨F, hFF⟩ : ∃ F, F = strOf (fr (bs a0)) := ⟨_, rfl⟩
        have HQ := hide hq
        have HFF := hide hFF
        clear htk HM hTl hq hFF
        go_wp2_with (go_at_call 10; refine (known_any _).mono ?_; rintro e wk ⟨rfl, bk⟩)
        have HBk := hide bk
        clear bk
        go_loopw [13, 14] (fun sv i wr => ∃ (j : Nat) (S : ByteArray), j ≤ k ∧ i = .int .i64 j ∧ sv = .string S ∧ Hid (bs S = (L.take j).flatMap fr) ∧ Hid (Below w.heap.size w wr)) (fun sv i _ => k - (intOf i).toNat)
        case atStart => exact ⟨0, ⟨#[]⟩, by omega, rfl, rfl, rfl, HBk.out⟩
        case round =>
          clear HBk
          obtain ⟨j, S, hj, rfl, rfl, HS, HB⟩ := hrel
          have hSs : S.size ≤ 400 := by rw [← bs_length, HS.out, ← HTF.out]; exact HTJ.out j
          by_cases hlt2 : j < k
          · have hjl : j < L.length := by rw [← HN.out]; exact hlt2
            obtain ⟨b, o, rfl, hc⟩ := HC.out (by omega)
            obtain ⟨Y, hY⟩ : ∃ S, S = strOf L[j] := ⟨_, rfl⟩
            have x1 : wr.cell? ⟨b, o + j, none⟩ = some (.string Y) := by
              have := hc j hjl
              rw [← hY] at this
              exact (HB.out.cell (p := ⟨b, o + j, none⟩) (block_lt_of_cell this)).trans this
            have hYs : Y.size ≤ 400 := by
              rw [hY]
              show L[j].length ≤ 400
              have h1 := took_mem (List.getElem_mem hjl)
              have h2 := HTK.out
              omega
            obtain ⟨F2, hF⟩ : ∃ F, F = strOf (fr (bs Y)) := ⟨_, rfl⟩
            have hFs : F2.size ≤ 408 := by
              rw [hF]
              show (fr (bs Y)).length ≤ 408
              rw [fr_length (by rw [bs_length]; unfold most; omega), bs_length]
              omega
            have hcat : ¬ 9223372036854775807 < S.size + F2.size := by omega
            have HF := hide hF
            have HS2 : Hid (bs (S ++ F2) = (L.take (j + 1)).flatMap fr) := by
              show _ = _
              rw [bs_append, HS.out, List.take_succ_eq_append_getElem hjl, List.flatMap_append, List.flatMap_singleton, hF, bs_strOf, hY, bs_strOf]
            clear hc hY hF hjl
            go_wp2_with (go_at_call 11; refine (rframe_is _ Y F2 (by omega) HF.out).mono ?_; rintro e w1 ⟨rfl, b1⟩)
            go_roundw
            case rel => exact ⟨j + 1, S ++ F2, by omega, by go_num, rfl, HS2.out, bthen HB.out b1⟩
            case measure => simp [intOf]; omega
          · have hjk : j = k := by omega
            subst hjk
            have hws : w.heap.size ≤ wr.heap.size := HB.out.size
            obtain ⟨p, hp⟩ : ∃ p, p = n4 % (S.size + 1) := ⟨_, rfl⟩
            have hpl : p ≤ S.size := by rw [hp]; have := Nat.mod_lt n4 (show 0 < S.size + 1 by omega); omega
            have t4 : (n4 : Int).tmod ((S.size : Int) + 1) = (p : Int) := by rw [hp, Int.tmod_eq_emod_of_nonneg (by omega), show (S.size : Int) + 1 = ((S.size + 1 : Nat) : Int) by omega]; simp
            have t4e : (n4 : Int) % ((S.size : Int) + 1) = (p : Int) := by rw [hp, show (S.size : Int) + 1 = ((S.size + 1 : Nat) : Int) by omega]; simp
            obtain ⟨d, hd⟩ : ∃ d, d = S.size - p := ⟨_, rfl⟩
            have hdi : (S.size : Int) - (p : Int) = (d : Int) := by omega
            have hdl : (d : Int) ≤ (S.size : Int) := by omega
            have hdn : d ≤ S.size := by omega
            obtain ⟨CUT, hCUT⟩ : ∃ C, C = S.extract 0 d := ⟨_, rfl⟩
            have hCz : CUT.size ≤ 1000000000 := by rw [← bs_length, hCUT, bs_extract, List.drop_zero, List.length_take]; omega
            obtain ⟨SA, hSA⟩ : ∃ C, C = S ++ a0 := ⟨_, rfl⟩
            have hSAz : SA.size ≤ 1000000000 := by rw [← bs_length, hSA, bs_append, List.length_append, bs_length, bs_length]; omega
            have hcatA : ¬ 9223372036854775807 < S.size + a0.size := by omega
            have HCUT := hide hCUT
            have HCUTz := hide hCz
            have HSA := hide hSA
            have HSAz := hide hSAz
            clear hp hd hCUT hCz hSA hSAz HS
            by_cases hS0 : 0 < S.size
            · have hS0i : (0 : Int) < (S.size : Int) := by omega
              obtain ⟨i, hi⟩ : ∃ i, i = n2 % S.size := ⟨_, rfl⟩
              have hiS : i < S.size := by rw [hi]; exact Nat.mod_lt _ hS0
              have t2 : (n2 : Int).tmod (S.size : Int) = (i : Int) := by rw [hi, Int.tmod_eq_emod_of_nonneg (by omega)]; simp
              have t2e : (n2 : Int) % (S.size : Int) = (i : Int) := by rw [hi]; simp
              obtain ⟨i1, hi1⟩ : ∃ j, j = i + 1 := ⟨_, rfl⟩
              have hi1q : (i : Int) + 1 = (i1 : Int) := by omega
              obtain ⟨C, hC⟩ : ∃ C : ByteArray, C = ⟨#[(c : Int).toNat.toUInt8]⟩ := ⟨_, rfl⟩
              have hCs : C.size = 1 := by rw [hC]; rfl
              obtain ⟨G0, hG0⟩ : ∃ G, G = S.extract 0 i := ⟨_, rfl⟩
              obtain ⟨G1, hG1⟩ : ∃ G, G = G0 ++ C := ⟨_, rfl⟩
              obtain ⟨G2, hG2⟩ : ∃ G, G = S.extract i1 S.size := ⟨_, rfl⟩
              obtain ⟨G, hG⟩ : ∃ G, G = G1 ++ G2 := ⟨_, rfl⟩
              have z0 : G0.size ≤ 400 := by rw [← bs_length, hG0, bs_extract, List.drop_zero, List.length_take, bs_length]; omega
              have z2 : G2.size ≤ 400 := by rw [hG2, tail_size]; omega
              have z1 : G1.size ≤ 401 := by rw [← bs_length, hG1, bs_append, List.length_append, bs_length, bs_length]; omega
              have hGz : G.size ≤ 1000000000 := by rw [← bs_length, hG, bs_append, List.length_append, bs_length, bs_length]; omega
              have hcat1 : ¬ 9223372036854775807 < G0.size + C.size := by omega
              have hcat2 : ¬ 9223372036854775807 < G1.size + G2.size := by omega
              have HCC := hide hC
              have HG0 := hide hG0
              have HG1 := hide hG1
              have HG2 := hide hG2
              have HG := hide hG
              have HGz := hide hGz
              have hiSi : (i : Int) ≤ (S.size : Int) := by omega
              have hiSn : i ≤ S.size := by omega
              have hi1S : (i1 : Int) ≤ (S.size : Int) := by omega
              have hi1n : i1 ≤ 400 := by omega
              have HW1 : Hid (IntKind.i64.wrap (i1 : Int) = (i1 : Int)) := by show IntKind.i64.wrap (i1 : Int) = _; rw [IntKind.wrap_i64]; omega
              clear hi hi1 hC hCs hG0 hG1 hG2 hG z0 z1 z2 hGz
              go_upto_region 16 with fail
              generalize decide ((j : Int) < (j : Int)) = bz
              refine' wp_region_facts [(fun _ _ v _ => v = (.string S)), (fun _ _ v _ => v = (.int .i64 (i : Int))), (fun _ _ v _ => v = (.string G0)), (fun _ _ v _ => v = (.int .u8 (c : Int))), (OneB (c : Int)), (fun _ _ v _ => v = (.string C)), (fun _ _ v _ => v = (.string G1)), (fun _ _ v _ => v = (.string S)), (fun _ _ v _ => v = (.int .i64 (i : Int))), (fun _ _ v _ => v = (.int .i64 (i1 : Int))), (fun _ _ v _ => v = (.string G2)), (fun _ _ v _ => v = (.string G))] (by kernel_rfl) rfl ?hA (by kernel_rfl) (by kernel_rfl) (by kernel_rfl) rfl ?mono ?steps ?last
              case hA =>
                intro vs
                simp only [puts, Act.put, List.setIfInBounds_toArray, List.set_cons_zero, List.set_cons_succ, Nat.zero_add, Nat.reduceAdd]
                rfl
              case mono => exact ⟨mono_eq _, mono_eq _, mono_eq _, mono_eq _, mono_oneB _, mono_eq _, mono_eq _, mono_eq _, mono_eq _, mono_eq _, mono_eq _, mono_eq _, trivial⟩
              case steps =>
                intro Q'
                refine And.intro ?_ ?_
                · intro vs lo hi w' hM hd K' hK
                  dsimp only at hK ⊢
                  simp only [Act.put, List.setIfInBounds_toArray, List.set_cons_zero, List.set_cons_succ] at hK
                  go_simp
                  exact hK.out _ _ rfl (Below.refl _ _)
                refine And.intro ?_ ?_
                · intro vs lo hi w' hM hd K' hK
                  dsimp only at hK ⊢
                  simp only [Act.put, List.setIfInBounds_toArray, List.set_cons_zero, List.set_cons_succ] at hK
                  go_simp
                  exact hK.out _ _ rfl (Below.refl _ _)
                refine And.intro ?_ ?_
                · intro vs lo hi w' hM hd K' hK
                  dsimp only at hK ⊢
                  simp only [Act.put, List.setIfInBounds_toArray, List.set_cons_zero, List.set_cons_succ] at hK
                  have e0 : vs 0 = (.string S) := hd 0 (by kernel_rfl)
                  have e1 : vs 1 = (.int .i64 (i : Int)) := hd 1 (by kernel_rfl)
                  simp only [e0, e1] at hK ⊢
                  clear e0 e1
                  go_simp
                  exact hK.out _ _ (show Value.string (S.extract 0 i) = Value.string G0 by rw [HG0.out]) (Below.refl _ _)
                refine And.intro ?_ ?_
                · intro vs lo hi w' hM hd K' hK
                  dsimp only at hK ⊢
                  simp only [Act.put, List.setIfInBounds_toArray, List.set_cons_zero, List.set_cons_succ] at hK
                  go_simp
                  exact hK.out _ _ rfl (Below.refl _ _)
                refine And.intro ?_ ?_
                · intro vs lo hi w' hM hd K' hK
                  dsimp only at hK ⊢
                  simp only [Act.put, List.setIfInBounds_toArray, List.set_cons_zero, List.set_cons_succ] at hK
                  have e3 : vs 3 = (.int .u8 (c : Int)) := hd 3 (by kernel_rfl)
                  simp only [e3] at hK ⊢
                  clear e3
                  go_simp
                  exact hK.out _ _ (oneB_fact _ w') (below_alloc _ _)
                refine And.intro ?_ ?_
                · intro vs lo hi w' hM hd K' hK
                  dsimp only at hK ⊢
                  simp only [Act.put, List.setIfInBounds_toArray, List.set_cons_zero, List.set_cons_succ] at hK
                  obtain ⟨e4, c4⟩ := hd 4 (by kernel_rfl)
                  simp only [e4] at hK ⊢
                  clear e4
                  have hcv := conv_one w' (lo 4) (c : Int) C c4.out HCC.out
                  go_simp
                  exact hK.out _ _ rfl (Below.refl _ _)
                refine And.intro ?_ ?_
                · intro vs lo hi w' hM hd K' hK
                  dsimp only at hK ⊢
                  simp only [Act.put, List.setIfInBounds_toArray, List.set_cons_zero, List.set_cons_succ] at hK
                  have e2 : vs 2 = (.string G0) := hd 2 (by kernel_rfl)
                  have e5 : vs 5 = (.string C) := hd 5 (by kernel_rfl)
                  simp only [e2, e5] at hK ⊢
                  clear e2 e5
                  go_simp
                  exact hK.out _ _ (show Value.string (G0 ++ C) = Value.string G1 by rw [HG1.out]) (Below.refl _ _)
                refine And.intro ?_ ?_
                · intro vs lo hi w' hM hd K' hK
                  dsimp only at hK ⊢
                  simp only [Act.put, List.setIfInBounds_toArray, List.set_cons_zero, List.set_cons_succ] at hK
                  go_simp
                  exact hK.out _ _ rfl (Below.refl _ _)
                refine And.intro ?_ ?_
                · intro vs lo hi w' hM hd K' hK
                  dsimp only at hK ⊢
                  simp only [Act.put, List.setIfInBounds_toArray, List.set_cons_zero, List.set_cons_succ] at hK
                  go_simp
                  exact hK.out _ _ rfl (Below.refl _ _)
                refine And.intro ?_ ?_
                · intro vs lo hi w' hM hd K' hK
                  dsimp only at hK ⊢
                  simp only [Act.put, List.setIfInBounds_toArray, List.set_cons_zero, List.set_cons_succ] at hK
                  have e8 : vs 8 = (.int .i64 (i : Int)) := hd 8 (by kernel_rfl)
                  simp only [e8] at hK ⊢
                  clear e8
                  go_simp
                  exact hK.out _ _ (show Value.int .i64 (IntKind.i64.wrap (i1 : Int)) = Value.int .i64 (i1 : Int) by rw [HW1.out]) (Below.refl _ _)
                refine And.intro ?_ ?_
                · intro vs lo hi w' hM hd K' hK
                  dsimp only at hK ⊢
                  simp only [Act.put, List.setIfInBounds_toArray, List.set_cons_zero, List.set_cons_succ] at hK
                  have e7 : vs 7 = (.string S) := hd 7 (by kernel_rfl)
                  have e9 : vs 9 = (.int .i64 (i1 : Int)) := hd 9 (by kernel_rfl)
                  simp only [e7, e9] at hK ⊢
                  clear e7 e9
                  go_simp
                  exact hK.out _ _ (show Value.string (S.extract i1 S.size) = Value.string G2 by rw [HG2.out]) (Below.refl _ _)
                refine And.intro ?_ ?_
                · intro vs lo hi w' hM hd K' hK
                  dsimp only at hK ⊢
                  simp only [Act.put, List.setIfInBounds_toArray, List.set_cons_zero, List.set_cons_succ] at hK
                  have e6 : vs 6 = (.string G1) := hd 6 (by kernel_rfl)
                  have e10 : vs 10 = (.string G2) := hd 10 (by kernel_rfl)
                  simp only [e6, e10] at hK ⊢
                  clear e6 e10
                  go_simp
                  exact hK.out _ _ (show Value.string (G1 ++ G2) = Value.string G by rw [HG.out]) (Below.refl _ _)
                exact trivial
              case last =>
                intro vs lo hi w' hM hlo hap hall K' Q' hK
                obtain ⟨_, _, _, _, _, _, _, _, _, _, _, e11, _⟩ := hall
                dsimp only
                simp only [e11]
                clear e11 hap hlo
                go_simp
                refine hK.out _ _ ?_
                clear hK
                have HB2 := hide (bthen0 HB.out hM)
                clear hM
                go_wp2_with fail
                rw [← HCUT.out]
                go_wp2_with (go_at_call 12; refine (sum_is _ a0 q (by omega) HQ.out).mono ?_; rintro e w1 ⟨rfl, b1⟩)
                replace HB2 := hide (bthen HB2.out b1)
                clear b1
                refine (rsum_is _ a0 q HQ.out (by omega)).mono ?_
                rintro e w2 ⟨rfl, rfl⟩
                go_wp2_with (go_at_call 14; refine (frame_is _ a0 F (by omega) HFF.out).mono ?_; rintro e w3 ⟨rfl, b3⟩)
                replace HB2 := hide (bthen HB2.out b3)
                clear b3
                refine (rframe_is _ a0 F (by omega) HFF.out).mono ?_
                rintro e w4 ⟨rfl, b4⟩
                replace HB2 := hide (bthen HB2.out b4)
                clear b4
                go_wp2_with fail
                refine (asks_any _ a0 (by omega)).mono ?_
                rintro e w5 ⟨rfl, b5⟩
                replace HB2 := hide (bthen HB2.out b5)
                clear b5
                go_wp2_with fail
                refine (asks_any _ S (by omega)).mono ?_
                rintro e w6 ⟨rfl, b6⟩
                replace HB2 := hide (bthen HB2.out b6)
                clear b6
                go_wp2_with fail
                refine (asks_any _ G HGz.out).mono ?_
                rintro e w7 ⟨rfl, b7⟩
                replace HB2 := hide (bthen HB2.out b7)
                clear b7
                go_wp2_with fail
                refine (asks_any _ CUT HCUTz.out).mono ?_
                rintro e w8 ⟨rfl, b8⟩
                replace HB2 := hide (bthen HB2.out b8)
                clear b8
                go_wp2_with fail
                rw [← HSA.out]
                refine (asks_any _ SA HSAz.out).mono ?_
                rintro e w9 ⟨rfl, b9⟩
                replace HB2 := hide (bthen HB2.out b9)
                clear b9
                go_wp2_with fail
                go_ret
                exact ⟨rfl, HB2.out⟩
            · have hS0i : ¬ (0 : Int) < (S.size : Int) := by omega
              have HB2 := hide HB.out
              go_wp2_with fail
              rw [← HCUT.out]
              go_wp2_with (go_at_call 12; refine (sum_is _ a0 q (by omega) HQ.out).mono ?_; rintro e w1 ⟨rfl, b1⟩)
              replace HB2 := hide (bthen HB2.out b1)
              clear b1
              refine (rsum_is _ a0 q HQ.out (by omega)).mono ?_
              rintro e w2 ⟨rfl, rfl⟩
              go_wp2_with (go_at_call 14; refine (frame_is _ a0 F (by omega) HFF.out).mono ?_; rintro e w3 ⟨rfl, b3⟩)
              replace HB2 := hide (bthen HB2.out b3)
              clear b3
              refine (rframe_is _ a0 F (by omega) HFF.out).mono ?_
              rintro e w4 ⟨rfl, b4⟩
              replace HB2 := hide (bthen HB2.out b4)
              clear b4
              go_wp2_with fail
              refine (asks_any _ a0 (by omega)).mono ?_
              rintro e w5 ⟨rfl, b5⟩
              replace HB2 := hide (bthen HB2.out b5)
              clear b5
              go_wp2_with fail
              refine (asks_any _ S (by omega)).mono ?_
              rintro e w6 ⟨rfl, b6⟩
              replace HB2 := hide (bthen HB2.out b6)
              clear b6
              go_wp2_with fail
              refine (asks_any _ S (by omega)).mono ?_
              rintro e w7 ⟨rfl, b7⟩
              replace HB2 := hide (bthen HB2.out b7)
              clear b7
              go_wp2_with fail
              refine (asks_any _ CUT HCUTz.out).mono ?_
              rintro e w8 ⟨rfl, b8⟩
              replace HB2 := hide (bthen HB2.out b8)
              clear b8
              go_wp2_with fail
              rw [← HSA.out]
              refine (asks_any _ SA HSAz.out).mono ?_
              rintro e w9 ⟨rfl, b9⟩
              replace HB2 := hide (bthen HB2.out b9)
              clear b9
              go_wp2_with fail
              go_ret
              exact ⟨rfl, HB2.out⟩
      · have hm4i : (400 : Int) < (m : Int) := by omega
        go_wp2_with (go_at_call 10; refine (known_any _).mono ?_; rintro e w1 ⟨rfl, b1⟩)
        go_ret
        exact ⟨rfl, b1⟩
end Go.Proofs.Ytgfjpbiioaahhaa
