/-
  THE WALK of SealSigns.
-/
import Derived.Test.YtfcbooagedjkfaaDoorSLaw
set_option linter.unusedVariables false
set_option linter.unusedSimpArgs false
namespace Go.Proofs.YtfcbooagedjkfaaDoor
open Go.RowKit

theorem signs_one' : ∀ p : Fin 64, (signsB.extract p.val (p.val + 1)).data.toList = [Sl.sgn (p.val : Int)] := by decide +kernel
theorem signs_one {p : Int} (h0 : 0 ≤ p) (h1 : p < 64) : signsB.extract p.toNat (p + 1).toNat = ⟨[Sl.sgn p].toArray⟩ := by
  have h := signs_one' ⟨p.toNat, by omega⟩
  simp only at h
  rw [show (p + 1).toNat = p.toNat + 1 by omega]
  have e : ((p.toNat : Nat) : Int) = p := by omega
  rw [e] at h
  generalize signsB.extract p.toNat (p.toNat + 1) = X at h ⊢
  cases X
  simp at h
  simp
  rw [← h]
/-- the numbers of choices -/
def six (zs : List Int) : List Int := zs.map (· % 64)
theorem six_s6 (zs : List Int) : Sl.S6 (six zs) := by
  intro n hn
  obtain ⟨x, _, rfl⟩ := List.mem_map.1 hn
  constructor
  · exact Int.emod_nonneg _ (by omega)
  · exact Int.emod_lt_of_pos _ (by omega)

set_option maxRecDepth 100000 in
set_option maxHeartbeats 1000000 in
theorem sealSigns_walk (a0 : Option Addr) (len0 cap0 : Nat) (z0 : List Int) (w : World) (w0 : IsRow .u8 w a0 len0 cap0 z0) (hC : Cubes w) :
    Calls Tryd.prog 5 #[.slice a0 len0 cap0] w fun e w' => e = .returned (.bool true) ∧ Below w.heap.size w w' := by
  have hA := w0.isB
  generalize z0.take len0 = cs at hA
  have HA := hide hA
  have HC := hide hC
  have hlc := hA.2.1
  have hcx := hA.2.2.1
  clear w0 hA hC
  go_enter Tryd.func5, Tryd.ntmps5
  go_wp2_with fail
  go_loopw [3, 4] (fun s i wr => ∃ (k : Nat) (S : ByteArray), k ≤ len0 ∧ k ≤ 60 ∧ i = .int .i64 k ∧ s = .string S ∧ Hid (S = ⟨((six (cs.take k)).map Sl.sgn).toArray⟩) ∧ S.size = k ∧ ∃ n, wr = w.drewN n) (fun _ i _ => 60 - (intOf i).toNat)
  case atStart => exact ⟨0, ByteArray.empty, by omega, by omega, rfl, rfl, rfl, by decide, 0, rfl⟩
  case round =>
    obtain ⟨k, S, hk, hk60, rfl, rfl, HS, hsz, nd, rfl⟩ := hrel
    by_cases hlt : k < len0 ∧ k < 60
    · obtain ⟨hlt1, hlt2⟩ := hlt
      obtain ⟨h1, h2, h3, h4, h5⟩ := HA.out
      rcases h5 with ⟨_, h5⟩ | ⟨x, rfl, h6⟩
      · omega
      · obtain ⟨b, o, rfl, hR⟩ := h6 (by omega)
        have hc := hR k (by omega)
        have h8 := h4 k
        obtain ⟨v, hv⟩ : ∃ v, v = cs[k]?.getD 0 := ⟨_, rfl⟩
        rw [← hv] at hc h8
        have HV := hide hv
        clear hv h1 h4 h6 hR
        go_wp2_with fail
        go_quiet (fail)
        go_wp2_with fail
        go_roundw
        case rel =>
          refine ⟨k + 1, S ++ signsB.extract (v % 64).toNat (v % 64 + 1).toNat, by omega, by omega, by go_num, rfl, ?_, ?_, _, rfl⟩
          · show S ++ signsB.extract (v % 64).toNat (v % 64 + 1).toNat = _
            have hv64 : 0 ≤ v % 64 ∧ v % 64 < 64 := by omega
            rw [signs_one hv64.1 hv64.2, HS.out, str_app, List.take_succ_eq_append_getElem (by rw [HA.out.1]; exact hlt1)]
            have e1 : cs[k]'(by rw [HA.out.1]; exact hlt1) = v := by rw [HV.out, List.getElem?_eq_getElem (by rw [HA.out.1]; exact hlt1)]; rfl
            rw [e1]
            simp [six]
          · rw [ByteArray.size_append, ByteArray.size_extract, hsz]
            show k + (min (v % 64 + 1).toNat 64 - (v % 64).toNat) = k + 1
            omega
        case measure => simp [intOf]; omega
    · by_cases hk1 : k < len0
      · have h60 : ¬ (k : Int) < 60 := by omega
        go_wp2_with fail
        clear hlt
        refine (sealBytes_any S _ (by omega)).mono ?_
        rintro e w2 ⟨hres, b2⟩
        have HB2 : Hid (Below w.heap.size w w2) := (below_drewN (Below.refl _ _) nd).trans b2
        clear b2
        have hSl : S.data.toList = (six (cs.take k)).map Sl.sgn := by rw [HS.out]
        rw [hSl] at hres
        have hnb : Sl.bytes ((six (cs.take k)).map Sl.sgn) = Sl.back (six (cs.take k)) := by
          unfold Sl.bytes
          rw [Sl.numsOf_map _ (six_s6 _)]
          rfl
        have hnl : (six (cs.take k)).length = k := by
          unfold six
          rw [List.length_map, List.length_take, HA.out.1]
          omega
        have hso := Sl.back_isSome (six (cs.take k))
        unfold BytesAre at hres
        rw [hnb] at hres
        have hlast : 0 < k → (six (cs.take k))[k - 1]?.getD 0 = cs[k - 1]?.getD 0 % 64 := fun h0 => by
          unfold six
          rw [List.getElem?_map, List.getElem?_take, if_pos (by omega)]
          rw [List.getElem?_eq_getElem (by rw [HA.out.1]; omega)]
          rfl
        unfold Sl.ends at hso
        rw [hnl] at hso
        have HNl := hide hnl
        have HLast := hide hlast
        clear hSl hnb hnl hlast
        generalize six (cs.take k) = ns at hres hso HNl HLast
        have hsk : S.size = k := hsz
        have hq4 : k % 4 = 0 ∨ k % 4 = 1 ∨ k % 4 = 2 ∨ k % 4 = 3 := by omega
        rcases hq4 with h4 | h4 | h4 | h4
        · rw [if_neg (by omega), if_neg (by omega), if_neg (by omega)] at hso
          have h4i : (k : Int) % 4 = 0 := by omega
          rcases hres with ⟨bs, a, c, rfl, hbs, hown⟩ | ⟨rfl, hbs⟩
          · have hl := Sl.back_length _ _ hbs
            rw [HNl.out] at hl
            obtain ⟨m, hm⟩ : ∃ m, m = bs.length := ⟨_, rfl⟩
            rw [← hm] at hl ⊢
            have hfin : ((m : Int) == (k : Int) * 3 / 4) = true := by rw [beq_iff_eq]; omega
            clear hown hbs hso hm hl h4
            go_wp2_with fail
            refine (sealKnown_any _ (HC.out.below' HB2.out)).mono ?_
            rintro e w3 ⟨rfl, b3⟩
            have HB3 := hide (bthen HB2.out b3)
            clear b3
            go_wp2_with fail
            go_ret
            exact ⟨rfl, HB3.out⟩
          · rw [hbs] at hso
            cases hso
        · exfalso; omega
        · exfalso; omega
        · exfalso; omega
      · go_wp2_with fail
        clear hlt
        refine (sealBytes_any S _ (by omega)).mono ?_
        rintro e w2 ⟨hres, b2⟩
        have HB2 : Hid (Below w.heap.size w w2) := (below_drewN (Below.refl _ _) nd).trans b2
        clear b2
        have hSl : S.data.toList = (six (cs.take k)).map Sl.sgn := by rw [HS.out]
        rw [hSl] at hres
        have hnb : Sl.bytes ((six (cs.take k)).map Sl.sgn) = Sl.back (six (cs.take k)) := by
          unfold Sl.bytes
          rw [Sl.numsOf_map _ (six_s6 _)]
          rfl
        have hnl : (six (cs.take k)).length = k := by
          unfold six
          rw [List.length_map, List.length_take, HA.out.1]
          omega
        have hso := Sl.back_isSome (six (cs.take k))
        unfold BytesAre at hres
        rw [hnb] at hres
        have hlast : 0 < k → (six (cs.take k))[k - 1]?.getD 0 = cs[k - 1]?.getD 0 % 64 := fun h0 => by
          unfold six
          rw [List.getElem?_map, List.getElem?_take, if_pos (by omega)]
          rw [List.getElem?_eq_getElem (by rw [HA.out.1]; omega)]
          rfl
        unfold Sl.ends at hso
        rw [hnl] at hso
        have HNl := hide hnl
        have HLast := hide hlast
        clear hSl hnb hnl hlast
        generalize six (cs.take k) = ns at hres hso HNl HLast
        have hsk : S.size = k := hsz
        have hq4 : k % 4 = 0 ∨ k % 4 = 1 ∨ k % 4 = 2 ∨ k % 4 = 3 := by omega
        rcases hq4 with h4 | h4 | h4 | h4
        · rw [if_neg (by omega), if_neg (by omega), if_neg (by omega)] at hso
          have h4i : (k : Int) % 4 = 0 := by omega
          rcases hres with ⟨bs, a, c, rfl, hbs, hown⟩ | ⟨rfl, hbs⟩
          · have hl := Sl.back_length _ _ hbs
            rw [HNl.out] at hl
            obtain ⟨m, hm⟩ : ∃ m, m = bs.length := ⟨_, rfl⟩
            rw [← hm] at hl ⊢
            have hfin : ((m : Int) == (k : Int) * 3 / 4) = true := by rw [beq_iff_eq]; omega
            clear hown hbs hso hm hl h4
            go_wp2_with fail
            refine (sealKnown_any _ (HC.out.below' HB2.out)).mono ?_
            rintro e w3 ⟨rfl, b3⟩
            have HB3 := hide (bthen HB2.out b3)
            clear b3
            go_wp2_with fail
            go_ret
            exact ⟨rfl, HB3.out⟩
          · rw [hbs] at hso
            cases hso
        · rw [if_pos h4] at hso
          have h4i : (k : Int) % 4 = 1 := by omega
          rcases hres with ⟨bs, a, c, rfl, hbs, hown⟩ | ⟨rfl, hbs⟩
          · rw [hbs] at hso
            cases hso
          · clear hbs hso h4
            go_wp2_with fail
            refine (sealKnown_any _ (HC.out.below' HB2.out)).mono ?_
            rintro e w3 ⟨rfl, b3⟩
            have HB3 := hide (bthen HB2.out b3)
            clear b3
            go_wp2_with fail
            go_ret
            exact ⟨rfl, HB3.out⟩
        · rw [if_neg (by omega), if_pos h4, HLast.out (by omega)] at hso
          have h4i : (k : Int) % 4 = 2 := by omega
          obtain ⟨l1, _, _, l4, ⟨_, l5⟩ | ⟨x, rfl, l6⟩⟩ := HA.out.below HB2.out
          · omega
          · obtain ⟨b, o, rfl, hR⟩ := l6 (by omega)
            have hc := hR (k - 1) (by omega)
            have h8 := l4 (k - 1)
            obtain ⟨v, hv⟩ : ∃ v, v = cs[k - 1]?.getD 0 := ⟨_, rfl⟩
            rw [← hv] at hc h8 hso
            obtain ⟨j, hj⟩ : ∃ j, j = k - 1 := ⟨_, rfl⟩
            have hjk : (k : Int) - 1 = (j : Int) := by omega
            have hjl : j < len0 := by omega
            have hj0 : j ≤ 60 := by omega
            rw [← hj] at hc
            have hvm : (v % 64 % 16 == 0) = (v % 16 == 0) := by
              rw [show v % 64 % 16 = v % 16 by omega]
            rw [hvm] at hso
            have HJ := hide hj
            clear hv hj hvm l1 l4 l6 hR h4
            rcases hres with ⟨bs, a, c, rfl, hbs, hown⟩ | ⟨rfl, hbs⟩
            · rw [hbs] at hso
              have hvt : (v % 16 == 0) = true := hso.symm
              have hl := Sl.back_length _ _ hbs
              rw [HNl.out] at hl
              obtain ⟨m, hm⟩ : ∃ m, m = bs.length := ⟨_, rfl⟩
              rw [← hm] at hl ⊢
              have hfin : ((m : Int) == (k : Int) * 3 / 4) = true := by rw [beq_iff_eq]; omega
              clear hown hbs hso hm hl
              go_wp2_with fail
              refine (sealKnown_any _ (HC.out.below' HB2.out)).mono ?_
              rintro e w3 ⟨rfl, b3⟩
              have HB3 := hide (bthen HB2.out b3)
              clear b3
              go_wp2_with fail
              go_ret
              exact ⟨rfl, HB3.out⟩
            · rw [hbs] at hso
              have hvt : (v % 16 == 0) = false := hso.symm
              clear hbs hso
              go_wp2_with fail
              refine (sealKnown_any _ (HC.out.below' HB2.out)).mono ?_
              rintro e w3 ⟨rfl, b3⟩
              have HB3 := hide (bthen HB2.out b3)
              clear b3
              go_wp2_with fail
              go_ret
              exact ⟨rfl, HB3.out⟩
        · rw [if_neg (by omega), if_neg (by omega), if_pos h4, HLast.out (by omega)] at hso
          have h4i : (k : Int) % 4 = 3 := by omega
          obtain ⟨l1, _, _, l4, ⟨_, l5⟩ | ⟨x, rfl, l6⟩⟩ := HA.out.below HB2.out
          · omega
          · obtain ⟨b, o, rfl, hR⟩ := l6 (by omega)
            have hc := hR (k - 1) (by omega)
            have h8 := l4 (k - 1)
            obtain ⟨v, hv⟩ : ∃ v, v = cs[k - 1]?.getD 0 := ⟨_, rfl⟩
            rw [← hv] at hc h8 hso
            obtain ⟨j, hj⟩ : ∃ j, j = k - 1 := ⟨_, rfl⟩
            have hjk : (k : Int) - 1 = (j : Int) := by omega
            have hjl : j < len0 := by omega
            have hj0 : j ≤ 60 := by omega
            rw [← hj] at hc
            have hvm : (v % 64 % 4 == 0) = (v % 4 == 0) := by
              rw [show v % 64 % 4 = v % 4 by omega]
            rw [hvm] at hso
            have HJ := hide hj
            clear hv hj hvm l1 l4 l6 hR h4
            rcases hres with ⟨bs, a, c, rfl, hbs, hown⟩ | ⟨rfl, hbs⟩
            · rw [hbs] at hso
              have hvt : (v % 4 == 0) = true := hso.symm
              have hl := Sl.back_length _ _ hbs
              rw [HNl.out] at hl
              obtain ⟨m, hm⟩ : ∃ m, m = bs.length := ⟨_, rfl⟩
              rw [← hm] at hl ⊢
              have hfin : ((m : Int) == (k : Int) * 3 / 4) = true := by rw [beq_iff_eq]; omega
              clear hown hbs hso hm hl
              go_wp2_with fail
              refine (sealKnown_any _ (HC.out.below' HB2.out)).mono ?_
              rintro e w3 ⟨rfl, b3⟩
              have HB3 := hide (bthen HB2.out b3)
              clear b3
              go_wp2_with fail
              go_ret
              exact ⟨rfl, HB3.out⟩
            · rw [hbs] at hso
              have hvt : (v % 4 == 0) = false := hso.symm
              clear hbs hso
              go_wp2_with fail
              refine (sealKnown_any _ (HC.out.below' HB2.out)).mono ?_
              rintro e w3 ⟨rfl, b3⟩
              have HB3 := hide (bthen HB2.out b3)
              clear b3
              go_wp2_with fail
              go_ret
              exact ⟨rfl, HB3.out⟩
end Go.Proofs.YtfcbooagedjkfaaDoor
