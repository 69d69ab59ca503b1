/-
  THE WALK of DigestSums.
-/
import Derived.Test.YtckpcebifdhpeaaDoorDRefD
import Derived.Deep.RegionHeld3
set_option linter.unusedVariables false
set_option linter.unusedSimpArgs false
namespace Go.Proofs.YtckpcebifdhpeaaDoor
open Go.RowKit

/-- append(v, part...) of bytes on a row of the call's own, up to the form's reach -/
theorem append_isB47 {w : World} (base : Nat) (v : Value) (n : Nat) (l : List Int) (hown : w.ownsRow base 5 1 v n (l.map b8)) {a : Option Addr} {m cap : Nat} {bs : List Int} (hB : IsB w a m cap bs) (hnm : n + m ≤ 140737488355328) (hbase : base ≤ w.heap.size) :
    ∃ a' c' w', (Builtin.append_ #[24, 24] 24 #[v, .slice a m cap]).run Tryd.prog w = .ok (.slice a' (n + m) c') w' ∧ w'.ownsRow base 5 1 (.slice a' (n + m) c') (n + m) ((l ++ bs).map b8) ∧ w.grownBy w' v.ownBlock := by
  obtain ⟨i0, hi, hz0, hz1, hz2⟩ := info_parts infoByte
  obtain ⟨h1, h2, h3, h4, h5⟩ := hB
  by_cases hm : m = 0
  · subst hm
    have : bs = [] := List.eq_nil_of_length_eq_zero h1
    subst this
    obtain ⟨a', c', rfl⟩ := own_shape hown
    refine ⟨a', c', w, append_zero 24 24 5 i0 Tryd.underlying24 hi base 1 _ n _ hown a cap, ?_, ⟨rfl, rfl, rfl, Nat.le_refl _, fun _ _ _ => rfl⟩⟩
    rw [List.append_nil]
    exact hown
  · rcases h5 with ⟨_, h5⟩ | ⟨x, rfl, h6⟩
    · omega
    obtain ⟨b, o, rfl, hR⟩ := h6 (by omega)
    obtain ⟨v', w', q1, q2, q3, _⟩ := run_append_own w base 24 24 5 i0 (.int .u8 0) 1 1 Tryd.underlying24 hi hz0 hz1 hz2 rfl (by decide) v n _ hown ⟨b, o, none⟩ m cap (bs.map b8) (by simp [h1]) (fun j u hu => by
      have hj : j < bs.length := by have := (List.getElem?_eq_some_iff.1 hu).1; simpa using this
      have e1 : (⟨b, o, none⟩ : Addr).add j = ⟨b, o + j, none⟩ := by unfold Addr.add; split <;> simp_all
      refine Eq.trans (congrArg _ e1) ((hR j hj).trans ?_)
      rw [List.getElem?_map, List.getElem?_eq_getElem hj] at hu
      rw [← hu, List.getElem?_eq_getElem hj]
      rfl) (fun u hu => by simp only [List.mem_map] at hu; obtain ⟨y, _, rfl⟩ := hu; rfl) (by simp [maxLen]; omega) (by omega) hbase
    obtain ⟨a', c', rfl⟩ := own_shape q2
    rw [← List.map_append] at q2
    exact ⟨a', c', w', q1, q2, q3⟩

/-- a slice of slices of bytes that came in -/
def IsBB (w : World) (a : Option Addr) (len : Nat) (A : Nat → Option Addr) (L C : Nat → Nat) (R : Nat → List Int) : Prop :=
  ∀ r, r < len → ∃ b o, a = some ⟨b, o, none⟩ ∧ w.cell? ⟨b, o + r, none⟩ = some (.slice (A r) (L r) (C r)) ∧ IsB w (A r) (L r) (C r) (R r) ∧ L r ≤ 140737488351232
/-- the first k rows, one behind the other -/
def catR (R : Nat → List Int) : Nat → List Int
  | 0 => []
  | k + 1 => catR R k ++ R k
theorem catR_le (R : Nat → List Int) (k : Nat) : ∀ j, (catR R k).length ≤ (catR R (k + j)).length
  | 0 => Nat.le_refl _
  | j + 1 => by
    rw [← Nat.add_assoc, catR, List.length_append]
    have := catR_le R k j
    omega
theorem catR_b8 {R : Nat → List Int} {n : Nat} (h : ∀ r, r < n → Dg.B8 (R r)) : ∀ k, k ≤ n → Dg.B8 (catR R k)
  | 0, _ => Dg.b8_of_mem (by simp [catR])
  | k + 1, hk => by
    refine Dg.b8_of_mem (fun x hx => ?_)
    rw [catR] at hx
    rcases List.mem_append.1 hx with hx | hx
    · exact b8_mem (catR_b8 h k (by omega)) x hx
    · exact b8_mem (h k (by omega)) x hx

theorem held_start {g b p : Nat} {wr : World} {v : Value} (hc : wr.cell? ⟨b, p, none⟩ = some v) : Hid (But g wr wr.drew) ∧ wr.drew.cell? ⟨b, p, none⟩ = some v := ⟨(But.refl _ _).drew, hc⟩
theorem held_keep {g b p : Nat} {wr w' : World} {v : Value} (hc : wr.cell? ⟨b, p, none⟩ = some v) (hg : b ≠ g) (hb : Hid (But g wr w')) : Hid (But g wr w') ∧ w'.cell? ⟨b, p, none⟩ = some v :=
  ⟨hb, (World.cell?_of_block (a := ⟨b, p, none⟩) (hb.out.block b (block_lt_of_cell hc) hg)).trans hc⟩

set_option maxRecDepth 100000 in
set_option maxHeartbeats 2000000 in
theorem digestSums_walk (a : Option Addr) (len cap : Nat) (A : Nat → Option Addr) (L C : Nat → Nat) (R : Nat → List Int) (z : Int) (w : World) (hlc : len ≤ cap) (hcx : cap ≤ 9223372036854775807) (hR : IsBB w a len A L C R) (hz0 : 0 ≤ z) (hz1 : z < 18446744073709551616) (hC : Cubes w) :
    Calls Tryd.prog 3 #[.slice a len cap, .int .u64 z] w fun e w' => e = .returned (.bool true) ∧ Below w.heap.size w w' := by
  have HC := hide hC
  have HR := hide hR
  clear hC hR
  go_enter Tryd.func3, Tryd.ntmps3
  go_wp2_with fail
  go_loopw [5, 6] (fun v i wr => ∃ (k n : Nat) (la : Option Addr) (lc : Nat), k ≤ len ∧ n ≤ 140737488355328 ∧ i = .int .i64 k ∧ v = .slice la n lc ∧ Hid (n = (catR R k).length) ∧ Hid (wr.ownsRow w.heap.size 5 1 (.slice la n lc) n ((catR R k).map b8)) ∧ Hid (Below w.heap.size w wr)) (fun _ i _ => len - (intOf i).toNat)
  case atStart => exact ⟨0, 0, none, 0, Nat.zero_le _, by omega, rfl, rfl, rfl, World.ownsRow_nil .., Below.refl _ _⟩
  case round =>
    obtain ⟨k, n, la, lc, hk, hn, rfl, rfl, HN, HO, HB⟩ := hrel
    by_cases hlt : k < len
    · by_cases h400 : n ≤ 400
      · obtain ⟨b, o, rfl, hcell, hI, hL47⟩ := HR.out k hlt
        have hblt : b < w.heap.size := block_lt_of_cell hcell
        have hc2 := (HB.out.cell (p := ⟨b, o + k, none⟩) hblt).trans hcell
        obtain ⟨a2, c2, w2, hrun, hown, hgrow⟩ := append_isB47 w.heap.size _ n (catR R k) HO.out (hI.below HB.out) (by omega) HB.out.size
        have HB2 : Hid (Below w.heap.size w w2) := HB.out.grown hgrow HB.out.size (own_block HO.out)
        have HLk : Hid ((R k).length = L k) := hI.1
        have HO2 := hide hown
        clear hI hcell hgrow hown
        go_wp2_with (at_builtin; refine wpList_append_run rfl _ _ 24 rfl _ _ rfl rfl hrun ?_)
        go_roundw
        case rel =>
          refine ⟨k + 1, n + L k, a2, c2, hlt, by omega, by go_num, rfl, ?_, HO2.out, HB2.out⟩
          show n + L k = (catR R k ++ R k).length
          rw [List.length_append, ← HN.out, HLk.out]
        case measure => simp [intOf]; omega
      · go_wp2_with fail
        refine (known_any _ (HC.out.below' HB.out)).mono ?_
        rintro e w3 ⟨rfl, b3⟩
        go_wp2_with fail
        go_ret
        exact ⟨rfl, bthen HB.out b3⟩
    · have hkl : k = len := by omega
      subst hkl
      by_cases hbig : 400 < n ∨ 100 < k
      · by_cases hb4 : 400 < n
        · clear hbig
          go_wp2_with fail
          refine (known_any _ (HC.out.below' HB.out)).mono ?_
          rintro e w3 ⟨rfl, b3⟩
          go_wp2_with fail
          go_ret
          exact ⟨rfl, bthen HB.out b3⟩
        · have hb1 : 100 < k := by omega
          clear hbig
          go_wp2_with fail
          refine (known_any _ (HC.out.below' HB.out)).mono ?_
          rintro e w3 ⟨rfl, b3⟩
          go_wp2_with fail
          go_ret
          exact ⟨rfl, bthen HB.out b3⟩
      · have h400 : n ≤ 400 := by omega
        have h100 : k ≤ 100 := by omega
        go_wp2_with fail
        refine (known_any _ (HC.out.below' HB.out)).mono ?_
        rintro e w3 ⟨rfl, b3⟩
        have HB3 := hide (bthen HB.out b3)
        have HO3 := hide (own_below HO.out b3)
        clear b3 HO HB
        go_wp2_with fail
        refine (new_any _).mono ?_
        rintro e w6 ⟨rfl, b6, hnw⟩
        have HB6 := hide (bthen HB3.out b6)
        have HI6 := hide ((own_isB' HO3.out (catR_b8 (fun r hr => ((HR.out r hr).choose_spec.choose_spec).2.2.1.2.2.2.1) k (Nat.le_refl _))).1.below b6)
        have HH6 := hide (hs_new hnw)
        obtain ⟨g, hg⟩ : ∃ g, g = w3.heap.size := ⟨_, rfl⟩
        rw [← hg] at HH6 ⊢
        have HGw : Hid (w.heap.size ≤ g) := by rw [hg]; exact HB3.out.size
        have HOff : Hid (Off g la n) := by rw [hg]; exact (own_isB' HO3.out (catR_b8 (fun r hr => ((HR.out r hr).choose_spec.choose_spec).2.2.1.2.2.2.1) k (Nat.le_refl _))).1.off (Nat.le_refl _)
        clear hnw b6 hg HB3 HO3
        go_wp2_with fail
        generalize (decide (400 < (n : Int)) || decide (100 < (k : Int))) = bt0
        generalize decide (400 < (n : Int)) = bt1
        generalize decide (100 < (k : Int)) = bt2
        obtain ⟨all, hall⟩ : ∃ all, all = catR R k := ⟨_, rfl⟩
        rw [← hall] at HN HI6
        have HAll := hide hall
        clear hall hbig hlt
        go_loopw [8, 9] (fun v i wr => ∃ (j m : Nat), j ≤ k ∧ i = .int .i64 j ∧ v = .int .u64 (m : Int) ∧ Hid (m = (catR R j).length) ∧ Hid (Hs wr g (catR R j)) ∧ Hid (But g w6 wr)) (fun _ i _ => k - (intOf i).toNat)
        case atStart => exact ⟨0, 0, Nat.zero_le _, rfl, rfl, rfl, HH6.out, But.refl _ _⟩
        case round =>
          obtain ⟨j, m, hj, rfl, rfl, HM, HHj, HBj⟩ := hrel
          by_cases hlt2 : j < k
          · obtain ⟨b, o, rfl, hcell, hI, hL47⟩ := HR.out j hlt2
            have HBw := hide (HB6.out.trans (HBj.out.to_below HB6.out.size HGw.out))
            have hblt : b < w.heap.size := block_lt_of_cell hcell
            have hc2 := (HBw.out.cell (p := ⟨b, o + j, none⟩) hblt).trans hcell
            have hLj : m + L j ≤ 400 := by
              have h1 := catR_le R (j + 1) (k - (j + 1))
              rw [show j + 1 + (k - (j + 1)) = k by omega, ← HAll.out, ← HN.out] at h1
              have h2 : (catR R (j + 1)).length = (catR R j).length + (R j).length := by rw [catR, List.length_append]
              rw [h2, ← HM.out, hI.1] at h1
              omega
            have hbg : b ≠ g := by have := HGw.out; omega
            have CWr : Hid (Calls Tryd.prog 11 #[.pointer (some ⟨g, 0, none⟩), .slice (A j) (L j) (C j)] wr.drew fun e w' => e = .returned (.int .i64 (L j)) ∧ Hid (But g wr w') ∧ Hid (Hs w' g (catR R (j + 1)))) :=
              (write_any g (catR R j) (R j) (A j) (L j) (C j) wr.drew HHj.out ((hI.below HBw.out).below (Below.refl _ _).drew) (hI.off HGw.out) (by have := HC.out.lt; have := HGw.out; omega) ((HC.out.below' HBw.out).below' (Below.refl _ _).drew) (by rw [← HM.out]; omega)).mono fun e w' ⟨h1, h2, h3⟩ => ⟨h1, ((But.refl g wr).drew).trans h2, h3⟩
            have CLo : Hid (∀ w', Hid (Hs w' g (catR R (j + 1))) → Calls Tryd.prog 12 #[.pointer (some ⟨g, 0, none⟩)] w' fun e w'' => e = .returned (.int .u64 ((m + L j : Nat) : Int)) ∧ w'' = w') := by
              intro w' h
              obtain ⟨s, r, h1, h2, h3, _⟩ := h.out
              have e : (catR R (j + 1)).length = m + L j := by rw [catR, List.length_append, ← HM.out, hI.1]
              rw [e] at h1
              exact long_any g s r _ w' h2 h3 h1
            have HLj : Hid ((R j).length = L j) := hI.1
            clear hI
            go_upto_region 16 with fail
            have e2 : (m : Int) + (L j : Int) = ((m + L j : Nat) : Int) := by omega
            rw [e2]
            obtain ⟨m2, hm2⟩ : ∃ m2, m2 = m + L j := ⟨_, rfl⟩
            rw [← hm2] at CLo ⊢
            have HM2 := hide hm2
            clear hm2 e2
            go_region_held3 (fun w' => Hid (But g wr w') ∧ w'.cell? ⟨b, o + j, none⟩ = some (.slice (A j) (L j) (C j))) (first | exact held_start hc2 | exact held_keep hc2 hbg (by assumption) | assumption) (first
              | (go_at_call 11; refine CWr.out.mono ?_; rintro e w7 ⟨rfl, b7, h7⟩)
              | (go_at_call 12; refine (CLo.out _ (by assumption)).mono ?_; rintro e w7 ⟨rfl, rfl⟩))
            have HH7 := hide h7.out
            have HB7 := hide b7.out
            clear b7 h7 CWr CLo hc2
            go_wp2_with fail
            go_roundw
            case rel =>
              refine ⟨j + 1, m2, hlt2, by go_num, rfl, ?_, HH7.out, HBj.out.trans HB7.out⟩
              show m2 = (catR R j ++ R j).length
              rw [List.length_append, ← HM.out, HLj.out, HM2.out]
            case measure => simp [intOf]; omega
          · have hjk : j = k := by omega
            have HHk : Hid (Hs wr g all) := by
              have h := HHj.out
              rw [hjk, ← HAll.out] at h
              exact h
            have HIk := hide (HI6.out.but HBj.out HOff.out)
            have HBw := hide (HB6.out.trans (HBj.out.to_below HB6.out.size HGw.out))
            clear hjk HHj HBj
            go_wp2_with fail
            refine (refSum_any la n lc all wr HIk.out (by omega)).mono ?_
            rintro e w8 ⟨a8, c8, rfl, hI8, b8'⟩
            have HB8 := hide (bthen HBw.out b8')
            have HH8 := hide (HHk.out.below b8')
            have HA8 := hide (HIk.out.below b8')
            have HI8 := hide hI8
            clear hI8 b8' HBw HHk HIk
            go_wp2_with fail
            refine (digestI all _ n lc _ HA8.out (HC.out.below' HB8.out) (by omega)).mono ?_
            rintro e w9 ⟨g9, rfl, hI9, hg9, b9⟩
            have HB9 := hide (bthen HB8.out b9)
            have HH9 := hide (HH8.out.below b9)
            have HI9 := hide (HI8.out.below b9)
            have HJ9 := hide hI9
            clear hI9 hg9 b9 HB8 HH8 HI8 HA8
            go_wp2_with fail
            refine (same_true (Dg.sha all) _ _ 32 32 c8 _ HJ9.out HI9.out).mono ?_
            rintro e w10 ⟨rfl, b10⟩
            have HB10 := hide (bthen HB9.out b10)
            have HH10 := hide (HH9.out.below b10)
            have HI10 := hide (HI9.out.below b10)
            clear b10 HB9 HH9 HI9 HJ9
            go_wp2_with fail
            refine (sumI g all _ HH10.out (HC.out.below' HB10.out) (by rw [← HN.out]; omega)).mono ?_
            rintro e w11 ⟨g11, rfl, hI11, hg11, b11⟩
            have HB11 := hide (bthen HB10.out b11)
            have HH11 := hide (HH10.out.below b11)
            have HI11 := hide (HI10.out.below b11)
            have HJ11 := hide hI11
            clear hI11 hg11 b11 HB10 HH10 HI10
            go_wp2_with fail
            refine (same_true (Dg.sha all) _ _ 32 32 c8 _ HJ11.out HI11.out).mono ?_
            rintro e w12 ⟨rfl, b12⟩
            have HB12 := hide (bthen HB11.out b12)
            have HH12 := hide (HH11.out.below b12)
            have HI12 := hide (HI11.out.below b12)
            clear b12 HB11 HH11 HI11 HJ11
            go_wp2_with fail
            refine (sumI g all _ HH12.out (HC.out.below' HB12.out) (by rw [← HN.out]; omega)).mono ?_
            rintro e w13 ⟨g13, rfl, hI13, hg13, b13⟩
            have HB13 := hide (bthen HB12.out b13)
            have HI13 := hide (HI12.out.below b13)
            have HJ13 := hide hI13
            clear hI13 hg13 b13 HB12 HH12 HI12
            go_wp2_with fail
            refine (same_true (Dg.sha all) _ _ 32 32 c8 _ HJ13.out HI13.out).mono ?_
            rintro e w14 ⟨rfl, b14⟩
            have HB14 := hide (bthen HB13.out b14)
            clear b14 HB13 HI13 HJ13
            go_wp2_with fail
            refine (tail_any z _ hz0 hz1).mono ?_
            rintro e w15 ⟨g15, m15, Hm15, rfl, hown15, b15⟩
            have HB15 := hide (bthen HB14.out b15)
            have HI15 := hide (own_isB' hown15 (Dg.b8_of_mem (Dg.tail_mem _))).1
            clear hown15 b15 HB14
            go_wp2_with fail
            refine (refTail_any z _ hz0 hz1).mono ?_
            rintro e w16 ⟨a16, m16, c16, Hm16, rfl, hI16, b16⟩
            obtain rfl : m16 = m15 := Hm16.out.trans Hm15.out.symm
            have HB16 := hide (bthen HB15.out b16)
            have HI16 := hide (HI15.out.below b16)
            have HJ16 := hide hI16
            clear hI16 b16 HB15 HI15 Hm15
            go_wp2_with fail
            refine (same_true (Dg.tail z) _ _ m16 m16 c16 _ HI16.out HJ16.out).mono ?_
            rintro e w17 ⟨rfl, b17⟩
            have HB17 := hide (bthen HB16.out b17)
            clear b17 HB16 HI16 HJ16
            go_wp2_with fail
            refine (tail_any (n : Int) _ (by omega) (by omega)).mono ?_
            rintro e w18 ⟨g18, m18, Hm18, rfl, hown18, b18⟩
            have HB18 := hide (bthen HB17.out b18)
            have HI18 := hide (own_isB' hown18 (Dg.b8_of_mem (Dg.tail_mem _))).1
            clear hown18 b18 HB17
            go_wp2_with fail
            refine (refTail_any (n : Int) _ (by omega) (by omega)).mono ?_
            rintro e w19 ⟨a19, m19, c19, Hm19, rfl, hI19, b19⟩
            obtain rfl : m19 = m18 := Hm19.out.trans Hm18.out.symm
            have HB19 := hide (bthen HB18.out b19)
            have HI19 := hide (HI18.out.below b19)
            have HJ19 := hide hI19
            clear hI19 b19 HB18 HI18 Hm18
            go_wp2_with fail
            refine (same_true (Dg.tail (n : Int)) _ _ m19 m19 c19 _ HI19.out HJ19.out).mono ?_
            rintro e w20 ⟨rfl, b20⟩
            go_wp2_with fail
            go_ret
            exact ⟨rfl, bthen HB19.out b20⟩
end Go.Proofs.YtckpcebifdhpeaaDoor
