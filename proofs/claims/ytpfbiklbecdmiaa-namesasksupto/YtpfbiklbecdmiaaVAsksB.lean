/-
  What ValueAsks calls: left, Weight.
-/
import Derived.Test.YtpfbiklbecdmiaaVWithE
import Derived.Test.YtpfbiklbecdmiaaVWalksC
import Derived.Deep.DeepCutAuto
import Derived.Deep.CutBlock
set_option linter.unusedVariables false
set_option linter.unusedSimpArgs false
namespace Go.Proofs.Ytpfbiklbecdmiaa
open Go.RowKit

namespace V
theorem wtK_at (ks : List ByteArray) (j : Nat) (h : j < ks.length) : wtK (ks.take (j + 1)) = wtK (ks.take j) + (1 + (ks.getD j ByteArray.empty).size) := by
  have e : ks.getD j ByteArray.empty = ks[j] := by simp [List.getD, h]
  rw [e, List.take_succ_eq_append_getElem h, wtK_append]
  simp [wtK]
theorem wtL_at (l : List V) (j : Nat) (h : j < l.length) : wtL (l.take (j + 1)) = wtL (l.take j) + wt l[j] := by
  rw [List.take_succ_eq_append_getElem h, wtL_append, wtL_cons, wtL_nil]
  omega
end V

/-- what is left: so much, or something below 0 -/
def LeftIs (most : Int) (wt : Nat) (r : Int) : Prop := ((wt : Int) ≤ most ∧ r = most - wt) ∨ (most < wt ∧ r < 0 ∧ -1000000000000000 ≤ r)

set_option maxHeartbeats 2000000 in
set_option maxRecDepth 100000 in
theorem leftD (d : Nat) : ∀ (v : Value) (x : V) (w : World) (S : Nat → Prop) (most : Int), IsD w S d v x → V.wt x ≤ 4294967296 → 0 ≤ most → most ≤ 1000 →
    Calls Try.prog 27 #[v, .int .i64 most] w fun e w' => ∃ r, e = .returned (.int .i64 r) ∧ LeftIs most (V.wt x) r ∧ Below w.heap.size w w' := by
  induction d with
  | zero => intro v x w S most h; exact h.elim
  | succ d ih =>
    intro v x w S most h hwt hm0 hm1
    obtain ⟨kv, a, cap, c, rfl, h2, h3, h4, h5, h6, h7⟩ := h
    obtain ⟨k, n, t, ks, l⟩ := x
    simp only at *
    obtain ⟨a1, c1, rfl, g1, g2, g3, g4⟩ := id h2
    have HW : Hid (V.wt ⟨k, n, t, ks, l⟩ = 1 + t.size + V.wtK ks + V.wtL l) := hide (V.wt_mk k n t ks l)
    have hwk : V.wtK ks ≤ 4294967296 := by have := HW.out; omega
    have hwl : V.wtL l ≤ 4294967296 := by have := HW.out; omega
    have ht : t.size ≤ 4294967296 := by have := HW.out; omega
    have hkl : ks.length ≤ 4294967296 := Nat.le_trans (V.wtK_len ks) hwk
    have hll : l.length ≤ 4294967296 := Nat.le_trans (V.wtL_len l) hwl
    have HWK := hide hwk
    have HWL := hide hwl
    have H2 := hide h2
    have H6 := hide h6
    have H7 := hide h7
    have HG3 := hide g3
    have HG4 := hide g4
    clear h2 h6 h7 g3 g4 g1 g2 h3 h4 h5 hwk hwl hwt
    obtain ⟨m0, hm⟩ : ∃ m0 : Int, most - (1 + (t.size : Int)) = m0 := ⟨_, rfl⟩
    have hw1 : IntKind.i64.wrap (1 + (t.size : Int)) = 1 + (t.size : Int) := by rw [IntKind.wrap_i64]; omega
    have hw2 : IntKind.i64.wrap (most - (1 + (t.size : Int))) = m0 := by rw [IntKind.wrap_i64]; omega
    have HM0 := hide hm
    have HMA := hide hm0
    have HMB := hide hm1
    have HTS := hide ht
    clear hm hm0 hm1 ht
    obtain ⟨x0, x1, x2, x3, x4⟩ := box5_new w (.int .i64 k) (.int .i64 n) (.string t) (.slice a1 ks.length c1) (.slice a l.length cap) 25
    go_enter Try.func27, Try.ntmps27
    go_wp2_with fail
    clear x0 x1 x2 x3 x4 hw1 hw2
    go_loopg [1, 5] ks.length (fun g mv iv wr => ∃ (j : Nat) (m : Int), j + g = ks.length ∧ iv = .int .i64 j ∧ mv = .int .i64 m ∧ Hid (LeftIs most (1 + t.size + V.wtK (ks.take j)) m) ∧ Hid (Below w.heap.size w wr) ∧ Hid (Box5 wr w.heap.size (.int .i64 k) (.int .i64 n) (.string t) (.slice a1 ks.length c1) (.slice a l.length cap)))
    case atStart =>
      refine ⟨0, m0, by omega, rfl, rfl, ?_, below_alloc _ _, box5_new w _ _ _ _ _ _⟩
      have h1 := HM0.out
      have h2 := HTS.out
      have h3 := HMA.out
      have h4 : V.wtK (ks.take 0) = 0 := rfl
      show LeftIs _ _ _
      unfold LeftIs
      rw [h4]
      omega
    case round =>
      obtain ⟨j, m, hj, rfl, rfl, HL, HBJ, HBX⟩ := hrel
      obtain ⟨x0, x1, x2, x3, x4⟩ := id HBX.out
      by_cases hmn : 0 ≤ m
      · by_cases hlt : j < ks.length
        · obtain ⟨b, off, K, rfl, hK, ej⟩ := str_at' HG4.out HBJ.out hlt
          have hks2 := getD_wt HWK.out hlt
          rw [← hK.out] at hks2
          have hmm : m ≤ 1000 := by
            have h1 := HL.out
            have h2 := HMB.out
            unfold LeftIs at h1
            omega
          obtain ⟨m2, hm2⟩ : ∃ m2 : Int, m - (1 + (K.size : Int)) = m2 := ⟨_, rfl⟩
          have hw1 : IntKind.i64.wrap (1 + (K.size : Int)) = 1 + (K.size : Int) := by rw [IntKind.wrap_i64]; omega
          have hw2 : IntKind.i64.wrap (m - (1 + (K.size : Int))) = m2 := by rw [IntKind.wrap_i64]; omega
          have HN : Hid (LeftIs most (1 + t.size + V.wtK (ks.take (j + 1))) m2) := hide (by
            have h1 := HL.out
            have h3 := V.wtK_at ks j hlt
            rw [← hK.out] at h3
            unfold LeftIs at h1 ⊢
            omega)
          clear hks2 hm2
          go_wp2_with fail
          go_roundg (gk - 1)
          case measure => omega
          case rel => exact ⟨j + 1, m2, by omega, rfl, rfl, HN, HBJ, HBX⟩
        · have hje : j = ks.length := by omega
          have HL2 : Hid (LeftIs most (1 + t.size + V.wtK ks) m) := hide (by have h1 := HL.out; rw [hje, List.take_length] at h1; exact h1)
          clear HL
          go_wp2_with fail
          clear x0 x1 x2 x3 x4
          go_loopg [1, 6] l.length (fun g mv iv wr => ∃ (j : Nat) (m : Int), j + g = l.length ∧ iv = .int .i64 j ∧ mv = .int .i64 m ∧ Hid (LeftIs most (1 + t.size + V.wtK ks + V.wtL (l.take j)) m) ∧ Hid (Below w.heap.size w wr) ∧ Hid (Box5 wr w.heap.size (.int .i64 k) (.int .i64 n) (.string t) (.slice a1 ks.length c1) (.slice a l.length cap)))
          case atStart => exact ⟨0, m, by omega, rfl, rfl, HL2, HBJ, HBX⟩
          case round =>
            clear HL2 HBJ HBX hmn hlt hj hje
            obtain ⟨j, m, hj, rfl, rfl, HL, HBJ, HBX⟩ := hrel
            obtain ⟨x0, x1, x2, x3, x4⟩ := id HBX.out
            by_cases hmn : 0 ≤ m
            · by_cases hlt : j < l.length
              · obtain ⟨b, off, k', n', t', b1, n1, c1', b2, n2, c2, rfl, hel, e0, e1, e2, e3, e4⟩ := elem_open H6.out HBJ.out hlt (H7.out j hlt)
                have HEL := hide hel
                have hmm : m ≤ 1000 := by
                  have h1 := HL.out
                  have h2 := HMB.out
                  unfold LeftIs at h1
                  omega
                have HWX : Hid (V.wt l[j] ≤ 4294967296) := hide (by have h1 := V.wtL_mem (List.getElem_mem hlt); have h2 := HWL.out; omega)
                clear hel
                go_wp2_with fail
                refine (ih _ _ _ S m HEL.out HWX.out hmn hmm).mono ?_
                rintro e w2 ⟨m2, rfl, hr, b2⟩
                have HN : Hid (LeftIs most (1 + t.size + V.wtK ks + V.wtL (l.take (j + 1))) m2) := hide (by
                  have h1 := HL.out
                  have h3 := V.wtL_at l j hlt
                  unfold LeftIs at h1 hr ⊢
                  omega)
                clear x0 x1 x2 x3 x4 e0 e1 e2 e3 e4 hr
                go_wp2_with fail
                go_roundg (gk - 1)
                case measure => omega
                case rel => exact ⟨j + 1, m2, by omega, rfl, rfl, HN, bthen HBJ.out b2, HBX.out.keep b2⟩
              · have hje : j = l.length := by omega
                go_wp2_with fail
                go_ret
                refine ⟨m, rfl, ?_, HBJ.out⟩
                have h1 := HL.out
                rw [hje, List.take_length, ← HW.out] at h1
                exact h1
            · have hlz : j < l.length ∨ ¬ j < l.length := by omega
              have hfin : LeftIs most (V.wt ⟨k, n, t, ks, l⟩) m := by
                have h1 := HL.out
                have h2 := V.wtL_take l j
                have h3 := HW.out
                unfold LeftIs at h1 ⊢
                omega
              rcases hlz with hlt | hlt
              all_goals
                go_wp2_with fail
                go_ret
                exact ⟨m, rfl, hfin, HBJ.out⟩
      · have hlz : j < ks.length ∨ ¬ j < ks.length := by omega
        have hlw : 0 < l.length ∨ ¬ 0 < l.length := by omega
        have hfin : LeftIs most (V.wt ⟨k, n, t, ks, l⟩) m := by
          have h1 := HL.out
          have h2 := V.wtK_take ks j
          have h3 := HW.out
          unfold LeftIs at h1 ⊢
          omega
        clear x0 x1 x2 x3 x4
        generalize l.length = LL at HBX hlw hll ⊢
        obtain ⟨x0, x1, x2, x3, x4⟩ := id HBX.out
        rcases hlz with hlt | hlt
        all_goals
          go_wp2_with fail
          clear x0 x1 x2 x3 x4
          go_loopg [1, 6] 0 (fun g mv iv wr => mv = .int .i64 m ∧ iv = .int .i64 0 ∧ Hid (Below w.heap.size w wr) ∧ Hid (Box5 wr w.heap.size (.int .i64 k) (.int .i64 n) (.string t) (.slice a1 ks.length c1) (.slice a LL cap)))
          case atStart => exact ⟨rfl, rfl, HBJ, HBX⟩
          case round =>
            clear HBJ HBX
            obtain ⟨rfl, rfl, HBJ, HBX⟩ := hrel
            obtain ⟨x0, x1, x2, x3, x4⟩ := id HBX.out
            rcases hlw with hl0 | hl0
            all_goals
              go_wp2_with fail
              go_ret
              exact ⟨m, rfl, hfin, HBJ.out⟩

theorem weight_any {v : Value} {x : V} {w : World} {S : Nat → Prop} (h : Is w S v x) (hwt : V.wt x ≤ 4294967296) (r : Nat) (hr : r = min (V.wt x) 1001) :
    Calls Try.prog 10 #[v] w fun e w' => e = .returned (.int .i64 r) ∧ Below w.heap.size w w' := by
  obtain ⟨kv, lv, rfl, h2, h8, _⟩ := id h.open
  obtain ⟨a1, c1, rfl, _⟩ := id h2
  obtain ⟨a2, c2, _, rfl, _⟩ := id h8
  have h' := h.below (below_alloc w (.cells #[.int .i64 x.kind, .int .i64 x.num, .string x.text, .slice a1 x.keys.length c1, .slice a2 x.list.length c2] 25))
  obtain ⟨d, hd⟩ := h'
  have HD := hide hd
  have HR := hide hr
  clear hd hr h h2 h8
  go_enter Try.func10, Try.ntmps10
  go_wp2_with fail
  refine (leftD d _ _ _ S 1000 HD.out hwt (by omega) (by omega)).mono ?_
  rintro e w1 ⟨m, rfl, hm, b1⟩
  have hmx : max m (-1) = 1000 - (r : Int) := by
    have h1 := HR.out
    unfold LeftIs at hm
    omega
  have hw : IntKind.i64.wrap (1000 - (1000 - (r : Int))) = (r : Int) := by
    have h1 := HR.out
    rw [IntKind.wrap_i64]
    omega
  clear hm
  go_wp2_with fail
  go_ret
  exact ⟨rfl, bthen (below_alloc _ _) b1⟩

end Go.Proofs.Ytpfbiklbecdmiaa
