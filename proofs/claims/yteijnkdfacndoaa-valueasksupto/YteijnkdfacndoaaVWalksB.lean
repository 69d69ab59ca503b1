/-
  THE WALKS over package value: Right.
-/
import Derived.Test.YteijnkdfacndoaaVWalks
set_option linter.unusedVariables false
set_option linter.unusedSimpArgs false
namespace Go.Proofs.Yteijnkdfacndoaa
open Go.RowKit

theorem beq_nat (a b : Nat) : ((a : Int) == (b : Int)) = decide (a = b) := by
  rw [Bool.eq_iff_iff, beq_iff_eq, decide_eq_true_eq]; omega

theorem len_empty {α : Type} (l : List α) : ((l.length : Int) == 0) = l.isEmpty := by
  cases l with
  | nil => rfl
  | cons x l => simp; omega

/-- a string of a row, where it lies -/
theorem str_at {w w' : World} {S : Nat → Prop} {a : Option Addr} {ks : List ByteArray} (h : Cells w S a ks.length (fun i => .string (ks.getD i ByteArray.empty))) (k : Below w.heap.size w w') {i : Nat} (hi : i < ks.length) :
    ∃ b off K, a = some ⟨b, off, none⟩ ∧ Hid (K = ks.getD i ByteArray.empty) ∧ w'.cell? ⟨b, off + i, none⟩ = some (.string K) := by
  obtain ⟨b, off, ha, _, hc⟩ := (h.keep (Keeps.of_below k)) (by omega)
  exact ⟨b, off, _, ha, rfl, hc i hi⟩

set_option maxHeartbeats 4000000 in
theorem rightKeys_any (k n : Int) (t : ByteArray) (a1 : Option Addr) (n1 c1 : Nat) (a2 : Option Addr) (n2 c2 : Nat) (ks : List ByteArray) (w : World) (S : Nat → Prop) (r : Bool)
    (h : Strs w S (.slice a1 n1 c1) ks) (hl : ks.length ≤ 4294967296) (hr : V.keysOk k ks n2 = r) :
    Calls Try.prog 55 #[.agg #[.int .i64 k, .int .i64 n, .string t, .slice a1 n1 c1, .slice a2 n2 c2]] w fun e w' => e = .returned (.bool r) ∧ Below w.heap.size w w' := by
  obtain ⟨rfl, hc1, hc2, hsz, hcell⟩ := h.out
  subst hr
  have HS : Hid _ := hsz
  have HC : Hid _ := hcell
  clear hsz hcell h hc1 hc2
  by_cases h5 : k = 5
  · subst h5
    go_enter Try.func55, Try.ntmps55
    go_wp2_with fail
    go_loopg [15] ks.length (fun g i wr => ∃ j : Nat, j + g = ks.length ∧ i = .int .i64 j ∧ V.risesTo ks j = true ∧ Below w.heap.size w wr ∧ Box5 wr w.heap.size (.int .i64 5) (.int .i64 n) (.string t) (.slice a1 ks.length c1) (.slice a2 n2 c2))
    case atStart => exact ⟨0, by omega, rfl, rfl, below_alloc _ _, box5_new _ _ _ _ _ _ _⟩
    case round =>
      obtain ⟨j, hj, rfl, hrise, bj, hbox⟩ := hrel
      have HR : Hid _ := hrise
      clear hrise
      by_cases hlt : j < ks.length
      · obtain ⟨b, off, K, rfl, hK, ej⟩ := str_at HC.out bj hlt
        have zj := getD_size HS.out j
        rw [← hK.out] at zj
        cases hu : V.utf K with
        | false =>
          have hz : (0 : Int) ≤ Gm.checkZ K.data.toList := by simpa [V.utf] using hu
          obtain ⟨z, hz'⟩ : ∃ z, Gm.checkZ K.data.toList = z := ⟨_, rfl⟩
          rw [hz'] at hz
          have HU : Hid _ := hu
          have HZ : Hid _ := hz'
          clear hu hz'
          go_wp2_with fail
          refine (check_is _ _ _ zj HZ.out).mono ?_
          rintro e w1 ⟨rfl, b1⟩
          go_wp2
          go_ret
          refine ⟨?_, bthen bj b1⟩
          have q1 : V.keyOk ks j = false := by simp only [V.keyOk, ← hK.out, HU.out, Bool.false_and]
          have q2 : V.risesTo ks (j + 1) = false := by simp only [V.risesTo, q1, Bool.and_false]
          have q3 := V.risesTo_mono q2 (m := ks.length) (by omega)
          simp [V.keysOk, V.rises, q3]
        | true =>
          have hz : Gm.checkZ K.data.toList < 0 := by simpa [V.utf] using hu
          obtain ⟨z, hz'⟩ : ∃ z, Gm.checkZ K.data.toList = z := ⟨_, rfl⟩
          rw [hz'] at hz
          have HU : Hid _ := hu
          have HZ : Hid _ := hz'
          clear hu hz'
          by_cases hj0 : j = 0
          · have HJ : Hid _ := hj0
            have hj1 : ¬ 0 < j := by omega
            clear hj0
            go_wp2_with fail
            refine (check_is _ _ _ zj HZ.out).mono ?_
            rintro e w1 ⟨rfl, b1⟩
            have hbox' := hbox.keep b1
            go_wp2
            go_roundg (gk - 1)
            case measure => omega
            case rel =>
              refine ⟨j + 1, by omega, rfl, ?_, bthen bj b1, hbox'⟩
              have q0 : (j == 0) = true := by rw [HJ.out]; rfl
              simp only [V.risesTo, V.keyOk, ← hK.out, HU.out, HR.out, q0, Bool.true_or, Bool.and_self]
          · obtain ⟨b', off', K', hb', hK', ei⟩ := str_at HC.out bj (i := j - 1) (by omega)
            simp only [Option.some.injEq, Addr.mk.injEq, and_true] at hb'
            obtain ⟨rfl, rfl⟩ := hb'
            go_wp2_with fail
            refine (check_is _ _ _ zj HZ.out).mono ?_
            rintro e w1 ⟨rfl, b1⟩
            have hbox' := hbox.keep b1
            obtain ⟨x0, x1, x2, x3, x4⟩ := hbox'
            have ei' := cell_keep ei b1
            cases hle : V.less K' K with
            | true =>
              have HL : Hid _ := hle
              clear hle
              go_wp2_with fail
              refine (less_is _ _ true _ HL.out).mono ?_
              rintro e w1 ⟨rfl, rfl⟩
              go_wp2
              go_roundg (gk - 1)
              case measure => omega
              case rel =>
                refine ⟨j + 1, by omega, rfl, ?_, bthen bj b1, x0, x1, x2, x3, x4⟩
                simp only [V.risesTo, V.keyOk, ← hK.out, ← hK'.out, HU.out, HL.out, HR.out, Bool.or_true, Bool.and_true]
            | false =>
              have HL : Hid _ := hle
              clear hle
              go_wp2_with fail
              refine (less_is _ _ false _ HL.out).mono ?_
              rintro e w1 ⟨rfl, rfl⟩
              go_wp2
              go_ret
              refine ⟨?_, bthen bj b1⟩
              have q1 : V.keyOk ks j = false := by
                have : (j == 0) = false := by simp; omega
                simp only [V.keyOk, ← hK.out, ← hK'.out, HU.out, HL.out, this, Bool.or_self, Bool.and_false]
              have q2 : V.risesTo ks (j + 1) = false := by simp only [V.risesTo, q1, Bool.and_false]
              have q3 := V.risesTo_mono q2 (m := ks.length) (by omega)
              simp [V.keysOk, V.rises, q3]
      · have hje : j = ks.length := by omega
        subst hje
        obtain ⟨x0, x1, x2, x3, x4⟩ := hbox
        go_wp2
        go_ret
        refine ⟨?_, bj⟩
        simp only [V.keysOk, V.rises, HR.out, if_true, Bool.true_and]
        rw [beq_nat]
        rfl
  · go_enter Try.func55, Try.ntmps55
    go_wp2
    go_ret
    refine ⟨?_, below_alloc _ _⟩
    simp only [V.keysOk, h5, if_false]
    rw [len_empty]
    rfl


set_option maxHeartbeats 4000000 in
theorem right1_any (d : Nat) : ∀ (v : Value) (x : V) (w : World) (r : Nat) (S : Nat → Prop), IsD w S d v x → V.wt x ≤ 4294967296 →
    w.cell? ⟨r, 0, none⟩ = some (.func (.func 51) #[] #[.pointer (some ⟨r, 0, none⟩)]) →
    Calls Try.prog 51 #[v, .pointer (some ⟨r, 0, none⟩)] w fun e w' => e = .returned (.bool (V.right x)) ∧ Below w.heap.size w w' := by
  induction d with
  | zero => intro v x w r S h; exact h.elim
  | succ d ih =>
    intro v x w r S h hwt hr
    obtain ⟨kv, a, cap, c, rfl, h2, h3, h4, h5, h6, h7⟩ := h
    obtain ⟨k, n, t, ks, l⟩ := x
    simp only at *
    rw [V.wt_mk] at hwt
    have hlen : l.length ≤ 4294967296 := Nat.le_trans (V.wtL_len l) (by omega)
    have hlenk : ks.length ≤ 4294967296 := Nat.le_trans (V.wtK_len ks) (by omega)
    have HW : Hid _ := hwt
    clear hwt
    obtain ⟨a1, c1, rfl, _⟩ := id h2
    rw [V.right_mk]
    cases hk : V.kindOk k with
    | false =>
      go_enter Try.func51, Try.ntmps51
      go_wp2_with fail
      refine (rightKind_any _ _ _ _ _ _ _ hk).mono ?_
      rintro e w1 ⟨rfl, b1⟩
      go_wp2
      go_ret
      exact ⟨by simp, bthen (below_alloc _ _) b1⟩
    | true =>
      have HK : Hid _ := hk
      clear hk
      cases hn : V.numOk k n with
      | false =>
        have HN : Hid _ := hn
        clear hn
        go_enter Try.func51, Try.ntmps51
        go_wp2_with fail
        refine (rightKind_any _ _ _ _ _ _ _ HK.out).mono ?_
        rintro e w1 ⟨rfl, b1⟩
        obtain ⟨x0, x1, x2, x3, x4⟩ : Box5 w1 w.heap.size _ _ _ _ _ := (box5_new w _ _ _ _ _ 25).keep b1
        go_wp2_with fail
        refine (rightNumber_any _ _ _ _ _ _ _ HN.out).mono ?_
        rintro e w2 ⟨rfl, b2⟩
        go_wp2
        go_ret
        exact ⟨by simp, bthen (below_alloc _ _) (bthen b1 b2)⟩
      | true =>
        have HN : Hid _ := hn
        clear hn
        cases ht : V.textOk k t with
        | false =>
          have HT : Hid _ := ht
          clear ht
          go_enter Try.func51, Try.ntmps51
          go_wp2_with fail
          refine (rightKind_any _ _ _ _ _ _ _ HK.out).mono ?_
          rintro e w1 ⟨rfl, b1⟩
          have hx1 : Box5 w1 w.heap.size _ _ _ _ _ := (box5_new w _ _ _ _ _ 25).keep b1
          obtain ⟨x0, x1, x2, x3, x4⟩ := id hx1
          go_wp2_with fail
          refine (rightNumber_any _ _ _ _ _ _ _ HN.out).mono ?_
          rintro e w2 ⟨rfl, b2⟩
          clear x0 x1 x2 x3 x4
          have hx2 := hx1.keep b2
          obtain ⟨x0, x1, x2, x3, x4⟩ := id hx2
          go_wp2_with fail
          refine (rightText_any _ _ _ _ _ _ _ HT.out h5).mono ?_
          rintro e w3 ⟨rfl, b3⟩
          go_wp2
          go_ret
          exact ⟨by simp, bthen (below_alloc _ _) (bthen b1 (bthen b2 b3))⟩
        | true =>
          have HT : Hid _ := ht
          clear ht
          cases hy : V.keysOk k ks l.length with
          | false =>
            have HY : Hid _ := hy
            clear hy
            go_enter Try.func51, Try.ntmps51
            go_wp2_with fail
            refine (rightKind_any _ _ _ _ _ _ _ HK.out).mono ?_
            rintro e w1 ⟨rfl, b1⟩
            have hx1 : Box5 w1 w.heap.size _ _ _ _ _ := (box5_new w _ _ _ _ _ 25).keep b1
            obtain ⟨x0, x1, x2, x3, x4⟩ := id hx1
            go_wp2_with fail
            refine (rightNumber_any _ _ _ _ _ _ _ HN.out).mono ?_
            rintro e w2 ⟨rfl, b2⟩
            clear x0 x1 x2 x3 x4
            have hx2 := hx1.keep b2
            obtain ⟨x0, x1, x2, x3, x4⟩ := id hx2
            go_wp2_with fail
            refine (rightText_any _ _ _ _ _ _ _ HT.out h5).mono ?_
            rintro e w3 ⟨rfl, b3⟩
            clear x0 x1 x2 x3 x4
            have hx3 := hx2.keep b3
            obtain ⟨x0, x1, x2, x3, x4⟩ := id hx3
            have bb := bthen (below_alloc w _) (bthen b1 (bthen b2 b3))
            go_wp2_with fail
            refine (rightKeys_any _ _ _ _ _ _ _ _ _ ks _ S _ (h2.below bb) hlenk HY.out).mono ?_
            rintro e w4 ⟨rfl, b4⟩
            go_wp2
            go_ret
            exact ⟨by simp, bthen bb b4⟩
          | true =>
            have HY : Hid _ := hy
            clear hy
            go_enter Try.func51, Try.ntmps51
            go_wp2_with fail
            refine (rightKind_any _ _ _ _ _ _ _ HK.out).mono ?_
            rintro e w1 ⟨rfl, b1⟩
            have hx1 : Box5 w1 w.heap.size _ _ _ _ _ := (box5_new w _ _ _ _ _ 25).keep b1
            obtain ⟨x0, x1, x2, x3, x4⟩ := id hx1
            go_wp2_with fail
            refine (rightNumber_any _ _ _ _ _ _ _ HN.out).mono ?_
            rintro e w2 ⟨rfl, b2⟩
            clear x0 x1 x2 x3 x4
            have hx2 := hx1.keep b2
            obtain ⟨x0, x1, x2, x3, x4⟩ := id hx2
            go_wp2_with fail
            refine (rightText_any _ _ _ _ _ _ _ HT.out h5).mono ?_
            rintro e w3 ⟨rfl, b3⟩
            clear x0 x1 x2 x3 x4
            have hx3 := hx2.keep b3
            obtain ⟨x0, x1, x2, x3, x4⟩ := id hx3
            have bb := bthen (below_alloc w _) (bthen b1 (bthen b2 b3))
            go_wp2_with fail
            refine (rightKeys_any _ _ _ _ _ _ _ _ _ ks _ S _ (h2.below bb) hlenk HY.out).mono ?_
            rintro e w4 ⟨rfl, b4⟩
            clear x0 x1 x2 x3 x4
            have hx4 := hx3.keep b4
            obtain ⟨x0, x1, x2, x3, x4⟩ := id hx4
            have bb4 := bthen bb b4
            clear b1 b2 b3 b4 hx1 hx2 hx3 bb
            go_wp2_with fail
            go_loopg [27] l.length (fun g i wr => ∃ j : Nat, j + g = l.length ∧ i = .int .i64 j ∧ (l.take j).all V.right = true ∧ Below w.heap.size w wr ∧ Box5 wr w.heap.size (.int .i64 k) (.int .i64 n) (.string t) (.slice a1 ks.length c1) (.slice a l.length cap))
            case atStart => exact ⟨0, by omega, rfl, rfl, bb4, hx4⟩
            case round =>
              clear x0 x1 x2 x3 x4 hx4
              obtain ⟨j, hj, rfl, hall, bj, hbox⟩ := hrel
              have HA : Hid _ := hall
              clear hall
              by_cases hlt : j < l.length
              · obtain ⟨b, off, k', n', t', a1', n1', c1', a2', n2', c2', rfl, hel, e0, e1, e2, e3, e4⟩ := elem_open h6 bj hlt (h7 j hlt)
                have hrj : ∀ o, (wr.alloc o).cell? ⟨r, 0, none⟩ = _ := fun o => cell_keep (cell_keep hr bj) (below_alloc wr o)
                have hwx := V.wtL_mem (List.getElem_mem hlt)
                have H1 : Hid _ := hwx
                clear hwx
                cases hrx : V.right l[j] with
                | true =>
                  have HX : Hid _ := hrx
                  clear hrx
                  go_wp2_with fail
                  refine (ih _ _ _ r S (hel.keep (Keeps.of_below (below_alloc wr _))) (Nat.le_trans H1.out (by have := HW.out; omega)) (hrj _)).mono ?_
                  rintro e w2 ⟨rfl, b2⟩
                  rw [HX.out]
                  have hbox' := hbox.keep (bthen (below_alloc _ _) b2)
                  go_wp2
                  go_roundg (gk - 1)
                  case measure => omega
                  case rel =>
                    refine ⟨j + 1, by omega, rfl, ?_, bthen bj (bthen (below_alloc _ _) b2), hbox'⟩
                    rw [List.take_succ_eq_append_getElem hlt, List.all_append, HA.out]
                    simp [HX.out]
                | false =>
                  have HX : Hid _ := hrx
                  clear hrx
                  go_wp2_with fail
                  refine (ih _ _ _ r S (hel.keep (Keeps.of_below (below_alloc wr _))) (Nat.le_trans H1.out (by have := HW.out; omega)) (hrj _)).mono ?_
                  rintro e w2 ⟨rfl, b2⟩
                  rw [HX.out]
                  go_wp2
                  go_ret
                  refine ⟨?_, bthen bj (bthen (below_alloc _ _) b2)⟩
                  have q : l.all V.right = false := by
                    rw [List.all_eq_false]
                    exact ⟨l[j], List.getElem_mem hlt, by simp [HX.out]⟩
                  simp [q]
              · have hje : j = l.length := by omega
                subst hje
                obtain ⟨x0, x1, x2, x3, x4⟩ := hbox
                have HA' : l.all V.right = true := by have := HA.out; rwa [List.take_length] at this
                cases hh : ((k == 4) || (k == 5)) with
                | true =>
                  have H8 : Hid _ := hh
                  clear hh
                  go_wp2_with fail
                  refine (holds_any _ _ _ _ _ _ _ H8.out).mono ?_
                  rintro e w5 ⟨rfl, b5⟩
                  go_wp2
                  go_ret
                  refine ⟨?_, bthen bj b5⟩
                  simp only [HA', H8.out, Bool.true_or, Bool.and_self]
                  rfl
                | false =>
                  have H8 : Hid _ := hh
                  clear hh
                  go_wp2_with fail
                  refine (holds_any _ _ _ _ _ _ _ H8.out).mono ?_
                  rintro e w5 ⟨rfl, b5⟩
                  have x4' := cell_keep x4 b5
                  go_wp2
                  go_ret
                  refine ⟨?_, bthen bj b5⟩
                  simp only [HA', H8.out, Bool.true_and, Bool.and_true, Bool.false_or, len_empty]
                  rfl

theorem right_any {v : Value} {x : V} {w : World} {S : Nat → Prop} (h : Is w S v x) (hwt : V.wt x ≤ 4294967296) (r : Bool) (hn : V.right x = r) :
    Calls Try.prog 29 #[v] w fun e w' => e = .returned (.bool r) ∧ Below w.heap.size w w' := by
  subst hn
  obtain ⟨d, h⟩ := h
  have h' := h
  cases d with
  | zero => exact h.elim
  | succ d =>
  obtain ⟨kv, a, cap, c, rfl, ⟨a1, c1, rfl, _⟩, _⟩ := h'
  go_enter Try.func29, Try.ntmps29
  go_wp2_with fail
  refine (right1_any _ _ _ _ _ S ((h.keep (Keeps.of_below (below_alloc _ _))).keep (Keeps.of_below (below_alloc _ _))) hwt (cell_new _ _ _ _ (by simp))).mono ?_
  rintro e w1 ⟨rfl, b1⟩
  go_wp2
  go_ret
  exact ⟨rfl, bthen (bthen (below_alloc _ _) (below_alloc _ _)) b1⟩

end Go.Proofs.Yteijnkdfacndoaa
