/-
  THE WALKS over package value: Same.
-/
import Derived.Test.YteijnkdfacndoaaVWalks
import Derived.WalkSmall
set_option linter.unusedVariables false
set_option linter.unusedSimpArgs false
namespace Go.Proofs.Yteijnkdfacndoaa
open Go.RowKit

theorem ret_bool {a b : Bool} (h : a = b) : Ending.returned (.bool a) = .returned (.bool b) := by rw [h]

theorem box5_at (w : World) (c0 c1 c2 c3 c4 : Value) (t : TypeId) (g : Nat) (h : g = w.heap.size) : Box5 (w.alloc (.cells #[c0, c1, c2, c3, c4] t)) g c0 c1 c2 c3 c4 := by
  subst h; exact box5_new w c0 c1 c2 c3 c4 t

theorem bytes_ne {t t' : ByteArray} (h : ¬ t = t') : (t.toList == t'.toList) = false := by
  rw [Bool.eq_false_iff]
  intro hh
  rw [beq_iff_eq, Lib.toList_data, Lib.toList_data] at hh
  exact h (ByteArray.ext (Array.ext' hh))

def SameAt (d : Nat) : Prop := ∀ (va vb : Value) (x y : V) (w : World) (r : Nat) (S S' : Nat → Prop) (q : Bool), IsD w S d va x → Is w S' vb y → V.wt x ≤ 4294967296 → V.wt y ≤ 4294967296 → (q = true ↔ x = y) →
    w.cell? ⟨r, 0, none⟩ = some (.func (.func 48) #[] #[.pointer (some ⟨r, 0, none⟩)]) →
    Calls Try.prog 48 #[va, vb, .pointer (some ⟨r, 0, none⟩)] w fun e w' => e = .returned (.bool q) ∧ Below w.heap.size w w'

/-- an element of a list of values, where it lies, written out -/
theorem isL_open {w w' : World} {S : Nat → Prop} {a : Option Addr} {m cap : Nat} {l : List V} (h : IsL w S (.slice a m cap) l) (k : Below w.heap.size w w') {i : Nat} (hi : i < l.length) :
    ∃ b off k n t a1 n1 c1 a2 n2 c2, a = some ⟨b, off, none⟩ ∧ Is w' S (.agg #[.int .i64 k, .int .i64 n, .string t, .slice a1 n1 c1, .slice a2 n2 c2]) l[i] ∧ w'.cell? ⟨b, off + i * 5, none⟩ = some (.int .i64 k) ∧ w'.cell? ⟨b, off + i * 5 + 1, none⟩ = some (.int .i64 n) ∧ w'.cell? ⟨b, off + i * 5 + 2, none⟩ = some (.string t) ∧ w'.cell? ⟨b, off + i * 5 + 3, none⟩ = some (.slice a1 n1 c1) ∧ w'.cell? ⟨b, off + i * 5 + 4, none⟩ = some (.slice a2 n2 c2) := by
  obtain ⟨a', cap', c, h1, h2, h3, h4, h5⟩ := h
  simp only [Value.slice.injEq] at h1
  obtain ⟨rfl, rfl, rfl⟩ := h1
  obtain ⟨d, hd⟩ := h5 i hi
  obtain ⟨b, off, k, n, t, a1, n1, c1, a2, n2, c2, q0, q1, q2⟩ := elem_open h4 k hi hd
  exact ⟨b, off, k, n, t, a1, n1, c1, a2, n2, c2, q0, ⟨d, q1⟩, q2⟩

theorem isL_len {w : World} {S : Nat → Prop} {a : Option Addr} {m cap : Nat} {l : List V} (h : IsL w S (.slice a m cap) l) : m = l.length ∧ m ≤ cap ∧ cap ≤ maxLen := by
  obtain ⟨a', cap', c, h1, h2, h3, h4, h5⟩ := h
  simp only [Value.slice.injEq] at h1
  obtain ⟨rfl, rfl, rfl⟩ := h1
  exact ⟨rfl, h2, h3⟩

set_option maxHeartbeats 4000000 in
theorem equalFunc_any (d : Nat) (ih : SameAt d) (a : Option Addr) (cap : Nat) (c : Nat → Value) (l : List V) (a' : Option Addr) (n' cap' : Nat) (l' : List V) (w : World) (S S' : Nat → Prop) (r : Nat) (q : Bool)
    (h6 : Cells w S a (l.length * 5) c) (h7 : ∀ i (h : i < l.length), IsD w S d (elemV c i) l[i]) (h8 : IsL w S' (.slice a' n' cap') l') (hw : V.wtL l ≤ 4294967296) (hw' : V.wtL l' ≤ 4294967296) (hq : q = true ↔ l = l')
    (hr : w.cell? ⟨r, 0, none⟩ = some (.func (.func 48) #[] #[.pointer (some ⟨r, 0, none⟩)])) :
    Calls Try.prog 50 #[.slice a l.length cap, .slice a' n' cap', .func (.func 48) #[] #[.pointer (some ⟨r, 0, none⟩)]] w fun e w' => e = .returned (.bool q) ∧ Below w.heap.size w w' := by
  obtain ⟨rfl, hc1, hc2⟩ := isL_len h8
  have hlen : l.length ≤ 4294967296 := Nat.le_trans (V.wtL_len l) (by omega)
  have hlen' : l'.length ≤ 4294967296 := Nat.le_trans (V.wtL_len l') (by omega)
  have HQ : Hid _ := hq
  have HW : Hid _ := hw
  have HW' : Hid _ := hw'
  clear hq hw hw'
  by_cases hll : l.length = l'.length
  · have HL : Hid _ := hll
    have hb : ((l.length : Int) != (l'.length : Int)) = false := by simp; omega
    clear hll
    go_enter Try.func50, Try.ntmps50
    go_wp2_with fail
    clear hb
    go_loopg [17] l.length (fun g i wr => ∃ j : Nat, j + g = l.length ∧ i = .int .i64 j ∧ l.take j = l'.take j ∧ Below w.heap.size w wr)
    case atStart => exact ⟨0, by omega, rfl, rfl, Below.refl _ _⟩
    case round =>
      obtain ⟨j, hj, rfl, hall, bj⟩ := hrel
      have HA : Hid _ := hall
      clear hall
      by_cases hlt : j < l.length
      · have hlt' : j < l'.length := by rw [← HL.out]; exact hlt
        obtain ⟨b, off, k1, n1, t1, a1, m1, c1, a2, m2, c2, rfl, hel, e0, e1, e2, e3, e4⟩ := elem_open h6 bj hlt (h7 j hlt)
        obtain ⟨b', off', k1', n1', t1', a1', m1', c1', a2', m2', c2', rfl, hel', e0', e1', e2', e3', e4'⟩ := isL_open h8 bj hlt'
        have g0 : ∀ o, (wr.alloc o).cell? _ = _ := fun o => cell_keep e0' (below_alloc wr o)
        have g1 : ∀ o, (wr.alloc o).cell? _ = _ := fun o => cell_keep e1' (below_alloc wr o)
        have g2 : ∀ o, (wr.alloc o).cell? _ = _ := fun o => cell_keep e2' (below_alloc wr o)
        have g3 : ∀ o, (wr.alloc o).cell? _ = _ := fun o => cell_keep e3' (below_alloc wr o)
        have g4 : ∀ o, (wr.alloc o).cell? _ = _ := fun o => cell_keep e4' (below_alloc wr o)
        clear e0' e1' e2' e3' e4'
        have hwx := V.wtL_mem (List.getElem_mem hlt)
        have hwy := V.wtL_mem (List.getElem_mem hlt')
        have H1 : Hid _ := hwx
        have H2 : Hid _ := hwy
        clear hwx hwy
        by_cases hxy : l[j] = l'[j]
        · have HX : Hid _ := hxy
          clear hxy
          go_wp2_with fail
          refine (ih _ _ _ _ _ r S S' true (hel.keep (Keeps.of_below (bthen (below_alloc _ _) (below_alloc _ _)))) (hel'.below (bthen (below_alloc _ _) (below_alloc _ _))) (Nat.le_trans H1.out HW.out) (Nat.le_trans H2.out HW'.out) ⟨fun _ => HX.out, fun _ => rfl⟩ (cell_keep hr (bthen bj (bthen (below_alloc _ _) (below_alloc _ _))))).mono ?_
          rintro e w2 ⟨rfl, b2⟩
          go_wp2
          go_roundg (gk - 1)
          case measure => omega
          case rel =>
            refine ⟨j + 1, by omega, rfl, ?_, bthen bj (bthen (bthen (below_alloc _ _) (below_alloc _ _)) b2)⟩
            rw [List.take_succ_eq_append_getElem hlt, List.take_succ_eq_append_getElem hlt', HA.out, HX.out]
        · have HX : Hid _ := hxy
          clear hxy
          go_wp2_with fail
          refine (ih _ _ _ _ _ r S S' false (hel.keep (Keeps.of_below (bthen (below_alloc _ _) (below_alloc _ _)))) (hel'.below (bthen (below_alloc _ _) (below_alloc _ _))) (Nat.le_trans H1.out HW.out) (Nat.le_trans H2.out HW'.out) ⟨fun h => absurd h (by decide), fun h => absurd h HX.out⟩ (cell_keep hr (bthen bj (bthen (below_alloc _ _) (below_alloc _ _))))).mono ?_
          rintro e w2 ⟨rfl, b2⟩
          go_wp2
          go_ret
          refine ⟨ret_bool ?_, bthen bj (bthen (bthen (below_alloc _ _) (below_alloc _ _)) b2)⟩
          cases q with
          | false => rfl
          | true =>
            exfalso
            have := HQ.out.1 rfl
            subst this
            exact HX.out rfl
      · have hje : j = l.length := by omega
        subst hje
        go_wp2
        go_ret
        refine ⟨ret_bool ?_, bj⟩
        symm
        rw [HQ.out]
        have := HA.out
        rwa [List.take_length, HL.out, List.take_length] at this
  · have HL : Hid _ := hll
    have hb : ((l.length : Int) != (l'.length : Int)) = true := by simp; omega
    clear hll
    go_enter Try.func50, Try.ntmps50
    go_wp2
    go_ret
    refine ⟨ret_bool ?_, Below.refl _ _⟩
    cases q with
    | false => rfl
    | true => exact absurd (congrArg List.length (HQ.out.1 rfl)) HL.out

theorem strsEqual_any {w : World} {S S' : Nat → Prop} {v v' : Value} {ks ks' : List ByteArray} (h : Strs w S v ks) (h' : Strs w S' v' ks') (q : Bool) (hq : q = true ↔ ks = ks') :
    Calls Try.prog 49 #[v, v'] w fun e w' => e = .returned (.bool q) ∧ Below w.heap.size w w' := by
  obtain ⟨a, cap, rfl, h1, h2, h3, h4⟩ := h
  obtain ⟨a', cap', rfl, h1', h2', h3', h4'⟩ := h'
  have hlim : ks.length ≤ 9223372036854775807 := Nat.le_trans h1 h2
  have hlim' : ks'.length ≤ 9223372036854775807 := Nat.le_trans h1' h2'
  by_cases hll : ks.length = ks'.length
  · by_cases h0 : 0 < ks.length
    · obtain ⟨b, off, rfl, _, hc⟩ := h4 h0
      obtain ⟨b', off', rfl, _, hc'⟩ := h4' (by omega)
      refine (Try.slices_Equal_string b off ks.length cap b' off' ks'.length cap' ks ks' w (Nat.le_refl _) (Nat.le_refl _) hlim hlim' hc hc').mono ?_
      rintro e w' ⟨rfl, n, rfl⟩
      refine ⟨ret_bool ?_, below_drewN (Below.refl _ _) _⟩
      rw [Bool.eq_iff_iff, hq, decide_eq_true_eq, List.take_length, List.take_length]
    · have hk : ks = [] := List.eq_nil_of_length_eq_zero (by omega)
      have hk' : ks' = [] := List.eq_nil_of_length_eq_zero (by omega)
      subst hk hk'
      refine (Try.slices_Equal_string_empty a a' cap 0 cap' w (by decide)).mono ?_
      rintro e w ⟨rfl, rfl⟩
      refine ⟨ret_bool ?_, Below.refl _ _⟩
      rw [hq.2 rfl]; rfl
  · refine (Try.slices_Equal_string_lens a a' ks.length cap ks'.length cap' w hll).mono ?_
    rintro e w ⟨rfl, rfl⟩
    refine ⟨ret_bool ?_, Below.refl _ _⟩
    cases q with
    | false => rfl
    | true => exact absurd (congrArg List.length (hq.1 rfl)) hll

set_option maxHeartbeats 4000000 in
theorem same1_any (d : Nat) : SameAt d := by
  induction d with
  | zero => intro va vb x y w r S S' q h; exact h.elim
  | succ d ih =>
    intro va vb x y w r S S' q h h' hwx hwy hq hr
    obtain ⟨kv, a, cap, c, rfl, h2, h3, h4, h5, h6, h7⟩ := h
    obtain ⟨kv', lv', rfl, h2', h8, h5'⟩ := h'.open
    obtain ⟨k, n, t, ks, l⟩ := x
    obtain ⟨k', n', t', ks', l'⟩ := y
    simp only at *
    rw [V.wt_mk] at hwx hwy
    obtain ⟨a1, c1, rfl, _⟩ := id h2
    obtain ⟨a1', c1', rfl, _⟩ := id h2'
    obtain ⟨a', cap', _, rfl, _⟩ := id h8
    have HW : Hid _ := hwx
    have HW' : Hid _ := hwy
    simp only [V.mk.injEq] at hq
    have HQ : Hid _ := hq
    clear hwx hwy hq h'
    by_cases hk : k = k'
    · subst hk
      by_cases hn : n = n'
      · subst hn
        by_cases ht : t = t'
        · subst ht
          by_cases hks : ks = ks'
          · have HK : Hid _ := hks
            clear hks
            have hq' : q = true ↔ l = l' := by rw [HQ.out]; simp [HK.out]
            go_enter Try.func48, Try.ntmps48
            go_wp2_with fail
            refine (strsEqual_any (h2.below (bthen (below_alloc _ _) (below_alloc _ _))) (h2'.below (bthen (below_alloc _ _) (below_alloc _ _))) true ⟨fun _ => HK.out, fun _ => rfl⟩).mono ?_
            rintro e w1 ⟨rfl, b1⟩
            obtain ⟨x0, x1, x2, x3, x4⟩ : Box5 w1 w.heap.size _ _ _ _ _ := ((box5_new w _ _ _ _ _ 25).keep (below_alloc _ _)).keep b1
            obtain ⟨y0, y1, y2, y3, y4⟩ : Box5 w1 (w.heap.size + 1) _ _ _ _ _ := (box5_at _ _ _ _ _ _ 25 _ (by simp)).keep b1
            have bb := bthen (bthen (below_alloc _ _) (below_alloc _ _)) b1
            have hr1 := cell_keep hr bb
            go_wp2_with fail
            refine (equalFunc_any d ih a cap c l a' _ cap' l' _ S S' r q (h6.keep (Keeps.of_below bb)) (fun i hi => (h7 i hi).keep (Keeps.of_below bb)) (h8.below bb) (Nat.le_trans (by omega) HW.out) (Nat.le_trans (by omega) HW'.out) hq' hr1).mono ?_
            rintro e w2 ⟨rfl, b2⟩
            go_wp2
            go_ret
            exact ⟨rfl, bthen bb b2⟩
          · have HK : Hid _ := hks
            clear hks
            have hq' : q = false := by
              cases q with
              | false => rfl
              | true => exact absurd (HQ.out.1 rfl).2.2.2.1 HK.out
            subst hq'
            go_enter Try.func48, Try.ntmps48
            go_wp2_with fail
            refine (strsEqual_any (h2.below (bthen (below_alloc _ _) (below_alloc _ _))) (h2'.below (bthen (below_alloc _ _) (below_alloc _ _))) false ⟨fun h => absurd h (by decide), fun h => absurd h HK.out⟩).mono ?_
            rintro e w1 ⟨rfl, b1⟩
            go_wp2
            go_ret
            exact ⟨rfl, bthen (bthen (below_alloc _ _) (below_alloc _ _)) b1⟩
        · have hq' : q = false := by
            cases q with
            | false => rfl
            | true => exact absurd (HQ.out.1 rfl).2.2.1 ht
          subst hq'
          have hte := bytes_ne ht
          clear ht
          go_enter Try.func48, Try.ntmps48
          go_wp2
          go_ret
          exact ⟨rfl, bthen (below_alloc _ _) (below_alloc _ _)⟩
      · have hq' : q = false := by
          cases q with
          | false => rfl
          | true => exact absurd (HQ.out.1 rfl).2.1 hn
        subst hq'
        have hne : (n == n') = false := by simp [hn]
        clear hn
        go_enter Try.func48, Try.ntmps48
        go_wp2
        go_ret
        exact ⟨rfl, bthen (below_alloc _ _) (below_alloc _ _)⟩
    · have hq' : q = false := by
        cases q with
        | false => rfl
        | true => exact absurd (HQ.out.1 rfl).1 hk
      subst hq'
      have hke : (k == k') = false := by simp [hk]
      clear hk
      go_enter Try.func48, Try.ntmps48
      go_wp2
      go_ret
      exact ⟨rfl, bthen (below_alloc _ _) (below_alloc _ _)⟩

theorem same_any {va vb : Value} {x y : V} {w : World} {S S' : Nat → Prop} (h : Is w S va x) (h' : Is w S' vb y) (hwx : V.wt x ≤ 4294967296) (hwy : V.wt y ≤ 4294967296) (q : Bool) (hq : q = true ↔ x = y) :
    Calls Try.prog 28 #[va, vb] w fun e w' => e = .returned (.bool q) ∧ Below w.heap.size w w' := by
  obtain ⟨d, hd⟩ := id h
  obtain ⟨kv, lv, rfl, h2, h8, _⟩ := h.open
  obtain ⟨kv', lv', rfl, h2', h8', _⟩ := h'.open
  obtain ⟨a1, c1, rfl, _⟩ := id h2
  obtain ⟨a1', c1', rfl, _⟩ := id h2'
  obtain ⟨a, cap, _, rfl, _⟩ := id h8
  obtain ⟨a', cap', _, rfl, _⟩ := id h8'
  have HQ : Hid _ := hq
  clear hq
  go_enter Try.func28, Try.ntmps28
  go_wp2_with fail
  refine (same1_any _ _ _ _ _ _ _ S S' q (hd.keep (Keeps.of_below (bthen (below_alloc w _) (bthen (below_alloc _ _) (below_alloc _ _))))) (h'.below (bthen (below_alloc w _) (bthen (below_alloc _ _) (below_alloc _ _)))) hwx hwy HQ.out (cell_new _ _ _ _ (by simp))).mono ?_
  rintro e w1 ⟨rfl, b1⟩
  go_wp2
  go_ret
  exact ⟨rfl, bthen (bthen (below_alloc _ _) (bthen (below_alloc _ _) (below_alloc _ _))) b1⟩

end Go.Proofs.Yteijnkdfacndoaa
