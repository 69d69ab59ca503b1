/-
  THE WALKS over package value's small functions.
-/
import Derived.Test.YteijnkdfacndoaaVBase
set_option linter.unusedVariables false
set_option linter.unusedSimpArgs false
namespace Go.Proofs.Yteijnkdfacndoaa
open Go.RowKit

theorem holds_any (k n : Int) (t : ByteArray) (kv lv : Value) (w : World) (r : Bool) (hr : ((k == 4) || (k == 5)) = r) :
    Calls Try.prog 56 #[.agg #[.int .i64 k, .int .i64 n, .string t, kv, lv]] w fun e w' => e = .returned (.bool r) ∧ Below w.heap.size w w' := by
  subst hr
  go_enter Try.func56, Try.ntmps56
  go_wp2
  · rename_i h
    subst h
    go_ret
    exact ⟨rfl, (Below.refl _ _).alloc (Nat.le_refl _) _⟩
  · go_ret
    exact ⟨rfl, (Below.refl _ _).alloc (Nat.le_refl _) _⟩

theorem deep1_any (d : Nat) : ∀ (v : Value) (x : V) (w : World) (r : Nat) (S : Nat → Prop), IsD w S d v x → V.wt x ≤ 4294967296 →
    w.cell? ⟨r, 0, none⟩ = some (.func (.func 60) #[] #[.pointer (some ⟨r, 0, none⟩)]) →
    Calls Try.prog 60 #[v, .pointer (some ⟨r, 0, none⟩)] w fun e w' => e = .returned (.int .i64 (V.deep x)) ∧ Below w.heap.size w w' := by
  induction d with
  | zero => intro v x w r S h; exact h.elim
  | succ d ih =>
    intro v x w r S h hwt hr
    obtain ⟨kv, a, cap, c, rfl, h2, h3, h4, h5, h6, h7⟩ := h
    obtain ⟨k, n, t, ks, l⟩ := x
    simp only at *
    rw [V.wt_mk] at hwt
    have hlen : l.length ≤ 4294967296 := Nat.le_trans (V.wtL_len l) (by omega)
    by_cases hk : k = 4 ∨ k = 5
    · have hb : ((k == 4) || (k == 5)) = true := by rcases hk with rfl | rfl <;> rfl
      have HK : Hid _ := hk
      clear hk
      go_enter Try.func60, Try.ntmps60
      go_wp2_with fail
      refine (holds_any _ _ _ _ _ _ _ hb).mono ?_
      rintro e w1 ⟨rfl, b1⟩
      have hx : Box5 w1 w.heap.size _ _ _ _ _ := (box5_new w _ _ _ _ _ 25).keep b1
      obtain ⟨x0, x1, x2, x3, x4⟩ := hx
      have b1' := bthen (below_alloc _ _) b1
      clear b1
      have HH : Hid _ := hb
      clear hb
      go_wp2_with fail
      go_loopg [4, 13] l.length (fun g m i wr => ∃ j : Nat, j + g = l.length ∧ i = .int .i64 j ∧ m = .int .i64 (V.deepL (l.take j) : Nat) ∧ Below w.heap.size w wr)
      case atStart => exact ⟨0, by omega, rfl, rfl, b1'⟩
      case round =>
        obtain ⟨j, hj, rfl, rfl, bj⟩ := hrel
        by_cases hlt : j < l.length
        · obtain ⟨b, off, k', n', t', a1, n1, c1, a2, n2, c2, rfl, hel, e0, e1, e2, e3, e4⟩ := elem_open h6 bj hlt (h7 j hlt)
          have hrj : ∀ o, (wr.alloc o).cell? ⟨r, 0, none⟩ = _ := fun o => cell_keep (cell_keep hr bj) (below_alloc wr o)
          have hwx := V.wtL_mem (List.getElem_mem hlt)
          have hdl := V.deepL_wt (l.take j)
          have hdt := V.wtL_take l j
          have hdx := V.deep_wt l[j]
          have H1 : Hid _ := hwx
          have H2 : Hid _ := hdl
          have H3 : Hid _ := hdt
          have H4 : Hid _ := hdx
          have H5 : Hid _ := hwt
          clear hwx hdl hdt hdx hwt
          go_wp2_with fail
          refine (ih _ _ _ r S (hel.keep (Keeps.of_below (below_alloc wr _))) (Nat.le_trans H1.out (by have := H5.out; omega)) (hrj _)).mono ?_
          rintro e w2 ⟨rfl, b2⟩
          go_wp2
          go_roundg (gk - 1)
          case measure => omega
          case rel =>
            refine ⟨j + 1, by omega, rfl, ?_, bthen bj (bthen (below_alloc _ _) b2)⟩
            rw [V.deepL_take l j hlt]
            congr 1
            omega
        · have hje : j = l.length := by omega
          subst hje
          have hd := V.deepL_wt l
          go_wp2
          go_ret
          refine ⟨?_, bj⟩
          rw [V.deep_mk, if_pos HK.out, List.take_length]
          rfl
    · have hb : ((k == 4) || (k == 5)) = false := by simp; omega
      have HK : Hid _ := hk
      clear hk
      go_enter Try.func60, Try.ntmps60
      go_wp2_with fail
      refine (holds_any _ _ _ _ _ _ _ hb).mono ?_
      rintro e w1 ⟨rfl, b1⟩
      clear hb
      go_wp2
      go_ret
      refine ⟨?_, bthen (below_alloc _ _) b1⟩
      rw [V.deep_mk, if_neg HK.out]
      rfl

theorem deep_any {v : Value} {x : V} {w : World} {S : Nat → Prop} (h : Is w S v x) (hwt : V.wt x ≤ 4294967296) (n : Nat) (hn : V.deep x = n) :
    Calls Try.prog 31 #[v] w fun e w' => e = .returned (.int .i64 n) ∧ Below w.heap.size w w' := by
  subst hn
  obtain ⟨d, h⟩ := h
  have h' := h
  cases d with
  | zero => exact h.elim
  | succ d =>
  obtain ⟨kv, a, cap, c, rfl, ⟨a1, c1, rfl, _⟩, _⟩ := h'
  go_enter Try.func31, Try.ntmps31
  go_wp2_with fail
  refine (deep1_any _ _ _ _ _ S ((h.keep (Keeps.of_below (below_alloc _ _))).keep (Keeps.of_below (below_alloc _ _))) hwt (cell_new _ _ _ _ (by simp))).mono ?_
  rintro e w1 ⟨rfl, b1⟩
  go_wp2
  go_ret
  exact ⟨rfl, bthen (bthen (below_alloc _ _) (below_alloc _ _)) b1⟩

theorem rightKind_any (k n : Int) (t : ByteArray) (kv lv : Value) (w : World) (r : Bool) (hr : V.kindOk k = r) :
    Calls Try.prog 52 #[.agg #[.int .i64 k, .int .i64 n, .string t, kv, lv]] w fun e w' => e = .returned (.bool r) ∧ Below w.heap.size w w' := by
  subst hr
  unfold V.kindOk
  by_cases h : 0 ≤ k
  · go_enter Try.func52, Try.ntmps52
    go_wp2
    go_ret
    exact ⟨by simp [h], below_alloc _ _⟩
  · go_enter Try.func52, Try.ntmps52
    go_wp2
    go_ret
    exact ⟨by simp; omega, below_alloc _ _⟩

theorem rightNumber_any (k n : Int) (t : ByteArray) (kv lv : Value) (w : World) (r : Bool) (hr : V.numOk k n = r) :
    Calls Try.prog 53 #[.agg #[.int .i64 k, .int .i64 n, .string t, kv, lv]] w fun e w' => e = .returned (.bool r) ∧ Below w.heap.size w w' := by
  subst hr
  by_cases h1 : k = 1
  · subst h1
    by_cases h : n = 0
    · subst h
      go_enter Try.func53, Try.ntmps53
      go_wp2
      go_ret
      exact ⟨by simp [V.numOk], below_alloc _ _⟩
    · go_enter Try.func53, Try.ntmps53
      go_wp2
      go_ret
      exact ⟨by simp [V.numOk], below_alloc _ _⟩
  · by_cases h2 : k = 2
    · subst h2
      by_cases h : -9007199254740991 ≤ n
      · go_enter Try.func53, Try.ntmps53
        go_wp2
        go_ret
        exact ⟨by simp [V.numOk, h], below_alloc _ _⟩
      · go_enter Try.func53, Try.ntmps53
        go_wp2
        go_ret
        exact ⟨by simp [V.numOk]; omega, below_alloc _ _⟩
    · go_enter Try.func53, Try.ntmps53
      go_wp2
      go_ret
      exact ⟨by simp [V.numOk, h1, h2], below_alloc _ _⟩

theorem rightText_any (k n : Int) (t : ByteArray) (kv lv : Value) (w : World) (r : Bool) (hr : V.textOk k t = r) (ht : t.size ≤ maxLen) :
    Calls Try.prog 54 #[.agg #[.int .i64 k, .int .i64 n, .string t, kv, lv]] w fun e w' => e = .returned (.bool r) ∧ Below w.heap.size w w' := by
  subst hr
  cases h0 : t.toList.isEmpty with
  | true =>
    go_enter Try.func54, Try.ntmps54
    go_wp2
    go_ret
    exact ⟨by simp [V.textOk, h0], below_alloc _ _⟩
  | false =>
    by_cases h3 : k = 3
    · subst h3
      go_enter Try.func54, Try.ntmps54
      go_wp2_with fail
      refine (check_is _ _ _ ht rfl).mono ?_
      rintro e w1 ⟨rfl, b1⟩
      go_wp2
      go_ret
      exact ⟨by simp [V.textOk, h0, V.utf], bthen (below_alloc _ _) b1⟩
    · go_enter Try.func54, Try.ntmps54
      go_wp2
      go_ret
      exact ⟨by simp [V.textOk, h0, h3], below_alloc _ _⟩

end Go.Proofs.Yteijnkdfacndoaa
