/-
  THE WALKS over package value: Get, the makers.
-/
import Derived.Test.YtpfbiklbecdmiaaVWalksC
import Derived.Test.YtpfbiklbecdmiaaVWalksD
import Derived.Test.YtpfbiklbecdmiaaVMathB
import Derived.BigQuiet
import Derived.WalkSmall
set_option linter.unusedVariables false
set_option linter.unusedSimpArgs false
namespace Go.Proofs.Ytpfbiklbecdmiaa
open Go.RowKit

theorem map_add0 (a : Option Addr) : a.map (fun x => x.add 0) = a := by cases a <;> simp [Addr.add]

/-- s[:m] -/
theorem slice_front_str (a : Option Addr) (n cap m : Nat) (h : m ≤ cap) (W : World) :
    (Instr.slice 22 (.slice a n cap) none (some (.int .i64 (m : Int))) none).run Try.prog W = .ok (.slice a m cap) W := by
  rw [run_slice_h (P := Try.prog) W _ a n cap Try.underlying22 .i64 (m : Int) (by omega) (by omega)]
  simp [sliced, go_sem, map_add0]

theorem slice_front_val (a : Option Addr) (n cap m : Nat) (h : m ≤ cap) (W : World) :
    (Instr.slice 23 (.slice a n cap) none (some (.int .i64 (m : Int))) none).run Try.prog W = .ok (.slice a m cap) W := by
  rw [run_slice_h (P := Try.prog) W _ a n cap Try.underlying23 .i64 (m : Int) (by omega) (by omega)]
  simp [sliced, go_sem, map_add0]

theorem pairs_any (k n : Int) (t : ByteArray) (a1 : Option Addr) (n1 c1 : Nat) (a2 : Option Addr) (n2 c2 : Nat) (w : World) (h1 : n1 ≤ c1) (h2 : n2 ≤ c2) (m : Nat) (hm : min n1 n2 = m) :
    Calls Try.prog 77 #[.agg #[.int .i64 k, .int .i64 n, .string t, .slice a1 n1 c1, .slice a2 n2 c2]] w fun e w' => e = .returned (.tuple #[.slice a1 m c1, .slice a2 m c2]) ∧ Below w.heap.size w w' := by
  have s1 := slice_front_str a1 n1 c1 m (by omega)
  have s2 := slice_front_val a2 n2 c2 m (by omega)
  have hm' : min (n1 : Int) (n2 : Int) = (m : Int) := by omega
  go_enter Try.func77, Try.ntmps77
  go_wp2
  go_quiet (fail)
  go_wp2
  go_ret2
  exact ⟨rfl, below_drewN (below_alloc _ _) _⟩

theorem strsIndex_any {w : World} {S : Nat → Prop} {a : Option Addr} {n cap : Nat} {ks : List ByteArray} (hn : n ≤ ks.length) (hl : n ≤ 9223372036854775807) (h : Cells w S a ks.length (fun i => .string (ks.getD i ByteArray.empty))) (key : ByteArray) :
    Calls Try.prog 78 #[.slice a n cap, .string key] w fun e w' => e = .returned (.int .i64 (Lib.idxOfS (ks.take n) key)) ∧ w' = w := by
  by_cases h0 : 0 < n
  · obtain ⟨b, off, rfl, _, hc⟩ := h (by omega)
    exact Try.slices_Index_string b off n cap ks key w hn hl hc
  · have : n = 0 := by omega
    subst this
    exact Try.slices_Index_string_empty a cap key w

set_option maxHeartbeats 2000000 in
theorem placeOf_any {v : Value} {x : V} {w : World} {S : Nat → Prop} (h : Is w S v x) (key : ByteArray) (p : Int) (hp : V.place x key = p) :
    Calls Try.prog 73 #[v, .string key] w fun e w' => e = .returned (.int .i64 p) ∧ Below w.heap.size w w' := by
  obtain ⟨kv, lv, rfl, h2, h8, _⟩ := h.open
  obtain ⟨k, n, t, ks, l⟩ := x
  simp only at *
  obtain ⟨a1, c1, rfl, h3, h4, _, h5⟩ := id h2
  obtain ⟨a, cap, c, rfl, h6, h7, _⟩ := id h8
  simp only [V.place] at hp
  clear h h2 h8
  by_cases hk : k = 5
  · subst hk
    rw [if_pos rfl] at hp
    subst hp
    obtain ⟨m, hm⟩ : ∃ m, min ks.length l.length = m := ⟨_, rfl⟩
    rw [hm]
    have HM : Hid _ := hm
    have H5 : Hid _ := h5
    have H4 : Hid _ := h4
    clear hm h5 h4
    go_enter Try.func73, Try.ntmps73
    go_wp2_with fail
    refine (pairs_any _ _ _ _ _ _ _ _ _ _ h3 h6 m HM.out).mono ?_
    rintro e w1 ⟨rfl, b1⟩
    go_wp2_with fail
    have hml : m ≤ ks.length := by have := HM.out; omega
    refine (strsIndex_any hml (Nat.le_trans hml (Nat.le_trans h3 H4.out)) (Cells.keep H5.out (Keeps.of_below (bthen (below_alloc _ _) b1))) key).mono ?_
    rintro e w1 ⟨rfl, rfl⟩
    go_wp2
    go_ret
    exact ⟨rfl, bthen (below_alloc _ _) b1⟩
  · rw [if_neg hk] at hp
    subst hp
    go_enter Try.func73, Try.ntmps73
    go_wp2
    go_ret
    exact ⟨rfl, below_alloc _ _⟩

theorem get_none {v : Value} {x : V} {w : World} {S : Nat → Prop} (h : Is w S v x) (key : ByteArray) (hp : V.place x key < 0) :
    Calls Try.prog 65 #[v, .string key] w fun e w' => e = .returned (.tuple #[.agg #[.int .i64 0, .int .i64 0, .string ⟨#[]⟩, .slice none 0 0, .slice none 0 0], .bool false]) ∧ Below w.heap.size w w' := by
  obtain ⟨kv, lv, rfl, h2, h8, _⟩ := id h.open
  obtain ⟨a1, c1, rfl, h3, h4, _, h5⟩ := id h2
  obtain ⟨a, cap, c, rfl, h6, h7, _⟩ := id h8
  obtain ⟨p, hp'⟩ : ∃ p, V.place x key = p := ⟨_, rfl⟩
  rw [hp'] at hp
  have HP : Hid _ := hp'
  clear hp' h5 h4 h7
  go_enter Try.func65, Try.ntmps65
  go_wp2_with fail
  refine (placeOf_any (h.below (bthen (below_alloc _ _) (below_alloc _ _))) key p HP.out).mono ?_
  rintro e w1 ⟨rfl, b1⟩
  have q : BoxF w1 (w.heap.size + 1) _ _ _ _ _ := (boxF_at _ _ _ _ _ _ 25 _ (by simp)).keep b1
  obtain ⟨⟨y0, y1, y2, y3, y4⟩, g0, g1, g2, g3, g4⟩ := id q
  go_wp2_with fail
  obtain ⟨u0, u1, u2, u3, u4⟩ := Box5.all q.1 (.int .i64 0) (.int .i64 0) (.string ⟨#[]⟩) (.slice none 0 0) (.slice none 0 0)
  refine bodyPost_ret (v := .tuple #[.agg #[.int .i64 0, .int .i64 0, .string ⟨#[]⟩, .slice none 0 0, .slice none 0 0], .bool false]) (by simp [results, Try.results65, go_sem, u0, u1, u2, u3, u4]) rfl ?_
  refine ⟨rfl, ?_⟩
  exact (((((bthen (bthen (below_alloc w _) (below_alloc _ _)) b1).setCell (Nat.le_succ _) _).setCell (Nat.le_succ _) _).setCell (Nat.le_succ _) _).setCell (Nat.le_succ _) _).setCell (Nat.le_succ _) _

set_option maxHeartbeats 2000000 in
theorem getF_some {v : Value} {x : V} {w : World} {S : Nat → Prop} (h : Is w S v x) (key : ByteArray) (p : Nat) (hp : V.place x key = p) (hpl : p < x.list.length) (hwt : V.wt x ≤ 4294967296) :
    Calls Try.prog 65 #[v, .string key] w fun e w' => ∃ k n t a1 n1 c1 a2 n2 c2, e = .returned (.tuple #[.agg #[.int .i64 k, .int .i64 n, .string t, .slice a1 n1 c1, .slice a2 n2 c2], .bool true]) ∧ Is w' (Own w' w.heap.size) (.agg #[.int .i64 k, .int .i64 n, .string t, .slice a1 n1 c1, .slice a2 n2 c2]) x.list[p] ∧ Below w.heap.size w w' := by
  obtain ⟨kv, lv, rfl, h2, h8, _⟩ := id h.open
  obtain ⟨a1, c1, rfl, h3, h4, _, h5⟩ := id h2
  obtain ⟨a, cap, c, rfl, h6, h7, _⟩ := id h8
  have HP : Hid _ := hp
  have hlen : x.list.length ≤ 4294967296 := by have := V.len_wt x; omega
  have hwp : V.wt x.list[p] ≤ 4294967296 := by have := V.wt_get x p hpl; omega
  clear hp h5 h4 h7
  go_enter Try.func65, Try.ntmps65
  go_wp2_with fail
  refine (placeOf_any (h.below (bthen (below_alloc _ _) (below_alloc _ _))) key p HP.out).mono ?_
  rintro e w1 ⟨rfl, b1⟩
  have bb := bthen (bthen (below_alloc w _) (below_alloc _ _)) b1
  obtain ⟨b, off, k', n', t', a1', n1', c1', a2', n2', c2', rfl, hel, e0, e1, e2, e3, e4⟩ := isL_open h8 bb hpl
  obtain ⟨x0, x1, x2, x3, x4⟩ : Box5 w1 w.heap.size _ _ _ _ _ := ((box5_new w _ _ _ _ _ 25).keep (below_alloc _ _)).keep b1
  go_wp2_with fail
  refine (copyF_any hel hwp).mono ?_
  rintro e w2 ⟨k2, n2, t2, a3, m3, c3, a4, m4, c4, rfl, his, b2⟩
  have q : BoxF w2 (w.heap.size + 1) _ _ _ _ _ := ((boxF_at _ _ _ _ _ _ 25 _ (by simp)).keep b1).keep b2
  obtain ⟨⟨y0, y1, y2, y3, y4⟩, g0, g1, g2, g3, g4⟩ := id q
  go_wp2_with fail
  obtain ⟨u0, u1, u2, u3, u4⟩ := Box5.all q.1 (.int .i64 k2) (.int .i64 n2) (.string t2) (.slice a3 m3 c3) (.slice a4 m4 c4)
  refine bodyPost_ret (v := .tuple #[.agg #[.int .i64 k2, .int .i64 n2, .string t2, .slice a3 m3 c3, .slice a4 m4 c4], .bool true]) (by simp [results, Try.results65, go_sem, u0, u1, u2, u3, u4]) rfl ?_
  refine ⟨k2, n2, t2, a3, m3, c3, a4, m4, c4, rfl, ?_, ?_⟩
  · have kp := keeps5 w2 w.heap.size (.int .i64 k2) (.int .i64 n2) (.string t2) (.slice a3 m3 c3) (.slice a4 m4 c4)
    have s1 := b1.size
    exact (his.weak (S' := Own w2 (w.heap.size + 2)) (fun b _ hb => ⟨by have := hb.1; simp at s1; omega, hb.2⟩)).ownTo kp (fun b _ hf => ((((hf.set _ _).set _ _).set _ _).set _ _).set _ _) (by omega)
  · exact (((((bthen bb b2).setCell (Nat.le_succ _) _).setCell (Nat.le_succ _) _).setCell (Nat.le_succ _) _).setCell (Nat.le_succ _) _).setCell (Nat.le_succ _) _

theorem get_some {v : Value} {x : V} {w : World} {S : Nat → Prop} (h : Is w S v x) (key : ByteArray) (p : Nat) (hp : V.place x key = p) (hpl : p < x.list.length) (hwt : V.wt x ≤ 4294967296) :
    Calls Try.prog 65 #[v, .string key] w fun e w' => ∃ k n t a1 n1 c1 a2 n2 c2, e = .returned (.tuple #[.agg #[.int .i64 k, .int .i64 n, .string t, .slice a1 n1 c1, .slice a2 n2 c2], .bool true]) ∧ Is w' (fun b => w.heap.size ≤ b) (.agg #[.int .i64 k, .int .i64 n, .string t, .slice a1 n1 c1, .slice a2 n2 c2]) x.list[p] ∧ Below w.heap.size w w' := by
  refine (getF_some h key p hp hpl hwt).mono ?_
  rintro e w' ⟨k, n, t, a1, n1, c1, a2, n2, c2, rfl, his, b⟩
  exact ⟨k, n, t, a1, n1, c1, a2, n2, c2, rfl, his.weak (fun b _ hb => hb.1), b⟩

theorem is_plain (w : World) (S : Nat → Prop) (k n : Int) (t : ByteArray) (ht : t.size ≤ maxLen) : Is w S (.agg #[.int .i64 k, .int .i64 n, .string t, .slice none 0 0, .slice none 0 0]) ⟨k, n, t, [], []⟩ :=
  Is.shut (x := ⟨k, n, t, [], []⟩) (strs_nil _ _) (isL_nil _ _) ht

end Go.Proofs.Ytpfbiklbecdmiaa
