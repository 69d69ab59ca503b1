/-
  What this claim takes of the earlier layers' texts: VWalksE VConc VPut VWith VWithB.
-/
import Derived.Test.YtapcmbbhhclepaaGreatDoorQ7
import Derived.BigQuiet
import Derived.WalkSmall
import Derived.Lib.AppendZeros
import Derived.Laws.AppendOwnNone
import Derived.Deep.RegionWith
set_option linter.unusedVariables false
set_option linter.unusedSimpArgs false
set_option maxRecDepth 100000
namespace Go.Proofs.YtapcmbbhhclepaaGreatDoor
open Go.RowKit
theorem map_add0 (a : Option Addr) : a.map (fun x => x.add 0) = a := by cases a <;> simp [Addr.add]
theorem slice_front_str (a : Option Addr) (n cap m : Nat) (h : m ≤ cap) (W : World) :
    (Instr.slice 24 (.slice a n cap) none (some (.int .i64 (m : Int))) none).run Tryz.prog W = .ok (.slice a m cap) W := by
  rw [run_slice_h (P := Tryz.prog) W _ a n cap Tryz.underlying24 .i64 (m : Int) (by omega) (by omega)]
  simp [sliced, go_sem, map_add0]
theorem slice_front_val (a : Option Addr) (n cap m : Nat) (h : m ≤ cap) (W : World) :
    (Instr.slice 25 (.slice a n cap) none (some (.int .i64 (m : Int))) none).run Tryz.prog W = .ok (.slice a m cap) W := by
  rw [run_slice_h (P := Tryz.prog) W _ a n cap Tryz.underlying25 .i64 (m : Int) (by omega) (by omega)]
  simp [sliced, go_sem, map_add0]
theorem pairs_any (k n : Int) (t : ByteArray) (a1 : Option Addr) (n1 c1 : Nat) (a2 : Option Addr) (n2 c2 : Nat) (w : World) (h1 : n1 ≤ c1) (h2 : n2 ≤ c2) (m : Nat) (hm : min n1 n2 = m) :
    Calls Tryz.prog 79 #[.agg #[.int .i64 k, .int .i64 n, .string t, .slice a1 n1 c1, .slice a2 n2 c2]] w fun e w' => e = .returned (.tuple #[.slice a1 m c1, .slice a2 m c2]) ∧ Below w.heap.size w w' := by
  have s1 := slice_front_str a1 n1 c1 m (by omega)
  have s2 := slice_front_val a2 n2 c2 m (by omega)
  have hm' : min (n1 : Int) (n2 : Int) = (m : Int) := by omega
  go_enter Tryz.func79, Tryz.ntmps79
  go_wp2
  go_quiet (fail)
  go_wp2
  go_ret2
  exact ⟨rfl, below_drewN (below_alloc _ _) _⟩
theorem strsIndex_any {w : World} {S : Nat → Prop} {a : Option Addr} {n cap : Nat} {ks : List ByteArray} (hn : n ≤ ks.length) (hl : n ≤ 9223372036854775807) (h : Cells w S a ks.length (fun i => .string (ks.getD i ByteArray.empty))) (key : ByteArray) :
    Calls Tryz.prog 72 #[.slice a n cap, .string key] w fun e w' => e = .returned (.int .i64 (Lib.idxOfS (ks.take n) key)) ∧ w' = w := by
  by_cases h0 : 0 < n
  · obtain ⟨b, off, rfl, _, hc⟩ := h (by omega)
    exact Tryz.slices_Index_string b off n cap ks key w hn hl hc
  · have : n = 0 := by omega
    subst this
    exact Tryz.slices_Index_string_empty a cap key w
set_option maxHeartbeats 2000000 in
theorem placeOf_any {v : Value} {x : V} {w : World} {S : Nat → Prop} (h : Is w S v x) (key : ByteArray) (p : Int) (hp : V.place x key = p) :
    Calls Tryz.prog 73 #[v, .string key] w fun e w' => e = .returned (.int .i64 p) ∧ Below w.heap.size w w' := by
  obtain ⟨kv, lv, rfl, h2, h8, _⟩ := h.open
  obtain ⟨k, n, t, ks, l⟩ := x
  simp only at *
  obtain ⟨a1, c1, rfl, h3, h4, _, h5⟩ := id h2
  obtain ⟨a, cap, c, rfl, h6, h7, _⟩ := id h8
  simp only [V.place] at hp
  clear h h2 h8
  by_cases hk : k = 5
  · subst hk
    rw [if_pos rfl] at hp
    subst hp
    obtain ⟨m, hm⟩ : ∃ m, min ks.length l.length = m := ⟨_, rfl⟩
    rw [hm]
    have HM : Hid _ := hm
    have H5 : Hid _ := h5
    have H4 : Hid _ := h4
    clear hm h5 h4
    go_enter Tryz.func73, Tryz.ntmps73
    go_wp2_with fail
    refine (pairs_any _ _ _ _ _ _ _ _ _ _ h3 h6 m HM.out).mono ?_
    rintro e w1 ⟨rfl, b1⟩
    go_wp2_with fail
    have hml : m ≤ ks.length := by have := HM.out; omega
    refine (strsIndex_any hml (Nat.le_trans hml (Nat.le_trans h3 H4.out)) (Cells.keep H5.out (Keeps.of_below (bthen (below_alloc _ _) b1))) key).mono ?_
    rintro e w1 ⟨rfl, rfl⟩
    go_wp2
    go_ret
    exact ⟨rfl, bthen (below_alloc _ _) b1⟩
  · rw [if_neg hk] at hp
    subst hp
    go_enter Tryz.func73, Tryz.ntmps73
    go_wp2
    go_ret
    exact ⟨rfl, below_alloc _ _⟩
theorem get_none {v : Value} {x : V} {w : World} {S : Nat → Prop} (h : Is w S v x) (key : ByteArray) (hp : V.place x key < 0) :
    Calls Tryz.prog 42 #[v, .string key] w fun e w' => e = .returned (.tuple #[.agg #[.int .i64 0, .int .i64 0, .string ⟨#[]⟩, .slice none 0 0, .slice none 0 0], .bool false]) ∧ Below w.heap.size w w' := by
  obtain ⟨kv, lv, rfl, h2, h8, _⟩ := id h.open
  obtain ⟨a1, c1, rfl, h3, h4, _, h5⟩ := id h2
  obtain ⟨a, cap, c, rfl, h6, h7, _⟩ := id h8
  obtain ⟨p, hp'⟩ : ∃ p, V.place x key = p := ⟨_, rfl⟩
  rw [hp'] at hp
  have HP : Hid _ := hp'
  clear hp' h5 h4 h7
  go_enter Tryz.func42, Tryz.ntmps42
  go_wp2_with fail
  refine (placeOf_any (h.below (bthen (below_alloc _ _) (below_alloc _ _))) key p HP.out).mono ?_
  rintro e w1 ⟨rfl, b1⟩
  have q : BoxF w1 (w.heap.size + 1) _ _ _ _ _ := (boxF_at _ _ _ _ _ _ 27 _ (by simp)).keep b1
  obtain ⟨⟨y0, y1, y2, y3, y4⟩, g0, g1, g2, g3, g4⟩ := id q
  go_wp2_with fail
  obtain ⟨u0, u1, u2, u3, u4⟩ := Box5.all q.1 (.int .i64 0) (.int .i64 0) (.string ⟨#[]⟩) (.slice none 0 0) (.slice none 0 0)
  refine bodyPost_ret (v := .tuple #[.agg #[.int .i64 0, .int .i64 0, .string ⟨#[]⟩, .slice none 0 0, .slice none 0 0], .bool false]) (by simp [results, Tryz.results42, go_sem, u0, u1, u2, u3, u4]) rfl ?_
  refine ⟨rfl, ?_⟩
  exact (((((bthen (bthen (below_alloc w _) (below_alloc _ _)) b1).setCell (Nat.le_succ _) _).setCell (Nat.le_succ _) _).setCell (Nat.le_succ _) _).setCell (Nat.le_succ _) _).setCell (Nat.le_succ _) _
set_option maxHeartbeats 2000000 in
theorem getF_some {v : Value} {x : V} {w : World} {S : Nat → Prop} (h : Is w S v x) (key : ByteArray) (p : Nat) (hp : V.place x key = p) (hpl : p < x.list.length) (hwt : V.wt x ≤ 4294967296) :
    Calls Tryz.prog 42 #[v, .string key] w fun e w' => ∃ k n t a1 n1 c1 a2 n2 c2, e = .returned (.tuple #[.agg #[.int .i64 k, .int .i64 n, .string t, .slice a1 n1 c1, .slice a2 n2 c2], .bool true]) ∧ Is w' (Own w' w.heap.size) (.agg #[.int .i64 k, .int .i64 n, .string t, .slice a1 n1 c1, .slice a2 n2 c2]) x.list[p] ∧ Below w.heap.size w w' := by
  obtain ⟨kv, lv, rfl, h2, h8, _⟩ := id h.open
  obtain ⟨a1, c1, rfl, h3, h4, _, h5⟩ := id h2
  obtain ⟨a, cap, c, rfl, h6, h7, _⟩ := id h8
  have HP : Hid _ := hp
  have hlen : x.list.length ≤ 4294967296 := by have := V.len_wt x; omega
  have hwp : V.wt x.list[p] ≤ 4294967296 := by have := V.wt_get x p hpl; omega
  clear hp h5 h4 h7
  go_enter Tryz.func42, Tryz.ntmps42
  go_wp2_with fail
  refine (placeOf_any (h.below (bthen (below_alloc _ _) (below_alloc _ _))) key p HP.out).mono ?_
  rintro e w1 ⟨rfl, b1⟩
  have bb := bthen (bthen (below_alloc w _) (below_alloc _ _)) b1
  obtain ⟨b, off, k', n', t', a1', n1', c1', a2', n2', c2', rfl, hel, e0, e1, e2, e3, e4⟩ := isL_open h8 bb hpl
  obtain ⟨x0, x1, x2, x3, x4⟩ : Box5 w1 w.heap.size _ _ _ _ _ := ((box5_new w _ _ _ _ _ 27).keep (below_alloc _ _)).keep b1
  go_wp2_with fail
  refine (copyF_any hel hwp).mono ?_
  rintro e w2 ⟨k2, n2, t2, a3, m3, c3, a4, m4, c4, rfl, his, b2⟩
  have q : BoxF w2 (w.heap.size + 1) _ _ _ _ _ := ((boxF_at _ _ _ _ _ _ 27 _ (by simp)).keep b1).keep b2
  obtain ⟨⟨y0, y1, y2, y3, y4⟩, g0, g1, g2, g3, g4⟩ := id q
  go_wp2_with fail
  obtain ⟨u0, u1, u2, u3, u4⟩ := Box5.all q.1 (.int .i64 k2) (.int .i64 n2) (.string t2) (.slice a3 m3 c3) (.slice a4 m4 c4)
  refine bodyPost_ret (v := .tuple #[.agg #[.int .i64 k2, .int .i64 n2, .string t2, .slice a3 m3 c3, .slice a4 m4 c4], .bool true]) (by simp [results, Tryz.results42, go_sem, u0, u1, u2, u3, u4]) rfl ?_
  refine ⟨k2, n2, t2, a3, m3, c3, a4, m4, c4, rfl, ?_, ?_⟩
  · have kp := keeps5 w2 w.heap.size (.int .i64 k2) (.int .i64 n2) (.string t2) (.slice a3 m3 c3) (.slice a4 m4 c4)
    have s1 := b1.size
    exact (his.weak (S' := Own w2 (w.heap.size + 2)) (fun b _ hb => ⟨by have := hb.1; simp at s1; omega, hb.2⟩)).ownTo kp (fun b _ hf => ((((hf.set _ _).set _ _).set _ _).set _ _).set _ _) (by omega)
  · exact (((((bthen bb b2).setCell (Nat.le_succ _) _).setCell (Nat.le_succ _) _).setCell (Nat.le_succ _) _).setCell (Nat.le_succ _) _).setCell (Nat.le_succ _) _
theorem get_some {v : Value} {x : V} {w : World} {S : Nat → Prop} (h : Is w S v x) (key : ByteArray) (p : Nat) (hp : V.place x key = p) (hpl : p < x.list.length) (hwt : V.wt x ≤ 4294967296) :
    Calls Tryz.prog 42 #[v, .string key] w fun e w' => ∃ k n t a1 n1 c1 a2 n2 c2, e = .returned (.tuple #[.agg #[.int .i64 k, .int .i64 n, .string t, .slice a1 n1 c1, .slice a2 n2 c2], .bool true]) ∧ Is w' (fun b => w.heap.size ≤ b) (.agg #[.int .i64 k, .int .i64 n, .string t, .slice a1 n1 c1, .slice a2 n2 c2]) x.list[p] ∧ Below w.heap.size w w' := by
  refine (getF_some h key p hp hpl hwt).mono ?_
  rintro e w' ⟨k, n, t, a1, n1, c1, a2, n2, c2, rfl, his, b⟩
  exact ⟨k, n, t, a1, n1, c1, a2, n2, c2, rfl, his.weak (fun b _ hb => hb.1), b⟩
theorem str_any (s : ByteArray) (w : World) (hs : s.size ≤ 281474976710656) :
    Calls Tryz.prog 54 #[.string s] w fun e w' => e = .returned (.agg #[.int .i64 3, .int .i64 0, .string s, .slice none 0 0, .slice none 0 0]) ∧ Below w.heap.size w w' := by
  go_enter Tryz.func54, Tryz.ntmps54
  go_wp2_with fail
  refine (clone_any s _ hs).mono ?_
  rintro e w1 ⟨rfl, b1⟩
  have q : BoxF w1 w.heap.size _ _ _ _ _ := (boxF_at _ _ _ _ _ _ 27 _ rfl).keep b1
  obtain ⟨⟨y0, y1, y2, y3, y4⟩, g0, g1, g2, g3, g4⟩ := id q
  go_wp2_with fail
  obtain ⟨u0, u1, u2, u3, u4⟩ := Box5.all q.1 (.int .i64 3) (.int .i64 0) (.string s) (.slice none 0 0) (.slice none 0 0)
  refine bodyPost_ret (v := .agg #[.int .i64 3, .int .i64 0, .string s, .slice none 0 0, .slice none 0 0]) (by simp [results, Tryz.results54, go_sem, u0, u1, u2, u3, u4]) rfl ?_
  exact ⟨rfl, (((((bthen (below_alloc w _) b1).setCell (Nat.le_refl _) _).setCell (Nat.le_refl _) _).setCell (Nat.le_refl _) _).setCell (Nat.le_refl _) _).setCell (Nat.le_refl _) _⟩
theorem is_plain (w : World) (S : Nat → Prop) (k n : Int) (t : ByteArray) (ht : t.size ≤ maxLen) : Is w S (.agg #[.int .i64 k, .int .i64 n, .string t, .slice none 0 0, .slice none 0 0]) ⟨k, n, t, [], []⟩ :=
  Is.shut (x := ⟨k, n, t, [], []⟩) (strs_nil _ _) (isL_nil _ _) ht
end Go.Proofs.YtapcmbbhhclepaaGreatDoor
namespace Go.Proofs.YtapcmbbhhclepaaGreatDoor
open Go.RowKit
theorem hide {p : Prop} (h : p) : Hid p := h
def Raw (w : World) (S : Nat → Prop) (v : Value) (sz m : Nat) (cs : List Value) : Prop :=
  ∃ a cap, v = .slice a m cap ∧ m ≤ cap ∧ cap ≤ maxLen ∧ cs.length = m * sz ∧ (∀ u ∈ cs, u.oneCell' = true) ∧ Cells w S a (m * sz) (fun i => cs.getD i undef)
theorem Raw.keep {w w' : World} {S : Nat → Prop} {v : Value} {sz m : Nat} {cs : List Value} (h : Raw w S v sz m cs) (k : Keeps S w w') : Raw w' S v sz m cs := by
  obtain ⟨a, cap, h1, h2, h3, h4, h5, h6⟩ := h
  exact ⟨a, cap, h1, h2, h3, h4, h5, h6.keep k⟩
theorem Raw.below {w w' : World} {S : Nat → Prop} {v : Value} {sz m : Nat} {cs : List Value} (h : Raw w S v sz m cs) (k : Below w.heap.size w w') : Raw w' S v sz m cs := h.keep (Keeps.of_below k)
theorem Raw.of_own {w : World} {base : Nat} {e : TypeId} {sz : Nat} {v : Value} {n : Nat} {xs : List Value} (h : w.ownsRow base e sz v n xs) (h1 : ∀ u ∈ xs, u.oneCell' = true) : Raw w (fun b => base ≤ b) v sz n xs := by
  have hl := h.1
  rcases id h.2 with ⟨rfl, rfl⟩ | ⟨g, cap, cur, rfl, hb, hg, hnc, hcm, hcs, ht⟩
  · exact ⟨none, 0, rfl, Nat.le_refl _, by decide, hl, h1, fun hh => absurd hh (by simp)⟩
  · refine ⟨_, cap, rfl, hnc, hcm, hl, h1, fun _ => ⟨g, 0, rfl, hb, fun i hi => ?_⟩⟩
    have hx : xs[i]? = some (xs.getD i undef) := by
      rw [List.getElem?_eq_getElem (by omega)]; simp [List.getD, List.getElem?_eq_getElem (show i < xs.length by omega)]
    have := h.cells (g := g) rfl i _ hx
    rw [← this]
    congr 1
    unfold Addr.add
    split <;> simp_all
theorem append_zero {P : Program} {w : World} (t ty e : TypeId) (i : TypeInfo) (ht : P.underlying t = some (.slice e)) (hi : P.info? e = some i) (base size : Nat)
    (v : Value) (n : Nat) (xs : List Value) (hown : w.ownsRow base e size v n xs) (a : Option Addr) (c : Nat) :
    (Builtin.append_ #[t, t] ty #[v, .slice a 0 c]).run P w = .ok v w := by
  rcases hown.2 with ⟨rfl, rfl⟩ | ⟨g, cap, cur, rfl, _, _, hnc, _⟩
  · cases a <;> simp [Builtin.append_, run_underlying ht, sizeOf, typeInfo, hi, Builtin.lenOf, Builtin.firstCells, loadCells, loadCellsFrom]
  · cases a <;> simp [Builtin.append_, run_underlying ht, sizeOf, typeInfo, hi, Builtin.lenOf, Builtin.firstCells, hnc, storeCells, loadCells, loadCellsFrom]
theorem own_shape {w : World} {base : Nat} {e : TypeId} {sz : Nat} {v : Value} {n : Nat} {xs : List Value} (h : w.ownsRow base e sz v n xs) : ∃ a c, v = .slice a n c := by
  rcases h.2 with ⟨rfl, rfl⟩ | ⟨g, cap, cur, rfl, _⟩
  · exact ⟨_, _, rfl⟩
  · exact ⟨_, _, rfl⟩
theorem own_block {w : World} {base : Nat} {e : TypeId} {sz : Nat} {v : Value} {n : Nat} {xs : List Value} (h : w.ownsRow base e sz v n xs) : ∀ k, v.ownBlock = some k → base ≤ k := fun k hk => (h.lt k hk).1
def total (ms : List (Nat × List Value)) : Nat := (ms.map (·.1)).sum
def flat (ms : List (Nat × List Value)) : List Value := ms.flatMap (·.2)
theorem total_take (ms : List (Nat × List Value)) (j : Nat) (h : j < ms.length) : total (ms.take (j + 1)) = total (ms.take j) + ms[j].1 := by
  unfold total; rw [List.take_succ_eq_append_getElem h, List.map_append, List.map_cons, List.map_nil, List.sum_append, List.sum_cons, List.sum_nil, Nat.add_zero]
theorem flat_take (ms : List (Nat × List Value)) (j : Nat) (h : j < ms.length) : flat (ms.take (j + 1)) = flat (ms.take j) ++ ms[j].2 := by
  unfold flat; rw [List.take_succ_eq_append_getElem h, List.flatMap_append, List.flatMap_cons, List.flatMap_nil, List.append_nil]
theorem total_le (ms : List (Nat × List Value)) (j : Nat) : total (ms.take j) ≤ total ms := by
  have : total ms = total (ms.take j) + total (ms.drop j) := by
    unfold total; rw [← List.sum_append, ← List.map_append, List.take_append_drop]
  omega
theorem append_part {P : Program} {w : World} (t ty e : TypeId) (z : Value) (size bytes : Nat) (ht : P.underlying t = some (.slice e)) (hinfo : (P.info? e).map (fun i => (i.zero, i.size, i.bytes)) = some (some z, size, bytes)) (hzs : z.cells.size = size) (hsz : 0 < size)
    (base : Nat) (v : Value) (n : Nat) (xs : List Value) (hown : w.ownsRow base e size v n xs) {S : Nat → Prop} {x : Value} {m : Nat} {cs : List Value} (hx : Raw w S x size m cs)
    (h63 : n + m ≤ maxLen) (hbytes : (n + m) * bytes ≤ 140737488355328) (hbase : base ≤ w.heap.size) :
    ∃ v' w', (Builtin.append_ #[t, t] ty #[v, x]).run P w = .ok v' w' ∧ w'.ownsRow base e size v' (n + m) (xs ++ cs) ∧ w.grownBy w' v.ownBlock := by
  obtain ⟨i0, hi, hz0, hz1, hz2⟩ := info_parts hinfo
  obtain ⟨a, cap, rfl, h1, h2, h3, h4, h5⟩ := hx
  by_cases hm : m = 0
  · subst hm
    have : cs = [] := List.eq_nil_of_length_eq_zero (by omega)
    subst this
    refine ⟨v, w, append_zero t ty e i0 ht hi base size v n xs hown a cap, ?_, ⟨rfl, rfl, rfl, Nat.le_refl _, fun _ _ _ => rfl⟩⟩
    rw [List.append_nil]; exact hown
  · obtain ⟨b, off, rfl, _, hc⟩ := h5 (Nat.mul_pos (by omega) hsz)
    obtain ⟨v', w', q1, q2, q3, _⟩ := run_append_own w base t ty e i0 z size bytes ht hi hz0 hz1 hz2 hzs hsz v n xs hown ⟨b, off, none⟩ m cap cs h3 (fun j u hu => by
      obtain ⟨hj, hju⟩ := List.getElem?_eq_some_iff.1 hu
      have e1 : (⟨b, off, none⟩ : Addr).add j = ⟨b, off + j, none⟩ := by unfold Addr.add; split <;> simp_all
      rw [e1, hc j (by omega)]
      simp [List.getD, hu]) h4 h63 hbytes hbase
    exact ⟨v', w', q1, q2, q3⟩
theorem growS_any (n : Nat) (w : World) (hn : n ≤ 17179869184) :
    Calls Tryz.prog 130 #[.slice none 0 0, .int .i64 n] w fun e w' => ∃ a m c, e = .returned (.slice a m c) ∧ w'.ownsRow w.heap.size 9 1 (.slice a m c) 0 [] ∧ Below w.heap.size w w' := by
  by_cases h0 : n = 0
  · subst h0
    go_enter Tryz.func130, Tryz.ntmps130
    go_wp2
    go_ret
    exact ⟨_, _, _, rfl, World.ownsRow_nil _ _ _ _, Below.refl _ _⟩
  · obtain ⟨i0, hi, hz0, hz1, hz2⟩ := info_parts info_str
    have hr := Lib.run_append_nil_zeros (P := Tryz.prog) w 24 3 24 9 i0 _ .i64 .i64 Tryz.underlying24 Tryz.underlying3 hi hz0 n (by omega) (by omega) (by omega) (by rw [hz2]; omega)
    have hc := grownCap_ge w n 0 9
    have hm := grownCap_le_maxLen w n 0 9 (Nat.le_trans hn (by decide))
    obtain ⟨cap, hcap⟩ : ∃ c, grownCap w n 0 9 = c := ⟨_, rfl⟩
    rw [hcap] at hr hc hm
    obtain ⟨cur, hcur⟩ : ∃ c, Builtin.zeroCells (Value.string ⟨#[]⟩).cells n ++ Builtin.zeroCells (Value.string ⟨#[]⟩).cells (cap - n) = c := ⟨_, rfl⟩
    have hcs : cur.size = cap * 1 := by
      rw [← hcur, Array.size_append, size_zeroCells, size_zeroCells, ← Nat.add_mul]
      have e1 : (Value.string ⟨#[]⟩).cells.size = 1 := rfl
      rw [e1]; congr 1; omega
    rw [hcur] at hr
    have HR : Hid _ := hr
    clear hr hcur hcap
    have hpos : 0 < n := by omega
    have s0 := slice_front_str none 0 0 0 (Nat.le_refl _)
    have s1 := slice_front_str (some ⟨w.heap.size, 0, none⟩) n cap 0 (Nat.zero_le _)
    go_enter Tryz.func130, Tryz.ntmps130
    go_wp2_with (at_builtin; refine Lib.wpList_append_run _ rfl (.tmp 20) (.tmp 21) 24 3 rfl _ _ (by simp [Act.eval, Act.put]) (by simp [Act.eval, Act.put]) _ _ HR.out ?_)
    go_ret
    refine ⟨_, _, _, rfl, ?_, ?_⟩
    · exact World.ownsRow_made w.drew cur cap (Nat.le_refl _) hm hcs
    · exact ((Below.refl _ _).drew).alloc (Nat.le_refl _) _
set_option maxHeartbeats 4000000 in
theorem concatS_any (a : Option Addr) (cap : Nat) (vs : Nat → Value) (ms : List (Nat × List Value)) (w : World) (S : Nat → Prop)
    (hc : Cells w S a ms.length vs) (hp : ∀ i (h : i < ms.length), Raw w S (vs i) 1 ms[i].1 ms[i].2) (hlen : ms.length ≤ 4294967296) (hsum : total ms ≤ 17179869184) :
    Calls Tryz.prog 107 #[.slice a ms.length cap] w fun e w' => ∃ a' m' c', e = .returned (.slice a' m' c') ∧ Raw w' (fun b => w.heap.size ≤ b) (.slice a' m' c') 1 (total ms) (flat ms) ∧ Below w.heap.size w w' := by
  have HC := hide hc
  have HP := hide hp
  clear hc hp
  go_enter Tryz.func107, Tryz.ntmps107
  go_wp2_with fail
  go_loopg [3, 11] ms.length (fun g s i wr => ∃ j : Nat, j + g = ms.length ∧ i = .int .i64 j ∧ s = .int .i64 (total (ms.take j) : Nat) ∧ w = wr)
  case atStart => exact ⟨0, by omega, rfl, rfl, rfl⟩
  case round =>
    obtain ⟨j, hj, rfl, rfl, rfl⟩ := hrel
    by_cases hlt : j < ms.length
    · obtain ⟨b, off, rfl, _, hcell⟩ := HC.out (by omega)
      obtain ⟨aj, cj, hvs, hm1, hm2, _⟩ := HP.out j hlt
      have ej := hcell j hlt
      rw [hvs] at ej
      have ht1 := total_take ms j hlt
      have ht2 := total_le ms (j + 1)
      obtain ⟨mj, hmj⟩ : ∃ m, ms[j].1 = m := ⟨_, rfl⟩
      rw [hmj] at ej ht1 hm1
      obtain ⟨T, hT⟩ : ∃ T, total (ms.take j) = T := ⟨_, rfl⟩
      rw [hT] at ht1
      have hTm : T + mj ≤ 17179869184 := by omega
      have H1 : Hid _ := ht1
      have H2 : Hid _ := ht2
      clear hcell hvs hm2 hmj ht1 ht2
      rw [hT]
      clear hT
      go_wp2_with fail
      go_roundg (gk - 1)
      case measure => omega
      case rel =>
        refine ⟨j + 1, by omega, rfl, ?_, rfl⟩
        rw [H1.out]
        rfl
    · have hje : j = ms.length := by omega
      subst hje
      rw [List.take_length]
      clear hj hlt
      go_wp2_with fail
      refine (growS_any _ _ hsum).mono ?_
      rintro e w1 ⟨ga, gm, gc, rfl, hown, b1⟩
      have HO := hide hown
      clear hown
      go_wp2_with fail
      go_loopg [6, 27] ms.length (fun g nv i wr => ∃ (j : Nat) (na : Option Addr) (nm nc : Nat), j + g = ms.length ∧ i = .int .i64 j ∧ nv = .slice na nm nc ∧ Hid (wr.ownsRow w.heap.size 9 1 (.slice na nm nc) (total (ms.take j)) (flat (ms.take j))) ∧ Below w.heap.size w wr)
      case atStart =>
        refine ⟨0, ga, gm, gc, by omega, rfl, rfl, ?_, b1⟩
        unfold Hid
        simp only [List.take_zero, total, flat, List.map_nil, List.sum_nil, List.flatMap_nil]
        exact HO.out
      case round =>
        obtain ⟨j, na, nm, nc, hj, rfl, rfl, HN, bj⟩ := hrel
        by_cases hlt : j < ms.length
        · obtain ⟨b, off, rfl, _, hcell⟩ := Cells.keep HC.out (Keeps.of_below bj) (by omega)
          have hpj := (HP.out j hlt).below bj
          obtain ⟨aj, cj, hvs, _⟩ := id hpj
          have ej := hcell j hlt
          rw [hvs] at ej hpj
          have ht1 := total_take ms j hlt
          have ht2 := total_le ms (j + 1)
          obtain ⟨v', w', hr, hown', hg⟩ := append_part 24 24 9 _ 1 16 Tryz.underlying24 info_str rfl (by decide) w.heap.size _ _ _ HN.out hpj (by unfold maxLen; omega) (by omega) bj.size
          obtain ⟨na', nc', rfl⟩ := own_shape hown'
          have HR := hide hr
          have HO' := hide hown'
          have HG := hide hg
          have H1 : Hid _ := ht1
          have H2 : Hid _ := ht2
          clear hr hown' hg ht1 ht2 hcell hvs hpj
          go_wp2_with (at_builtin; refine Lib.wpList_append_run _ rfl (.tmp 31) (.tmp 32) 24 24 rfl _ _ (by simp [Act.eval, Act.put]) (by simp [Act.eval, Act.put]) _ _ HR.out ?_)
          go_roundg (gk - 1)
          case measure => omega
          case rel =>
            refine ⟨j + 1, _, _, _, by omega, rfl, rfl, ?_, bj.grown HG.out bj.size (own_block HN.out)⟩
            unfold Hid
            rw [H1.out, flat_take ms j hlt]
            exact HO'.out
        · have hje : j = ms.length := by omega
          subst hje
          rw [List.take_length] at HN
          go_wp2
          go_ret
          refine ⟨_, _, _, rfl, Raw.of_own HN.out ?_, bj⟩
          intro u hu
          obtain ⟨p, hp1, hp2⟩ := List.mem_flatMap.1 hu
          obtain ⟨i, hi, rfl⟩ := List.getElem_of_mem hp1
          obtain ⟨_, _, _, _, _, _, h1, _⟩ := HP.out i hi
          exact h1 u hp2
theorem growV_any (n : Nat) (w : World) (hn : n ≤ 17179869184) :
    Calls Tryz.prog 131 #[.slice none 0 0, .int .i64 n] w fun e w' => ∃ a m c, e = .returned (.slice a m c) ∧ w'.ownsRow w.heap.size 27 5 (.slice a m c) 0 [] ∧ Below w.heap.size w w' := by
  by_cases h0 : n = 0
  · subst h0
    go_enter Tryz.func131, Tryz.ntmps131
    go_wp2
    go_ret
    exact ⟨_, _, _, rfl, World.ownsRow_nil _ _ _ _, Below.refl _ _⟩
  · obtain ⟨i0, hi, hz0, hz1, hz2⟩ := info_parts info_val
    have hr := Lib.run_append_nil_zeros (P := Tryz.prog) w 25 3 25 27 i0 _ .i64 .i64 Tryz.underlying25 Tryz.underlying3 hi hz0 n (by omega) (by omega) (by omega) (by rw [hz2]; omega)
    have hc := grownCap_ge w n 0 27
    have hm := grownCap_le_maxLen w n 0 27 (Nat.le_trans hn (by decide))
    obtain ⟨cap, hcap⟩ : ∃ c, grownCap w n 0 27 = c := ⟨_, rfl⟩
    rw [hcap] at hr hc hm
    obtain ⟨cur, hcur⟩ : ∃ c, Builtin.zeroCells (Value.agg #[.int .i64 0, .int .i64 0, .string ⟨#[]⟩, .slice none 0 0, .slice none 0 0]).cells n ++ Builtin.zeroCells (Value.agg #[.int .i64 0, .int .i64 0, .string ⟨#[]⟩, .slice none 0 0, .slice none 0 0]).cells (cap - n) = c := ⟨_, rfl⟩
    have hcs : cur.size = cap * 5 := by
      rw [← hcur, Array.size_append, size_zeroCells, size_zeroCells, ← Nat.add_mul]
      have e1 : (Value.agg #[.int .i64 0, .int .i64 0, .string ⟨#[]⟩, .slice none 0 0, .slice none 0 0]).cells.size = 5 := rfl
      rw [e1]; congr 1; omega
    rw [hcur] at hr
    have HR : Hid _ := hr
    clear hr hcur hcap
    have hpos : 0 < n := by omega
    have s0 := slice_front_val none 0 0 0 (Nat.le_refl _)
    have s1 := slice_front_val (some ⟨w.heap.size, 0, none⟩) n cap 0 (Nat.zero_le _)
    go_enter Tryz.func131, Tryz.ntmps131
    go_wp2_with (at_builtin; refine Lib.wpList_append_run _ rfl (.tmp 20) (.tmp 21) 25 3 rfl _ _ (by simp [Act.eval, Act.put]) (by simp [Act.eval, Act.put]) _ _ HR.out ?_)
    go_ret
    refine ⟨_, _, _, rfl, ?_, ?_⟩
    · exact World.ownsRow_made w.drew cur cap (Nat.le_refl _) hm hcs
    · exact ((Below.refl _ _).drew).alloc (Nat.le_refl _) _
set_option maxHeartbeats 4000000 in
theorem concatV_any (a : Option Addr) (cap : Nat) (vs : Nat → Value) (ms : List (Nat × List Value)) (w : World) (S : Nat → Prop)
    (hc : Cells w S a ms.length vs) (hp : ∀ i (h : i < ms.length), Raw w S (vs i) 5 ms[i].1 ms[i].2) (hlen : ms.length ≤ 4294967296) (hsum : total ms ≤ 17179869184) :
    Calls Tryz.prog 108 #[.slice a ms.length cap] w fun e w' => ∃ a' m' c', e = .returned (.slice a' m' c') ∧ Raw w' (fun b => w.heap.size ≤ b) (.slice a' m' c') 5 (total ms) (flat ms) ∧ Below w.heap.size w w' := by
  have HC := hide hc
  have HP := hide hp
  clear hc hp
  go_enter Tryz.func108, Tryz.ntmps108
  go_wp2_with fail
  go_loopg [3, 11] ms.length (fun g s i wr => ∃ j : Nat, j + g = ms.length ∧ i = .int .i64 j ∧ s = .int .i64 (total (ms.take j) : Nat) ∧ w = wr)
  case atStart => exact ⟨0, by omega, rfl, rfl, rfl⟩
  case round =>
    obtain ⟨j, hj, rfl, rfl, rfl⟩ := hrel
    by_cases hlt : j < ms.length
    · obtain ⟨b, off, rfl, _, hcell⟩ := HC.out (by omega)
      obtain ⟨aj, cj, hvs, hm1, hm2, _⟩ := HP.out j hlt
      have ej := hcell j hlt
      rw [hvs] at ej
      have ht1 := total_take ms j hlt
      have ht2 := total_le ms (j + 1)
      obtain ⟨mj, hmj⟩ : ∃ m, ms[j].1 = m := ⟨_, rfl⟩
      rw [hmj] at ej ht1 hm1
      obtain ⟨T, hT⟩ : ∃ T, total (ms.take j) = T := ⟨_, rfl⟩
      rw [hT] at ht1
      have hTm : T + mj ≤ 17179869184 := by omega
      have H1 : Hid _ := ht1
      have H2 : Hid _ := ht2
      clear hcell hvs hm2 hmj ht1 ht2
      rw [hT]
      clear hT
      go_wp2_with fail
      go_roundg (gk - 1)
      case measure => omega
      case rel =>
        refine ⟨j + 1, by omega, rfl, ?_, rfl⟩
        rw [H1.out]
        rfl
    · have hje : j = ms.length := by omega
      subst hje
      rw [List.take_length]
      clear hj hlt
      go_wp2_with fail
      refine (growV_any _ _ hsum).mono ?_
      rintro e w1 ⟨ga, gm, gc, rfl, hown, b1⟩
      have HO := hide hown
      clear hown
      go_wp2_with fail
      go_loopg [6, 27] ms.length (fun g nv i wr => ∃ (j : Nat) (na : Option Addr) (nm nc : Nat), j + g = ms.length ∧ i = .int .i64 j ∧ nv = .slice na nm nc ∧ Hid (wr.ownsRow w.heap.size 27 5 (.slice na nm nc) (total (ms.take j)) (flat (ms.take j))) ∧ Below w.heap.size w wr)
      case atStart =>
        refine ⟨0, ga, gm, gc, by omega, rfl, rfl, ?_, b1⟩
        unfold Hid
        simp only [List.take_zero, total, flat, List.map_nil, List.sum_nil, List.flatMap_nil]
        exact HO.out
      case round =>
        obtain ⟨j, na, nm, nc, hj, rfl, rfl, HN, bj⟩ := hrel
        by_cases hlt : j < ms.length
        · obtain ⟨b, off, rfl, _, hcell⟩ := Cells.keep HC.out (Keeps.of_below bj) (by omega)
          have hpj := (HP.out j hlt).below bj
          obtain ⟨aj, cj, hvs, _⟩ := id hpj
          have ej := hcell j hlt
          rw [hvs] at ej hpj
          have ht1 := total_take ms j hlt
          have ht2 := total_le ms (j + 1)
          obtain ⟨v', w', hr, hown', hg⟩ := append_part 25 25 27 _ 5 80 Tryz.underlying25 info_val rfl (by decide) w.heap.size _ _ _ HN.out hpj (by unfold maxLen; omega) (by omega) bj.size
          obtain ⟨na', nc', rfl⟩ := own_shape hown'
          have HR := hide hr
          have HO' := hide hown'
          have HG := hide hg
          have H1 : Hid _ := ht1
          have H2 : Hid _ := ht2
          clear hr hown' hg ht1 ht2 hcell hvs hpj
          go_wp2_with (at_builtin; refine Lib.wpList_append_run _ rfl (.tmp 31) (.tmp 32) 25 25 rfl _ _ (by simp [Act.eval, Act.put]) (by simp [Act.eval, Act.put]) _ _ HR.out ?_)
          go_roundg (gk - 1)
          case measure => omega
          case rel =>
            refine ⟨j + 1, _, _, _, by omega, rfl, rfl, ?_, bj.grown HG.out bj.size (own_block HN.out)⟩
            unfold Hid
            rw [H1.out, flat_take ms j hlt]
            exact HO'.out
        · have hje : j = ms.length := by omega
          subst hje
          rw [List.take_length] at HN
          go_wp2
          go_ret
          refine ⟨_, _, _, rfl, Raw.of_own HN.out ?_, bj⟩
          intro u hu
          obtain ⟨p, hp1, hp2⟩ := List.mem_flatMap.1 hu
          obtain ⟨i, hi, rfl⟩ := List.getElem_of_mem hp1
          obtain ⟨_, _, _, _, _, _, h1, _⟩ := HP.out i hi
          exact h1 u hp2
end Go.Proofs.YtapcmbbhhclepaaGreatDoor
namespace Go.Proofs.YtapcmbbhhclepaaGreatDoor
open Go.RowKit
theorem Raw.weak {w : World} {S S' : Nat → Prop} {v : Value} {sz m : Nat} {cs : List Value} (h : Raw w S v sz m cs) (k : ∀ b, b < w.heap.size → S b → S' b) : Raw w S' v sz m cs := by
  obtain ⟨a, cap, h1, h2, h3, h4, h5, h6⟩ := h
  exact ⟨a, cap, h1, h2, h3, h4, h5, h6.weak k⟩
theorem Raw.front {w : World} {S : Nat → Prop} {a : Option Addr} {m0 cap sz m : Nat} {cs : List Value} (h : Raw w S (.slice a m0 cap) sz m cs) {n : Nat} (hn : n ≤ m) : Raw w S (.slice a n cap) sz n (cs.take (n * sz)) := by
  obtain ⟨a', cap', h1, h2, h3, h4, h5, h6⟩ := h
  simp only [Value.slice.injEq] at h1
  obtain ⟨rfl, rfl, rfl⟩ := h1
  have hle : n * sz ≤ m0 * sz := Nat.mul_le_mul_right _ hn
  refine ⟨a, cap, rfl, by omega, h3, by rw [List.length_take]; omega, fun u hu => h5 u (List.mem_of_mem_take hu), (h6.front hle).congr (fun i hi => ?_)⟩
  simp only [List.getD, List.getElem?_take_of_lt hi]
def tailAddr (a : Option Addr) (cap n sz : Nat) : Option Addr := if cap = n then a else a.map (·.add (n * sz))
theorem Raw.tail {w : World} {S : Nat → Prop} {a : Option Addr} {m0 cap sz m : Nat} {cs : List Value} (h : Raw w S (.slice a m0 cap) sz m cs) {n : Nat} (hn : n ≤ m) : Raw w S (.slice (tailAddr a cap n sz) (m - n) (cap - n)) sz (m - n) (cs.drop (n * sz)) := by
  obtain ⟨a', cap', h1, h2, h3, h4, h5, h6⟩ := h
  simp only [Value.slice.injEq] at h1
  obtain ⟨rfl, rfl, rfl⟩ := h1
  refine ⟨_, _, rfl, by omega, by omega, by rw [List.length_drop, h4, Nat.sub_mul], fun u hu => h5 u (List.mem_of_mem_drop hu), ?_⟩
  intro hpos
  have hlt : 0 < m0 - n := Nat.pos_of_ne_zero (fun e => by rw [e, Nat.zero_mul] at hpos; exact absurd hpos (Nat.lt_irrefl _))
  have hsz : (m0 - n) * sz = m0 * sz - n * sz := Nat.sub_mul _ _ _
  obtain ⟨b, off, rfl, hb, hc⟩ := h6 (by omega)
  have e1 : (⟨b, off, none⟩ : Addr).add (n * sz) = ⟨b, off + n * sz, none⟩ := by unfold Addr.add; split <;> simp_all
  refine ⟨b, off + n * sz, ?_, hb, fun i hi => ?_⟩
  · unfold tailAddr
    rw [if_neg (by omega)]
    simp only [Option.map_some, e1]
  · rw [Nat.add_assoc, hc _ (by omega)]
    simp only [List.getD, List.getElem?_drop]
theorem slice_tail_str (a : Option Addr) (n cap m : Nat) (h : m ≤ n) (W : World) :
    (Instr.slice 24 (.slice a n cap) (some (.int .i64 (m : Int))) none none).run Tryz.prog W = .ok (.slice (tailAddr a cap m 1) (n - m) (cap - m)) W := by
  rw [run_slice_l (P := Tryz.prog) W _ a n cap Tryz.underlying24 .i64 (m : Int) (by omega) (by omega)]
  simp [sliced, go_sem, tailAddr]
theorem slice_tail_val (a : Option Addr) (n cap m : Nat) (h : m ≤ n) (W : World) :
    (Instr.slice 25 (.slice a n cap) (some (.int .i64 (m : Int))) none none).run Tryz.prog W = .ok (.slice (tailAddr a cap m 5) (n - m) (cap - m)) W := by
  rw [run_slice_l (P := Tryz.prog) W _ a n cap Tryz.underlying25 .i64 (m : Int) (by omega) (by omega)]
  simp [sliced, go_sem, tailAddr]
theorem concat3S_any (W : World) (S : Nat → Prop) (x1 x2 x3 : Value) (m1 m2 m3 : Nat) (c1 c2 c3 : List Value) (h1 : Raw W S x1 1 m1 c1) (h2 : Raw W S x2 1 m2 c2) (h3 : Raw W S x3 1 m3 c3) (hs : m1 + m2 + m3 ≤ 17179869184) (g : Nat) (hg : g = W.heap.size) :
    Calls Tryz.prog 107 #[.slice (some ⟨g, 0, none⟩) 3 3] (W.alloc (.cells #[x1, x2, x3] 24)) fun e w' => ∃ a' m' c', e = .returned (.slice a' m' c') ∧ Raw w' (fun b => W.heap.size < b) (.slice a' m' c') 1 (m1 + m2 + m3) (c1 ++ c2 ++ c3) ∧ Below W.heap.size W w' := by
  subst hg
  have hb := below_alloc W (.cells #[x1, x2, x3] 24)
  have hrow := row_new W #[x1, x2, x3] 24 _ rfl
  refine (concatS_any (some ⟨W.heap.size, 0, none⟩) 3 (fun i => #[x1, x2, x3].getD i undef) [(m1, c1), (m2, c2), (m3, c3)] (W.alloc (.cells #[x1, x2, x3] 24)) (fun _ => True) (hrow.cells trivial (Nat.le_refl _)) ?_ (by simp) (by simp [total]; omega)).mono ?_
  · intro i hi
    have : i = 0 ∨ i = 1 ∨ i = 2 := by simp at hi; omega
    rcases this with rfl | rfl | rfl
    · exact (h1.weak (fun _ _ _ => trivial)).below hb
    · exact (h2.weak (fun _ _ _ => trivial)).below hb
    · exact (h3.weak (fun _ _ _ => trivial)).below hb
  · rintro e w' ⟨a', m', c', rfl, hr, b⟩
    refine ⟨a', m', c', rfl, ?_, bthen hb b⟩
    have e1 : total [(m1, c1), (m2, c2), (m3, c3)] = m1 + m2 + m3 := by simp [total]; omega
    have e2 : flat [(m1, c1), (m2, c2), (m3, c3)] = c1 ++ c2 ++ c3 := by simp [flat]
    rw [e1, e2] at hr
    exact hr.weak (fun b _ hb => by simp at hb; omega)
set_option maxHeartbeats 4000000 in
theorem putS_any (a : Option Addr) (m cap : Nat) (cs : List Value) (p q : Nat) (y : Value) (my : Nat) (cy : List Value) (w : World) (S : Nat → Prop) (hl : Raw w S (.slice a m cap) 1 m cs) (hy : Raw w S y 1 my cy) (hpq : p ≤ q) (hq : q ≤ m) (hm : m ≤ 4294967296) (hmy : my ≤ 4294967296) :
    Calls Tryz.prog 80 #[.slice a m cap, .int .i64 p, .int .i64 q, y] w fun e w' => ∃ a' m' c', e = .returned (.slice a' m' c') ∧ Raw w' (fun b => w.heap.size ≤ b) (.slice a' m' c') 1 (p + my + (m - q)) (cs.take (p * 1) ++ cy ++ cs.drop (q * 1)) ∧ Below w.heap.size w w' := by
  have hcap : m ≤ cap := by obtain ⟨_, _, h1, h2, _⟩ := hl; simp only [Value.slice.injEq] at h1; obtain ⟨_, _, rfl⟩ := h1; exact h2
  obtain ⟨ya, yc, rfl, _⟩ := id hy
  have s1 := slice_front_str a m cap p (by omega)
  have s2 := slice_tail_str a m cap q hq
  have HL := hide hl
  have HY := hide hy
  clear hl hy
  obtain ⟨ta, hta⟩ : ∃ t, tailAddr a cap q 1 = t := ⟨_, rfl⟩
  rw [hta] at s2
  have HT := hide hta
  clear hta
  go_enter Tryz.func80, Tryz.ntmps80
  go_wp2_with fail
  go_region_with (go_at_call 107; refine (concat3S_any w.drew S _ _ _ p my (m - q) (cs.take (p * 1)) cy (cs.drop (q * 1)) (HL.out.front (by omega)) HY.out (by have := HL.out.tail hq; rw [HT.out] at this; exact this) (by omega) _ rfl).mono ?_; rintro e w1 ⟨a', m', c', rfl, hr, b1⟩)
  all_goals go_wp2
  all_goals go_ret
  all_goals exact ⟨_, _, _, rfl, hr.weak (fun b _ hb => Nat.le_of_lt hb), ((Below.refl w.heap.size w).drew).trans b1⟩
theorem concat3V_any (W : World) (S : Nat → Prop) (x1 x2 x3 : Value) (m1 m2 m3 : Nat) (c1 c2 c3 : List Value) (h1 : Raw W S x1 5 m1 c1) (h2 : Raw W S x2 5 m2 c2) (h3 : Raw W S x3 5 m3 c3) (hs : m1 + m2 + m3 ≤ 17179869184) (g : Nat) (hg : g = W.heap.size) :
    Calls Tryz.prog 108 #[.slice (some ⟨g, 0, none⟩) 3 3] (W.alloc (.cells #[x1, x2, x3] 25)) fun e w' => ∃ a' m' c', e = .returned (.slice a' m' c') ∧ Raw w' (fun b => W.heap.size < b) (.slice a' m' c') 5 (m1 + m2 + m3) (c1 ++ c2 ++ c3) ∧ Below W.heap.size W w' := by
  subst hg
  have hb := below_alloc W (.cells #[x1, x2, x3] 25)
  have hrow := row_new W #[x1, x2, x3] 25 _ rfl
  refine (concatV_any (some ⟨W.heap.size, 0, none⟩) 3 (fun i => #[x1, x2, x3].getD i undef) [(m1, c1), (m2, c2), (m3, c3)] (W.alloc (.cells #[x1, x2, x3] 25)) (fun _ => True) (hrow.cells trivial (Nat.le_refl _)) ?_ (by simp) (by simp [total]; omega)).mono ?_
  · intro i hi
    have : i = 0 ∨ i = 1 ∨ i = 2 := by simp at hi; omega
    rcases this with rfl | rfl | rfl
    · exact (h1.weak (fun _ _ _ => trivial)).below hb
    · exact (h2.weak (fun _ _ _ => trivial)).below hb
    · exact (h3.weak (fun _ _ _ => trivial)).below hb
  · rintro e w' ⟨a', m', c', rfl, hr, b⟩
    refine ⟨a', m', c', rfl, ?_, bthen hb b⟩
    have e1 : total [(m1, c1), (m2, c2), (m3, c3)] = m1 + m2 + m3 := by simp [total]; omega
    have e2 : flat [(m1, c1), (m2, c2), (m3, c3)] = c1 ++ c2 ++ c3 := by simp [flat]
    rw [e1, e2] at hr
    exact hr.weak (fun b _ hb => by simp at hb; omega)
set_option maxHeartbeats 4000000 in
theorem putV_any (a : Option Addr) (m cap : Nat) (cs : List Value) (p q : Nat) (y : Value) (my : Nat) (cy : List Value) (w : World) (S : Nat → Prop) (hl : Raw w S (.slice a m cap) 5 m cs) (hy : Raw w S y 5 my cy) (hpq : p ≤ q) (hq : q ≤ m) (hm : m ≤ 4294967296) (hmy : my ≤ 4294967296) :
    Calls Tryz.prog 81 #[.slice a m cap, .int .i64 p, .int .i64 q, y] w fun e w' => ∃ a' m' c', e = .returned (.slice a' m' c') ∧ Raw w' (fun b => w.heap.size ≤ b) (.slice a' m' c') 5 (p + my + (m - q)) (cs.take (p * 5) ++ cy ++ cs.drop (q * 5)) ∧ Below w.heap.size w w' := by
  have hcap : m ≤ cap := by obtain ⟨_, _, h1, h2, _⟩ := hl; simp only [Value.slice.injEq] at h1; obtain ⟨_, _, rfl⟩ := h1; exact h2
  obtain ⟨ya, yc, rfl, _⟩ := id hy
  have s1 := slice_front_val a m cap p (by omega)
  have s2 := slice_tail_val a m cap q hq
  have HL := hide hl
  have HY := hide hy
  clear hl hy
  obtain ⟨ta, hta⟩ : ∃ t, tailAddr a cap q 5 = t := ⟨_, rfl⟩
  rw [hta] at s2
  have HT := hide hta
  clear hta
  go_enter Tryz.func81, Tryz.ntmps81
  go_wp2_with fail
  go_region_with (go_at_call 108; refine (concat3V_any w.drew S _ _ _ p my (m - q) (cs.take (p * 5)) cy (cs.drop (q * 5)) (HL.out.front (by omega)) HY.out (by have := HL.out.tail hq; rw [HT.out] at this; exact this) (by omega) _ rfl).mono ?_; rintro e w1 ⟨a', m', c', rfl, hr, b1⟩)
  all_goals go_wp2
  all_goals go_ret
  all_goals exact ⟨_, _, _, rfl, hr.weak (fun b _ hb => Nat.le_of_lt hb), ((Below.refl w.heap.size w).drew).trans b1⟩
end Go.Proofs.YtapcmbbhhclepaaGreatDoor
namespace Go.Proofs.YtapcmbbhhclepaaGreatDoor
open Go.RowKit
theorem raw_of_strs {w : World} {S : Nat → Prop} {v : Value} {ks : List ByteArray} (h : Strs w S v ks) : Raw w S v 1 ks.length (ks.map .string) := by
  obtain ⟨a, cap, rfl, h1, h2, h3, h4⟩ := h
  refine ⟨a, cap, rfl, h1, h2, by simp, ?_, ?_⟩
  · intro u hu
    obtain ⟨k, _, rfl⟩ := List.mem_map.1 hu
    rfl
  · rw [Nat.mul_one]
    refine h4.congr (fun i hi => ?_)
    simp [List.getD, hi]
theorem strs_of_raw {w : World} {S : Nat → Prop} {v : Value} {m : Nat} {ks : List ByteArray} (h : Raw w S v 1 m (ks.map .string)) (hs : ∀ k ∈ ks, k.size ≤ maxLen) : Strs w S v ks := by
  obtain ⟨a, cap, rfl, h1, h2, h3, h4, h5⟩ := h
  rw [List.length_map, Nat.mul_one] at h3
  subst h3
  refine ⟨a, cap, rfl, h1, h2, hs, ?_⟩
  rw [Nat.mul_one] at h5
  refine h5.congr (fun i hi => ?_)
  simp [List.getD, hi]
def five (q : Value × Value × Value × Value × Value) : List Value := [q.1, q.2.1, q.2.2.1, q.2.2.2.1, q.2.2.2.2]
def aggQ (q : Value × Value × Value × Value × Value) : Value := .agg #[q.1, q.2.1, q.2.2.1, q.2.2.2.1, q.2.2.2.2]
def cellsQ (es : List (Value × Value × Value × Value × Value)) : List Value := es.flatMap five
theorem cellsQ_len (es : List (Value × Value × Value × Value × Value)) : (cellsQ es).length = es.length * 5 := by
  induction es with
  | nil => rfl
  | cons e es ih => unfold cellsQ at *; rw [List.flatMap_cons, List.length_append, ih, List.length_cons]; simp [five]; omega
theorem cellsQ_append (a b : List (Value × Value × Value × Value × Value)) : cellsQ (a ++ b) = cellsQ a ++ cellsQ b := by unfold cellsQ; rw [List.flatMap_append]
theorem cellsQ_take (es : List (Value × Value × Value × Value × Value)) (p : Nat) (hp : p ≤ es.length) : (cellsQ es).take (p * 5) = cellsQ (es.take p) := by
  have h := cellsQ_append (es.take p) (es.drop p)
  rw [List.take_append_drop] at h
  rw [h, List.take_append_of_le_length (by rw [cellsQ_len, List.length_take]; omega), List.take_of_length_le (by rw [cellsQ_len, List.length_take]; omega)]
theorem cellsQ_drop (es : List (Value × Value × Value × Value × Value)) (p : Nat) (hp : p ≤ es.length) : (cellsQ es).drop (p * 5) = cellsQ (es.drop p) := by
  have h := cellsQ_append (es.take p) (es.drop p)
  rw [List.take_append_drop] at h
  have e : p * 5 = (cellsQ (es.take p)).length := by rw [cellsQ_len, List.length_take]; omega
  rw [h, e, List.drop_left]
theorem cellsQ_get (es : List (Value × Value × Value × Value × Value)) : ∀ (i : Nat) (h : i < es.length), elemV (fun j => (cellsQ es).getD j undef) i = aggQ es[i] := by
  induction es with
  | nil => intro i h; simp at h
  | cons e es ih =>
    intro i h
    cases i with
    | zero => rfl
    | succ i =>
      have h' : i < es.length := by simpa using h
      rw [List.getElem_cons_succ, ← ih i h']
      have g : ∀ j, (cellsQ (e :: es)).getD (j + 5) undef = (cellsQ es).getD j undef := fun j => rfl
      unfold elemV
      simp only [Nat.succ_mul]
      rw [g, show i * 5 + 5 + 1 = (i * 5 + 1) + 5 by omega, show i * 5 + 5 + 2 = (i * 5 + 2) + 5 by omega, show i * 5 + 5 + 3 = (i * 5 + 3) + 5 by omega, show i * 5 + 5 + 4 = (i * 5 + 4) + 5 by omega, g, g, g, g]
def Els (w : World) (S : Nat → Prop) (es : List (Value × Value × Value × Value × Value)) (l : List V) : Prop :=
  es.length = l.length ∧ ∀ i (h : i < es.length) (h' : i < l.length), Is w S (aggQ es[i]) l[i]
theorem Els.keep {w w' : World} {S : Nat → Prop} {es : List (Value × Value × Value × Value × Value)} {l : List V} (h : Els w S es l) (k : Keeps S w w') : Els w' S es l := ⟨h.1, fun i h1 h2 => (h.2 i h1 h2).keep k⟩
theorem Els.weak {w : World} {S S' : Nat → Prop} {es : List (Value × Value × Value × Value × Value)} {l : List V} (h : Els w S es l) (k : ∀ b, b < w.heap.size → S b → S' b) : Els w S' es l := ⟨h.1, fun i h1 h2 => (h.2 i h1 h2).weak k⟩
theorem Els.nil (w : World) (S : Nat → Prop) : Els w S [] [] := ⟨rfl, fun i h => absurd h (by simp)⟩
theorem Els.one {w : World} {S : Nat → Prop} {e : Value × Value × Value × Value × Value} {x : V} (h : Is w S (aggQ e) x) : Els w S [e] [x] := ⟨rfl, fun i h1 h2 => by
  have : i = 0 := by simpa using h1
  subst this; exact h⟩
theorem Els.append {w : World} {S : Nat → Prop} {a b : List (Value × Value × Value × Value × Value)} {l m : List V} (h : Els w S a l) (k : Els w S b m) : Els w S (a ++ b) (l ++ m) := by
  refine ⟨by rw [List.length_append, List.length_append, h.1, k.1], fun i h1 h2 => ?_⟩
  by_cases hi : i < a.length
  · have hi' : i < l.length := by rw [← h.1]; exact hi
    rw [List.getElem_append_left hi, List.getElem_append_left hi']
    exact h.2 i hi hi'
  · have hi' : ¬ i < l.length := by rw [← h.1]; exact hi
    rw [List.getElem_append_right (by omega), List.getElem_append_right (by omega)]
    have e := h.1
    simp only [e]
    exact k.2 _ _ _
theorem Els.take {w : World} {S : Nat → Prop} {a : List (Value × Value × Value × Value × Value)} {l : List V} (h : Els w S a l) (n : Nat) : Els w S (a.take n) (l.take n) := by
  refine ⟨by rw [List.length_take, List.length_take, h.1], fun i h1 h2 => ?_⟩
  rw [List.getElem_take, List.getElem_take]
  exact h.2 _ _ _
theorem Els.drop {w : World} {S : Nat → Prop} {a : List (Value × Value × Value × Value × Value)} {l : List V} (h : Els w S a l) (n : Nat) : Els w S (a.drop n) (l.drop n) := by
  refine ⟨by rw [List.length_drop, List.length_drop, h.1], fun i h1 h2 => ?_⟩
  rw [List.getElem_drop, List.getElem_drop]
  exact h.2 _ _ _
theorem isL_of_raw {w : World} {S : Nat → Prop} {v : Value} {m : Nat} {es : List (Value × Value × Value × Value × Value)} {l : List V} (h : Raw w S v 5 m (cellsQ es)) (k : Els w S es l) : IsL w S v l := by
  obtain ⟨a, cap, rfl, h1, h2, h3, h4, h5⟩ := h
  rw [cellsQ_len, k.1] at h3
  have : m = l.length := by omega
  subst this
  refine ⟨a, cap, _, rfl, h1, h2, h5, fun i hi => ?_⟩
  rw [cellsQ_get es i (by rw [k.1]; exact hi)]
  exact k.2 i _ hi
theorem raw_of_isL {w : World} {S : Nat → Prop} {v : Value} {l : List V} (h : IsL w S v l) : ∃ es, Raw w S v 5 l.length (cellsQ es) ∧ Els w S es l := by
  obtain ⟨a, cap, c, rfl, h1, h2, h3, h4⟩ := h
  refine ⟨(List.range l.length).map (fun i => (c (i * 5), c (i * 5 + 1), c (i * 5 + 2), c (i * 5 + 3), c (i * 5 + 4))), ?_, ?_⟩
  · have hg : ∀ i, i < l.length * 5 → (cellsQ ((List.range l.length).map (fun i => (c (i * 5), c (i * 5 + 1), c (i * 5 + 2), c (i * 5 + 3), c (i * 5 + 4))))).getD i undef = c i := by
      intro i hi
      generalize l.length = n at hi
      induction n with
      | zero => omega
      | succ n ih =>
        rw [List.range_succ, List.map_append, cellsQ_append]
        have hl : (cellsQ ((List.range n).map (fun i => (c (i * 5), c (i * 5 + 1), c (i * 5 + 2), c (i * 5 + 3), c (i * 5 + 4))))).length = n * 5 := by rw [cellsQ_len]; simp
        by_cases hlt : i < n * 5
        · rw [← ih hlt]
          simp only [List.getD]
          rw [List.getElem?_append_left (by omega)]
        · simp only [List.getD]
          rw [List.getElem?_append_right (by omega), hl]
          have : i = n * 5 ∨ i = n * 5 + 1 ∨ i = n * 5 + 2 ∨ i = n * 5 + 3 ∨ i = n * 5 + 4 := by omega
          rcases this with rfl | rfl | rfl | rfl | rfl <;> simp [cellsQ, five]
    have hlen : (cellsQ ((List.range l.length).map (fun i => (c (i * 5), c (i * 5 + 1), c (i * 5 + 2), c (i * 5 + 3), c (i * 5 + 4))))).length = l.length * 5 := by rw [cellsQ_len]; simp
    refine ⟨a, cap, rfl, h1, h2, hlen, ?_, h3.congr (fun i hi => (hg i hi).symm)⟩
    intro u hu
    obtain ⟨e, he, hue⟩ := List.mem_flatMap.1 hu
    obtain ⟨i, hi, rfl⟩ := List.mem_map.1 he
    rw [List.mem_range] at hi
    obtain ⟨kv, lv, q, ⟨_, _, rfl, _⟩, ⟨_, _, _, rfl, _⟩, _⟩ := (h4 i hi).open
    unfold elemV at q
    simp only [Value.agg.injEq, Array.mk.injEq, List.cons.injEq, and_true] at q
    obtain ⟨q0, q1, q2, q3, q4⟩ := q
    simp only [five, q0, q1, q2, q3, q4, List.mem_cons, List.not_mem_nil, or_false] at hue
    rcases hue with rfl | rfl | rfl | rfl | rfl <;> rfl
  · refine ⟨by simp, fun i hi hi' => ?_⟩
    simp only [List.getElem_map, List.getElem_range]
    exact h4 i hi'
end Go.Proofs.YtapcmbbhhclepaaGreatDoor
namespace Go.Proofs.YtapcmbbhhclepaaGreatDoor
open Go.RowKit
theorem room1_any (K key : ByteArray) (r : Nat) (w : World) (q : Bool) (hq : V.less K key = q) (hr : w.cell? ⟨r, 0, none⟩ = some (.string key)) :
    Calls Tryz.prog 105 #[.string K, .pointer (some ⟨r, 0, none⟩)] w fun e w' => e = .returned (.bool (!q)) ∧ w' = w := by
  go_enter Tryz.func105, Tryz.ntmps105
  go_wp2_with fail
  refine (less_is _ _ q _ hq).mono ?_
  rintro e w ⟨rfl, rfl⟩
  go_wp2
  go_ret
  exact ⟨rfl, rfl⟩
set_option maxHeartbeats 2000000 in
theorem indexFunc_any {w : World} {S : Nat → Prop} {a : Option Addr} {n cap : Nat} {ks : List ByteArray} (hn : n ≤ ks.length) (hl : n ≤ 4294967296) (h : Cells w S a ks.length (fun i => .string (ks.getD i ByteArray.empty))) (key : ByteArray) (r : Nat) (hr : w.cell? ⟨r, 0, none⟩ = some (.string key)) (z : Int)
    (hz : z = if V.room (ks.take n) key < n then (V.room (ks.take n) key : Int) else -1) :
    Calls Tryz.prog 104 #[.slice a n cap, .func (.func 105) #[] #[.pointer (some ⟨r, 0, none⟩)]] w fun e w' => e = .returned (.int .i64 z) ∧ w' = w := by
  have HC := hide h
  have HZ := hide hz
  clear h hz
  go_enter Tryz.func104, Tryz.ntmps104
  go_wp2_with fail
  go_loopg [8] n (fun g i wr => ∃ j : Nat, j + g = n ∧ i = .int .i64 j ∧ Hid (∀ i, i < j → V.less (ks.getD i ByteArray.empty) key = true) ∧ w = wr)
  case atStart => exact ⟨0, by omega, rfl, fun i hi => absurd hi (Nat.not_lt_zero _), rfl⟩
  case round =>
    obtain ⟨j, hj, rfl, HA, rfl⟩ := hrel
    by_cases hlt : j < n
    · obtain ⟨b, off, K, rfl, hK, ej⟩ := str_at' HC.out (Below.refl _ _) (Nat.lt_of_lt_of_le hlt hn)
      cases hle : V.less K key with
      | true =>
        have HL := hide hle
        clear hle
        go_wp2_with fail
        refine (room1_any K key r w true HL.out hr).mono ?_
        rintro e w ⟨rfl, rfl⟩
        go_wp2
        go_roundg (gk - 1)
        case measure => omega
        case rel =>
          refine ⟨j + 1, by omega, rfl, ?_, rfl⟩
          intro i hi
          by_cases e : i = j
          · subst e; rw [← hK.out]; exact HL.out
          · exact HA.out i (by omega)
      | false =>
        have HL := hide hle
        clear hle
        go_wp2_with fail
        refine (room1_any K key r w false HL.out hr).mono ?_
        rintro e w ⟨rfl, rfl⟩
        go_wp2
        go_ret
        refine ⟨ret_int ?_, rfl⟩
        have e := V.room_hit (ks.take n) key j (by rw [List.length_take]; omega) (by rw [V.getD_take _ _ _ hlt, ← hK.out]; exact HL.out) (fun i hi => by rw [V.getD_take _ _ _ (by omega)]; exact HA.out i hi)
        rw [HZ.out, e, if_pos hlt]
    · have hje : j = n := by omega
      subst hje
      go_wp2
      go_ret
      refine ⟨ret_int ?_, rfl⟩
      have hlen : (ks.take j).length = j := by rw [List.length_take]; omega
      have e := V.room_miss (ks.take j) key (fun i hi => by rw [hlen] at hi; rw [V.getD_take _ _ _ hi]; exact HA.out i hi)
      rw [HZ.out, e, hlen, if_neg (Nat.lt_irrefl _)]
set_option maxHeartbeats 2000000 in
theorem roomFor_any {v : Value} {x : V} {w : World} {S : Nat → Prop} (h : Is w S v x) (hwt : V.wt x ≤ 4294967296) (key : ByteArray) (p : Nat) (hp : V.room (x.keys.take (min x.keys.length x.list.length)) key = p) :
    Calls Tryz.prog 78 #[v, .string key] w fun e w' => e = .returned (.int .i64 p) ∧ Below w.heap.size w w' := by
  obtain ⟨kv, lv, rfl, h2, h8, _⟩ := h.open
  have hk := V.klen_wt x
  have hl := V.len_wt x
  obtain ⟨k, n, t, ks, l⟩ := x
  simp only at *
  obtain ⟨a1, c1, rfl, h3, h4, _, h5⟩ := id h2
  obtain ⟨a, cap, c, rfl, h6, h7, _⟩ := id h8
  obtain ⟨m, hm⟩ : ∃ m, min ks.length l.length = m := ⟨_, rfl⟩
  rw [hm] at hp
  have hml : m ≤ ks.length := by omega
  have hm32 : m ≤ 4294967296 := by omega
  have hpl := V.room_le (ks.take m) key
  rw [List.length_take] at hpl
  have HM := hide hm
  have H5 := hide h5
  have HP := hide hp
  have HPL := hide hpl
  clear hm h5 h4 hp hpl h h2 h8 hk hl hwt
  by_cases hlt : p < m
  · go_enter Tryz.func78, Tryz.ntmps78
    go_wp2_with fail
    refine (pairs_any _ _ _ _ _ _ _ _ _ _ h3 h6 m HM.out).mono ?_
    rintro e w1 ⟨rfl, b1⟩
    go_wp2_with fail
    have bb := bthen (bthen (below_alloc w _) (below_alloc _ _)) b1
    have hcell := cell_keep (cell_new _ (.string key) 9 (w.heap.size + 1) (by simp)) b1
    refine (indexFunc_any hml hm32 (Cells.keep H5.out (Keeps.of_below bb)) key _ hcell (p : Int) (by rw [HP.out, if_pos hlt])).mono ?_
    rintro e w1 ⟨rfl, rfl⟩
    go_wp2
    go_ret
    exact ⟨rfl, bb⟩
  · have hpe : m = p := by have := HPL.out; rw [HP.out] at this; omega
    subst hpe
    go_enter Tryz.func78, Tryz.ntmps78
    go_wp2_with fail
    refine (pairs_any _ _ _ _ _ _ _ _ _ _ h3 h6 m HM.out).mono ?_
    rintro e w1 ⟨rfl, b1⟩
    go_wp2_with fail
    have bb := bthen (bthen (below_alloc w _) (below_alloc _ _)) b1
    have hcell := cell_keep (cell_new _ (.string key) 9 (w.heap.size + 1) (by simp)) b1
    refine (indexFunc_any hml hm32 (Cells.keep H5.out (Keeps.of_below bb)) key _ hcell (-1) (by rw [HP.out, if_neg hlt])).mono ?_
    rintro e w1 ⟨rfl, rfl⟩
    go_wp2
    go_ret
    exact ⟨rfl, bb⟩
end Go.Proofs.YtapcmbbhhclepaaGreatDoor
