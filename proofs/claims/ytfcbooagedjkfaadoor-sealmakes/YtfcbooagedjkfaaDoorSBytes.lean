/-
  THE WALK of Bytes (layer 5).
-/
import Derived.Test.YtfcbooagedjkfaaDoorSNums
import Derived.Test.YtfcbooagedjkfaaDoorSFacts
set_option linter.unusedVariables false
set_option linter.unusedSimpArgs false
namespace Go.Proofs.YtfcbooagedjkfaaDoor
open Go.RowKit Go.Shelf
attribute [local go_sem] Oper.semAt_some

def ch4 (q : List Int) (j : Nat) : List Int := (q.drop (4 * j)).take 4
theorem ch4_length (q : List Int) (j : Nat) : (ch4 q j).length = min 4 (q.length - 4 * j) := by simp [ch4]
def gb (q : List Int) (j : Nat) : List Int := (Sl.back (ch4 q j)).getD []
theorem upto_back (q : List Int) : ∀ k, k ≤ nch4 q.length → (∀ x ∈ upto (nch4 q.length) k, (Sl.back (ch4 q x.val)).isSome = true) → Sl.back (q.take (4 * k)) = some ((upto (nch4 q.length) k).flatMap (fun x => gb q x.val))
  | 0, _, _ => rfl
  | k + 1, h, hs => by
    have h3 : 4 * k ≤ q.length := by unfold nch4 at h; omega
    have hk : k < nch4 q.length := by omega
    rw [upto_succ hk] at hs ⊢
    have ih := upto_back q k (by omega) (fun x hx => hs x (by simp [hx]))
    have hl := hs ⟨k, hk⟩ (by simp)
    rw [show 4 * (k + 1) = 4 * k + 4 by omega, List.take_add, Sl.back_append _ _ (by rw [List.length_take]; omega), ih, List.flatMap_append, List.flatMap_singleton]
    obtain ⟨y, hy⟩ := Option.isSome_iff_exists.1 hl
    have hy' : Sl.back ((q.drop (4 * k)).take 4) = some y := hy
    simp [hy', gb, ch4]
theorem back_four {g : List Int} (h : g.length = 4) : (Sl.back g).isSome = true := by
  rw [Sl.back_isSome]
  unfold Sl.ends
  simp [h]
theorem back_bad (q : List Int) (j : Nat) (hj : 4 * j < q.length) (h : Sl.back (ch4 q j) = none) : Sl.back q = none := by
  by_cases hl : (ch4 q j).length = 4
  · have := back_four hl
    rw [h] at this
    cases this
  · rw [ch4_length] at hl
    have e : q = q.take (4 * j) ++ ch4 q j := by
      have e1 : ch4 q j = q.drop (4 * j) := List.take_of_length_le (by rw [List.length_drop]; omega)
      rw [e1, List.take_append_drop]
    rw [e, Sl.back_append _ _ (by rw [List.length_take]; omega), h]
    cases Sl.back (q.take (4 * j)) <;> rfl
theorem gb_length' (q : List Int) (j : Nat) : (gb q j).length ≤ 3 := by
  unfold gb
  cases h : Sl.back (ch4 q j) with
  | none => simp
  | some y =>
    have := Sl.back_length _ _ h
    have h4 := ch4_length q j
    simp
    omega
theorem gb_length (q : List Int) {N : Nat} (pre : List (Fin N)) : (pre.flatMap (fun x => gb q x.val)).length ≤ 3 * pre.length := by
  induction pre with
  | nil => simp
  | cons x p ih =>
    rw [List.flatMap_cons, List.length_append, List.length_cons]
    have := gb_length' q x.val
    omega
theorem piece8v (x p : Int) (i : Nat) (w : World) (h0 : 0 ≤ x) (h1 : x < 16777216) (hi : i < 3) (hp : p = Sl.piece x i 8) :
    Calls Tryd.prog 32 #[.int .u32 x, .int .i64 i, .int .i64 8] w fun e w' => e = .returned (.int .u32 p) ∧ ∃ n, w' = w.drewN n := by
  subst hp
  exact piece8 x i w h0 h1 hi
theorem tog6_lt (g : List Int) (h6 : Sl.S6 g) (h3 : g.length ≤ 4) : 0 ≤ Sl.tog 6 g 0 ∧ Sl.tog 6 g 0 < 16777216 := by
  match g, h3 with
  | [], _ => simp [Sl.tog]
  | [a], _ =>
    have := h6 a (by simp)
    simp [Sl.tog]
    omega
  | [a, b], _ =>
    have := h6 a (by simp)
    have := h6 b (by simp)
    simp [Sl.tog]
    omega
  | [a, b, c], _ =>
    have := h6 a (by simp)
    have := h6 b (by simp)
    have := h6 c (by simp)
    simp [Sl.tog]
    omega
  | [a, b, c, d], _ =>
    have := h6 a (by simp)
    have := h6 b (by simp)
    have := h6 c (by simp)
    have := h6 d (by simp)
    simp [Sl.tog]
    omega

theorem two_set {w0 W : World} {N : Nat} {t t' : TypeId} {x y : Value} (hb : Below N w0 W) (h1 : Blk W N t #[x]) (h2 : Blk W (N + 1) t' #[y]) (v u : Value) :
    Blk ((W.setCell ⟨N, 0, none⟩ v).setCell ⟨N + 1, 0, none⟩ u) N t #[v] ∧ Blk ((W.setCell ⟨N, 0, none⟩ v).setCell ⟨N + 1, 0, none⟩ u) (N + 1) t' #[u] ∧ Below N w0 ((W.setCell ⟨N, 0, none⟩ v).setCell ⟨N + 1, 0, none⟩ u) := by
  have g1 : Blk (W.setCell ⟨N, 0, none⟩ v) N t #[v] := h1.set 0 v
  have g2 : Blk (W.setCell ⟨N, 0, none⟩ v) (N + 1) t' #[y] := (Below.heap_setCell _ _ _ _ (by simp)).trans h2
  exact ⟨(Below.heap_setCell _ _ _ _ (by simp)).trans g1, g2.set 0 u, (hb.setCell (p := ⟨N, 0, none⟩) (Nat.le_refl _) v).setCell (p := ⟨N + 1, 0, none⟩) (Nat.le_succ _) u⟩
theorem results_bytes (tmps : Array Value) (w : World) (g1 g2 : Nat) (v u : Value) (h1 : tmps.getD 2 undef = .pointer (some ⟨g1, 0, none⟩)) (h2 : tmps.getD 3 undef = .pointer (some ⟨g2, 0, none⟩)) (c1 : w.cell? ⟨g1, 0, none⟩ = some v) (c2 : w.cell? ⟨g2, 0, none⟩ = some u) :
    (results Tryd.f22 tmps).run Tryd.prog w = .ok (.tuple #[v, u]) w := by
  have h : Tryd.f22.results = #[.cell 2 22, .cell 3 4] := by kernel_rfl
  have h1' : tmps[2]?.getD undef = .pointer (some ⟨g1, 0, none⟩) := by simpa using h1
  have h2' : tmps[3]?.getD undef = .pointer (some ⟨g2, 0, none⟩) := by simpa using h2
  simp [results, h, h1', h2', asAddr, loadVar, go_sem, c1, c2, Tryd.underlying22, Tryd.underlying4]

theorem own_grown {w w' : World} {base : Nat} {e : TypeId} {sz : Nat} {v : Value} {n : Nat} {xs : List Value} {row : Option Nat} (h : w.ownsRow base e sz v n xs) (hg : w.grownBy w' row) (hr : ∀ r, row = some r → ∃ o : Obj, w.heap[r]? = some o ∧ o.isCells = false) : w'.ownsRow base e sz v n xs := by
  obtain ⟨h1, h2⟩ := h
  refine ⟨h1, ?_⟩
  rcases h2 with h2 | ⟨g, cap, cur, hv, hb, hh, r⟩
  · exact .inl h2
  · refine .inr ⟨g, cap, cur, hv, hb, (hg.block g (Array.getElem?_eq_some_iff.1 hh).1 (fun e => ?_)).trans hh, r⟩
    obtain ⟨o, ho, hc⟩ := hr g e.symm
    rw [hh] at ho
    cases ho
    cases hc
theorem grown_below {B : Nat} {w W W' : World} {row : Option Nat} (h : Below B w W) (hg : W.grownBy W' row) (hB : B ≤ W.heap.size) (hr : ∀ r, row = some r → B ≤ r) : Below B w W' :=
  h.trans ⟨hg.os, hg.tape, hg.output, hg.size, fun k hk => hg.block k (by omega) (fun e => by have := hr k e.symm; omega)⟩
/-- the bytes so far, in a variable of their own -/
def Out (B O : Nat) (l : List Int) (W : World) : Prop := ∃ a c, Blk W O 22 #[.slice a l.length c] ∧ W.ownsRow B 5 1 (.slice a l.length c) l.length (l.map b8)

/-- what Bytes gives -/
def BytesAre (s : List UInt8) (w w' : World) (e : Ending) : Prop :=
  (∃ bs a c, e = .returned (.tuple #[.slice a bs.length c, .bool true]) ∧ Sl.bytes s = some bs ∧ w'.ownsRow w.heap.size 5 1 (.slice a bs.length c) bs.length (bs.map b8)) ∨
  (e = .returned (.tuple #[.slice none 0 0, .bool false]) ∧ Sl.bytes s = none)

set_option maxRecDepth 100000 in
set_option maxHeartbeats 1000000 in
theorem sealBytes_any (s : ByteArray) (w : World) (hs : s.size ≤ 1000000) :
    Calls Tryd.prog 22 #[.string s] w fun e w' => BytesAre s.data.toList w w' e ∧ Below w.heap.size w w' := by
  refine (callsIn_wide (n := 3)).1 (callsIn_of_wp_marks Tryd.func22 rfl trivial ?_ rfl)
  refine wpIn_wide.2 ?_
  simp only [Tryd.ntmps22, List.size_toArray, List.length_cons, List.length_nil, Nat.reduceAdd, Nat.reduceSub, Array.replicate_succ, Array.replicate_zero, List.push_toArray, List.append_toArray, List.nil_append, List.cons_append]
  go_wp2_with fail
  have b0 : Below w.heap.size w ((w.alloc (.cells #[.slice none 0 0] 22)).alloc (.cells #[.bool false] 4)) := ((Below.refl _ _).alloc (Nat.le_refl _) _).alloc (by simp) _
  have hr1 := (blk_new w 22 #[.slice none 0 0]).below' ((Below.refl _ _).alloc (Nat.le_refl _) (.cells #[.bool false] 4))
  have hr2 := blk_new (w.alloc (.cells #[.slice none 0 0] 22)) 4 #[.bool false]
  rw [World.size_alloc] at hr2
  refine (numbers_any s _ hs).mono ?_
  rintro e w1 ⟨hres, b1⟩
  have HB1 := hide (b0.trans (b1.mono b0.size))
  have HR1 := hide (hr1.below' b1)
  have HR2 := hide (hr2.below' b1)
  have hsz1 := b1.size
  simp only [World.size_alloc] at hsz1
  rcases hres with ⟨ns, a, c, rfl, hns, hown⟩ | ⟨rfl, hns⟩
  · have hnl : ns.length = s.size := by rw [Sl.numsOf_length hns, ← Lib.size_eq]
    have h6 := (Sl.map_numsOf _ _ hns).2
    have hI1 : IsB w1 a ns.length c ns ∧ ∀ x, a = some x → w.heap.size + 2 ≤ x.block := by
      have := own_isB' hown (Dg.b8_of_mem (fun y hy => by have := h6 y hy; omega))
      simpa using this
    have HI1 := hide hI1.1
    have H6 := hide h6
    have HNs := hide hns
    obtain ⟨n, hn⟩ : ∃ n, n = ns.length := ⟨_, rfl⟩
    rw [← hn] at HI1 hnl ⊢
    have Hn := hide hn
    have hnb : n ≤ 1000000 := by omega
    clear b0 hr1 hr2 b1 hown hI1 h6 hns hn hnl
    obtain ⟨m, hm⟩ : ∃ m, m = n * 3 / 4 := ⟨_, rfl⟩
    have hdiv : ((n : Int) * 3) / 4 = (m : Int) := by omega
    have hmb : m ≤ 1000000 := by omega
    have hmk : (Instr.makeSlice 22 (.int .i64 0) (.int .i64 ((n : Int) * 3 / 4))).run Tryd.prog w1 = .ok (.slice (some ⟨w1.heap.size, 0, none⟩) 0 m) (w1.alloc (.cells (madeCells #[b8 0] m) 5)) := by rw [hdiv]; exact run_made w1 m hmb
    have hcn := HI1.out.2.1
    have ho2 := made_own w1 m hmb
    have b2 : Below w1.heap.size w1 (w1.alloc (.cells (madeCells #[b8 0] m) 5)) := (Below.refl _ _).alloc (Nat.le_refl _) _
    clear hm hdiv
    obtain ⟨B, hB⟩ : ∃ B, B = w1.heap.size := ⟨_, rfl⟩
    have hs2 : (w1.alloc (.cells (madeCells #[b8 0] m) 5)).heap.size = B + 1 := by simp [hB]
    rw [← hB] at ho2 b2 hmk hsz1
    have HBB := hide hB
    clear hB
    go_upto_region 5 with fail
    have b3 : Below B w1 ((w1.alloc (.cells (madeCells #[b8 0] m) 5)).alloc (.cells #[.slice (some ⟨B, 0, none⟩) 0 m] 22)) := b2.alloc (by omega) _
    have ho3 : Out B (B + 1) [] ((w1.alloc (.cells (madeCells #[b8 0] m) 5)).alloc (.cells #[.slice (some ⟨B, 0, none⟩) 0 m] 22)) := by
      have := blk_new (w1.alloc (.cells (madeCells #[b8 0] m) 5)) 22 #[.slice (some ⟨B, 0, none⟩) 0 m]
      rw [hs2] at this
      exact ⟨_, _, this, own_below ho2 ((Below.refl _ _).alloc (Nat.le_refl _) _)⟩
    have hs3 : ((w1.alloc (.cells (madeCells #[b8 0] m) 5)).alloc (.cells #[.slice (some ⟨B, 0, none⟩) 0 m] 22)).heap.size = B + 2 := by rw [World.size_alloc, hs2]
    generalize (w1.alloc (.cells (madeCells #[b8 0] m) 5)).alloc (.cells #[.slice (some ⟨B, 0, none⟩) 0 m] 22) = w3 at b3 ho3 hs3 ⊢
    clear ho2 b2 hs2 hmk
    go_wp2_with (go_at_call 29; refine (callsIn_wide.1 (chunk_any4 3 _ _ _ _)).mono ?_; rintro e w' ⟨rfl, rfl⟩)
    have b5 : Below B w1 ((w3.alloc (.cells #[.slice a n c] 22)).alloc (.cells #[.int .i64 4] 3)) := (b3.alloc (by omega) _).alloc (by simp; omega) _
    have hs5 : ((w3.alloc (.cells #[.slice a n c] 22)).alloc (.cells #[.int .i64 4] 3)).heap.size = B + 4 := by simp [hs3]
    have hk1 := (blk_new w3 22 #[.slice a n c]).below' ((Below.refl _ _).alloc (Nat.le_refl _) (.cells #[.int .i64 4] 3))
    have hk2 := blk_new (w3.alloc (.cells #[.slice a n c] 22)) 3 #[.int .i64 4]
    rw [World.size_alloc] at hk2
    rw [hs3] at hk1 hk2
    have ho5 : Out B (B + 1) [] ((w3.alloc (.cells #[.slice a n c] 22)).alloc (.cells #[.int .i64 4] 3)) := by
      obtain ⟨a', c', h1, h2⟩ := ho3
      have bb : Below w3.heap.size w3 ((w3.alloc (.cells #[.slice a n c] 22)).alloc (.cells #[.int .i64 4] 3)) := ((Below.refl _ _).alloc (Nat.le_refl _) _).alloc (by simp) _
      exact ⟨a', c', h1.below' bb, own_below h2 bb⟩
    generalize (w3.alloc (.cells #[.slice a n c] 22)).alloc (.cells #[.int .i64 4] 3) = w5 at b5 hs5 hk1 hk2 ho5 ⊢
    clear b3 ho3 hs3
    obtain ⟨cb, co, hcc⟩ : ∃ cb co, 0 < n → a = some ⟨cb, co, none⟩ ∧ Rd w1 cb co ns := by
      rcases Nat.eq_zero_or_pos n with h | h
      · exact ⟨0, 0, fun h' => by omega⟩
      · obtain ⟨_, h2, _, _, ⟨_, h3⟩ | ⟨x, hx, hR⟩⟩ := HI1.out
        · omega
        · obtain ⟨cb, co, rfl, hR2⟩ := hR h
          exact ⟨cb, co, fun _ => ⟨hx, hR2⟩⟩
    have HCC := hide hcc
    clear hcc
    have hbl := HI1.out.1
    have HR15 : Hid (Blk w5 w.heap.size 22 #[.slice none 0 0]) := HR1.out.below b5 (by omega)
    have HR25 : Hid (Blk w5 (w.heap.size + 1) 4 #[.bool false]) := HR2.out.below b5 (by omega)
    have HB5 : Hid (Below w.heap.size w w5) := HB1.out.trans (b5.mono (by omega))
    have HBw := hide b5
    refine (wpIn_wide (n := 3)).1 ?_
    refine' wpIn_rangeFunc_ownG rfl (by omega) (gf := 45) (lb := #[.pointer (some ⟨B + 2, 0, none⟩), .pointer (some ⟨B + 2 + 1, 0, none⟩)]) rfl trivial (enters_of Tryd.func45 (by kernel_rfl) rfl)
      (chunk_stops4 2 (by omega) (B + 2) (B + 2 + 1) cb co a n c hcn (by omega) w5 (fun h => (HCC.out h).1) (hk1.cell 0) (hk2.cell 0))
      (fun h k => ⟨k.1.trans h.1, k.2.trans h.2⟩) (fun W l o o' hl ho hc hw => ⟨World.putObj_heap_other (by omega), World.putObj_heap_other (by omega)⟩) (Below.refl _ _) (fun _ => rfl)
      (fun pre W => (∀ x ∈ pre, (Sl.back (ch4 ns x.val)).isSome = true) ∧ Out B (B + 1) (pre.flatMap (fun x => gb ns x.val)) W ∧ Below B w5 W ∧ Blk W (B + 2) 22 #[.slice a n c] ∧ Blk W (B + 2 + 1) 3 #[.int .i64 4])
      (fun c pre W => c = .ret ∧ (∃ p x, pre = p ++ [x] ∧ Sl.back (ch4 ns x.val) = none) ∧ Blk W w.heap.size 22 #[.slice none 0 0] ∧ Blk W (w.heap.size + 1) 4 #[.bool false] ∧ Below w.heap.size w W)
      (fun s W W' row hs hg' hr => by
        obtain ⟨h1, ⟨a', c', h2, h3⟩, h4, h5, h6⟩ := hs
        have hz := h4.size
        exact ⟨h1, ⟨a', c', h2.grown hg' (fun r e => (hr r e).2), own_grown h3 hg' (fun r e => (hr r e).2)⟩, grown_below h4 hg' (by omega) (fun r e => by have := (hr r e).1; omega), h5.grown hg' (fun r e => (hr r e).2), h6.grown hg' (fun r e => (hr r e).2)⟩)
      (fun c s W W' row hs hg' hr => by
        obtain ⟨h1, h2, h3, h4, h5⟩ := hs
        have hz := h5.size
        have hz5 := HB5.out.size
        exact ⟨h1, h2, h3.grown hg' (fun r e => (hr r e).2), h4.grown hg' (fun r e => (hr r e).2), grown_below h5 hg' (by omega) (fun r e => by have := (hr r e).1; omega)⟩)
      ⟨fun x hx => (by cases hx), ho5, Below.refl _ _, hk1, hk2⟩ _ ?assign ?body ?done ?stop
    case assign =>
      intro l x W K hK
      gi_wp2
      exact hK
    case stop =>
      rintro D cc pre W hD ⟨k, hk, hpre⟩ ⟨rfl, ⟨p, x, hpx, hbad⟩, q1, q2, q3⟩ hK
      refine wpIn_wide.2 ?_
      have hk0 : 0 < k := by
        rcases Nat.eq_zero_or_pos k with h | h
        · subst h
          rw [hpx] at hpre
          have := congrArg List.length hpre
          simp [upto] at this
        · exact h
      obtain ⟨k', rfl⟩ : ∃ k', k = k' + 1 := ⟨k - 1, by omega⟩
      rw [hpx, upto_succ hk] at hpre
      obtain ⟨hp1, hp2⟩ := List.append_inj' hpre rfl
      have hxk : x.val = k' := by have := List.singleton_inj.1 hp2; rw [this]
      rw [hxk] at hbad
      have hnone : Sl.back ns = none := back_bad ns k' (by rw [hbl]; unfold nch4 at hk; omega) hbad
      have HNN := hide hnone
      have HBF : Hid (Below w.heap.size w (W.putObj D (.deferred none))) := grown_below q3 (grownBy_putObj' W D (.deferred none)) q3.size (fun r e => by cases e; have := HB5.out.size; omega)
      have c1 := (q1.grown (grownBy_putObj' W D (.deferred none)) (fun r e => by cases e; exact ⟨_, hK, rfl⟩)).cell 0
      have c2 := (q2.grown (grownBy_putObj' W D (.deferred none)) (fun r e => by cases e; exact ⟨_, hK, rfl⟩)).cell 0
      clear hpre hpx hp1 hp2 hxk hbad hnone q1 q2 q3
      go_wp2_with fail
      refine ⟨by simp, .inl ⟨_, _, rfl, run_takeDeferred hK, ?_⟩⟩
      refine ⟨_, results_bytes _ _ _ _ _ _ rfl rfl c1 c2, .inr ⟨rfl, ?_⟩, HBF.out⟩
      unfold Sl.bytes
      rw [HNs.out]
      exact HNN.out
    case done =>
      rintro D xs W hD hxs ⟨hall, ⟨a', c', h2, h3⟩, h4, h5, h6⟩ hK
      rw [hxs] at hall h2 h3
      have hback := upto_back ns (nch4 n) (by rw [hbl]; exact Nat.le_refl _) (by rw [hbl]; exact hall)
      rw [List.take_of_length_le (by rw [hbl]; unfold nch4; omega), hbl] at hback
      generalize (upto (nch4 n) (nch4 n)).flatMap (fun x => gb ns x.val) = bs at h2 h3 hback
      have hz := h4.size
      have q1 : Blk W w.heap.size 22 #[.slice none 0 0] := HR15.out.below h4 (by omega)
      have q2 : Blk W (w.heap.size + 1) 4 #[.bool false] := HR25.out.below h4 (by omega)
      have q3 : Below w.heap.size w W := HB5.out.trans (h4.mono (by omega))
      have g0 := h2.cell 0
      have g1 := q1.cell 0
      have g2 := q2.cell 0
      have f1 := q1.frozen 0
      have f2 := q2.frozen 0
      have Q1 := hide q1
      have Q2 := hide q2
      have Q3 := hide q3
      have H3 := hide h3
      have HBk := hide hback
      have H4 := hide h4
      clear h2 h3 h4 h5 h6 hall hxs hback q1 q2 q3
      simp only [List.getElem?_toArray, List.getElem?_cons_zero] at g0
      go_wp2_with fail
      obtain ⟨q1, q2, q3⟩ := two_set Q3.out Q1.out Q2.out (.slice a' bs.length c') (.bool true)
      have hsz2 : ((W.setCell ⟨w.heap.size, 0, none⟩ (.slice a' bs.length c')).setCell ⟨w.heap.size + 1, 0, none⟩ (.bool true)).heap.size = W.heap.size := by simp [World.setCell]
      have hoW : ((W.setCell ⟨w.heap.size, 0, none⟩ (.slice a' bs.length c')).setCell ⟨w.heap.size + 1, 0, none⟩ (.bool true)).ownsRow B 5 1 (.slice a' bs.length c') bs.length (bs.map b8) := by
        obtain ⟨h1, h2⟩ := H3.out
        refine ⟨h1, ?_⟩
        rcases h2 with h2 | ⟨g, cap, cur, hv, hg, hh, r⟩
        · exact .inl h2
        · refine .inr ⟨g, cap, cur, hv, hg, ?_, r⟩
          exact ((Below.heap_setCell _ _ _ _ (by simp; omega)).trans (Below.heap_setCell _ _ _ _ (by simp; omega))).trans hh
      have hD2 : ((W.setCell ⟨w.heap.size, 0, none⟩ (.slice a' bs.length c')).setCell ⟨w.heap.size + 1, 0, none⟩ (.bool true)).heap[D]? = some (.deferred (some [])) :=
        ((Below.heap_setCell _ _ _ _ (by simp; omega)).trans (Below.heap_setCell _ _ _ _ (by simp; omega))).trans hK
      generalize (W.setCell ⟨w.heap.size, 0, none⟩ (.slice a' bs.length c')).setCell ⟨w.heap.size + 1, 0, none⟩ (.bool true) = W6 at q1 q2 q3 hsz2 hoW hD2 ⊢
      have hgp := grownBy_putObj' W6 D (.deferred none)
      have hnc : ∀ r, some D = some r → ∃ o : Obj, W6.heap[r]? = some o ∧ o.isCells = false := fun r e => by cases e; exact ⟨_, hD2, rfl⟩
      have c1 := (q1.grown hgp hnc).cell 0
      have c2 := (q2.grown hgp hnc).cell 0
      refine ⟨by simp, .inl ⟨_, _, rfl, run_takeDeferred hD2, ?_⟩⟩
      refine ⟨_, results_bytes _ _ _ _ _ _ rfl rfl c1 c2, .inl ⟨bs, a', c', rfl, ?_, ?_⟩, grown_below q3 hgp q3.size (fun r e => by cases e; omega)⟩
      · unfold Sl.bytes
        rw [HNs.out]
        exact HBk.out
      · exact own_base (own_grown hoW hgp hnc) (by omega)
    case body =>
      rintro l pre x W ⟨hall, hO, h4, h5, h6⟩ hlen
      have hx4 : 4 * x.val < n := by have := x.isLt; unfold nch4 at this; omega
      obtain ⟨ha', hRd⟩ := HCC.out (by omega)
      obtain ⟨j, hj⟩ : ∃ j, j = x.val := ⟨_, rfl⟩
      rw [← hj] at hx4
      obtain ⟨k, hk⟩ : ∃ k, k = min 4 (n - 4 * j) := ⟨_, rfl⟩
      have hcv : chV4 cb co n x.val = .slice (some ⟨cb, co + 4 * j, none⟩) k k := by rw [← hj, hk]; rfl
      have hcl : (ch4 ns j).length = k := by rw [ch4_length, hk, hbl]
      have hz := h4.size
      have hIc : IsB W (some ⟨cb, co + 4 * j, none⟩) k k (ch4 ns j) := by
        refine ⟨hcl, Nat.le_refl _, by omega, fun i => take_bytes (fun i => by rw [List.getElem?_drop]; exact HI1.out.2.2.2.1 _) 4 i, .inr ⟨_, rfl, fun _ => ⟨_, _, rfl, fun i hi => ?_⟩⟩⟩
        rw [hcl] at hi
        have h1 := hRd (4 * j + i) (by omega)
        have hcb : cb < B := by rw [HBB.out]; exact block_lt_of_cell h1
        have h1' := ((HBw.out.trans h4).cell (p := ⟨cb, co + (4 * j + i), none⟩) hcb).trans h1
        unfold ch4
        rw [List.getElem?_take, if_pos (by omega), List.getElem?_drop, Nat.add_assoc]
        exact h1'
      have h66 : Sl.S6 (ch4 ns j) := fun y hy => H6.out y (List.mem_of_mem_drop (List.mem_of_mem_take hy))
      have hbg := Sl.back_group (ch4 ns j) h66 (by rw [hcl]; omega) (by rw [hcl]; omega)
      have h24 := tog6_lt (ch4 ns j) h66 (by rw [hcl]; omega)
      have h64 : ∀ i : Nat, (ch4 ns j)[i]?.getD 0 < 64 := fun i => by
        cases hi : (ch4 ns j)[i]? with
        | none => simp
        | some y => have := h66 y (List.mem_of_getElem? hi); simpa using this.2
      rw [hcl] at hbg
      have HAll := hide hall
      have HO := hide hO
      have H4 := hide h4
      have H5 := hide h5
      have H6' := hide h6
      have HI := hide hIc
      have HJ := hide hj
      have HP := hide hlen
      have HCl := hide hcl
      have H64 := hide h64
      have hk4 : k ≤ 4 := by omega
      have hk0 : 0 < k := by omega
      simp only [hcv]
      clear hcv hall hO h4 h5 h6 hIc hj hk hlen ha' hRd hcl h66 h64
      gi_wp2_with fail
      refine ⟨trivial, ?_⟩
      refine (CallsIn.inRound l (callsIn_wide.2 (together6 (ch4 ns j) (some ⟨cb, co + 4 * j, none⟩) k k W HI.out hk4 H64.out))).mono ?_
      rintro e W ⟨rfl, rfl⟩
      obtain ⟨T, hT⟩ : ∃ T, T = Sl.tog 6 (ch4 ns j) 0 := ⟨_, rfl⟩
      rw [← hT] at hbg h24 ⊢
      have HBG := hide hbg
      clear hT hbg
      have hz := H4.out.size
      have q1 : Blk W w.heap.size 22 #[.slice none 0 0] := HR15.out.below H4.out (by omega)
      have q2 : Blk W (w.heap.size + 1) 4 #[.bool false] := HR25.out.below H4.out (by omega)
      have q3 : Below w.heap.size w W := HB5.out.trans (H4.out.mono (by omega))
      by_cases hbad : k = 1 ∨ T * 2 ^ ((k - 1) * 8) % 4294967296 % 16777216 ≠ 0
      · have hnone : Sl.back (ch4 ns j) = none := HBG.out.trans (if_pos hbad)
        have HNone := hide hnone
        have g1 := q1.cell 0
        have g2 := q2.cell 0
        have f1 := q1.frozen 0
        have f2 := q2.frozen 0
        have HEnd : Hid (ownPostG w5.heap.size (Kp2 (B + 2) (B + 2 + 1))
            (fun pre W => (∀ x ∈ pre, (Sl.back (ch4 ns x.val)).isSome = true) ∧ Out B (B + 1) (pre.flatMap (fun x => gb ns x.val)) W ∧ Below B w5 W ∧ Blk W (B + 2) 22 #[.slice a n c] ∧ Blk W (B + 2 + 1) 3 #[.int .i64 4])
            (fun c pre W => c = .ret ∧ (∃ p x, pre = p ++ [x] ∧ Sl.back (ch4 ns x.val) = none) ∧ Blk W w.heap.size 22 #[.slice none 0 0] ∧ Blk W (w.heap.size + 1) 4 #[.bool false] ∧ Below w.heap.size w W) (pre ++ [x]) W Exit.ret ⟨#[], []⟩ ((W.setCell ⟨w.heap.size, 0, none⟩ (.slice none 0 0)).setCell ⟨w.heap.size + 1, 0, none⟩ (.bool false))) := by
          obtain ⟨r1, r2, r3⟩ := two_set q3 q1 q2 (.slice none 0 0) (.bool false)
          refine ⟨⟨by simp [World.setCell], fun kk o _ hko ho => ?_⟩, rfl, ⟨pre, x, rfl, by rw [← HJ.out]; exact hnone⟩, r1, r2, r3⟩
          have n1 : kk ≠ w.heap.size := fun e => by subst e; rw [q1] at hko; cases hko; cases ho
          have n2 : kk ≠ w.heap.size + 1 := fun e => by subst e; rw [q2] at hko; cases hko; cases ho
          exact ((Below.heap_setCell _ _ _ _ n2).trans (Below.heap_setCell _ _ _ _ n1)).trans hko
        have HBad := hide hbad
        clear q1 q2 q3 hbad hnone
        have hkc : k = 1 ∨ k = 2 ∨ k = 3 ∨ k = 4 := by omega
        rcases hkc with rfl | rfl | rfl | rfl
        · gi_wp2_with fail
          exact HEnd.out
        · have hne : (T * 256 % 16777216 != 0) = true := by
            have := HBad.out
            simp at this ⊢
            omega
          gi_wp2_with fail
          exact HEnd.out
        · have hne : (T * 65536 % 4294967296 % 16777216 != 0) = true := by
            have := HBad.out
            simp at this ⊢
            omega
          gi_wp2_with fail
          exact HEnd.out
        · exfalso
          have := HBad.out
          simp at this
          try omega
      · have hgood : Sl.back (ch4 ns j) = some (Sl.pieces T 8 (k - 1)) := HBG.out.trans (if_neg hbad)
        have HGood := hide hgood
        have HBad := hide hbad
        clear q1 q2 q3 hbad hgood
        have hkc : k = 1 ∨ k = 2 ∨ k = 3 ∨ k = 4 := by omega
        rcases hkc with rfl | rfl | rfl | rfl
        · exact (HBad.out (.inl rfl)).elim
        · have hne : (T * 256 % 16777216 != 0) = false := by
            have := HBad.out
            simp at this ⊢
            omega
          gi_wp2_with fail
          clear hne
          gi_loopw [42] (fun i wr => ∃ q : Nat, q ≤ 1 ∧ i = .int .i64 q ∧ Hid (Out B (B + 1) (pre.flatMap (fun x => gb ns x.val) ++ Sl.pieces T 8 q) wr) ∧ Hid (Below B w5 wr) ∧ Hid (Blk wr (B + 2) 22 #[.slice a n c]) ∧ Hid (Blk wr (B + 2 + 1) 3 #[.int .i64 4]) ∧ Hid (KeepsFrom w5.heap.size W wr)) (fun i _ => 1 - (intOf i).toNat)
          case atStart => exact ⟨0, by omega, rfl, by show Out B (B + 1) (_ ++ []) W; rw [List.append_nil]; exact HO.out, H4, H5, H6', KeepsFrom.refl _ _⟩
          case round =>
            obtain ⟨q, hq, rfl, HOr, HBr, HR1r, HR2r, HKr⟩ := hrel
            by_cases hlt : q < 1
            · obtain ⟨av, cv, hbv, hov⟩ := HOr.out
              have hfl := gb_length ns pre
              have hpl := HP.out
              have hnn : nch4 n ≤ 1000000 := by unfold nch4; omega
              obtain ⟨L, hL⟩ : ∃ L, L = pre.flatMap (fun x => gb ns x.val) ++ Sl.pieces T 8 q := ⟨_, rfl⟩
              have hLl : L.length ≤ 4000000 := by rw [hL, List.length_append, show (Sl.pieces T 8 q).length = q by simp [Sl.pieces]]; omega
              rw [← hL] at hbv hov
              have HL := hide hL
              obtain ⟨v, hv⟩ : ∃ v, v = Value.slice av L.length cv := ⟨_, rfl⟩
              rw [← hv] at hbv hov
              have g0 := hbv.cell 0
              have f0 := hbv.frozen 0
              simp only [List.getElem?_toArray, List.getElem?_cons_zero] at g0
              obtain ⟨p, hp⟩ : ∃ p, p = Sl.piece T q 8 := ⟨_, rfl⟩
              have hp0 : 0 ≤ p ∧ p < 256 := by rw [hp]; unfold Sl.piece; simp; omega
              have hwp : IntKind.u8.wrap p = p := by rw [IntKind.wrap_u8]; omega
              have HBv := hide hbv
              have HOv := hide hov
              have HPp := hide hp
              have hzr := HBr.out.size
              have HG0 := hide g0
              clear hbv hov hL hv hp hfl g0 f0
              gi_wp2_with fail
              generalize decide ((q : Int) < 1) = bz
              refine' wpIn_region_facts2' 6 (by rfl) (by rfl) rfl [(fun _ _ x _ => x = v), (fun _ _ x _ => x = .int .u32 T), (fun _ _ x _ => x = .int .i64 (q : Int)), (fun _ _ x _ => x = .int .u32 p), (fun _ _ x _ => x = .int .u8 p), (fun lo _ x w => x = .slice (some ⟨lo, 0, none⟩) 1 1 ∧ Hid (Blk w lo 5 #[.int .u8 p]))] (by kernel_rfl) ?hA (by kernel_rfl) (by kernel_rfl) (by kernel_rfl) (by kernel_rfl) rfl ?mono ?steps ?last
              case hA =>
                intro vs
                simp only [puts, Act.put, List.setIfInBounds_toArray, List.set_cons_zero, List.set_cons_succ, Nat.zero_add, Nat.reduceAdd]
                rfl
              case mono => exact ⟨mono_eq _, mono_eq _, mono_eq _, mono_eq _, mono_eq _, fun lo hi x w w' h b => ⟨h.1, h.2.out.below' b⟩, trivial⟩
              case steps =>
                intro Q'
                refine And.intro ?_ ?_
                · intro vs lo hi w' hM hd K' hK
                  dsimp only at hK ⊢
                  simp only [Act.put, List.setIfInBounds_toArray, List.set_cons_zero, List.set_cons_succ] at hK
                  have q0 := (hM.cell (p := ⟨B + 1, 0, none⟩) HBv.out.lt).trans HG0.out
                  go_simp
                  exact hK.out _ _ rfl (Below.refl _ _)
                refine And.intro ?_ ?_
                · intro vs lo hi w' hM hd K' hK
                  dsimp only at hK ⊢
                  simp only [Act.put, List.setIfInBounds_toArray, List.set_cons_zero, List.set_cons_succ] at hK
                  go_simp
                  exact hK.out _ _ rfl (Below.refl _ _)
                refine And.intro ?_ ?_
                · intro vs lo hi w' hM hd K' hK
                  dsimp only at hK ⊢
                  simp only [Act.put, List.setIfInBounds_toArray, List.set_cons_zero, List.set_cons_succ] at hK
                  go_simp
                  exact hK.out _ _ rfl (Below.refl _ _)
                refine And.intro ?_ ?_
                · intro vs lo hi w' hM hd K' hK
                  dsimp only at hK ⊢
                  simp only [Act.put, List.setIfInBounds_toArray, List.set_cons_zero, List.set_cons_succ] at hK
                  have e1 : vs 1 = .int .u32 T := hd 1 (by kernel_rfl)
                  simp only [e1] at hK ⊢
                  clear e1
                  have e2 : vs 2 = .int .i64 (q : Int) := hd 2 (by kernel_rfl)
                  simp only [e2] at hK ⊢
                  clear e2
                  go_simp
                  refine ⟨trivial, ?_⟩
                  refine (CallsIn.inRound l (callsIn_wide.2 (piece8v T p q _ h24.1 h24.2 (by omega) HPp.out))).mono ?_
                  rintro e w7 ⟨rfl, nd, rfl⟩
                  exact hK.out _ _ rfl (below_drewN (Below.refl _ _) nd)
                refine And.intro ?_ ?_
                · intro vs lo hi w' hM hd K' hK
                  dsimp only at hK ⊢
                  simp only [Act.put, List.setIfInBounds_toArray, List.set_cons_zero, List.set_cons_succ] at hK
                  have e3 : vs 3 = .int .u32 p := hd 3 (by kernel_rfl)
                  simp only [e3] at hK ⊢
                  clear e3
                  go_simp
                  exact hK.out _ _ rfl (Below.refl _ _)
                refine And.intro ?_ ?_
                · intro vs lo hi w' hM hd K' hK
                  dsimp only at hK ⊢
                  simp only [Act.put, List.setIfInBounds_toArray, List.set_cons_zero, List.set_cons_succ] at hK
                  have e4 : vs 4 = .int .u8 p := hd 4 (by kernel_rfl)
                  simp only [e4] at hK ⊢
                  clear e4
                  go_simp
                  exact hK.out _ _ ⟨rfl, blk_new w' 5 #[.int .u8 p]⟩ ((Below.refl _ _).alloc (Nat.le_refl _) _)
                exact trivial
              case last =>
                intro vs lo hi w' hM hlo hall
                have e0 : vs 0 = v := hall.1
                have e5 : vs 5 = .slice (some ⟨lo 5, 0, none⟩) 1 1 := hall.2.2.2.2.2.1.1
                have hb5 : Blk w' (lo 5) 5 #[.int .u8 p] := hall.2.2.2.2.2.1.2.out
                have hl5 := (hlo 5 (by omega)).1
                have hBv : Blk w' (B + 1) 22 #[v] := HBv.out.below' hM
                have hov := own_below HOv.out hM
                have hz := hM.size
                obtain ⟨a2, c2, W2, hrun, hown2, hgr2⟩ := append_one (w := w') 22 5 (.int .u8 0) 1 Tryd.underlying22 infoByte rfl B v L.length (L.map b8) hov (lo := lo 5) (m := 1) (c := 1) (news := [.int .u8 p]) rfl (fun jj u hu => by rw [hb5.cell jj]; simpa using hu) (by simp [Value.oneCell']) (by omega) (by omega) (by omega)
                have hvb : ∀ g, v.ownBlock = some g → ∃ cc fz, w'.heap[g]? = some (.cells cc 5 fz) := fun g hg => Lib.ownsRowF_kind (World.ownsRowF_of hov) g hg
                have hoth : Lib.OthersKept 5 (some (B + 1)) w' W2 := (Lib.OthersKept.refl _ _ w').grown hgr2 hvb
                have hO2 : Blk W2 (B + 1) 22 #[v] := ((Lib.OthersKept.refl 5 none w').grown hgr2 hvb) (B + 1) _ hBv (by simp) (by intro cc fz e; cases e)
                refine operIn_append_run rfl rfl (.tmp 45) (.tmp 50) 22 rfl _ _ e0 e5 hrun ?_
                have g2 := hO2.cell 0
                have f2 := hO2.frozen 0
                simp only [List.getElem?_toArray, List.getElem?_cons_zero] at g2
                refine wpOpIn_step rfl (fun K' hK => ?_)
                dsimp only [Act.put]
                go_simp
                refine hK _ _ ?_
                have HOut : Hid (Out B (B + 1) (pre.flatMap (fun x => gb ns x.val) ++ Sl.pieces T 8 (q + 1)) (W2.setCell ⟨B + 1, 0, none⟩ (.slice a2 (L.length + 1) c2))) := by
                  have e9 : pre.flatMap (fun x => gb ns x.val) ++ Sl.pieces T 8 (q + 1) = L ++ [p] := by rw [Sl.pieces_succ, ← List.append_assoc, ← HL.out, ← HPp.out]
                  show Out B (B + 1) _ _
                  rw [e9]
                  refine ⟨a2, c2, ?_, ?_⟩
                  · rw [List.length_append]
                    exact hO2.set 0 _
                  · rw [List.length_append, List.map_append]
                    obtain ⟨h1, h2⟩ := hown2
                    refine ⟨h1, ?_⟩
                    rcases h2 with h2 | ⟨g, cap, cur, hv, hg, hh, rr⟩
                    · exact .inl h2
                    · exact .inr ⟨g, cap, cur, hv, hg, (Below.heap_setCell _ _ _ _ (fun e => by subst e; rw [hO2] at hh; cases hh)).trans hh, rr⟩
                have hzr := HBr.out.size
                have HBn : Hid (Below B w5 (W2.setCell ⟨B + 1, 0, none⟩ (.slice a2 (L.length + 1) c2))) := ((HBr.out.trans (hM.mono (by omega))).grown hgr2 (by omega) (own_block hov)).setCell (p := ⟨B + 1, 0, none⟩) (Nat.le_succ _) _
                have hn1 : Blk (W2.setCell ⟨B + 1, 0, none⟩ (.slice a2 (L.length + 1) c2)) (B + 2) 22 #[.slice a n c] := (Below.heap_setCell _ _ _ _ (by simp)).trans (hoth (B + 2) _ (HR1r.out.below' hM) (by simp) (by intro cc fz e; cases e))
                have hn2 : Blk (W2.setCell ⟨B + 1, 0, none⟩ (.slice a2 (L.length + 1) c2)) (B + 2 + 1) 3 #[.int .i64 4] := (Below.heap_setCell _ _ _ _ (by simp)).trans (hoth (B + 2 + 1) _ (HR2r.out.below' hM) (by simp) (by intro cc fz e; cases e))
                have hKn : KeepsFrom w5.heap.size W (W2.setCell ⟨B + 1, 0, none⟩ (.slice a2 (L.length + 1) c2)) := HKr.out.trans ⟨by have := hgr2.size; simp [World.setCell]; omega, fun kk o _ hko ho => by
                  have h1 : w'.heap[kk]? = some o := (hM.block kk (Array.getElem?_eq_some_iff.1 hko).1).trans hko
                  have hne1 : kk ≠ B + 1 := fun e => by subst e; rw [hBv] at h1; cases h1; cases ho
                  have h2 := hoth kk o h1 (by simpa using hne1) (by rintro cc fz rfl; cases ho)
                  exact (Below.heap_setCell _ _ _ _ hne1).trans h2⟩
                have HN1 := hide hn1
                have HN2 := hide hn2
                have HKn := hide hKn
                generalize W2.setCell ⟨B + 1, 0, none⟩ (.slice a2 (L.length + 1) c2) = W9 at HOut HBn HN1 HN2 HKn ⊢
                clear hrun hown2 hgr2 hvb hoth hO2 g2 f2 hn1 hn2 hKn hBv hov hb5 e0 e5 hall hlo
                gi_wp2_with fail
                go_roundw
                case rel => exact ⟨q + 1, by omega, by go_num, HOut, HBn, HN1, HN2, HKn⟩
                case measure => simp [intOf]; omega
            · have hqk : q = 1 := by omega
              gi_wp2_with fail
              refine ⟨HKr.out, ⟨HR1r.out.trans H5.out.symm, HR2r.out.trans H6'.out.symm⟩, ?_, ?_, HBr.out, HR1r.out, HR2r.out⟩
              · intro y hy
                rcases List.mem_append.1 hy with hy | hy
                · exact HAll.out y hy
                · rw [List.mem_singleton] at hy
                  subst hy
                  rw [← HJ.out, HGood.out]
                  rfl
              · have := HOr.out
                rw [hqk] at this
                rw [List.flatMap_append, List.flatMap_singleton, ← HJ.out]
                have e6 : gb ns j = Sl.pieces T 8 1 := by
                  unfold gb
                  rw [HGood.out]
                  rfl
                rw [e6]
                exact this
        · have hne : (T * 65536 % 4294967296 % 16777216 != 0) = false := by
            have := HBad.out
            simp at this ⊢
            omega
          gi_wp2_with fail
          clear hne
          generalize (T * 65536 % 16777216 != 0) = z1
          generalize T * 65536 % 4294967296 % 16777216 = y1
          gi_loopw [42] (fun i wr => ∃ q : Nat, q ≤ 2 ∧ i = .int .i64 q ∧ Hid (Out B (B + 1) (pre.flatMap (fun x => gb ns x.val) ++ Sl.pieces T 8 q) wr) ∧ Hid (Below B w5 wr) ∧ Hid (Blk wr (B + 2) 22 #[.slice a n c]) ∧ Hid (Blk wr (B + 2 + 1) 3 #[.int .i64 4]) ∧ Hid (KeepsFrom w5.heap.size W wr)) (fun i _ => 2 - (intOf i).toNat)
          case atStart => exact ⟨0, by omega, rfl, by show Out B (B + 1) (_ ++ []) W; rw [List.append_nil]; exact HO.out, H4, H5, H6', KeepsFrom.refl _ _⟩
          case round =>
            obtain ⟨q, hq, rfl, HOr, HBr, HR1r, HR2r, HKr⟩ := hrel
            by_cases hlt : q < 2
            · obtain ⟨av, cv, hbv, hov⟩ := HOr.out
              have hfl := gb_length ns pre
              have hpl := HP.out
              have hnn : nch4 n ≤ 1000000 := by unfold nch4; omega
              obtain ⟨L, hL⟩ : ∃ L, L = pre.flatMap (fun x => gb ns x.val) ++ Sl.pieces T 8 q := ⟨_, rfl⟩
              have hLl : L.length ≤ 4000000 := by rw [hL, List.length_append, show (Sl.pieces T 8 q).length = q by simp [Sl.pieces]]; omega
              rw [← hL] at hbv hov
              have HL := hide hL
              obtain ⟨v, hv⟩ : ∃ v, v = Value.slice av L.length cv := ⟨_, rfl⟩
              rw [← hv] at hbv hov
              have g0 := hbv.cell 0
              have f0 := hbv.frozen 0
              simp only [List.getElem?_toArray, List.getElem?_cons_zero] at g0
              obtain ⟨p, hp⟩ : ∃ p, p = Sl.piece T q 8 := ⟨_, rfl⟩
              have hp0 : 0 ≤ p ∧ p < 256 := by rw [hp]; unfold Sl.piece; simp; omega
              have hwp : IntKind.u8.wrap p = p := by rw [IntKind.wrap_u8]; omega
              have HBv := hide hbv
              have HOv := hide hov
              have HPp := hide hp
              have hzr := HBr.out.size
              have HG0 := hide g0
              clear hbv hov hL hv hp hfl g0 f0
              gi_wp2_with fail
              generalize decide ((q : Int) < 2) = bz
              refine' wpIn_region_facts2' 6 (by rfl) (by rfl) rfl [(fun _ _ x _ => x = v), (fun _ _ x _ => x = .int .u32 T), (fun _ _ x _ => x = .int .i64 (q : Int)), (fun _ _ x _ => x = .int .u32 p), (fun _ _ x _ => x = .int .u8 p), (fun lo _ x w => x = .slice (some ⟨lo, 0, none⟩) 1 1 ∧ Hid (Blk w lo 5 #[.int .u8 p]))] (by kernel_rfl) ?hA (by kernel_rfl) (by kernel_rfl) (by kernel_rfl) (by kernel_rfl) rfl ?mono ?steps ?last
              case hA =>
                intro vs
                simp only [puts, Act.put, List.setIfInBounds_toArray, List.set_cons_zero, List.set_cons_succ, Nat.zero_add, Nat.reduceAdd]
                rfl
              case mono => exact ⟨mono_eq _, mono_eq _, mono_eq _, mono_eq _, mono_eq _, fun lo hi x w w' h b => ⟨h.1, h.2.out.below' b⟩, trivial⟩
              case steps =>
                intro Q'
                refine And.intro ?_ ?_
                · intro vs lo hi w' hM hd K' hK
                  dsimp only at hK ⊢
                  simp only [Act.put, List.setIfInBounds_toArray, List.set_cons_zero, List.set_cons_succ] at hK
                  have q0 := (hM.cell (p := ⟨B + 1, 0, none⟩) HBv.out.lt).trans HG0.out
                  go_simp
                  exact hK.out _ _ rfl (Below.refl _ _)
                refine And.intro ?_ ?_
                · intro vs lo hi w' hM hd K' hK
                  dsimp only at hK ⊢
                  simp only [Act.put, List.setIfInBounds_toArray, List.set_cons_zero, List.set_cons_succ] at hK
                  go_simp
                  exact hK.out _ _ rfl (Below.refl _ _)
                refine And.intro ?_ ?_
                · intro vs lo hi w' hM hd K' hK
                  dsimp only at hK ⊢
                  simp only [Act.put, List.setIfInBounds_toArray, List.set_cons_zero, List.set_cons_succ] at hK
                  go_simp
                  exact hK.out _ _ rfl (Below.refl _ _)
                refine And.intro ?_ ?_
                · intro vs lo hi w' hM hd K' hK
                  dsimp only at hK ⊢
                  simp only [Act.put, List.setIfInBounds_toArray, List.set_cons_zero, List.set_cons_succ] at hK
                  have e1 : vs 1 = .int .u32 T := hd 1 (by kernel_rfl)
                  simp only [e1] at hK ⊢
                  clear e1
                  have e2 : vs 2 = .int .i64 (q : Int) := hd 2 (by kernel_rfl)
                  simp only [e2] at hK ⊢
                  clear e2
                  go_simp
                  refine ⟨trivial, ?_⟩
                  refine (CallsIn.inRound l (callsIn_wide.2 (piece8v T p q _ h24.1 h24.2 (by omega) HPp.out))).mono ?_
                  rintro e w7 ⟨rfl, nd, rfl⟩
                  exact hK.out _ _ rfl (below_drewN (Below.refl _ _) nd)
                refine And.intro ?_ ?_
                · intro vs lo hi w' hM hd K' hK
                  dsimp only at hK ⊢
                  simp only [Act.put, List.setIfInBounds_toArray, List.set_cons_zero, List.set_cons_succ] at hK
                  have e3 : vs 3 = .int .u32 p := hd 3 (by kernel_rfl)
                  simp only [e3] at hK ⊢
                  clear e3
                  go_simp
                  exact hK.out _ _ rfl (Below.refl _ _)
                refine And.intro ?_ ?_
                · intro vs lo hi w' hM hd K' hK
                  dsimp only at hK ⊢
                  simp only [Act.put, List.setIfInBounds_toArray, List.set_cons_zero, List.set_cons_succ] at hK
                  have e4 : vs 4 = .int .u8 p := hd 4 (by kernel_rfl)
                  simp only [e4] at hK ⊢
                  clear e4
                  go_simp
                  exact hK.out _ _ ⟨rfl, blk_new w' 5 #[.int .u8 p]⟩ ((Below.refl _ _).alloc (Nat.le_refl _) _)
                exact trivial
              case last =>
                intro vs lo hi w' hM hlo hall
                have e0 : vs 0 = v := hall.1
                have e5 : vs 5 = .slice (some ⟨lo 5, 0, none⟩) 1 1 := hall.2.2.2.2.2.1.1
                have hb5 : Blk w' (lo 5) 5 #[.int .u8 p] := hall.2.2.2.2.2.1.2.out
                have hl5 := (hlo 5 (by omega)).1
                have hBv : Blk w' (B + 1) 22 #[v] := HBv.out.below' hM
                have hov := own_below HOv.out hM
                have hz := hM.size
                obtain ⟨a2, c2, W2, hrun, hown2, hgr2⟩ := append_one (w := w') 22 5 (.int .u8 0) 1 Tryd.underlying22 infoByte rfl B v L.length (L.map b8) hov (lo := lo 5) (m := 1) (c := 1) (news := [.int .u8 p]) rfl (fun jj u hu => by rw [hb5.cell jj]; simpa using hu) (by simp [Value.oneCell']) (by omega) (by omega) (by omega)
                have hvb : ∀ g, v.ownBlock = some g → ∃ cc fz, w'.heap[g]? = some (.cells cc 5 fz) := fun g hg => Lib.ownsRowF_kind (World.ownsRowF_of hov) g hg
                have hoth : Lib.OthersKept 5 (some (B + 1)) w' W2 := (Lib.OthersKept.refl _ _ w').grown hgr2 hvb
                have hO2 : Blk W2 (B + 1) 22 #[v] := ((Lib.OthersKept.refl 5 none w').grown hgr2 hvb) (B + 1) _ hBv (by simp) (by intro cc fz e; cases e)
                refine operIn_append_run rfl rfl (.tmp 45) (.tmp 50) 22 rfl _ _ e0 e5 hrun ?_
                have g2 := hO2.cell 0
                have f2 := hO2.frozen 0
                simp only [List.getElem?_toArray, List.getElem?_cons_zero] at g2
                refine wpOpIn_step rfl (fun K' hK => ?_)
                dsimp only [Act.put]
                go_simp
                refine hK _ _ ?_
                have HOut : Hid (Out B (B + 1) (pre.flatMap (fun x => gb ns x.val) ++ Sl.pieces T 8 (q + 1)) (W2.setCell ⟨B + 1, 0, none⟩ (.slice a2 (L.length + 1) c2))) := by
                  have e9 : pre.flatMap (fun x => gb ns x.val) ++ Sl.pieces T 8 (q + 1) = L ++ [p] := by rw [Sl.pieces_succ, ← List.append_assoc, ← HL.out, ← HPp.out]
                  show Out B (B + 1) _ _
                  rw [e9]
                  refine ⟨a2, c2, ?_, ?_⟩
                  · rw [List.length_append]
                    exact hO2.set 0 _
                  · rw [List.length_append, List.map_append]
                    obtain ⟨h1, h2⟩ := hown2
                    refine ⟨h1, ?_⟩
                    rcases h2 with h2 | ⟨g, cap, cur, hv, hg, hh, rr⟩
                    · exact .inl h2
                    · exact .inr ⟨g, cap, cur, hv, hg, (Below.heap_setCell _ _ _ _ (fun e => by subst e; rw [hO2] at hh; cases hh)).trans hh, rr⟩
                have hzr := HBr.out.size
                have HBn : Hid (Below B w5 (W2.setCell ⟨B + 1, 0, none⟩ (.slice a2 (L.length + 1) c2))) := ((HBr.out.trans (hM.mono (by omega))).grown hgr2 (by omega) (own_block hov)).setCell (p := ⟨B + 1, 0, none⟩) (Nat.le_succ _) _
                have hn1 : Blk (W2.setCell ⟨B + 1, 0, none⟩ (.slice a2 (L.length + 1) c2)) (B + 2) 22 #[.slice a n c] := (Below.heap_setCell _ _ _ _ (by simp)).trans (hoth (B + 2) _ (HR1r.out.below' hM) (by simp) (by intro cc fz e; cases e))
                have hn2 : Blk (W2.setCell ⟨B + 1, 0, none⟩ (.slice a2 (L.length + 1) c2)) (B + 2 + 1) 3 #[.int .i64 4] := (Below.heap_setCell _ _ _ _ (by simp)).trans (hoth (B + 2 + 1) _ (HR2r.out.below' hM) (by simp) (by intro cc fz e; cases e))
                have hKn : KeepsFrom w5.heap.size W (W2.setCell ⟨B + 1, 0, none⟩ (.slice a2 (L.length + 1) c2)) := HKr.out.trans ⟨by have := hgr2.size; simp [World.setCell]; omega, fun kk o _ hko ho => by
                  have h1 : w'.heap[kk]? = some o := (hM.block kk (Array.getElem?_eq_some_iff.1 hko).1).trans hko
                  have hne1 : kk ≠ B + 1 := fun e => by subst e; rw [hBv] at h1; cases h1; cases ho
                  have h2 := hoth kk o h1 (by simpa using hne1) (by rintro cc fz rfl; cases ho)
                  exact (Below.heap_setCell _ _ _ _ hne1).trans h2⟩
                have HN1 := hide hn1
                have HN2 := hide hn2
                have HKn := hide hKn
                generalize W2.setCell ⟨B + 1, 0, none⟩ (.slice a2 (L.length + 1) c2) = W9 at HOut HBn HN1 HN2 HKn ⊢
                clear hrun hown2 hgr2 hvb hoth hO2 g2 f2 hn1 hn2 hKn hBv hov hb5 e0 e5 hall hlo
                gi_wp2_with fail
                go_roundw
                case rel => exact ⟨q + 1, by omega, by go_num, HOut, HBn, HN1, HN2, HKn⟩
                case measure => simp [intOf]; omega
            · have hqk : q = 2 := by omega
              gi_wp2_with fail
              refine ⟨HKr.out, ⟨HR1r.out.trans H5.out.symm, HR2r.out.trans H6'.out.symm⟩, ?_, ?_, HBr.out, HR1r.out, HR2r.out⟩
              · intro y hy
                rcases List.mem_append.1 hy with hy | hy
                · exact HAll.out y hy
                · rw [List.mem_singleton] at hy
                  subst hy
                  rw [← HJ.out, HGood.out]
                  rfl
              · have := HOr.out
                rw [hqk] at this
                rw [List.flatMap_append, List.flatMap_singleton, ← HJ.out]
                have e6 : gb ns j = Sl.pieces T 8 2 := by
                  unfold gb
                  rw [HGood.out]
                  rfl
                rw [e6]
                exact this
        · have hne : True := trivial
          gi_wp2_with fail
          clear hne
          generalize T * 16777216 % 4294967296 % 16777216 = y1
          gi_loopw [42] (fun i wr => ∃ q : Nat, q ≤ 3 ∧ i = .int .i64 q ∧ Hid (Out B (B + 1) (pre.flatMap (fun x => gb ns x.val) ++ Sl.pieces T 8 q) wr) ∧ Hid (Below B w5 wr) ∧ Hid (Blk wr (B + 2) 22 #[.slice a n c]) ∧ Hid (Blk wr (B + 2 + 1) 3 #[.int .i64 4]) ∧ Hid (KeepsFrom w5.heap.size W wr)) (fun i _ => 3 - (intOf i).toNat)
          case atStart => exact ⟨0, by omega, rfl, by show Out B (B + 1) (_ ++ []) W; rw [List.append_nil]; exact HO.out, H4, H5, H6', KeepsFrom.refl _ _⟩
          case round =>
            obtain ⟨q, hq, rfl, HOr, HBr, HR1r, HR2r, HKr⟩ := hrel
            by_cases hlt : q < 3
            · obtain ⟨av, cv, hbv, hov⟩ := HOr.out
              have hfl := gb_length ns pre
              have hpl := HP.out
              have hnn : nch4 n ≤ 1000000 := by unfold nch4; omega
              obtain ⟨L, hL⟩ : ∃ L, L = pre.flatMap (fun x => gb ns x.val) ++ Sl.pieces T 8 q := ⟨_, rfl⟩
              have hLl : L.length ≤ 4000000 := by rw [hL, List.length_append, show (Sl.pieces T 8 q).length = q by simp [Sl.pieces]]; omega
              rw [← hL] at hbv hov
              have HL := hide hL
              obtain ⟨v, hv⟩ : ∃ v, v = Value.slice av L.length cv := ⟨_, rfl⟩
              rw [← hv] at hbv hov
              have g0 := hbv.cell 0
              have f0 := hbv.frozen 0
              simp only [List.getElem?_toArray, List.getElem?_cons_zero] at g0
              obtain ⟨p, hp⟩ : ∃ p, p = Sl.piece T q 8 := ⟨_, rfl⟩
              have hp0 : 0 ≤ p ∧ p < 256 := by rw [hp]; unfold Sl.piece; simp; omega
              have hwp : IntKind.u8.wrap p = p := by rw [IntKind.wrap_u8]; omega
              have HBv := hide hbv
              have HOv := hide hov
              have HPp := hide hp
              have hzr := HBr.out.size
              have HG0 := hide g0
              clear hbv hov hL hv hp hfl g0 f0
              gi_wp2_with fail
              generalize decide ((q : Int) < 3) = bz
              refine' wpIn_region_facts2' 6 (by rfl) (by rfl) rfl [(fun _ _ x _ => x = v), (fun _ _ x _ => x = .int .u32 T), (fun _ _ x _ => x = .int .i64 (q : Int)), (fun _ _ x _ => x = .int .u32 p), (fun _ _ x _ => x = .int .u8 p), (fun lo _ x w => x = .slice (some ⟨lo, 0, none⟩) 1 1 ∧ Hid (Blk w lo 5 #[.int .u8 p]))] (by kernel_rfl) ?hA (by kernel_rfl) (by kernel_rfl) (by kernel_rfl) (by kernel_rfl) rfl ?mono ?steps ?last
              case hA =>
                intro vs
                simp only [puts, Act.put, List.setIfInBounds_toArray, List.set_cons_zero, List.set_cons_succ, Nat.zero_add, Nat.reduceAdd]
                rfl
              case mono => exact ⟨mono_eq _, mono_eq _, mono_eq _, mono_eq _, mono_eq _, fun lo hi x w w' h b => ⟨h.1, h.2.out.below' b⟩, trivial⟩
              case steps =>
                intro Q'
                refine And.intro ?_ ?_
                · intro vs lo hi w' hM hd K' hK
                  dsimp only at hK ⊢
                  simp only [Act.put, List.setIfInBounds_toArray, List.set_cons_zero, List.set_cons_succ] at hK
                  have q0 := (hM.cell (p := ⟨B + 1, 0, none⟩) HBv.out.lt).trans HG0.out
                  go_simp
                  exact hK.out _ _ rfl (Below.refl _ _)
                refine And.intro ?_ ?_
                · intro vs lo hi w' hM hd K' hK
                  dsimp only at hK ⊢
                  simp only [Act.put, List.setIfInBounds_toArray, List.set_cons_zero, List.set_cons_succ] at hK
                  go_simp
                  exact hK.out _ _ rfl (Below.refl _ _)
                refine And.intro ?_ ?_
                · intro vs lo hi w' hM hd K' hK
                  dsimp only at hK ⊢
                  simp only [Act.put, List.setIfInBounds_toArray, List.set_cons_zero, List.set_cons_succ] at hK
                  go_simp
                  exact hK.out _ _ rfl (Below.refl _ _)
                refine And.intro ?_ ?_
                · intro vs lo hi w' hM hd K' hK
                  dsimp only at hK ⊢
                  simp only [Act.put, List.setIfInBounds_toArray, List.set_cons_zero, List.set_cons_succ] at hK
                  have e1 : vs 1 = .int .u32 T := hd 1 (by kernel_rfl)
                  simp only [e1] at hK ⊢
                  clear e1
                  have e2 : vs 2 = .int .i64 (q : Int) := hd 2 (by kernel_rfl)
                  simp only [e2] at hK ⊢
                  clear e2
                  go_simp
                  refine ⟨trivial, ?_⟩
                  refine (CallsIn.inRound l (callsIn_wide.2 (piece8v T p q _ h24.1 h24.2 (by omega) HPp.out))).mono ?_
                  rintro e w7 ⟨rfl, nd, rfl⟩
                  exact hK.out _ _ rfl (below_drewN (Below.refl _ _) nd)
                refine And.intro ?_ ?_
                · intro vs lo hi w' hM hd K' hK
                  dsimp only at hK ⊢
                  simp only [Act.put, List.setIfInBounds_toArray, List.set_cons_zero, List.set_cons_succ] at hK
                  have e3 : vs 3 = .int .u32 p := hd 3 (by kernel_rfl)
                  simp only [e3] at hK ⊢
                  clear e3
                  go_simp
                  exact hK.out _ _ rfl (Below.refl _ _)
                refine And.intro ?_ ?_
                · intro vs lo hi w' hM hd K' hK
                  dsimp only at hK ⊢
                  simp only [Act.put, List.setIfInBounds_toArray, List.set_cons_zero, List.set_cons_succ] at hK
                  have e4 : vs 4 = .int .u8 p := hd 4 (by kernel_rfl)
                  simp only [e4] at hK ⊢
                  clear e4
                  go_simp
                  exact hK.out _ _ ⟨rfl, blk_new w' 5 #[.int .u8 p]⟩ ((Below.refl _ _).alloc (Nat.le_refl _) _)
                exact trivial
              case last =>
                intro vs lo hi w' hM hlo hall
                have e0 : vs 0 = v := hall.1
                have e5 : vs 5 = .slice (some ⟨lo 5, 0, none⟩) 1 1 := hall.2.2.2.2.2.1.1
                have hb5 : Blk w' (lo 5) 5 #[.int .u8 p] := hall.2.2.2.2.2.1.2.out
                have hl5 := (hlo 5 (by omega)).1
                have hBv : Blk w' (B + 1) 22 #[v] := HBv.out.below' hM
                have hov := own_below HOv.out hM
                have hz := hM.size
                obtain ⟨a2, c2, W2, hrun, hown2, hgr2⟩ := append_one (w := w') 22 5 (.int .u8 0) 1 Tryd.underlying22 infoByte rfl B v L.length (L.map b8) hov (lo := lo 5) (m := 1) (c := 1) (news := [.int .u8 p]) rfl (fun jj u hu => by rw [hb5.cell jj]; simpa using hu) (by simp [Value.oneCell']) (by omega) (by omega) (by omega)
                have hvb : ∀ g, v.ownBlock = some g → ∃ cc fz, w'.heap[g]? = some (.cells cc 5 fz) := fun g hg => Lib.ownsRowF_kind (World.ownsRowF_of hov) g hg
                have hoth : Lib.OthersKept 5 (some (B + 1)) w' W2 := (Lib.OthersKept.refl _ _ w').grown hgr2 hvb
                have hO2 : Blk W2 (B + 1) 22 #[v] := ((Lib.OthersKept.refl 5 none w').grown hgr2 hvb) (B + 1) _ hBv (by simp) (by intro cc fz e; cases e)
                refine operIn_append_run rfl rfl (.tmp 45) (.tmp 50) 22 rfl _ _ e0 e5 hrun ?_
                have g2 := hO2.cell 0
                have f2 := hO2.frozen 0
                simp only [List.getElem?_toArray, List.getElem?_cons_zero] at g2
                refine wpOpIn_step rfl (fun K' hK => ?_)
                dsimp only [Act.put]
                go_simp
                refine hK _ _ ?_
                have HOut : Hid (Out B (B + 1) (pre.flatMap (fun x => gb ns x.val) ++ Sl.pieces T 8 (q + 1)) (W2.setCell ⟨B + 1, 0, none⟩ (.slice a2 (L.length + 1) c2))) := by
                  have e9 : pre.flatMap (fun x => gb ns x.val) ++ Sl.pieces T 8 (q + 1) = L ++ [p] := by rw [Sl.pieces_succ, ← List.append_assoc, ← HL.out, ← HPp.out]
                  show Out B (B + 1) _ _
                  rw [e9]
                  refine ⟨a2, c2, ?_, ?_⟩
                  · rw [List.length_append]
                    exact hO2.set 0 _
                  · rw [List.length_append, List.map_append]
                    obtain ⟨h1, h2⟩ := hown2
                    refine ⟨h1, ?_⟩
                    rcases h2 with h2 | ⟨g, cap, cur, hv, hg, hh, rr⟩
                    · exact .inl h2
                    · exact .inr ⟨g, cap, cur, hv, hg, (Below.heap_setCell _ _ _ _ (fun e => by subst e; rw [hO2] at hh; cases hh)).trans hh, rr⟩
                have hzr := HBr.out.size
                have HBn : Hid (Below B w5 (W2.setCell ⟨B + 1, 0, none⟩ (.slice a2 (L.length + 1) c2))) := ((HBr.out.trans (hM.mono (by omega))).grown hgr2 (by omega) (own_block hov)).setCell (p := ⟨B + 1, 0, none⟩) (Nat.le_succ _) _
                have hn1 : Blk (W2.setCell ⟨B + 1, 0, none⟩ (.slice a2 (L.length + 1) c2)) (B + 2) 22 #[.slice a n c] := (Below.heap_setCell _ _ _ _ (by simp)).trans (hoth (B + 2) _ (HR1r.out.below' hM) (by simp) (by intro cc fz e; cases e))
                have hn2 : Blk (W2.setCell ⟨B + 1, 0, none⟩ (.slice a2 (L.length + 1) c2)) (B + 2 + 1) 3 #[.int .i64 4] := (Below.heap_setCell _ _ _ _ (by simp)).trans (hoth (B + 2 + 1) _ (HR2r.out.below' hM) (by simp) (by intro cc fz e; cases e))
                have hKn : KeepsFrom w5.heap.size W (W2.setCell ⟨B + 1, 0, none⟩ (.slice a2 (L.length + 1) c2)) := HKr.out.trans ⟨by have := hgr2.size; simp [World.setCell]; omega, fun kk o _ hko ho => by
                  have h1 : w'.heap[kk]? = some o := (hM.block kk (Array.getElem?_eq_some_iff.1 hko).1).trans hko
                  have hne1 : kk ≠ B + 1 := fun e => by subst e; rw [hBv] at h1; cases h1; cases ho
                  have h2 := hoth kk o h1 (by simpa using hne1) (by rintro cc fz rfl; cases ho)
                  exact (Below.heap_setCell _ _ _ _ hne1).trans h2⟩
                have HN1 := hide hn1
                have HN2 := hide hn2
                have HKn := hide hKn
                generalize W2.setCell ⟨B + 1, 0, none⟩ (.slice a2 (L.length + 1) c2) = W9 at HOut HBn HN1 HN2 HKn ⊢
                clear hrun hown2 hgr2 hvb hoth hO2 g2 f2 hn1 hn2 hKn hBv hov hb5 e0 e5 hall hlo
                gi_wp2_with fail
                go_roundw
                case rel => exact ⟨q + 1, by omega, by go_num, HOut, HBn, HN1, HN2, HKn⟩
                case measure => simp [intOf]; omega
            · have hqk : q = 3 := by omega
              gi_wp2_with fail
              refine ⟨HKr.out, ⟨HR1r.out.trans H5.out.symm, HR2r.out.trans H6'.out.symm⟩, ?_, ?_, HBr.out, HR1r.out, HR2r.out⟩
              · intro y hy
                rcases List.mem_append.1 hy with hy | hy
                · exact HAll.out y hy
                · rw [List.mem_singleton] at hy
                  subst hy
                  rw [← HJ.out, HGood.out]
                  rfl
              · have := HOr.out
                rw [hqk] at this
                rw [List.flatMap_append, List.flatMap_singleton, ← HJ.out]
                have e6 : gb ns j = Sl.pieces T 8 3 := by
                  unfold gb
                  rw [HGood.out]
                  rfl
                rw [e6]
                exact this
  · clear b0 hr1 hr2 b1
    have c1 := HR1.out.cell 0
    have c2 := HR2.out.cell 0
    have f1 := HR1.out.frozen 0
    have f2 := HR2.out.frozen 0
    go_wp2_with fail
    obtain ⟨q1, q2, q3⟩ := two_set HB1.out HR1.out HR2.out (.slice none 0 0) (.bool false)
    refine ⟨_, results_bytes _ _ _ _ _ _ rfl rfl (q1.cell 0) (q2.cell 0), .inr ⟨rfl, ?_⟩, q3⟩
    unfold Sl.bytes
    rw [hns]
    rfl
end Go.Proofs.YtfcbooagedjkfaaDoor
