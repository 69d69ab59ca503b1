/-
  THE WALK of All (frame).
-/
import Derived.Test.YtgfjpbiioaahhaaFNext
set_option linter.unusedVariables false
set_option linter.unusedSimpArgs false
set_option maxRecDepth 100000
namespace Go.Proofs.Ytgfjpbiioaahhaa
open Go.RowKit Go.Shelf Fr
attribute [local go_sem] Oper.semAt_some

/-- append(v, s), the row of s anywhere -/
theorem append_str_at {w : World} {base lo : Nat} {v : Value} {l : List Bs} (h : Strs base w v l) (s : Bs) (hc : w.cell? ⟨lo, 0, none⟩ = some (.string (strOf s))) (hbase : base ≤ w.heap.size) (hl : l.length + 1 ≤ 1000000000000) :
    ∃ v' w', (Builtin.append_ #[22, 22] 22 #[v, .slice (some ⟨lo, 0, none⟩) 1 1]).run Try.prog w = .ok v' w' ∧ Strs base w' v' (l ++ [s]) ∧ w.grownBy w' v.ownBlock := by
  obtain ⟨i0, hi, hz0, hz1, hz2⟩ := info_parts infoStr
  obtain ⟨v', w', hr, ho, hg, _, _⟩ := run_append_own_at w base 22 22 9 i0 (.string ⟨#[]⟩) 1 16 Try.underlying22 hi hz0 hz1 hz2 rfl (by decide) v l.length (strs l) h ⟨lo, 0, none⟩ 1 1 [.string (strOf s)] rfl
    (by
      intro j u hj
      have hj0 : j = 0 := by
        rcases Nat.eq_zero_or_pos j with h | h
        · exact h
        · rw [List.getElem?_eq_none (by simp; omega)] at hj; cases hj
      subst hj0
      simp at hj
      rw [← hj, Addr.add_lit]
      exact hc)
    (by intro u hu; simp at hu; subst hu; rfl) (by unfold maxLen; omega) (by omega) hbase
  refine ⟨v', w', hr, ?_, hg⟩
  show w'.ownsRow _ _ _ _ (l ++ [s]).length (strs (l ++ [s]))
  rw [List.length_append, show strs (l ++ [s]) = strs l ++ [.string (strOf s)] from List.map_append]
  exact ho
theorem Strs.grown {w w' : World} {base : Nat} {v : Value} {l : List Bs} {row : Option Nat} (h : Strs base w v l) (hg : w.grownBy w' row) (hr : ∀ r, row = some r → ∃ o : Obj, w.heap[r]? = some o ∧ o.isCells = false) : Strs base w' v l := by
  obtain ⟨h1, h2⟩ := h
  refine ⟨h1, ?_⟩
  rcases h2 with h2 | ⟨g, cap, cur, hv, hb, hh, r⟩
  · exact .inl h2
  · refine .inr ⟨g, cap, cur, hv, hb, (hg.block g (Array.getElem?_eq_some_iff.1 hh).1 (fun e => ?_)).trans hh, r⟩
    obtain ⟨o, ho, hc⟩ := hr g e.symm
    rw [hh] at ho
    cases ho
    cases hc
theorem Strs.set {w : World} {base g : Nat} {v u : Value} {l : List Bs} (h : Strs base w v l) (hg : g < base) : Strs base (w.setCell ⟨g, 0, none⟩ u) v l := by
  obtain ⟨h1, h2⟩ := h
  refine ⟨h1, ?_⟩
  rcases h2 with h2 | ⟨k, cap, cur, hv, hb, hh, r⟩
  · exact .inl h2
  · exact .inr ⟨k, cap, cur, hv, hb, (Below.heap_setCell _ _ _ _ (by intro e; have : k = g := e; omega)).trans hh, r⟩
theorem Strs.base {w : World} {base base' : Nat} {v : Value} {l : List Bs} (h : Strs base w v l) (hb : base' ≤ base) : Strs base' w v l := by
  obtain ⟨h1, h2⟩ := h
  refine ⟨h1, ?_⟩
  rcases h2 with h2 | ⟨k, cap, cur, hv, hk, r⟩
  · exact .inl h2
  · exact .inr ⟨k, cap, cur, hv, Nat.le_trans hb hk, r⟩

/-- what is no cells, and tables, lie as they lay -/
def Kept (W W' : World) : Prop := W.heap.size ≤ W'.heap.size ∧ ∀ (k : Nat) (o : Obj), W.heap[k]? = some o → (o.isCells = false ∨ ∃ cs, o = .cells cs 61 (0, 0)) → W'.heap[k]? = some o
theorem Kept.trans {a b c : World} (h : Kept a b) (k : Kept b c) : Kept a c := ⟨Nat.le_trans h.1 k.1, fun i o ho hc => k.2 i o (h.2 i o ho hc) hc⟩
theorem Kept.below {W W' : World} (h : Below W.heap.size W W') : Kept W W' := ⟨h.size, fun k o ho _ => (h.block k (Array.getElem?_eq_some_iff.1 ho).1).trans ho⟩
theorem Kept.set {W : World} {g : Nat} {cs : Array Value} {T : TypeId} (h : Blk W g cs T) (hT : T ≠ 61) (u : Value) : Kept W (W.setCell ⟨g, 0, none⟩ u) := by
  refine ⟨by simp [World.setCell], fun k o ho hc => (Below.heap_setCell _ _ _ _ (fun e => ?_)).trans ho⟩
  subst e
  rw [h] at ho
  cases ho
  rcases hc with hc | ⟨cs', hc⟩
  · cases hc
  · cases hc
    exact hT rfl
theorem Kept.grown {W W' : World} {base : Nat} {v : Value} {l : List Bs} (h : Strs base W v l) (hg : W.grownBy W' v.ownBlock) : Kept W W' := by
  refine ⟨hg.size, fun k o ho hc => (hg.block k (Array.getElem?_eq_some_iff.1 ho).1 (fun e => ?_)).trans ho⟩
  rcases h.2 with ⟨rfl, _⟩ | ⟨g, cap, cur, rfl, _, hh, _⟩
  · cases e
  · have : g = k := by simpa [Value.ownBlock] using e.symm
    subst this
    rw [hh] at ho
    cases ho
    rcases hc with hc | ⟨cs', hc⟩
    · cases hc
    · cases hc
theorem Kept.kt {W W' : World} (h : Kept W W') : KT W W' := fun g cs hb => h.2 g _ hb (.inr ⟨cs, rfl⟩)
theorem Kept.from {W W' : World} (h : Kept W W') (B : Nat) : KeepsFrom B W W' := ⟨h.1, fun k o _ hk ho => h.2 k o hk (.inl ho)⟩
theorem results_all (tmps : Array Value) (w : World) (v u : Value) (h1 : tmps.getD 2 undef = v) (h2 : tmps.getD 3 undef = u) : (results Try.f16 tmps).run Try.prog w = .ok (.tuple #[v, u]) w := by
  have h : Try.f16.results = #[.tmp 2, .tmp 3] := by kernel_rfl
  have h1' : tmps[2]?.getD undef = v := by simpa using h1
  have h2' : tmps[3]?.getD undef = u := by simpa using h2
  simp [results, h, h1', h2']
theorem took_most (l : List Rb) : took (rbs l) ≤ 131080 * l.length := by
  induction l with
  | nil => exact Nat.le_refl _
  | cons x l ih =>
    have := x.2
    unfold most at this
    simp [took, rbs] at ih ⊢
    omega
theorem all_length (s : Bs) : 8 * (all s).length ≤ s.length := Nat.le_trans (took_len _) (all_took s)
/-- a row of one string just made -/
def OneS (a : ByteArray) : Fact := fun lo hi v w => v = .slice (some ⟨lo, 0, none⟩) 1 1 ∧ Hid (w.cell? ⟨lo, 0, none⟩ = some (.string a))
theorem mono_oneS (a : ByteArray) : Mono (OneS a) := by
  rintro lo hi v w w' ⟨rfl, h⟩ k
  exact ⟨rfl, (k.cell (p := ⟨lo, 0, none⟩) (block_lt_of_cell h.out)).trans h.out⟩
theorem oneS_fact (a : ByteArray) (w : World) : OneS a w.heap.size (w.alloc (.cells #[.string a] 9)).heap.size (.slice (some ⟨w.heap.size, 0, none⟩) 1 1) (w.alloc (.cells #[.string a] 9)) :=
  ⟨rfl, (Blk.new w #[.string a] 9).cell 0⟩

set_option maxRecDepth 100000 in
set_option maxHeartbeats 1000000 in
theorem all_any (w : World) (s : ByteArray) (hs : s.size ≤ 1000000000) :
    Calls Try.prog 16 #[.string s] w fun e w' => ∃ v, e = .returned (.tuple #[v, .int .i64 (took (all (bs s)) : Nat)]) ∧ Strs w.heap.size w' v (all (bs s)) ∧ Below w.heap.size w w' := by
  obtain ⟨AL, hAL⟩ : ∃ AL, AL = all (bs s) := ⟨_, rfl⟩
  rw [← hAL]
  have hst := rows_stops 2 (by omega) (w.heap.size + 1 + 1) s hs
  have hlen8 := all_length (bs s)
  rw [← hAL] at hst hlen8
  rw [bs_length] at hlen8
  have HST := hide hst
  clear hst hAL
  refine (callsIn_wide (n := 3)).1 (callsIn_of_wp_marks Try.func16 rfl trivial ?_ rfl)
  refine wpIn_wide.2 ?_
  simp only [Try.ntmps16, List.size_toArray, List.length_cons, List.length_nil, Nat.reduceAdd, Nat.reduceSub, Array.replicate_succ, Array.replicate_zero, List.push_toArray, List.append_toArray, List.nil_append, List.cons_append]
  go_wp2_with (go_at_call 29; refine (callsIn_wide.1 (rows_any _ _ 3)).mono ?_; rintro e w' ⟨rfl, rfl⟩)
  obtain ⟨N, hN⟩ : ∃ N, N = w.heap.size := ⟨_, rfl⟩
  have k1 : Blk (w.alloc (.cells #[.slice none 0 0] 22)) N #[.slice none 0 0] 22 := by rw [hN]; exact Blk.new _ _ _
  have k2 : Blk ((w.alloc (.cells #[.slice none 0 0] 22)).alloc (.cells #[.int .i64 0] 3)) (N + 1) #[.int .i64 0] 3 := by
    have := Blk.new (w.alloc (.cells #[.slice none 0 0] 22)) #[.int .i64 0] 3
    rw [World.size_alloc, ← hN] at this
    exact this
  have k3 : Blk (((w.alloc (.cells #[.slice none 0 0] 22)).alloc (.cells #[.int .i64 0] 3)).alloc (.cells #[.string s] 9)) (N + 1 + 1) #[.string s] 9 := by
    have := Blk.new ((w.alloc (.cells #[.slice none 0 0] 22)).alloc (.cells #[.int .i64 0] 3)) #[.string s] 9
    rw [World.size_alloc, World.size_alloc, ← hN] at this
    exact this
  have hsz : (((w.alloc (.cells #[.slice none 0 0] 22)).alloc (.cells #[.int .i64 0] 3)).alloc (.cells #[.string s] 9)).heap.size = N + 3 := by rw [World.size_alloc, World.size_alloc, World.size_alloc, ← hN]
  have b3 : Below N w (((w.alloc (.cells #[.slice none 0 0] 22)).alloc (.cells #[.int .i64 0] 3)).alloc (.cells #[.string s] 9)) := by
    rw [hN]
    exact (((Below.refl _ _).alloc (Nat.le_refl _) _).alloc (by simp) _).alloc (by simp; omega) _
  have K1 := hide ((k1.alloc (.cells #[.int .i64 0] 3)).alloc (.cells #[.string s] 9))
  have K2 := hide (k2.alloc (.cells #[.string s] 9))
  have K3 := hide k3
  have HB := hide b3
  rw [← hN] at HST
  simp only [World.size_alloc, ← hN]
  generalize ((w.alloc (.cells #[.slice none 0 0] 22)).alloc (.cells #[.int .i64 0] 3)).alloc (.cells #[.string s] 9) = w0 at K1 K2 K3 HB hsz ⊢
  clear k1 k2 k3 b3
  have HN := hide hN
  clear hN
  refine (wpIn_wide (n := 3)).1 ?_
  refine' wpIn_rangeFunc_ownG rfl (by omega) (gf := 35) (lb := #[.pointer (some ⟨N + 1 + 1, 0, none⟩)]) rfl trivial (enters_of Try.func35 (by kernel_rfl) rfl)
    (HST.out w0 (K3.out.cell 0))
    (fun h k => KT.trans h k) (fun W l o o' hl ho hc hw => fun g cs hb => (World.putObj_heap_other (by rintro rfl; rw [hb] at ho; cases ho; cases hc)).trans hb) (Below.refl _ _) (fun _ => rfl)
    (fun pre W => (∃ v, Blk W N #[v] 22 ∧ Strs (N + 3) W v (rbs pre)) ∧ Blk W (N + 1) #[.int .i64 (took (rbs pre) : Nat)] 3 ∧ Below N w W ∧ N + 3 ≤ W.heap.size)
    (fun c pre W => False)
    (fun s W W' row hs hg' hr => by
      obtain ⟨⟨v, h1, h2⟩, h3, h4, h5⟩ := hs
      have hz := HB.out.size
      have hz4 := h4.size
      have hnn := HN.out
      exact ⟨⟨v, h1.grown hg' (fun r e => (hr r e).2), h2.grown hg' (fun r e => (hr r e).2)⟩, h3.grown hg' (fun r e => (hr r e).2), grown_below h4 hg' (by omega) (fun r e => by have := (hr r e).1; omega), Nat.le_trans h5 hg'.size⟩)
    (fun c s W W' row hs hg' hr => hs)
    ⟨⟨_, K1.out, World.ownsRow_nil ..⟩, K2.out, HB.out, by omega⟩ _ ?assign ?body ?done ?stop
  case assign =>
    intro l x W K hK
    gi_wp2
    exact hK
  case stop =>
    rintro D cc pre W hD _ h hK
    exact h.elim
  case done =>
    rintro D xs W hD hxs ⟨⟨v, h1, h2⟩, h3, h4, h5⟩ hK
    rw [hxs] at h2 h3
    have g1 := h1.cell 0
    have g2 := h3.cell 0
    have H1 := hide h1
    have H2 := hide h2
    have H3 := hide h3
    have H4 := hide h4
    clear h1 h2 h3 h4 hxs
    simp only [List.getElem?_toArray, List.getElem?_cons_zero] at g1 g2
    go_wp2_with fail
    go_quiet (fail)
    go_wp2_with fail
    have hnn := HN.out
    have hz := H4.out.size
    have hK2 : (W.drewN nq).heap[D]? = some (.deferred (some [])) := hK
    have hgp := grownBy_putObj' (W.drewN nq) D (.deferred none)
    have hnc : ∀ r, some D = some r → ∃ o : Obj, (W.drewN nq).heap[r]? = some o ∧ o.isCells = false := fun r e => by cases e; exact ⟨_, hK2, rfl⟩
    have q3 : Below N w (W.drewN nq) := below_drewN H4.out nq
    have q2 : Strs (N + 3) (W.drewN nq) v AL := H2.out
    refine ⟨by simp, .inl ⟨_, _, rfl, run_takeDeferred hK2, ?_⟩⟩
    refine ⟨_, results_all _ _ _ _ rfl rfl, v, rfl, ?_, ?_⟩
    · rw [← hnn]
      exact (q2.grown hgp hnc).base (by omega)
    · rw [← hnn]
      exact grown_below q3 hgp (by have := q3.size; omega) (fun r e => by cases e; omega)
  case body =>
    rintro l pre x W ⟨⟨v, h1, h2⟩, h3, h4, h5⟩ hlen
    have hxl := x.2
    have hsx : (strOf x.1).size = x.1.length := rfl
    have hcl := fun W' => clone_any W' (strOf x.1) (by rw [hsx]; unfold most at hxl; omega)
    have htk := took_most pre
    obtain ⟨tk, htke⟩ : ∃ tk, tk = took (rbs pre) := ⟨_, rfl⟩
    rw [← htke] at htk h3
    obtain ⟨SS, hSS⟩ : ∃ SS, SS = strOf x.1 := ⟨_, rfl⟩
    rw [← hSS] at hcl hsx
    simp only [← hSS]
    have HSS := hide hSS
    have HCL := hide hcl
    have hs8 : SS.size ≤ 131072 := by rw [hsx]; exact hxl
    have HSX := hide hsx
    have HTK := hide htke
    have hWs : w.heap.size ≤ W.heap.size := h4.size
    have htk2 : tk ≤ 20000000000000 := by omega
    have hpl : (rbs pre).length + 1 ≤ 1000000000000 := by simp [rbs]; omega
    have HPL := hide hpl
    have g0 := h1.cell 0
    have g1 := h3.cell 0
    have f0 := h1.free 0
    have f1 := h3.free 0
    simp only [List.getElem?_toArray, List.getElem?_cons_zero] at g0 g1
    have HG0 := hide g0
    have H1 := hide h1
    have H2 := hide h2
    have H3 := hide h3
    have H4 := hide h4
    clear hSS hcl hxl hsx h1 h2 h3 h4 hlen htk htke hpl g0 f0 g1 f1
    gi_wp2_with fail
    refine' wpIn_region_facts2' 4 (by rfl) (by rfl) rfl [(fun _ _ x _ => x = v), (fun _ _ x _ => x = .string SS), (fun _ _ x _ => x = .string SS), (OneS SS)] (by kernel_rfl) ?hA (by kernel_rfl) (by kernel_rfl) (by kernel_rfl) (by kernel_rfl) rfl ?mono ?steps ?last
    case hA =>
      intro vs
      simp only [puts, Act.put, List.setIfInBounds_toArray, List.set_cons_zero, List.set_cons_succ, Nat.zero_add, Nat.reduceAdd]
      rfl
    case mono => exact ⟨mono_eq _, mono_eq _, mono_eq _, mono_oneS _, trivial⟩
    case steps =>
      intro Q'
      refine And.intro ?_ ?_
      · intro vs lo hi w' hM hd K' hK
        dsimp only at hK ⊢
        simp only [Act.put, List.setIfInBounds_toArray, List.set_cons_zero, List.set_cons_succ] at hK
        have q0 := (hM.cell (p := ⟨N, 0, none⟩) H1.out.lt).trans HG0.out
        go_simp
        exact hK.out _ _ rfl (Below.refl _ _)
      refine And.intro ?_ ?_
      · intro vs lo hi w' hM hd K' hK
        dsimp only at hK ⊢
        simp only [Act.put, List.setIfInBounds_toArray, List.set_cons_zero, List.set_cons_succ] at hK
        go_simp
        exact hK.out _ _ rfl (Below.refl _ _)
      refine And.intro ?_ ?_
      · intro vs lo hi w' hM hd K' hK
        dsimp only at hK ⊢
        simp only [Act.put, List.setIfInBounds_toArray, List.set_cons_zero, List.set_cons_succ] at hK
        have e1 : vs 1 = .string SS := hd 1 (by kernel_rfl)
        simp only [e1] at hK ⊢
        clear e1
        go_simp
        refine ⟨trivial, ?_⟩
        refine (CallsIn.inRound l (callsIn_wide.2 (HCL.out w'))).mono ?_
        rintro e w7 ⟨rfl, b7⟩
        exact hK.out _ _ rfl b7
      refine And.intro ?_ ?_
      · intro vs lo hi w' hM hd K' hK
        dsimp only at hK ⊢
        simp only [Act.put, List.setIfInBounds_toArray, List.set_cons_zero, List.set_cons_succ] at hK
        have e2 : vs 2 = .string SS := hd 2 (by kernel_rfl)
        simp only [e2] at hK ⊢
        clear e2
        go_simp
        exact hK.out _ _ (oneS_fact SS w') (below_alloc _ _)
      exact trivial
    case last =>
      intro vs lo hi w' hM hlo hall
      have e0 : vs 0 = v := hall.1
      have e3 : vs 3 = .slice (some ⟨lo 3, 0, none⟩) 1 1 := hall.2.2.2.1.1
      have hc3 : w'.cell? ⟨lo 3, 0, none⟩ = some (.string (strOf x.1)) := by rw [← HSS.out]; exact hall.2.2.2.1.2.out
      have hB1 : Blk w' N #[v] 22 := H1.out.later hM
      have hB3 : Blk w' (N + 1) #[.int .i64 (tk : Int)] 3 := H3.out.later hM
      have hov := H2.out.later hM
      have hz := hM.size
      have hN3 : N + 3 ≤ w'.heap.size := by omega
      obtain ⟨v2, W2, hrun, hown2, hgr2⟩ := append_str_at hov x.1 hc3 hN3 HPL.out
      obtain ⟨v2', c2', rfl⟩ := hown2.shape
      have hnb : ∀ k, k < N + 3 → W2.heap[k]? = w'.heap[k]? := fun k hk => hgr2.block k (by omega) (fun e => by have := (hov.lt k e.symm).1; omega)
      have hO1 : Blk W2 N #[v] 22 := (hnb N (by omega)).trans hB1
      have hO3 : Blk W2 (N + 1) #[.int .i64 (tk : Int)] 3 := (hnb (N + 1) (by omega)).trans hB3
      refine operIn_append_run rfl rfl (.tmp 10) (.tmp 13) 22 rfl _ _ e0 e3 hrun ?_
      have g2 := hO1.cell 0
      have f2 := hO1.free 0
      simp only [List.getElem?_toArray, List.getElem?_cons_zero] at g2
      refine wpOpIn_step rfl (fun K' hK => ?_)
      dsimp only [Act.put]
      go_simp
      refine hK _ _ ?_
      have hk9 : Kept W (W2.setCell ⟨N, 0, none⟩ (.slice v2' (rbs pre ++ [x.1]).length c2')) := ((Kept.below hM).trans (Kept.grown hov hgr2)).trans (Kept.set hO1 (by decide) _)
      have hs9 : Strs (N + 3) (W2.setCell ⟨N, 0, none⟩ (.slice v2' (rbs pre ++ [x.1]).length c2')) (.slice v2' (rbs pre ++ [x.1]).length c2') (rbs pre ++ [x.1]) := hown2.set (by omega)
      have hb9 : Blk (W2.setCell ⟨N, 0, none⟩ (.slice v2' (rbs pre ++ [x.1]).length c2')) N #[.slice v2' (rbs pre ++ [x.1]).length c2'] 22 := hO1.set 0 _
      have hc9 : Blk (W2.setCell ⟨N, 0, none⟩ (.slice v2' (rbs pre ++ [x.1]).length c2')) (N + 1) #[.int .i64 (tk : Int)] 3 := (Below.heap_setCell _ _ _ _ (by simp)).trans hO3
      have hB9 : Below N w (W2.setCell ⟨N, 0, none⟩ (.slice v2' (rbs pre ++ [x.1]).length c2')) := ((H4.out.trans (hM.mono (by omega))).grown hgr2 (by omega) (fun k hk => by have := (hov.lt k hk).1; omega)).setCell (p := ⟨N, 0, none⟩) (Nat.le_refl _) _
      have hz9 : N + 3 ≤ (W2.setCell ⟨N, 0, none⟩ (.slice v2' (rbs pre ++ [x.1]).length c2')).heap.size := by have := hgr2.size; simp [World.setCell]; omega
      rw [show (rbs pre ++ [x.1]).length = (rbs pre).length + 1 by simp] at hk9 hs9 hb9 hc9 hB9 hz9
      have hk10 := hk9.trans (Kept.set hc9 (by decide) (.int .i64 ((tk : Int) + (8 + (SS.size : Int)))))
      have hb10 := hb9.other (show N ≠ N + 1 by omega) 0 (.int .i64 ((tk : Int) + (8 + (SS.size : Int))))
      have hc10 := hc9.set 0 (.int .i64 ((tk : Int) + (8 + (SS.size : Int))))
      have hs10 := hs9.set (g := N + 1) (u := .int .i64 ((tk : Int) + (8 + (SS.size : Int)))) (by omega)
      have hB10 := hB9.setCell (p := ⟨N + 1, 0, none⟩) (Nat.le_succ _) (.int .i64 ((tk : Int) + (8 + (SS.size : Int))))
      have hz10 : N + 3 ≤ ((W2.setCell ⟨N, 0, none⟩ (.slice v2' ((rbs pre).length + 1) c2')).setCell ⟨N + 1, 0, none⟩ (.int .i64 ((tk : Int) + (8 + (SS.size : Int))))).heap.size := by
        have e : ((W2.setCell ⟨N, 0, none⟩ (.slice v2' ((rbs pre).length + 1) c2')).setCell ⟨N + 1, 0, none⟩ (.int .i64 ((tk : Int) + (8 + (SS.size : Int))))).heap.size = (W2.setCell ⟨N, 0, none⟩ (.slice v2' ((rbs pre).length + 1) c2')).heap.size := by simp [World.setCell]
        rw [e]
        exact hz9
      have g3 := hc9.cell 0
      have f3 := hc9.free 0
      simp only [List.getElem?_toArray, List.getElem?_cons_zero] at g3
      generalize W2.setCell ⟨N, 0, none⟩ (.slice v2' ((rbs pre).length + 1) c2') = W9 at *
      have HK10 := hide hk10
      have HB10 := hide hb10
      have HC10 := hide hc10
      have HS10 := hide hs10
      have HBB10 := hide hB10
      have HZ10 := hide hz10
      clear hk9 hs9 hb9 hc9 hB9 hz9 hk10 hb10 hc10 hs10 hB10 hz10 hrun hown2 hgr2 hnb hO1 hO3 g2 f2 hK hlo hall e0 e3 hc3 hB1 hB3 hov
      gi_wp2_with fail
      refine ⟨HK10.out.from _, HK10.out.kt, ⟨.slice v2' ((rbs pre).length + 1) c2', ?_, ?_⟩, ?_, HBB10.out, HZ10.out⟩
      · exact HB10.out
      · rw [rbs_snoc]; exact HS10.out
      · have e : (took (rbs (pre ++ [x])) : Int) = (tk : Int) + (8 + (SS.size : Int)) := by rw [rbs_snoc, took_one, ← HTK.out, HSX.out]; omega
        rw [e]
        exact HC10.out
end Go.Proofs.Ytgfjpbiioaahhaa
