/-
  THE WALK of Next (frame).
-/
import Derived.Test.YtgfjpbiioaahhaaFRows
set_option linter.unusedVariables false
set_option linter.unusedSimpArgs false
set_option maxRecDepth 100000
namespace Go.Proofs.Ytgfjpbiioaahhaa
open Go.RowKit Go.Shelf Fr
attribute [local go_sem] Oper.semAt_some

theorem Blk.grown {W W' : World} {g : Nat} {cs : Array Value} {T : TypeId} {row : Option Nat} (h : Blk W g cs T) (hg : W.grownBy W' row) (hr : ∀ r, row = some r → ∃ o : Obj, W.heap[r]? = some o ∧ o.isCells = false) : Blk W' g cs T := by
  refine (hg.block g h.lt (fun e => ?_)).trans h
  obtain ⟨o, ho, hc⟩ := hr g e.symm
  rw [h] at ho
  cases ho
  cases hc
theorem Blk.later {W W' : World} {g : Nat} {cs : Array Value} {T : TypeId} (h : Blk W g cs T) (k : Below W.heap.size W W') : Blk W' g cs T := (k.block g h.lt).trans h
theorem grown_below {B : Nat} {w W W' : World} {row : Option Nat} (h : Below B w W) (hg : W.grownBy W' row) (hB : B ≤ W.heap.size) (hr : ∀ r, row = some r → B ≤ r) : Below B w W' :=
  h.trans ⟨hg.os, hg.tape, hg.output, hg.size, fun k hk => hg.block k (by omega) (fun e => by have := hr k e.symm; omega)⟩
theorem two_set {w0 W : World} {N : Nat} {T T' : TypeId} {x y : Value} (hb : Below N w0 W) (h1 : Blk W N #[x] T) (h2 : Blk W (N + 1) #[y] T') (v u : Value) :
    Blk ((W.setCell ⟨N, 0, none⟩ v).setCell ⟨N + 1, 0, none⟩ u) N #[v] T ∧ Blk ((W.setCell ⟨N, 0, none⟩ v).setCell ⟨N + 1, 0, none⟩ u) (N + 1) #[u] T' ∧ Below N w0 ((W.setCell ⟨N, 0, none⟩ v).setCell ⟨N + 1, 0, none⟩ u) := by
  have g1 : Blk (W.setCell ⟨N, 0, none⟩ v) N #[v] T := h1.set 0 v
  have g2 : Blk (W.setCell ⟨N, 0, none⟩ v) (N + 1) #[y] T' := (Below.heap_setCell _ _ _ _ (by simp)).trans h2
  exact ⟨(Below.heap_setCell _ _ _ _ (by simp)).trans g1, g2.set 0 u, (hb.setCell (p := ⟨N, 0, none⟩) (Nat.le_refl _) v).setCell (p := ⟨N + 1, 0, none⟩) (Nat.le_succ _) u⟩
theorem results_next (tmps : Array Value) (w : World) (g1 g2 : Nat) (v u : Value) (h1 : tmps.getD 2 undef = .pointer (some ⟨g1, 0, none⟩)) (h2 : tmps.getD 3 undef = .pointer (some ⟨g2, 0, none⟩)) (c1 : w.cell? ⟨g1, 0, none⟩ = some v) (c2 : w.cell? ⟨g2, 0, none⟩ = some u) :
    (results Try.f18 tmps).run Try.prog w = .ok (.tuple #[v, u]) w := by
  have h : Try.f18.results = #[.cell 2 9, .cell 3 3] := by kernel_rfl
  have h1' : tmps[2]?.getD undef = .pointer (some ⟨g1, 0, none⟩) := by simpa using h1
  have h2' : tmps[3]?.getD undef = .pointer (some ⟨g2, 0, none⟩) := by simpa using h2
  simp [results, h, h1', h2', asAddr, loadVar, go_sem, c1, c2, Try.underlying9, Try.underlying3]
theorem KT.refl (W : World) : KT W W := fun _ _ h => h
theorem KT.trans {a b c : World} (h : KT a b) (k : KT b c) : KT a c := fun g cs hb => k g cs (h g cs hb)

set_option maxRecDepth 100000 in
set_option maxHeartbeats 1000000 in
theorem next_any2 (w : World) (s : ByteArray) (hs : s.size ≤ 1000000000) :
    Calls Try.prog 18 #[.string s] w fun e w' => NextIs s e ∧ Below w.heap.size w w' := by
  refine (callsIn_wide (n := 3)).1 (callsIn_of_wp_marks Try.func18 rfl trivial ?_ rfl)
  refine wpIn_wide.2 ?_
  simp only [Try.ntmps18, List.size_toArray, List.length_cons, List.length_nil, Nat.reduceAdd, Nat.reduceSub, Array.replicate_succ, Array.replicate_zero, List.push_toArray, List.append_toArray, List.nil_append, List.cons_append]
  go_wp2_with (go_at_call 29; refine (callsIn_wide.1 (rows_any _ _ 3)).mono ?_; rintro e w' ⟨rfl, rfl⟩)
  obtain ⟨N, hN⟩ : ∃ N, N = w.heap.size := ⟨_, rfl⟩
  have k1 : Blk (w.alloc (.cells #[.string ⟨#[]⟩] 9)) N #[.string ⟨#[]⟩] 9 := by rw [hN]; exact Blk.new _ _ _
  have k2 : Blk ((w.alloc (.cells #[.string ⟨#[]⟩] 9)).alloc (.cells #[.int .i64 0] 3)) (N + 1) #[.int .i64 0] 3 := by
    have := Blk.new (w.alloc (.cells #[.string ⟨#[]⟩] 9)) #[.int .i64 0] 3
    rw [World.size_alloc, ← hN] at this
    exact this
  have k3 : Blk (((w.alloc (.cells #[.string ⟨#[]⟩] 9)).alloc (.cells #[.int .i64 0] 3)).alloc (.cells #[.string s] 9)) (N + 1 + 1) #[.string s] 9 := by
    have := Blk.new ((w.alloc (.cells #[.string ⟨#[]⟩] 9)).alloc (.cells #[.int .i64 0] 3)) #[.string s] 9
    rw [World.size_alloc, World.size_alloc, ← hN] at this
    exact this
  have hsz : (((w.alloc (.cells #[.string ⟨#[]⟩] 9)).alloc (.cells #[.int .i64 0] 3)).alloc (.cells #[.string s] 9)).heap.size = N + 3 := by rw [World.size_alloc, World.size_alloc, World.size_alloc, ← hN]
  have b3 : Below N w (((w.alloc (.cells #[.string ⟨#[]⟩] 9)).alloc (.cells #[.int .i64 0] 3)).alloc (.cells #[.string s] 9)) := by
    rw [hN]
    exact (((Below.refl _ _).alloc (Nat.le_refl _) _).alloc (by simp) _).alloc (by simp; omega) _
  have K1 := hide ((k1.alloc (.cells #[.int .i64 0] 3)).alloc (.cells #[.string s] 9))
  have K2 := hide (k2.alloc (.cells #[.string s] 9))
  have K3 := hide k3
  have HB := hide b3
  simp only [World.size_alloc, ← hN]
  generalize ((w.alloc (.cells #[.string ⟨#[]⟩] 9)).alloc (.cells #[.int .i64 0] 3)).alloc (.cells #[.string s] 9) = w0 at K1 K2 K3 HB hsz ⊢
  clear k1 k2 k3 b3
  have HN := hide hN
  clear hN
  refine (wpIn_wide (n := 3)).1 ?_
  refine' wpIn_rangeFunc_ownG rfl (by omega) (gf := 35) (lb := #[.pointer (some ⟨N + 1 + 1, 0, none⟩)]) rfl trivial (enters_of Try.func35 (by kernel_rfl) rfl)
    (rows_stops 2 (by omega) (N + 1 + 1) s hs w0 (K3.out.cell 0))
    (fun h k => KT.trans h k) (fun W l o o' hl ho hc hw => fun g cs hb => (World.putObj_heap_other (by rintro rfl; rw [hb] at ho; cases ho; cases hc)).trans hb) (Below.refl _ _) (fun _ => rfl)
    (fun pre W => pre = [] ∧ Blk W N #[.string ⟨#[]⟩] 9 ∧ Blk W (N + 1) #[.int .i64 0] 3 ∧ Below N w W)
    (fun c pre W => c = .ret ∧ ∃ x : Rb, pre = [x] ∧ Blk W N #[.string (strOf x.1)] 9 ∧ Blk W (N + 1) #[.int .i64 (8 + (x.1.length : Int))] 3 ∧ Below N w W)
    (fun s W W' row hs hg' hr => by
      obtain ⟨h1, h2, h3, h4⟩ := hs
      have hz := HB.out.size
      have hz4 := h4.size
      have hnn := HN.out
      exact ⟨h1, h2.grown hg' (fun r e => (hr r e).2), h3.grown hg' (fun r e => (hr r e).2), grown_below h4 hg' (by omega) (fun r e => by have := (hr r e).1; omega)⟩)
    (fun c s W W' row hs hg' hr => by
      obtain ⟨h0, x, h1, h2, h3, h4⟩ := hs
      have hz := HB.out.size
      have hz4 := h4.size
      have hnn := HN.out
      exact ⟨h0, x, h1, h2.grown hg' (fun r e => (hr r e).2), h3.grown hg' (fun r e => (hr r e).2), grown_below h4 hg' (by omega) (fun r e => by have := (hr r e).1; omega)⟩)
    ⟨rfl, K1.out, K2.out, HB.out⟩ _ ?assign ?body ?done ?stop
  case assign =>
    intro l x W K hK
    gi_wp2
    exact hK
  case body =>
    rintro l pre x W ⟨rfl, h2, h3, h4⟩ hlen
    have hxl := x.2
    have hsx : (strOf x.1).size = x.1.length := rfl
    have hcl := clone_any W (strOf x.1) (by rw [hsx]; unfold most at hxl; omega)
    obtain ⟨SS, hSS⟩ : ∃ SS, SS = strOf x.1 := ⟨_, rfl⟩
    rw [← hSS] at hcl hsx
    simp only [← hSS]
    have HSS := hide hSS
    have HCL := hide hcl
    have HXL := hide hxl
    have hs8 : SS.size ≤ 131072 := by rw [hsx]; exact hxl
    have HSX := hide hsx
    clear hSS hcl hxl hsx
    have H2 := hide h2
    have H3 := hide h3
    have H4 := hide h4
    clear h2 h3 h4 hlen
    gi_wp2_with fail
    refine ⟨trivial, ?_⟩
    refine (CallsIn.inRound l (callsIn_wide.2 HCL.out)).mono ?_
    rintro e W1 ⟨rfl, b1⟩
    have q1 := H2.out.later b1
    have q2 := H3.out.later b1
    have hWs : w.heap.size ≤ W.heap.size := H4.out.size
    have q3 := H4.out.trans (b1.mono (by rw [HN.out]; exact hWs))
    have c1 := q1.cell 0
    have c2 := q2.cell 0
    have f1 := q1.free 0
    have f2 := q2.free 0
    simp only [List.getElem?_toArray, List.getElem?_cons_zero] at c1 c2
    have HEnd : Hid (ownPostG w0.heap.size KT
      (fun pre W => pre = [] ∧ Blk W N #[.string ⟨#[]⟩] 9 ∧ Blk W (N + 1) #[.int .i64 0] 3 ∧ Below N w W)
      (fun c pre W => c = .ret ∧ ∃ x : Rb, pre = [x] ∧ Blk W N #[.string (strOf x.1)] 9 ∧ Blk W (N + 1) #[.int .i64 (8 + (x.1.length : Int))] 3 ∧ Below N w W) ([] ++ [x]) W Exit.ret ⟨#[], []⟩ ((W1.setCell ⟨N, 0, none⟩ (.string SS)).setCell ⟨N + 1, 0, none⟩ (.int .i64 (8 + (SS.size : Int))))) := by
      obtain ⟨r1, r2, r3⟩ := two_set q3 q1 q2 (.string SS) (.int .i64 (8 + (SS.size : Int)))
      refine ⟨⟨by simp [World.setCell]; exact b1.size, fun kk o _ hko ho => ?_⟩, rfl, x, rfl, by rw [← HSS.out]; exact r1, by rw [← HSX.out]; exact r2, r3⟩
      have hk1 : W1.heap[kk]? = some o := (b1.block kk (Array.getElem?_eq_some_iff.1 hko).1).trans hko
      have n1 : kk ≠ N := fun e => by subst e; rw [q1] at hk1; cases hk1; cases ho
      have n2 : kk ≠ N + 1 := fun e => by subst e; rw [q2] at hk1; cases hk1; cases ho
      exact ((Below.heap_setCell _ _ _ _ n2).trans (Below.heap_setCell _ _ _ _ n1)).trans hk1
    clear q1 q2 q3
    gi_wp2_with fail
    exact HEnd.out
  case done =>
    rintro D xs W hD hxs ⟨rfl, h2, h3, h4⟩ hK
    have hnone : nx (bs s) = none := by
      cases h : nx (bs s) with
      | none => rfl
      | some b => rw [all_some h] at hxs; cases hxs
    have HNN := hide hnone
    have g1 := h2.cell 0
    have g2 := h3.cell 0
    have f1 := h2.free 0
    have f2 := h3.free 0
    have H2 := hide h2
    have H3 := hide h3
    have H4 := hide h4
    have hz := h4.size
    clear h2 h3 h4 hxs hnone
    simp only [List.getElem?_toArray, List.getElem?_cons_zero] at g1 g2
    go_wp2_with fail
    have hnn := HN.out
    obtain ⟨q1, q2, q3⟩ := two_set H4.out H2.out H3.out (.string ⟨#[]⟩) (.int .i64 0)
    have hD2 : ((W.setCell ⟨N, 0, none⟩ (.string ⟨#[]⟩)).setCell ⟨N + 1, 0, none⟩ (.int .i64 0)).heap[D]? = some (.deferred (some [])) :=
      ((Below.heap_setCell _ _ _ _ (by simp; omega)).trans (Below.heap_setCell _ _ _ _ (by simp; omega))).trans hK
    generalize (W.setCell ⟨N, 0, none⟩ (.string ⟨#[]⟩)).setCell ⟨N + 1, 0, none⟩ (.int .i64 0) = W6 at q1 q2 q3 hD2 ⊢
    have hgp := grownBy_putObj' W6 D (.deferred none)
    have hnc : ∀ r, some D = some r → ∃ o : Obj, W6.heap[r]? = some o ∧ o.isCells = false := fun r e => by cases e; exact ⟨_, hD2, rfl⟩
    have c1 := (q1.grown hgp hnc).cell 0
    have c2 := (q2.grown hgp hnc).cell 0
    refine ⟨by simp, .inl ⟨_, _, rfl, run_takeDeferred hD2, ?_⟩⟩
    refine ⟨_, results_next _ _ _ _ _ _ rfl rfl c1 c2, .inr ⟨HNN.out, rfl⟩, ?_⟩
    rw [← hnn]
    exact grown_below q3 hgp (by have := q3.size; omega) (fun r e => by cases e; omega)
  case stop =>
    rintro D cc pre W hD ⟨r, hr⟩ ⟨rfl, x, rfl, h2, h3, h4⟩ hK
    refine wpIn_wide.2 ?_
    have hsome : nx (bs s) = some x.1 := by
      cases h : nx (bs s) with
      | none => rw [all_none h] at hr; simp [rbs] at hr
      | some b =>
        rw [all_some h] at hr
        simp [rbs] at hr
        rw [hr.1]
    have HNN := hide hsome
    have hz := h4.size
    have hgp := grownBy_putObj' W D (.deferred none)
    have hnc : ∀ r, some D = some r → ∃ o : Obj, W.heap[r]? = some o ∧ o.isCells = false := fun r e => by cases e; exact ⟨_, hK, rfl⟩
    have c1 := (h2.grown hgp hnc).cell 0
    have c2 := (h3.grown hgp hnc).cell 0
    have HBF : Hid (Below N w (W.putObj D (.deferred none))) := grown_below h4 hgp (by have := HN.out; omega) (fun r e => by cases e; have := HN.out; omega)
    clear h2 h3 h4 hsome hr hgp hnc
    go_wp2_with fail
    refine ⟨by simp, .inl ⟨_, _, rfl, run_takeDeferred hK, ?_⟩⟩
    refine ⟨_, results_next _ _ _ _ _ _ rfl rfl c1 c2, .inl ⟨x.1, HNN.out, rfl⟩, ?_⟩
    rw [← HN.out]
    exact HBF.out
end Go.Proofs.Ytgfjpbiioaahhaa
