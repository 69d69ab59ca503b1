/-
  THE WALKS of package names: meant, Let.
-/
import Derived.Test.YtpfbiklbecdmiaaNLet
set_option linter.unusedVariables false
set_option linter.unusedSimpArgs false
namespace Go.Proofs.Ytpfbiklbecdmiaa
open Go.RowKit Go.Shelf
attribute [local go_sem] Oper.semAt_some

theorem patterns_stops (n : Nat) (hn : 1 ≤ n) (Ba Bk : Nat) (key : ByteArray) (v0 v1 v2 v3 v4 : Value) (x : V) (S : Nat → Prop) (hwt : V.wt x ≤ 4294967295) (ts : List ByteArray) (hts : ts = patsOf ((V.get x key).getD V.nul)) (w : World)
    (hI : Is w S (.agg #[v0, v1, v2, v3, v4]) x) (hBa : Box5 w Ba v0 v1 v2 v3 v4) (hBk : w.cell? ⟨Bk, 0, none⟩ = some (.string key)) :
    SeqStopsK Fence.wide n Try.prog 64 #[.pointer (some ⟨Ba, 0, none⟩), .pointer (some ⟨Bk, 0, none⟩)] (fun i : Fin ts.length => #[.string (ts[i.val]'i.isLt)]) KpC (fun ys => ys = uptoN ts.length ts.length) (fun pre => ∃ k, k ≤ ts.length ∧ pre = uptoN ts.length k) ts.length w := fun l J Jx W hW hJ hJx hY h0 =>
  patterns1_in n hn l Ba Bk key _ v0 v1 v2 v3 v4 x S rfl hwt ts hts W J Jx hJ hY (hI.below hW) (hBa.keep hW) (cell_below hBk hW) h0

theorem results_meant (tmps : Array Value) (w : World) (g1 : Nat) (v : Value) (h1 : tmps.getD 6 undef = .pointer (some ⟨g1, 0, none⟩)) (c1 : w.cell? ⟨g1, 0, none⟩ = some v) :
    (results Try.f40 tmps).run Try.prog w = .ok v w := by
  have h : Try.f40.results = #[.cell 6 4] := by kernel_rfl
  have h1' : tmps[6]?.getD undef = .pointer (some ⟨g1, 0, none⟩) := by simpa using h1
  simp [results, h, h1', asAddr, loadVar, go_sem, c1, Try.underlying4]

def meantB (x : V) (key host : ByteArray) : Bool := (patsOf ((V.get x key).getD V.nul)).any fun p => Nm.glob p.data.toList host.data.toList

theorem textsIn_wt (l : List V) : ∀ t ∈ textsIn l, t.size < V.wtL l := by
  intro t ht
  obtain ⟨z, hz, rfl⟩ := List.mem_map.1 ht
  have h1 := V.wtL_mem (List.mem_filter.1 hz).1
  have h2 := V.text_wt z
  omega
theorem patsOf_wt (x : V) (key : ByteArray) : ∀ t ∈ patsOf ((V.get x key).getD V.nul), t.size < V.wt x := by
  intro t ht
  cases hg : V.get x key with
  | none => rw [hg] at ht; simp [patsOf, V.nul] at ht
  | some y =>
    rw [hg] at ht
    have hy : y ∈ x.list := by
      rw [get_eqN] at hg
      split at hg
      · cases hg
      · exact List.mem_of_getElem? hg
    have h1 := V.wtL_mem hy
    have h2 := V.wtL_list x
    have h3 := V.wtL_list y
    unfold patsOf at ht
    split at ht
    · have := textsIn_wt y.list t ht
      omega
    · simp at ht

set_option maxRecDepth 100000 in
set_option maxHeartbeats 1000000 in
theorem meant_any (v0 v1 v2 v3 v4 : Value) (x : V) (S : Nat → Prop) (key host : ByteArray) (w : World) (hI : Is w S (.agg #[v0, v1, v2, v3, v4]) x) (hwt : V.wt x ≤ 4294967295) (hh : host.size ≤ 140737488355328) :
    Calls Try.prog 40 #[.agg #[v0, v1, v2, v3, v4], .string key, .string host] w fun e w' => e = .returned (.bool (meantB x key host)) ∧ Below w.heap.size w w' := by
  obtain ⟨ts, hts⟩ : ∃ ts, ts = patsOf ((V.get x key).getD V.nul) := ⟨_, rfl⟩
  have hsz : ∀ t ∈ ts, t.size < V.wt x := by rw [hts]; exact patsOf_wt x key
  obtain ⟨r, hr⟩ : ∃ r, r = meantB x key host := ⟨_, rfl⟩
  rw [← hr]
  have hra : r = ts.any fun p => Nm.glob p.data.toList host.data.toList := by rw [hr, hts]; rfl
  have HRA := nhide hra
  have HTS := nhide hts
  have HI := nhide hI
  have HSZ := nhide hsz
  clear hr hra hts hI hsz
  refine (callsIn_wide (n := 3)).1 (callsIn_of_wp_marks Try.func40 rfl trivial ?_ rfl)
  refine wpIn_wide.2 ?_
  simp only [Try.ntmps40, List.size_toArray, List.length_cons, List.length_nil, Nat.reduceAdd, Nat.reduceSub, Array.replicate_succ, Array.replicate_zero, List.push_toArray, List.append_toArray, List.nil_append, List.cons_append]
  go_wp2_with (go_at_call 54; refine (callsIn_wide.1 (patterns_any _ _ _ _ _ _ 3 _)).mono ?_; rintro e w' ⟨rfl, rfl⟩)
  obtain ⟨w5, hw5⟩ : ∃ w5, w5 = ((((w.alloc (.cells #[v0, v1, v2, v3, v4] 25)).alloc (.cells #[.string host] 9)).alloc (.cells #[.bool false] 4)).alloc (.cells #[v0, v1, v2, v3, v4] 25)).alloc (.cells #[.string key] 9) := ⟨_, rfl⟩
  rw [← hw5]
  have hB5 : Below w.heap.size w w5 := by
    rw [hw5]; exact bthen (bthen (bthen (bthen (below_alloc _ _) (below_alloc _ _)) (below_alloc _ _)) (below_alloc _ _)) (below_alloc _ _)
  have hs5 : w5.heap.size = w.heap.size + 5 := by rw [hw5]; simp
  have hHo : w5.cell? ⟨w.heap.size + 1, 0, none⟩ = some (.string host) := by
    rw [hw5]; exact cell_keep (cell_new _ _ _ _ (by simp)) (bthen (bthen (below_alloc _ _) (below_alloc _ _)) (below_alloc _ _))
  have hRe : w5.cell? ⟨w.heap.size + 1 + 1, 0, none⟩ = some (.bool false) := by
    rw [hw5]; exact cell_keep (cell_new _ _ _ _ (by simp)) (bthen (below_alloc _ _) (below_alloc _ _))
  have hRf : Fre w5 (w.heap.size + 1 + 1) := by
    rw [hw5]; exact (fre_new _ _ _ _ (by simp)).below (by simp) (bthen (below_alloc _ _) (below_alloc _ _))
  have hBa : Box5 w5 (w.heap.size + 1 + 1 + 1) v0 v1 v2 v3 v4 := by
    have h := box5_new (((w.alloc (.cells #[v0, v1, v2, v3, v4] 25)).alloc (.cells #[.string host] 9)).alloc (.cells #[.bool false] 4)) v0 v1 v2 v3 v4 25
    rw [hw5]
    have e : (((w.alloc (.cells #[v0, v1, v2, v3, v4] 25)).alloc (.cells #[.string host] 9)).alloc (.cells #[.bool false] 4)).heap.size = w.heap.size + 1 + 1 + 1 := by simp
    rw [e] at h
    exact h.keep (below_alloc _ _)
  have hBk : w5.cell? ⟨w.heap.size + 1 + 1 + 1 + 1, 0, none⟩ = some (.string key) := by
    rw [hw5]; exact cell_new _ _ _ _ (by simp)
  have hstop := patterns_stops 2 (by omega) _ _ key v0 v1 v2 v3 v4 x S hwt ts HTS.out w5 (HI.out.below hB5) hBa hBk
  have HB5 := nhide hB5
  have HHo := nhide hHo
  have HRe := nhide hRe
  have HRf := nhide hRf
  obtain ⟨N, hN⟩ : ∃ N, N = w.heap.size := ⟨_, rfl⟩
  rw [← hN] at HHo HRe HRf hstop hs5 ⊢
  have HN := nhide hN
  clear hw5 hB5 hHo hRe hRf hBa hBk hN HTS
  refine (wpIn_wide (n := 3)).1 ?_
  refine' wpIn_rangeFunc_ownG rfl (by omega) (gf := 64) (lb := #[.pointer (some ⟨N + 1 + 1 + 1, 0, none⟩), .pointer (some ⟨N + 1 + 1 + 1 + 1, 0, none⟩)]) rfl trivial (enters_of Try.func64 (by kernel_rfl) rfl)
    hstop
    (fun h k => h.trans k) (fun W l o o' hl ho hc hw => kpC_put W l o o' ho hc) (Below.refl _ _) (fun _ => rfl)
    (fun pre W => (∀ i ∈ pre, Nm.glob (ts[i.val]'i.isLt).data.toList host.data.toList = false) ∧ Below w5.heap.size w5 W)
    (fun c pre W => c = .ret ∧ (∃ i ∈ pre, Nm.glob (ts[i.val]'i.isLt).data.toList host.data.toList = true) ∧ W.cell? ⟨N + 1 + 1, 0, none⟩ = some (.bool true) ∧ Below N w W)
    (fun s W W' row hs hg' hr => ⟨hs.1, hs.2.grown hg' hs.2.size (fun r e => (hr r e).1)⟩)
    (fun c s W W' row hs hg' hr => by
      obtain ⟨h1, h2, h3, h4⟩ := hs
      have hz := HB5.out.size
      have hz2 := h4.size
      refine ⟨h1, h2, ?_, h4.grown hg' (by have := HN.out; omega) (fun r e => by have := (hr r e).1; omega)⟩
      rw [← h3]
      refine World.cell?_of_block (w := W) (hg'.block _ (cell_lt h3) (fun e => ?_))
      have := (hr _ e.symm).1
      simp only at this
      omega)
    ⟨(fun i hi => absurd hi (by simp)), Below.refl _ _⟩ _ ?assign ?body ?done ?stop
  case assign =>
    intro l i W K hK
    gi_wp2
    exact hK
  case stop =>
    rintro D cc pre W hD ⟨k, hk, hpre⟩ ⟨rfl, ⟨i, hi, hyes⟩, q1, q3⟩ hK
    refine wpIn_wide.2 ?_
    have hrt : r = true := by
      rw [HRA.out, List.any_eq_true]
      exact ⟨_, List.getElem_mem i.isLt, hyes⟩
    have HRT := nhide hrt
    have hz := q3.size
    have HBF : Hid (Below w.heap.size w (W.putObj D (.deferred none))) := by
      have h := q3.grown (grownBy_putObj' W D (.deferred none)) (by have := HN.out; omega) (fun r e => by cases e; omega)
      rw [HN.out] at h
      exact h
    have c1 : (W.putObj D (.deferred none)).cell? ⟨N + 1 + 1, 0, none⟩ = some (.bool true) := by
      rw [← q1]
      refine World.cell?_of_block (w := W) ((grownBy_putObj' W D (.deferred none)).block _ (cell_lt q1) (fun e => ?_))
      cases e
      simp only at hD
      omega
    clear hpre hyes hrt q1 q3
    go_wp2_with fail
    refine ⟨by simp, .inl ⟨_, _, rfl, run_takeDeferred hK, ?_⟩⟩
    exact ⟨_, results_meant _ _ _ _ rfl c1, by rw [HRT.out], HBF.out⟩
  case done =>
    rintro D xs W hD hxs ⟨hall, h4⟩ hK
    have hrf : r = false := by
      rw [HRA.out, ← Bool.not_eq_true, List.any_eq_true]
      rintro ⟨p, hp, hg⟩
      obtain ⟨i, hi, rfl⟩ := List.mem_iff_getElem.1 hp
      have hm : (⟨i, hi⟩ : Fin ts.length) ∈ xs := by
        rw [hxs]
        unfold uptoN
        rw [List.take_of_length_le (by simp)]
        exact List.mem_finRange _
      have := hall _ hm
      simp only at this
      rw [this] at hg
      cases hg
    have HRF := nhide hrf
    have g0 := cell_below HRe.out h4
    have f0 := HRf.out.below (cell_lt HRe.out) h4 0
    have hz := h4.size
    have q3 : Below w.heap.size w W := nthen HB5.out h4
    have Q3 := nhide q3
    clear hall hxs hrf q3
    go_wp2_with fail
    have c1 : ((W.setCell ⟨N + 1 + 1, 0, none⟩ (.bool false)).putObj D (.deferred none)).cell? ⟨N + 1 + 1, 0, none⟩ = some (.bool false) := by
      have c0 : (W.setCell ⟨N + 1 + 1, 0, none⟩ (.bool false)).cell? ⟨N + 1 + 1, 0, none⟩ = some (.bool false) := World.cell?_setCell_same _ _ _ g0
      rw [← c0]
      refine World.cell?_of_block (w := W.setCell ⟨N + 1 + 1, 0, none⟩ (.bool false)) ((grownBy_putObj' _ D (.deferred none)).block _ (cell_lt c0) (fun e => ?_))
      cases e
      simp only at hD
      omega
    have hD2 : (W.setCell ⟨N + 1 + 1, 0, none⟩ (.bool false)).heap[D]? = some (.deferred (some [])) :=
      (Below.heap_setCell _ _ _ _ (by simp only; omega)).trans hK
    have hb6 : Below w.heap.size w ((W.setCell ⟨N + 1 + 1, 0, none⟩ (.bool false)).putObj D (.deferred none)) := by
      have h1 : Below w.heap.size w (W.setCell ⟨N + 1 + 1, 0, none⟩ (.bool false)) := Q3.out.setCell (p := ⟨N + 1 + 1, 0, none⟩) (by have := HN.out; simp only; omega) _
      exact h1.grown (grownBy_putObj' _ D (.deferred none)) h1.size (fun r e => by cases e; have := HN.out; omega)
    refine ⟨by simp, .inl ⟨_, _, rfl, run_takeDeferred hD2, ?_⟩⟩
    exact ⟨_, results_meant _ _ _ _ rfl c1, by rw [HRF.out], hb6⟩
  case body =>
    rintro l pre i W ⟨hall, h4⟩ hlen
    obtain ⟨T, hT⟩ : ∃ T, T = ts[i.val]'i.isLt := ⟨_, rfl⟩
    have hTs : T.size ≤ 140737488355328 := by
      have := HSZ.out T (by rw [hT]; exact List.getElem_mem _)
      omega
    have hc0 := cell_below HHo.out h4
    have hg0 := cell_below HRe.out h4
    have hf0 := HRf.out.below (cell_lt HRe.out) h4 0
    have hz := h4.size
    have HAll := nhide hall
    have H4 := nhide h4
    have HT := nhide hT
    simp only [← hT]
    clear hall h4 hT hlen
    gi_wp2_with fail
    refine ⟨trivial, ?_⟩
    refine (CallsIn.inRound l (callsIn_wide.2 (glob_any T host W hTs hh))).mono ?_
    rintro e W2 ⟨rfl, nd, rfl⟩
    cases hgl : Nm.glob T.data.toList host.data.toList with
    | false =>
      have HG := nhide hgl
      clear hgl
      gi_wp2_with fail
      refine ⟨⟨Nat.le_refl _, fun _ _ _ h _ => h⟩, ⟨Nat.le_refl _, fun _ _ h _ => h⟩, ?_, below_drewN H4.out nd⟩
      intro j hj
      rcases List.mem_append.1 hj with hj | hj
      · exact HAll.out j hj
      · rw [List.mem_singleton] at hj
        subst hj
        rw [← HT.out]
        exact HG.out
    | true =>
      have HG := nhide hgl
      clear hgl
      gi_wp2_with fail
      have hg1 : (W.drewN nd).cell? ⟨N + 1 + 1, 0, none⟩ = some (.bool false) := hg0
      refine ⟨⟨by simp [World.setCell], fun kk o _ hko ho => ?_⟩, rfl, ⟨i, by simp, by rw [← HT.out]; exact HG.out⟩, World.cell?_setCell_same _ _ _ hg1, ?_⟩
      · have n1 : kk ≠ N + 1 + 1 := fun e => by
          subst e
          obtain ⟨ob, h1, h2⟩ := isCells_of_cell hg0
          rw [h1] at hko
          cases hko
          rw [h2] at ho
          cases ho
        exact (Below.heap_setCell _ _ _ _ n1).trans hko
      · have h1 : Below w.heap.size w (W.drewN nd) := below_drewN (nthen HB5.out H4.out) nd
        have h2 := h1.setCell (p := ⟨N + 1 + 1, 0, none⟩) (by have := HN.out; simp only; omega) (.bool true)
        rw [← HN.out] at h2
        exact h2

def denyB : ByteArray := ⟨#[100, 101, 110, 121]⟩
def allowB : ByteArray := ⟨#[97, 108, 108, 111, 119]⟩
def letB (x : V) (host : ByteArray) : Bool := if x.kind = 5 then !meantB x denyB host && meantB x allowB host else true

set_option maxHeartbeats 1000000 in
theorem let_any (v : Value) (x : V) (S : Nat → Prop) (host : ByteArray) (w : World) (hI : Is w S v x) (hwt : V.wt x ≤ 4294967295) (hh : host.size ≤ 140737488355328) :
    Calls Try.prog 24 #[v, .string host] w fun e w' => e = .returned (.bool (letB x host)) ∧ Below w.heap.size w w' := by
  obtain ⟨kv, lv, rfl, h2, h8, _⟩ := id hI.open
  obtain ⟨a1, c1, rfl, _⟩ := id h2
  obtain ⟨a2, c2, c, rfl, _⟩ := id h8
  by_cases hk : x.kind = 5
  · obtain ⟨r, hr⟩ : ∃ r, r = letB x host := ⟨_, rfl⟩
    rw [← hr]
    rw [letB, if_pos hk] at hr
    have HR := nhide hr
    have HI := nhide hI
    obtain ⟨q0, q1, q2, q3, q4⟩ := box5_new w (.int .i64 x.kind) (.int .i64 x.num) (.string x.text) (.slice a1 x.keys.length c1) (.slice a2 x.list.length c2) 25
    have b1 : Below w.heap.size w (w.alloc (.cells #[.int .i64 x.kind, .int .i64 x.num, .string x.text, .slice a1 x.keys.length c1, .slice a2 x.list.length c2] 25)) := below_alloc _ _
    have HQ : Hid (Box5 _ _ _ _ _ _ _) := box5_new w (.int .i64 x.kind) (.int .i64 x.num) (.string x.text) (.slice a1 x.keys.length c1) (.slice a2 x.list.length c2) 25
    have hkb : (x.kind == 5) = true := by simp [hk]
    have HK := nhide hk
    clear hr hI h2 h8 hk q0 q1 q2 q3 q4
    go_enter Try.func24, Try.ntmps24
    go_wp2_with fail
    generalize w.alloc (.cells #[.int .i64 x.kind, .int .i64 x.num, .string x.text, .slice a1 x.keys.length c1, .slice a2 x.list.length c2] 25) = W1 at b1 HQ ⊢
    refine (meant_any _ _ _ _ _ x S denyB host W1 (HI.out.below b1) hwt hh).mono ?_
    rintro e w2 ⟨rfl, b2⟩
    have b2' := bthen b1 b2
    obtain ⟨q0, q1, q2, q3, q4⟩ := HQ.out.keep b2
    cases hd : meantB x denyB host with
    | true =>
      have hrf : r = false := by rw [HR.out, hd]; rfl
      have HRF := nhide hrf
      clear hd hrf
      go_wp2_with fail
      go_ret
      exact ⟨by rw [HRF.out]; rfl, b2'⟩
    | false =>
      have hrf : r = meantB x allowB host := by rw [HR.out, hd]; rfl
      have HRF := nhide hrf
      clear hd hrf
      go_wp2_with fail
      refine (meant_any _ _ _ _ _ x S allowB host w2 (HI.out.below b2') hwt hh).mono ?_
      rintro e w3 ⟨rfl, b3⟩
      go_wp2_with fail
      go_ret
      exact ⟨by rw [HRF.out]; rfl, bthen b2' b3⟩
  · rw [letB, if_neg hk]
    exact let_other x.kind _ _ _ _ host w hk
end Go.Proofs.Ytpfbiklbecdmiaa
