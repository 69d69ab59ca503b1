/-
  A region that draws its order, by facts, up to a pivot (an append, say) that waits for all ahead of it, and for which the rest waits; some of the rest may have been taken first.
-/
import Derived.Test.YtgfjpbiioaahhaaFFacts
set_option linter.unusedVariables false
set_option linter.unusedSimpArgs false
set_option maxRecDepth 100000
namespace Go.Proofs.Ytgfjpbiioaahhaa
open Go.RowKit

theorem wpAny_pivot {P : Program} {l : List Oper} {op : Oper} {tail : List Oper} {tl : List Bool} {Q : Exit → Act → World → Prop} {Fs : List Fact} {a0 : Act} {w0 : World} {A : (Nat → Value) → Act}
    (hA : ∀ vs, puts vs 0 l a0 = A vs) (hd : dstB l = true) (hbk : backB 0 (l ++ [op]) = true) (hc : coverB (l ++ [op]) = true) (hF : MonoAll Fs) (hlen : Fs.length = l.length) (htl : tl.length = tail.length)
    (htd : ∀ i o, tail[i]? = some o → tl.getD i true = false → depB o l.length = true)
    (hs : Steps P (l ++ op :: tail).toArray Q Fs A w0 0 (l ++ [op]))
    (hl : ∀ vs lo hi w, Below w0.heap.size w0 w → (∀ k, k < l.length → w0.heap.size ≤ lo k ∧ hi k ≤ w.heap.size) → (∀ j k, j < l.length → k < l.length → j ≠ k → hi j ≤ lo k ∨ hi k ≤ lo j) → AllF vs lo hi w 0 Fs →
      wpOp P (l ++ op :: tail).toArray Q l.length (fun a' w' => ∀ fuel, tl.count false ≤ fuel → wpAny P .any (l ++ op :: tail).toArray Q fuel (List.replicate (l.length + 1) true ++ tl).toArray a' w') (A vs) w) :
    ∀ (fuel : Nat) (listed : Array Bool) (vs : Nat → Value) (lo hi : Nat → Nat) (w : World), listed.size = l.length + 1 + tl.length → listed.getD l.length true = false → (∀ i, listed.getD (l.length + 1 + i) true = tl.getD i true) → listed.toList.count false ≤ fuel → Below w0.heap.size w0 w →
      (∀ k, k < l.length → listed.getD k false = true → (w0.heap.size ≤ lo k ∧ hi k ≤ w.heap.size) ∧ fct Fs k (lo k) (hi k) (vs k) w) → (∀ j k, j < l.length → k < l.length → listed.getD j false = true → listed.getD k false = true → j ≠ k → hi j ≤ lo k ∨ hi k ≤ lo j) →
      (∀ k o, (l ++ [op])[k]? = some o → k < l.length → listed.getD k false = true → ∀ j, depB o j = true → listed.getD j false = true) → wpAny P .any (l ++ op :: tail).toArray Q fuel listed (A vs) w := by
  intro fuel
  induction fuel with
  | zero =>
    intro listed vs lo hi w hsz hlast _ hcnt
    have hi : l.length < listed.size := by omega
    have hv : listed[l.length] = false := by simpa [hi] using hlast
    have h3 : 0 < listed.toList.count false := List.count_pos_iff.2 (by rw [← hv, ← Array.getElem_toList]; exact List.getElem_mem _)
    omega
  | succ fuel ih =>
    intro listed vs lo hi w hsz hlast htail hcnt hb hf hap hdn
    have hget : ∀ i, i ≤ l.length → (l ++ op :: tail)[i]? = (l ++ [op])[i]? := fun i hi' => by
      by_cases h : i < l.length
      · rw [List.getElem?_append_left h, List.getElem?_append_left h]
      · have : i = l.length := by omega
        subst this
        simp
    have hnext : ∀ i, i ∈ Region.ready .any (l ++ op :: tail).toArray listed → wpOp P (l ++ op :: tail).toArray Q i (wpAny P .any (l ++ op :: tail).toArray Q fuel (listed.setIfInBounds i true)) (A vs) w := by
      intro i hrd
      obtain ⟨hun, o, ho, hall⟩ := mem_ready.1 hrd
      have ho2 : (l ++ op :: tail)[i]? = some o := by simpa using ho
      by_cases hgt : l.length < i
      · exfalso
        obtain ⟨j, rfl⟩ : ∃ j, i = l.length + 1 + j := ⟨i - l.length - 1, by omega⟩
        have h1 := htail j
        rw [hun] at h1
        have h2 : tail[j]? = some o := by
          rw [List.getElem?_append_right (by omega), show l.length + 1 + j - l.length = j + 1 by omega, List.getElem?_cons_succ] at ho2
          exact ho2
        obtain ⟨e, he, h3, h4⟩ := depB_spec (htd j o h2 h1.symm)
        have h5 := hall e he h4
        rw [h3] at h5
        have h6 : l.length < listed.size := by omega
        simp [h6] at h5 hlast
        rw [hlast] at h5
        cases h5
      by_cases hil : i = l.length
      · subst hil
        have hol : o = op := by simpa using ho2.symm
        subst hol
        have hthere : ∀ d j, j < l.length → l.length - j ≤ d → listed.getD j false = true := by
          intro d
          induction d with
          | zero => intro j hj hd'; omega
          | succ d ihd =>
            intro j hj hd'
            obtain ⟨k, ok, hjk, hok, hdep⟩ := coverB_at hc j (by simpa using hj)
            by_cases hkl : k = l.length
            · subst hkl
              have : ok = o := by simpa using hok.symm
              subst this
              obtain ⟨e, he, h2, h3⟩ := depB_spec hdep
              have := hall e he h3
              rw [h2] at this
              exact this
            · have hkn : k < l.length := by
                have := (List.getElem?_eq_some_iff.1 hok).1
                simp at this
                omega
              exact hdn k ok hok hkn (ihd k hkn (by omega)) j hdep
        replace hthere : ∀ j, j < l.length → listed.getD j false = true := fun j hj => hthere (l.length - j) j hj (Nat.le_refl _)
        refine wpOp_mono (fun a' w' hq => ?_) (hl vs lo hi w hb (fun k hk => (hf k hk (hthere k hk)).1) (fun j k hj hk => hap j k hj hk (hthere j hj) (hthere k hk)) (allF_of Fs 0 (fun i hi' => by rw [Nat.zero_add]; exact (hf i (by omega) (hthere i (by omega))).2)))
        have heq : listed.setIfInBounds l.length true = (List.replicate (l.length + 1) true ++ tl).toArray := by
          apply Array.ext
          · simp [hsz]
          · intro j h1 h2
            rw [Array.getElem_setIfInBounds (by simpa using h1)]
            simp only [List.getElem_toArray]
            by_cases hjl : j < l.length + 1
            · rw [List.getElem_append_left (by simpa using hjl), List.getElem_replicate]
              split
              · rfl
              · have h4 := hthere j (by omega)
                have h5 : j < listed.size := by simpa using h1
                simpa [h5] using h4
            · rw [if_neg (by omega), List.getElem_append_right (by simp; omega)]
              have h5 : j < listed.size := by simpa using h1
              have h6 := htail (j - l.length - 1)
              rw [show l.length + 1 + (j - l.length - 1) = j by omega] at h6
              have h7 : j - l.length - 1 < tl.length := by omega
              simp [h5, h7] at h6
              simpa [Nat.sub_sub] using h6
        have hcz := falses_set hun
        rw [heq] at hcz ⊢
        refine hq fuel ?_
        have : (List.replicate (l.length + 1) true ++ tl).toArray.toList.count false = tl.count false := by
          rw [List.toList_toArray, List.count_append, List.count_replicate]
          simp
        omega
      · have hlt : i < l.length := by omega
        have hst := Steps.at (l ++ [op]) 0 hs i o (by rw [← hget i (by omega)]; exact ho2) (by simp; omega)
        rw [Nat.zero_add] at hst
        refine wpOp_step ho (fun K' hK => hst vs lo hi w hb (fun d hdep => ?_) K' (fun v w' hv hbw => ?_))
        · obtain ⟨e, he, h2, h3⟩ := depB_spec hdep
          subst h2
          have hlt2 := backB_at (l ++ [op]) 0 hbk i o (by rw [← hget i (by omega)]; exact ho2) e he h3
          exact (hf _ (by omega) (hall e he h3)).2
        · refine hK _ _ ?_
          have hli : l[i]? = some o := by
            rw [List.getElem?_append_left hlt] at ho2
            exact ho2
          have hset : (A vs).put o.dst v = A (fun i' => if i' = i then v else vs i') := by
            rw [← hA, ← hA]
            exact puts_set vs v i l 0 a0 o hd (Nat.zero_le _) (by simpa using hli)
          rw [hset]
          refine ih _ _ (fun i' => if i' = i then w.heap.size else lo i') (fun i' => if i' = i then w'.heap.size else hi i') _ (by simpa using hsz) (by rw [getD_set_ne true hil]; exact hlast) (fun k => by rw [getD_set_ne true (by omega)]; exact htail k) ?_ (bthen hb hbw) (fun k hkl hk => ?_) (fun j k hjl hkl hj hk hjk => ?_) (fun k ok hok hkl hk j hdep => ?_)
          · have := falses_set hun
            omega
          · have h9 := hbw.size
            have h8 := hb.size
            by_cases hki : k = i
            · subst hki
              simp only [if_pos]
              exact ⟨⟨h8, Nat.le_refl _⟩, hv⟩
            · simp only [if_neg hki]
              rcases getD_set_self hk with h5 | h5
              · exact absurd h5 hki
              · have h6 := (hf k hkl h5).1
                exact ⟨⟨h6.1, by omega⟩, hF.at k _ _ _ _ _ (hf k hkl h5).2 hbw⟩
          · by_cases hki : k = i
            · by_cases hji : j = i
              · omega
              · rcases getD_set_self hj with h5 | h5
                · exact absurd h5 hji
                · subst hki
                  simp only [if_neg hji, if_pos]
                  exact .inl (hf j hjl h5).1.2
            · rcases getD_set_self hk with h6 | h6
              · exact absurd h6 hki
              · by_cases hji : j = i
                · subst hji
                  simp only [if_neg hki, if_pos]
                  exact .inr (hf k hkl h6).1.2
                · rcases getD_set_self hj with h5 | h5
                  · exact absurd h5 hji
                  · simp only [if_neg hki, if_neg hji]
                    exact hap j k hjl hkl h5 h6 hjk
          · rcases getD_set_self hk with h5 | h5
            · subst h5
              have : ok = o := by
                rw [← hget k (by omega), ho2] at hok
                exact (Option.some.inj hok).symm
              subst this
              obtain ⟨e, he, h2, h3⟩ := depB_spec hdep
              have := hall e he h3
              rw [h2] at this
              exact getD_set_true this
            · exact getD_set_true (hdn k ok hok hkl h5 j hdep)
    refine ⟨fun hnil => ?_, hnext⟩
    exfalso
    obtain ⟨m, hm, hpm, hmin⟩ := least (p := fun j => listed.getD j true = false) l.length hlast
    have hmo : ∃ o, (l ++ op :: tail).toArray[m]? = some o := by
      rw [List.getElem?_toArray]
      exact ⟨_, List.getElem?_eq_getElem (by simp; omega)⟩
    obtain ⟨o, ho⟩ := hmo
    have ho2 : (l ++ [op])[m]? = some o := by rw [← hget m hm]; simpa using ho
    have hin : m ∈ Region.ready .any (l ++ op :: tail).toArray listed := mem_ready.2 ⟨hpm, o, ho, fun e he hbn => by
      have h1 := backB_at (l ++ [op]) 0 hbk m o ho2 e he hbn
      have h2 := hmin e.on (by omega)
      have h3 : e.on < listed.size := by omega
      simp [h3] at h2 ⊢
      exact h2⟩
    rw [hnil] at hin
    cases hin

/-- the same, from the state in which nothing but some of the tail has come up -/
theorem wpAny_pivot_start {P : Program} {l : List Oper} {op : Oper} {tail : List Oper} {tl : List Bool} {Q : Exit → Act → World → Prop} (Fs : List Fact) {a0 : Act} {w0 : World} {A : (Nat → Value) → Act} {fuel : Nat}
    (hA : ∀ vs, puts vs 0 l a0 = A vs) (hd : dstB l = true) (hbk : backB 0 (l ++ [op]) = true) (hc : coverB (l ++ [op]) = true) (hlen : Fs.length = l.length) (htl : tl.length = tail.length)
    (htd : ((tail.zip tl).all (fun x => x.2 || depB x.1 l.length)) = true) (hfuel : l.length + 1 + tl.count false ≤ fuel) (hF : MonoAll Fs)
    (hs : ∀ Q', Steps P (l ++ op :: tail).toArray Q' Fs A w0 0 (l ++ [op]))
    (hl : ∀ vs lo hi w, Below w0.heap.size w0 w → (∀ k, k < l.length → w0.heap.size ≤ lo k ∧ hi k ≤ w.heap.size) → (∀ j k, j < l.length → k < l.length → j ≠ k → hi j ≤ lo k ∨ hi k ≤ lo j) → AllF vs lo hi w 0 Fs → ∀ (K' : Act → World → Prop) (Q' : Exit → Act → World → Prop),
      Shut (∀ a' w', (∀ fuel, tl.count false ≤ fuel → wpAny P .any (l ++ op :: tail).toArray Q fuel (List.replicate (l.length + 1) true ++ tl).toArray a' w') → K' a' w') →
      if Region.wanted op (yielded (l ++ op :: tail).toArray (A vs).tmps) = true then Oper.wp P op (A vs) w K' Q' else K' ((A vs).put op.dst undef) w) :
    wpAny P .any (l ++ op :: tail).toArray Q fuel (List.replicate (l.length + 1) false ++ tl).toArray a0 w0 := by
  obtain ⟨vs, hvs⟩ : ∃ vs : Nat → Value, ∀ i o, l[i]? = some o → vs (0 + i) = own a0 o :=
    ⟨fun i => match l[i]? with | some o => own a0 o | none => undef, fun i o ho => by simp only [Nat.zero_add, ho]⟩
  have e : a0 = A vs := by rw [← hA, puts_own a0 vs _ 0 hvs]
  have hno : ∀ k, k < l.length + 1 → (List.replicate (l.length + 1) false ++ tl).toArray.getD k false = false := fun k hk => by
    have h1 : k < (List.replicate (l.length + 1) false ++ tl).toArray.size := by simp; omega
    simp only [Array.getD, h1, dite_true]
    simp only [Array.getInternal_eq_getElem, List.getElem_toArray]
    rw [List.getElem_append_left (by simpa using hk), List.getElem_replicate]
  have h := wpAny_pivot (tl := tl) (tail := tail) hA hd hbk hc hF hlen htl (fun i o ho hf => by
      have hi : i < tail.length := (List.getElem?_eq_some_iff.1 ho).1
      have hi2 : i < tl.length := by omega
      have h1 := (List.all_eq_true.1 htd) (tail[i], tl[i]) (by
        rw [List.mem_iff_getElem]
        exact ⟨i, by simp; omega, by simp⟩)
      have h2 : tl[i] = false := by simpa [List.getD, hi2] using hf
      have h3 : tail[i] = o := (List.getElem?_eq_some_iff.1 ho).2
      simpa [h2, h3] using h1) (hs Q) (fun vs lo hi w hb h1 h2 hf => wpOp_step (by simp) (fun K' hK => hl vs lo hi w hb h1 h2 hf K' Q hK)) fuel (List.replicate (l.length + 1) false ++ tl).toArray vs (fun _ => 0) (fun _ => 0) w0 (by simp) (by
        have h1 : l.length < (List.replicate (l.length + 1) false ++ tl).toArray.size := by simp; omega
        simp only [Array.getD, h1, dite_true]
        simp only [Array.getInternal_eq_getElem, List.getElem_toArray]
        rw [List.getElem_append_left (by simp), List.getElem_replicate]) (fun i => by
        simp only [Array.getD_eq_getD_getElem?, List.getElem?_toArray]
        rw [List.getElem?_append_right (by simp)]
        simp only [List.length_replicate, List.getD]
        congr 2
        omega) (by
        rw [List.toList_toArray, List.count_append, List.count_replicate]
        simp
        omega) (Below.refl _ _) (fun k hk hk2 => by rw [hno k (by omega)] at hk2; cases hk2) (fun j k hj _ hj2 => by rw [hno j (by omega)] at hj2; cases hj2) (fun k o _ hk hk2 => by rw [hno k (by omega)] at hk2; cases hk2)
  rw [← e] at h
  exact h

/-- the same for a list of operations that is written out, by the pivot's number -/
theorem wpAny_pivot_at {P : Program} (p : Nat) {L : List Oper} {op : Oper} (tl : List Bool) {Q : Exit → Act → World → Prop} (Fs : List Fact) {a0 : Act} {w0 : World} {A : (Nat → Value) → Act} {fuel : Nat} {listed : Array Bool} (hop : L[p]? = some op)
    (hls : listed = (List.replicate (p + 1) false ++ tl).toArray) (hA : ∀ vs, puts vs 0 (L.take p) a0 = A vs) (hd : dstB (L.take p) = true) (hbk : backB 0 (L.take p ++ [op]) = true) (hc : coverB (L.take p ++ [op]) = true) (hlen : Fs.length = p) (htl : tl.length = (L.drop (p + 1)).length)
    (htd : (((L.drop (p + 1)).zip tl).all (fun x => x.2 || depB x.1 p)) = true) (hfuel : p + 1 + tl.count false ≤ fuel) (hF : MonoAll Fs)
    (hs : ∀ Q', Steps P L.toArray Q' Fs A w0 0 (L.take p ++ [op]))
    (hl : ∀ vs lo hi w, Below w0.heap.size w0 w → (∀ k, k < p → w0.heap.size ≤ lo k ∧ hi k ≤ w.heap.size) → (∀ j k, j < p → k < p → j ≠ k → hi j ≤ lo k ∨ hi k ≤ lo j) → AllF vs lo hi w 0 Fs → ∀ (K' : Act → World → Prop) (Q' : Exit → Act → World → Prop),
      Shut (∀ a' w', (∀ fuel, tl.count false ≤ fuel → wpAny P .any L.toArray Q fuel (List.replicate (p + 1) true ++ tl).toArray a' w') → K' a' w') →
      if Region.wanted op (yielded L.toArray (A vs).tmps) = true then Oper.wp P op (A vs) w K' Q' else K' ((A vs).put op.dst undef) w) :
    wpAny P .any L.toArray Q fuel listed a0 w0 := by
  have hp : p < L.length := (List.getElem?_eq_some_iff.1 hop).1
  have hlp : (L.take p).length = p := by rw [List.length_take]; omega
  have hL : L.take p ++ op :: L.drop (p + 1) = L := by
    rw [← (List.getElem?_eq_some_iff.1 hop).2, ← List.drop_eq_getElem_cons hp, List.take_append_drop]
  have h := wpAny_pivot_start (P := P) (l := L.take p) (op := op) (tail := L.drop (p + 1)) (tl := tl) (Q := Q) Fs (a0 := a0) (w0 := w0) (A := A) (fuel := fuel) hA hd hbk hc (by rw [hlp]; exact hlen) htl (by rw [hlp]; exact htd) (by rw [hlp]; exact hfuel) hF (by rw [hL]; exact hs) (by rw [hL, hlp]; exact hl)
  rw [hL, hlp] at h
  rw [hls]
  exact h

end Go.Proofs.Ytgfjpbiioaahhaa
