/-
  A region that draws its order, by facts: the head by one fact an operation; the tail, whose operations follow all of the head and one another, is walked in its order.
-/
import Derived.Test.YtpfbiklbecdmiaaRFacts
import Derived.StillTail
set_option linter.unusedVariables false
set_option linter.unusedSimpArgs false
namespace Go.Proofs.Ytpfbiklbecdmiaa
open Go.RowKit

theorem wpAny_seqF {P : Program} {ops : Array Oper} {md : Region.Mode} {Q' : Exit → Act → World → Prop} : ∀ (l : List Oper) (k f : Nat) (listed : Array Bool) (a : Act) (w : World), (∀ j, l[j]? = ops[k + j]?) →
    Region.seqB md ops l.length k listed = true → wpList P ops Q' l a w → wpAny P md ops Q' (f + l.length) listed a w
  | [], _, f, _, _, _, _, hB, h => wpAny_done (by simpa [Region.seqB] using hB) h f
  | o :: l, k, f, listed, a, w, hl, hB, h => by
    have h0 : ops[k]? = some o := by simpa using (hl 0).symm
    simp only [List.length_cons, Region.seqB, Bool.and_eq_true, decide_eq_true_eq] at hB
    show wpAny P md ops Q' ((f + l.length) + 1) listed a w
    refine ⟨fun h1 => (by rw [hB.1] at h1; cases h1), fun i hi => ?_⟩
    rw [hB.1] at hi
    have hik : i = k := by simpa using hi
    subst hik
    have hw : wpOp P ops Q' i (wpList P ops Q' l) a w := by unfold wpOp; simp only [h0]; exact h
    exact wpOp_mono (fun a' w' h' => wpAny_seqF l (i + 1) f _ a' w' (fun j => by have := hl (j + 1); simpa [Nat.add_assoc, Nat.add_comm 1 j] using this) hB.2 h') hw

/-- the steps of the head -/
def StepsH (P : Program) (ops : Array Oper) (Q : Exit → Act → World → Prop) (Fs : List Fact) (A : (Nat → Value) → Act) (w0 : World) : Nat → List Oper → Prop
  | _, [] => True
  | k, o :: l => Step P ops Q Fs A w0 k o ∧ StepsH P ops Q Fs A w0 (k + 1) l
theorem StepsH.at {P : Program} {ops : Array Oper} {Q : Exit → Act → World → Prop} {Fs : List Fact} {A : (Nat → Value) → Act} {w0 : World} : ∀ (l : List Oper) (m : Nat), StepsH P ops Q Fs A w0 m l → ∀ i o, l[i]? = some o → Step P ops Q Fs A w0 (m + i) o
  | [], _, _, _, _, h => by simp at h
  | o :: l, m, h, i, x, hx => by
    cases i with
    | zero =>
      simp at hx
      subst hx
      exact h.1
    | succ i =>
      have := StepsH.at l (m + 1) h.2 i x (by simpa using hx)
      rw [show m + 1 + i = m + (i + 1) by omega] at this
      exact this

theorem wpAny_factsT {P : Program} {L : List Oper} {n : Nat} {Q : Exit → Act → World → Prop} {Fs : List Fact} {a0 : Act} {w0 : World} {A : (Nat → Value) → Act}
    (hA : ∀ vs, puts vs 0 L a0 = A vs) (hd : dstB L = true) (hbk : backB 0 L = true) (hn : n < L.length) (hsk : Region.sinkB .any L.toArray n = true) (hch : Region.chainB .any L.toArray n = true)
    (hseq : Region.seqB .any L.toArray (L.drop n).length n (Array.replicate n true ++ Array.replicate (L.length - n) false) = true) (hF : MonoAll Fs) (hlen : Fs.length = n)
    (hs : StepsH P L.toArray Q Fs A w0 0 (L.take n))
    (hl : ∀ vs lo hi w, Below w0.heap.size w0 w → (∀ k, k < n → w0.heap.size ≤ lo k ∧ hi k ≤ w.heap.size) → AllF vs lo hi w 0 Fs → wpList P L.toArray Q (L.drop n) (A vs) w) :
    ∀ (fuel : Nat) (listed : Array Bool) (vs : Nat → Value) (lo hi : Nat → Nat) (w : World), HeadInv .any L.toArray n listed → listed.toList.count false ≤ fuel → Below w0.heap.size w0 w →
      (∀ k, listed.getD k false = true → (w0.heap.size ≤ lo k ∧ hi k ≤ w.heap.size) ∧ fct Fs k (lo k) (hi k) (vs k) w) → wpAny P .any L.toArray Q fuel listed (A vs) w := by
  intro fuel
  induction fuel with
  | zero =>
    intro listed vs lo hi w inv hcnt
    have ht := inv.tail n (Nat.le_refl _) (by simpa using hn)
    have hi : n < listed.size := by rw [inv.size]; simpa using hn
    have hv : listed[n] = false := by simpa [hi] using ht
    have h3 : 0 < listed.toList.count false := List.count_pos_iff.2 (by rw [← hv, ← Array.getElem_toList]; exact List.getElem_mem _)
    omega
  | succ fuel ih =>
    intro listed vs lo hi w inv hcnt hb hf
    by_cases hall : ∀ i, i < n → listed.getD i false = true
    · have hls : listed = Array.replicate n true ++ Array.replicate (L.length - n) false := by
        have hsz := inv.size
        apply Array.ext
        · rw [hsz]; simp; omega
        · intro i h1 h2
          by_cases hin : i < n
          · have h3 := hall i hin
            rw [Array.getElem_append_left (by simpa using hin)]
            simpa [h1] using h3
          · have h3 := inv.tail i (by omega) (by rw [← hsz]; exact h1)
            rw [Array.getElem_append_right (by simp; omega)]
            simpa [h1] using h3
      have hcm : (L.drop n).length ≤ fuel + 1 := by
        rw [hls] at hcnt
        simp [List.count_replicate] at hcnt ⊢
        omega
      obtain ⟨f, hf'⟩ : ∃ f, fuel + 1 = f + (L.drop n).length := ⟨fuel + 1 - (L.drop n).length, by omega⟩
      rw [hf', hls]
      refine wpAny_seqF (L.drop n) n f _ _ _ (fun j => by simp) hseq ?_
      exact hl vs lo hi w hb (fun k hk => (hf k (hall k hk)).1) (allF_of Fs 0 (fun i hi' => by rw [Nat.zero_add]; exact (hf i (hall i (by omega))).2))
    · have hun : ∃ i, i < n ∧ listed.getD i true = false := by
        apply Classical.byContradiction
        intro h
        apply hall
        intro i hi'
        cases hc : listed.getD i false with
        | true => rfl
        | false => exact (h ⟨i, hi', getD_in (by rw [inv.size]; simp; omega) hc⟩).elim
      obtain ⟨i0, hi0, hu0⟩ := hun
      have hnext : ∀ i, i ∈ Region.ready .any L.toArray listed → wpOp P L.toArray Q i (wpAny P .any L.toArray Q fuel (listed.setIfInBounds i true)) (A vs) w := by
        intro i hrd
        have hin : i < n := by
          rcases Nat.lt_or_ge i n with h | h
          · exact h
          · exact (tail_waits hsk hch (by simpa using hn) inv _ i0 rfl hi0 hu0 i h hrd).elim
        obtain ⟨hun, o, ho, hallr⟩ := mem_ready.1 hrd
        have ho' : L[i]? = some o := by simpa using ho
        have hst := StepsH.at (L.take n) 0 hs i o (by rw [List.getElem?_take, if_pos hin]; exact ho')
        rw [Nat.zero_add] at hst
        refine wpOp_step ho (fun K' hK => hst vs lo hi w hb (fun d hdep => ?_) K' (fun v w' hv hbw => ?_))
        · obtain ⟨e, he, h2, h3⟩ := depB_spec hdep
          subst h2
          exact (hf _ (hallr e he h3)).2
        · refine hK _ _ ?_
          have hset : (A vs).put o.dst v = A (fun i' => if i' = i then v else vs i') := by
            rw [← hA, ← hA]
            exact puts_set vs v i L 0 a0 o hd (Nat.zero_le _) ho'
          rw [hset]
          refine ih _ _ (fun i' => if i' = i then w.heap.size else lo i') (fun i' => if i' = i then w'.heap.size else hi i') _ (inv.set hrd hin) ?_ (bthen hb hbw) (fun k hk => ?_)
          · have := falses_set hun
            omega
          · have h9 := hbw.size
            have h8 := hb.size
            by_cases hki : k = i
            · subst hki
              simp only [if_pos]
              exact ⟨⟨h8, Nat.le_refl _⟩, hv⟩
            · simp only [if_neg hki]
              rcases getD_set_self hk with h5 | h5
              · exact absurd h5 hki
              · have h6 := (hf k h5).1
                exact ⟨⟨h6.1, by omega⟩, hF.at k _ _ _ _ _ (hf k h5).2 hbw⟩
      refine ⟨fun hnil => ?_, hnext⟩
      exfalso
      obtain ⟨m, hm, hpm, hmin⟩ := least (p := fun j => listed.getD j true = false) i0 hu0
      have hmo : ∃ o, L.toArray[m]? = some o := by
        rw [List.getElem?_toArray]
        exact ⟨_, List.getElem?_eq_getElem (by omega)⟩
      obtain ⟨o, ho⟩ := hmo
      have hin : m ∈ Region.ready .any L.toArray listed := mem_ready.2 ⟨hpm, o, ho, fun e he hbn => by
        have h1 := backB_at L 0 hbk m o (by simpa using ho) e he hbn
        have h2 := hmin e.on (by omega)
        have h3 : e.on < listed.size := by rw [inv.size]; simp; omega
        simp [h3] at h2 ⊢
        exact h2⟩
      rw [hnil] at hin
      cases hin

theorem wp_region_factsT {P : Program} {id : Nat} {L : List Oper} {Q : Exit → Act → World → Prop} (n : Nat) (Fs : List Fact) {a0 : Act} {w0 : World} {A : (Nat → Value) → Act} (hm : P.follows .mixedOrders = true) (hA : ∀ vs, puts vs 0 L a0 = A vs)
    (hB : (dstB L && backB 0 L && decide (n < L.length) && Region.sinkB .any L.toArray n && Region.chainB .any L.toArray n && Region.seqB .any L.toArray (L.drop n).length n (Array.replicate n true ++ Array.replicate (L.length - n) false)) = true)
    (hlen : Fs.length = n) (hF : MonoAll Fs)
    (hs : ∀ Q', StepsH P L.toArray Q' Fs A w0 0 (L.take n))
    (hl : ∀ vs lo hi w, Below w0.heap.size w0 w → (∀ k, k < n → w0.heap.size ≤ lo k ∧ hi k ≤ w.heap.size) → AllF vs lo hi w 0 Fs → wpList P L.toArray Q (L.drop n) (A vs) w) :
    (Code.region id L.toArray true).wp P Q a0 w0 := by
  simp only [Bool.and_eq_true, decide_eq_true_eq] at hB
  obtain ⟨⟨⟨⟨⟨hd, hbk⟩, hn⟩, hsk⟩, hch⟩, hseq⟩ := hB
  refine wp_region_any hm ?_
  obtain ⟨vs, hvs⟩ : ∃ vs : Nat → Value, ∀ i o, L[i]? = some o → vs (0 + i) = own a0 o :=
    ⟨fun i => match L[i]? with | some o => own a0 o | none => undef, fun i o ho => by simp only [Nat.zero_add, ho]⟩
  have e : a0 = A vs := by rw [← hA, puts_own a0 vs _ 0 hvs]
  have inv0 : HeadInv .any L.toArray n (Array.replicate L.toArray.size false) :=
    ⟨by simp, fun j oj _ hl => (by rw [getD_replicate_false] at hl; cases hl), fun t _ ht => getD_in (by simpa using ht) (getD_replicate_false _ _)⟩
  have h := wpAny_factsT hA hd hbk hn hsk hch hseq hF hlen (hs Q) hl L.toArray.size (Array.replicate L.toArray.size false) vs (fun _ => 0) (fun _ => 0) w0.drew inv0
    (Nat.le_trans List.count_le_length (by simp)) (Below.refl _ _).drew (fun k hk => by simp [Array.getD] at hk)
  rw [← e] at h
  exact h
end Go.Proofs.Ytpfbiklbecdmiaa
