/-
  A region that draws its order and holds two calls that WRITE, each on memory of its own: by what holds of the world ahead of and behind each of the two (J), and one fact of each operation's value. Each operation is shown once.
-/
import Derived.Test.YtmbjlnnoemenoaaKRFacts
set_option linter.unusedVariables false
set_option linter.unusedSimpArgs false
set_option maxRecDepth 100000
namespace Go.Proofs.Ytmbjlnnoemenoaa
open Go.RowKit

abbrev VFact := Value → Prop
def vfct (Fs : List VFact) (k : Nat) : VFact := Fs.getD k (fun _ => True)
def AllV (vs : Nat → Value) : Nat → List VFact → Prop
  | _, [] => True
  | k, f :: l => f (vs k) ∧ AllV vs (k + 1) l
theorem allV_of {vs : Nat → Value} : ∀ (l : List VFact) (k : Nat), (∀ i, i < l.length → vfct l i (vs (k + i))) → AllV vs k l
  | [], _, _ => trivial
  | f :: l, k, h => ⟨h 0 (by simp), allV_of l (k + 1) (fun i hi => by
      have := h (i + 1) (by simp; omega)
      rw [show k + (i + 1) = k + 1 + i by omega] at this
      exact this)⟩
/-- what is to be shown of one operation; b1, b2: is the first (the second) of the two calls done? -/
def StepJ (P : Program) (ops : Array Oper) (Q : Exit → Act → World → Prop) (Fs : List VFact) (A : (Nat → Value) → Act) (i1 i2 : Nat) (J : Bool → Bool → World → Prop) (k : Nat) (o : Oper) : Prop :=
  ∀ (vs : Nat → Value) (w : World) (b1 b2 : Bool), J b1 b2 w → (k = i1 → b1 = false) → (k = i2 → b2 = false) → (∀ d, depB o d = true → vfct Fs d (vs d)) → ∀ K' : Act → World → Prop,
    Shut (∀ v w', vfct Fs k v → J (if k = i1 then true else b1) (if k = i2 then true else b2) w' → K' ((A vs).put o.dst v) w') →
    if Region.wanted o (yielded ops (A vs).tmps) = true then Oper.wp P o (A vs) w K' Q else K' ((A vs).put o.dst undef) w
def StepsJ (P : Program) (ops : Array Oper) (Q : Exit → Act → World → Prop) (Fs : List VFact) (A : (Nat → Value) → Act) (i1 i2 : Nat) (J : Bool → Bool → World → Prop) : Nat → List Oper → Prop
  | _, [] => True
  | _, [_] => True
  | k, o :: o' :: l => StepJ P ops Q Fs A i1 i2 J k o ∧ StepsJ P ops Q Fs A i1 i2 J (k + 1) (o' :: l)
theorem StepsJ.at {P : Program} {ops : Array Oper} {Q : Exit → Act → World → Prop} {Fs : List VFact} {A : (Nat → Value) → Act} {i1 i2 : Nat} {J : Bool → Bool → World → Prop} : ∀ (l : List Oper) (m : Nat), StepsJ P ops Q Fs A i1 i2 J m l → ∀ i o, l[i]? = some o → i + 1 < l.length → StepJ P ops Q Fs A i1 i2 J (m + i) o
  | [], _, _, _, _, _, h => by simp at h
  | [_], _, _, i, _, _, h => by simp at h
  | o :: o' :: l, m, h, i, x, hx, hi => by
    cases i with
    | zero =>
      simp at hx
      subst hx
      exact h.1
    | succ i =>
      have := StepsJ.at (o' :: l) (m + 1) h.2 i x (by simpa using hx) (by simp at hi ⊢; omega)
      rw [show m + 1 + i = m + (i + 1) by omega] at this
      exact this

theorem wpAny_inv {P : Program} {l : List Oper} {olast : Oper} {Q : Exit → Act → World → Prop} {Fs : List VFact} {a0 : Act} {A : (Nat → Value) → Act} {i1 i2 : Nat} {J : Bool → Bool → World → Prop} (h1l : i1 < l.length) (h2l : i2 < l.length)
    (hA : ∀ vs, puts vs 0 (l ++ [olast]) a0 = A vs) (hd : dstB (l ++ [olast]) = true) (hbk : backB 0 (l ++ [olast]) = true) (hc : coverB (l ++ [olast]) = true) (hlen : Fs.length = l.length)
    (hs : StepsJ P (l ++ [olast]).toArray Q Fs A i1 i2 J 0 (l ++ [olast]))
    (hl : ∀ vs w, J true true w → AllV vs 0 Fs → wpOp P (l ++ [olast]).toArray Q l.length (fun a' w' => Q .normal a' w') (A vs) w) :
    ∀ (fuel : Nat) (listed : Array Bool) (vs : Nat → Value) (w : World), listed.size = l.length + 1 → listed.getD l.length true = false → listed.toList.count false ≤ fuel → J (listed.getD i1 false) (listed.getD i2 false) w →
      (∀ k, listed.getD k false = true → vfct Fs k (vs k)) → (∀ k o, (l ++ [olast])[k]? = some o → listed.getD k false = true → ∀ j, depB o j = true → listed.getD j false = true) → wpAny P .any (l ++ [olast]).toArray Q fuel listed (A vs) w := by
  intro fuel
  induction fuel with
  | zero =>
    intro listed vs w hsz hlast hcnt
    have hi : l.length < listed.size := by omega
    have hv : listed[l.length] = false := by simpa [hi] using hlast
    have h3 : 0 < listed.toList.count false := List.count_pos_iff.2 (by rw [← hv, ← Array.getElem_toList]; exact List.getElem_mem _)
    omega
  | succ fuel ih =>
    intro listed vs w hsz hlast hcnt hJ hf hdn
    have hnext : ∀ i, i ∈ Region.ready .any (l ++ [olast]).toArray listed → wpOp P (l ++ [olast]).toArray Q i (wpAny P .any (l ++ [olast]).toArray Q fuel (listed.setIfInBounds i true)) (A vs) w := by
      intro i hrd
      obtain ⟨hun, o, ho, hall⟩ := mem_ready.1 hrd
      have hlt : i < l.length + 1 := by
        have := (Array.getElem?_eq_some_iff.1 ho).1
        simpa using this
      by_cases hil : i = l.length
      · subst hil
        have hol : o = olast := by simpa using ho.symm
        subst hol
        have hthere : ∀ d j, j < l.length → l.length - j ≤ d → listed.getD j false = true := by
          intro d
          induction d with
          | zero => intro j hj hd'; omega
          | succ d ihd =>
            intro j hj hd'
            obtain ⟨k, ok, hjk, hok, hdep⟩ := coverB_at hc j (by simpa using hj)
            by_cases hkl : k = l.length
            · subst hkl
              have : ok = o := by simpa using hok.symm
              subst this
              obtain ⟨e, he, h2, h3⟩ := depB_spec hdep
              have := hall e he h3
              rw [h2] at this
              exact this
            · have hkn : k < l.length := by
                have := (List.getElem?_eq_some_iff.1 hok).1
                simp at this
                omega
              exact hdn k ok hok (ihd k hkn (by omega)) j hdep
        replace hthere : ∀ j, j < l.length → listed.getD j false = true := fun j hj => hthere (l.length - j) j hj (Nat.le_refl _)
        rw [hthere i1 h1l, hthere i2 h2l] at hJ
        refine wpOp_mono (fun a' w' hq => ?_) (hl vs w hJ (allV_of Fs 0 (fun i hi' => by rw [Nat.zero_add]; exact hf i (hthere i (by omega)))))
        have hnone : Region.ready .any (l ++ [o]).toArray (listed.setIfInBounds l.length true) = [] := by
          rw [List.eq_nil_iff_forall_not_mem]
          intro j hj
          obtain ⟨h1, _⟩ := mem_ready.1 hj
          by_cases hjl : l.length = j
          · subst hjl
            have : l.length < listed.size := by omega
            simp [this] at h1
          · rw [getD_set_ne true hjl] at h1
            have hjs : j < listed.size := by
              rcases Nat.lt_or_ge j listed.size with h' | h'
              · exact h'
              · simp [Array.getElem?_eq_none h'] at h1
            have h4 := hthere j (by omega)
            simp [hjs] at h1 h4
            rw [h1] at h4
            cases h4
        exact wpAny_done hnone hq fuel
      · have hst := StepsJ.at (l ++ [olast]) 0 hs i o (by simpa using ho) (by simp; omega)
        rw [Nat.zero_add] at hst
        have hnot : ∀ q, i = q → q < l.length → listed.getD q false = false := by
          rintro q rfl hq
          have hq' : i < listed.size := by omega
          simpa [hq'] using hun
        have hgs : ∀ q, q < l.length → (listed.setIfInBounds i true).getD q false = if i = q then true else listed.getD q false := by
          intro q hq
          by_cases e : i = q
          · subst e
            have hq' : i < listed.size := by omega
            simp [hq']
          · rw [getD_set_ne false e, if_neg e]
        refine wpOp_step ho (fun K' hK => hst vs w _ _ hJ (fun e => hnot i1 e h1l) (fun e => hnot i2 e h2l) (fun d hdep => ?_) K' (fun v w' hv hJ' => ?_))
        · obtain ⟨e, he, h2, h3⟩ := depB_spec hdep
          subst h2
          exact hf _ (hall e he h3)
        · refine hK _ _ ?_
          have hset : (A vs).put o.dst v = A (fun i' => if i' = i then v else vs i') := by
            rw [← hA, ← hA]
            exact puts_set vs v i (l ++ [olast]) 0 a0 o hd (Nat.zero_le _) (by simpa using ho)
          rw [hset]
          refine ih _ _ _ (by simpa using hsz) (by rw [getD_set_ne true hil]; exact hlast) ?_ (by rw [hgs i1 h1l, hgs i2 h2l]; exact hJ') (fun k hk => ?_) (fun k ok hok hk j hdep => ?_)
          · have := falses_set hun
            omega
          · by_cases hki : k = i
            · subst hki
              simp only [if_pos]
              exact hv
            · simp only [if_neg hki]
              rcases getD_set_self hk with h5 | h5
              · exact absurd h5 hki
              · exact hf k h5
          · rcases getD_set_self hk with h5 | h5
            · subst h5
              have : ok = o := by
                have h7 : (l ++ [olast])[k]? = some o := by simpa using ho
                rw [h7] at hok
                exact (Option.some.inj hok).symm
              subst this
              obtain ⟨e, he, h2, h3⟩ := depB_spec hdep
              have := hall e he h3
              rw [h2] at this
              exact getD_set_true this
            · exact getD_set_true (hdn k ok hok h5 j hdep)
    refine ⟨fun hnil => ?_, hnext⟩
    exfalso
    obtain ⟨m, hm, hpm, hmin⟩ := least (p := fun j => listed.getD j true = false) l.length hlast
    have hmo : ∃ o, (l ++ [olast]).toArray[m]? = some o := by
      rw [List.getElem?_toArray]
      exact ⟨_, List.getElem?_eq_getElem (by simp; omega)⟩
    obtain ⟨o, ho⟩ := hmo
    have hin : m ∈ Region.ready .any (l ++ [olast]).toArray listed := mem_ready.2 ⟨hpm, o, ho, fun e he hbn => by
      have h1 := backB_at (l ++ [olast]) 0 hbk m o (by simpa using ho) e he hbn
      have h2 := hmin e.on (by omega)
      have h3 : e.on < listed.size := by omega
      simp [h3] at h2 ⊢
      exact h2⟩
    rw [hnil] at hin
    cases hin

/-- the region, by what holds ahead of and behind each of its two calls -/
theorem wp_region_inv {P : Program} {id : Nat} {L : List Oper} {olast : Oper} {Q : Exit → Act → World → Prop} (Fs : List VFact) (i1 i2 : Nat) (J : Bool → Bool → World → Prop) {a0 : Act} {w0 : World} {A : (Nat → Value) → Act} (hm : P.follows .mixedOrders = true) (hL : L.getLast? = some olast)
    (hA : ∀ vs, puts vs 0 L a0 = A vs) (hd : dstB L = true) (hbk : backB 0 L = true) (hc : coverB L = true) (hlen : Fs.length = L.length - 1) (h12 : i1 < L.length - 1 ∧ i2 < L.length - 1) (hJ : J false false w0.drew)
    (hs : ∀ Q', StepsJ P L.toArray Q' Fs A i1 i2 J 0 L)
    (hl : ∀ vs w, J true true w → AllV vs 0 Fs → ∀ (K' : Act → World → Prop) (Q' : Exit → Act → World → Prop), Shut (∀ a w, Q .normal a w → K' a w) →
      if Region.wanted olast (yielded L.toArray (A vs).tmps) = true then Oper.wp P olast (A vs) w K' Q' else K' ((A vs).put olast.dst undef) w) :
    (Code.region id L.toArray true).wp P Q a0 w0 := by
  obtain ⟨l, rfl⟩ : ∃ l, L = l ++ [olast] := by
    obtain ⟨l, hl⟩ := List.getLast?_eq_some_iff.1 hL
    exact ⟨l, hl⟩
  have hn : (l ++ [olast]).length - 1 = l.length := by simp
  rw [hn] at hlen h12
  refine wp_region_any hm ?_
  obtain ⟨vs, hvs⟩ : ∃ vs : Nat → Value, ∀ i o, (l ++ [olast])[i]? = some o → vs (0 + i) = own a0 o :=
    ⟨fun i => match (l ++ [olast])[i]? with | some o => own a0 o | none => undef, fun i o ho => by simp only [Nat.zero_add, ho]⟩
  have e : a0 = A vs := by rw [← hA, puts_own a0 vs _ 0 hvs]
  have h := wpAny_inv h12.1 h12.2 hA hd hbk hc hlen (hs Q) (fun vs w hJ hf => wpOp_step (by simp) (fun K' hK => hl vs w hJ hf K' Q hK)) (l ++ [olast]).toArray.size (Array.replicate (l ++ [olast]).toArray.size false) vs w0.drew (by simp) (by simp)
    (Nat.le_trans List.count_le_length (by simp)) (by simpa [Array.getD] using hJ) (fun k hk => by simp [Array.getD] at hk) (fun k o _ hk => by simp [Array.getD] at hk)
  rw [← e] at h
  exact h
end Go.Proofs.Ytmbjlnnoemenoaa
