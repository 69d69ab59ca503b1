/-
  A region that draws its order within a round of a range over a function, by facts; its last two operations follow all others, one after the other.
-/
import Derived.Test.YtgfjpbiioaahhaaFFacts
import Derived.OrdersIn
import Derived.OwnWalkIn
set_option linter.unusedVariables false
set_option linter.unusedSimpArgs false
set_option maxRecDepth 100000
namespace Go.Proofs.Ytgfjpbiioaahhaa
open Go.RowKit

/-- what is to be shown of one operation -/
def StepIn (F : Fence) (n : Nat) (P : Program) (ops : Array Oper) (Q : Exit → Act → World → Prop) (Fs : List Fact) (A : (Nat → Value) → Act) (w0 : World) (k : Nat) (o : Oper) : Prop :=
  ∀ (vs : Nat → Value) (lo hi : Nat → Nat) (w : World), Below w0.heap.size w0 w → (∀ d, depB o d = true → fct Fs d (lo d) (hi d) (vs d) w) → ∀ K' : Act → World → Prop,
    Shut (∀ v w', fct Fs k w.heap.size w'.heap.size v w' → Below w.heap.size w w' → K' ((A vs).put o.dst v) w') →
    if Region.wanted o (yielded ops (A vs).tmps) = true then Oper.wpIn F n P o (A vs) w K' Q else (∀ f, o.about P w (A vs).eval = some f → F.fn f) ∧ K' ((A vs).put o.dst undef) w
def StepsIn' (F : Fence) (n : Nat) (P : Program) (ops : Array Oper) (Q : Exit → Act → World → Prop) (Fs : List Fact) (A : (Nat → Value) → Act) (w0 : World) : Nat → List Oper → Prop
  | _, [] => True
  | k, o :: l => StepIn F n P ops Q Fs A w0 k o ∧ StepsIn' F n P ops Q Fs A w0 (k + 1) l
theorem StepsIn'.at {F : Fence} {n : Nat} {P : Program} {ops : Array Oper} {Q : Exit → Act → World → Prop} {Fs : List Fact} {A : (Nat → Value) → Act} {w0 : World} : ∀ (l : List Oper) (m : Nat), StepsIn' F n P ops Q Fs A w0 m l → ∀ i o, l[i]? = some o → StepIn F n P ops Q Fs A w0 (m + i) o
  | [], _, _, _, _, h => by simp at h
  | o :: l, m, h, i, x, hx => by
    cases i with
    | zero =>
      simp at hx
      subst hx
      exact h.1
    | succ i =>
      have := StepsIn'.at l (m + 1) h.2 i x (by simpa using hx)
      rw [show m + 1 + i = m + (i + 1) by omega] at this
      exact this

theorem wpAnyIn_facts2 {F : Fence} {n : Nat} {P : Program} {l : List Oper} {o1 o2 : Oper} {Q : Exit → Act → World → Prop} {Fs : List Fact} {a0 : Act} {w0 : World} {A : (Nat → Value) → Act}
    (hA : ∀ vs, puts vs 0 (l ++ [o1, o2]) a0 = A vs) (hd : dstB (l ++ [o1, o2]) = true) (hbk : backB 0 (l ++ [o1, o2]) = true) (hc : coverB (l ++ [o1]) = true) (h21 : depB o2 l.length = true) (hF : MonoAll Fs) (hlen : Fs.length = l.length)
    (hs : StepsIn' F n P (l ++ [o1, o2]).toArray Q Fs A w0 0 l)
    (hl : ∀ vs lo hi w, Below w0.heap.size w0 w → (∀ k, k < l.length → w0.heap.size ≤ lo k ∧ hi k ≤ w.heap.size) → (∀ j k, j < l.length → k < l.length → j ≠ k → hi j ≤ lo k ∨ hi k ≤ lo j) → AllF vs lo hi w 0 Fs → wpOpIn F n P (l ++ [o1, o2]).toArray Q l.length (wpOpIn F n P (l ++ [o1, o2]).toArray Q (l.length + 1) (fun a' w' => Q .normal a' w')) (A vs) w) :
    ∀ (fuel : Nat) (listed : Array Bool) (vs : Nat → Value) (lo hi : Nat → Nat) (w : World), listed.size = l.length + 2 → listed.getD l.length true = false → listed.getD (l.length + 1) true = false → listed.toList.count false ≤ fuel → Below w0.heap.size w0 w →
      (∀ k, listed.getD k false = true → (w0.heap.size ≤ lo k ∧ hi k ≤ w.heap.size) ∧ fct Fs k (lo k) (hi k) (vs k) w) → (∀ j k, listed.getD j false = true → listed.getD k false = true → j ≠ k → hi j ≤ lo k ∨ hi k ≤ lo j) → (∀ k o, (l ++ [o1, o2])[k]? = some o → listed.getD k false = true → ∀ j, depB o j = true → listed.getD j false = true) → wpAnyIn F n P .any (l ++ [o1, o2]).toArray Q fuel listed (A vs) w := by
  have hpos : ∀ (listed : Array Bool) (i : Nat), listed.getD i true = false → 0 < listed.toList.count false := by
    intro listed i h
    have hi : i < listed.size := by
      rcases Nat.lt_or_ge i listed.size with h' | h'
      · exact h'
      · simp [Array.getElem?_eq_none h'] at h
    have hv : listed[i] = false := by simpa [hi] using h
    exact List.count_pos_iff.2 (by rw [← hv, ← Array.getElem_toList]; exact List.getElem_mem _)
  have hFT : ∀ (listed : Array Bool) (i : Nat), listed.getD i true = false → listed.getD i false = true → False := by
    intro listed i h1 h2
    by_cases hi : i < listed.size
    · simp [hi] at h1 h2
      rw [h1] at h2
      cases h2
    · simp [hi] at h2
  intro fuel
  induction fuel with
  | zero =>
    intro listed vs lo hi w hsz hlast _ hcnt
    have := hpos listed _ hlast
    omega
  | succ fuel ih =>
    intro listed vs lo hi w hsz hlast hlast2 hcnt hb hf hap hdn
    have hnext : ∀ i, i ∈ Region.ready .any (l ++ [o1, o2]).toArray listed → wpOpIn F n P (l ++ [o1, o2]).toArray Q i (wpAnyIn F n P .any (l ++ [o1, o2]).toArray Q fuel (listed.setIfInBounds i true)) (A vs) w := by
      intro i hrd
      obtain ⟨hun, o, ho, hall⟩ := mem_ready.1 hrd
      have hlt : i < l.length + 2 := by
        have := (Array.getElem?_eq_some_iff.1 ho).1
        simpa using this
      have ho' : (l ++ [o1, o2])[i]? = some o := by simpa using ho
      by_cases hil2 : i = l.length + 1
      · exfalso
        subst hil2
        have hol : o2 = o := by
          rw [List.getElem?_append_right (by omega)] at ho'
          simpa using ho'
        subst hol
        obtain ⟨e, he, h2, h3⟩ := depB_spec h21
        have := hall e he h3
        rw [h2] at this
        exact hFT _ _ hlast this
      by_cases hil : i = l.length
      · subst hil
        have hol : o1 = o := by
          rw [List.getElem?_append_right (by omega)] at ho'
          simpa using ho'
        subst hol
        have hthere : ∀ d j, j < l.length → l.length - j ≤ d → listed.getD j false = true := by
          intro d
          induction d with
          | zero => intro j hj hd'; omega
          | succ d ihd =>
            intro j hj hd'
            obtain ⟨k, ok, hjk, hok, hdep⟩ := coverB_at hc j (by simpa using hj)
            by_cases hkl : k = l.length
            · subst hkl
              have : ok = o1 := by simpa using hok.symm
              subst this
              obtain ⟨e, he, h2, h3⟩ := depB_spec hdep
              have := hall e he h3
              rw [h2] at this
              exact this
            · have hkn : k < l.length := by
                have := (List.getElem?_eq_some_iff.1 hok).1
                simp at this
                omega
              have hok2 : (l ++ [o1, o2])[k]? = some ok := by
                rw [List.getElem?_append_left hkn] at hok ⊢
                exact hok
              exact hdn k ok hok2 (ihd k hkn (by omega)) j hdep
        replace hthere : ∀ j, j < l.length → listed.getD j false = true := fun j hj => hthere (l.length - j) j hj (Nat.le_refl _)
        refine wpOpIn_mono (fun a' w' hq => ?_) (hl vs lo hi w hb (fun k hk => (hf k (hthere k hk)).1) (fun j k hj hk => hap j k (hthere j hj) (hthere k hk)) (allF_of Fs 0 (fun i hi' => by rw [Nat.zero_add]; exact (hf i (hthere i (by omega))).2)))
        have hl2 : (listed.setIfInBounds l.length true).getD (l.length + 1) true = false := by rw [getD_set_ne true (by omega)]; exact hlast2
        have hl1 : (listed.setIfInBounds l.length true).getD l.length false = true := by
          have : l.length < listed.size := by omega
          simp [this]
        have hfs := falses_set hun
        have hp2 := hpos _ _ hl2
        obtain ⟨f, rfl⟩ : ∃ f, fuel = f + 1 := ⟨fuel - 1, by omega⟩
        have hin : l.length + 1 ∈ Region.ready .any (l ++ [o1, o2]).toArray (listed.setIfInBounds l.length true) := mem_ready.2 ⟨hl2, o2, by simp, fun e he hbn => by
          have h1 := backB_at (l ++ [o1, o2]) 0 hbk (l.length + 1) o2 (by simp) e he hbn
          by_cases he2 : e.on = l.length
          · rw [he2]; exact hl1
          · exact getD_set_true (hthere e.on (by omega))⟩
        have honly : ∀ i, i ∈ Region.ready .any (l ++ [o1, o2]).toArray (listed.setIfInBounds l.length true) → i = l.length + 1 := by
          intro j hj
          obtain ⟨h1, oj, hoj, _⟩ := mem_ready.1 hj
          have hjl : j < l.length + 2 := by
            have := (Array.getElem?_eq_some_iff.1 hoj).1
            simpa using this
          by_cases hj1 : j = l.length
          · subst hj1
            exact (hFT _ _ h1 hl1).elim
          · by_cases hj2 : j = l.length + 1
            · exact hj2
            · exact (hFT _ _ h1 (getD_set_true (hthere j (by omega)))).elim
        refine ⟨fun h0 => ?_, fun j hj => ?_⟩
        · rw [h0] at hin
          cases hin
        · have := honly j hj
          subst this
          refine wpOpIn_mono (fun a'' w'' hq2 => ?_) hq
          have hnone : Region.ready .any (l ++ [o1, o2]).toArray ((listed.setIfInBounds l.length true).setIfInBounds (l.length + 1) true) = [] := by
            rw [List.eq_nil_iff_forall_not_mem]
            intro i hi'
            obtain ⟨h1, oi, hoi, _⟩ := mem_ready.1 hi'
            have hil3 : i < l.length + 2 := by
              have := (Array.getElem?_eq_some_iff.1 hoi).1
              simpa using this
            by_cases hi1 : i = l.length + 1
            · subst hi1
              have : l.length + 1 < (listed.setIfInBounds l.length true).size := by simp; omega
              simp [this] at h1
            · rw [getD_set_ne true (fun e => hi1 e.symm)] at h1
              by_cases hi2 : i = l.length
              · subst hi2
                exact hFT _ _ h1 hl1
              · exact hFT _ _ h1 (getD_set_true (hthere i (by omega)))
          exact wpAnyIn_done hnone hq2 f
      · have hoi : l[i]? = some o := by
          rw [List.getElem?_append_left (by omega)] at ho'
          exact ho'
        have hst := StepsIn'.at l 0 hs i o hoi
        rw [Nat.zero_add] at hst
        refine wpOpIn_step ho (fun K' hK => hst vs lo hi w hb (fun d hdep => ?_) K' (fun v w' hv hbw => ?_))
        · obtain ⟨e, he, h2, h3⟩ := depB_spec hdep
          subst h2
          exact (hf _ (hall e he h3)).2
        · refine hK _ _ ?_
          have hset : (A vs).put o.dst v = A (fun i' => if i' = i then v else vs i') := by
            rw [← hA, ← hA]
            exact puts_set vs v i (l ++ [o1, o2]) 0 a0 o hd (Nat.zero_le _) ho'
          rw [hset]
          refine ih _ _ (fun i' => if i' = i then w.heap.size else lo i') (fun i' => if i' = i then w'.heap.size else hi i') _ (by simpa using hsz) (by rw [getD_set_ne true hil]; exact hlast) (by rw [getD_set_ne true hil2]; exact hlast2) ?_ (bthen hb hbw) (fun k hk => ?_) (fun j k hj hk hjk => ?_) (fun k ok hok hk j hdep => ?_)
          · have := falses_set hun
            omega
          · have h9 := hbw.size
            have h8 := hb.size
            by_cases hki : k = i
            · subst hki
              simp only [if_pos]
              exact ⟨⟨h8, Nat.le_refl _⟩, hv⟩
            · simp only [if_neg hki]
              rcases getD_set_self hk with h5 | h5
              · exact absurd h5 hki
              · have h6 := (hf k h5).1
                exact ⟨⟨h6.1, by omega⟩, hF.at k _ _ _ _ _ (hf k h5).2 hbw⟩
          · rcases getD_set_self hj with h5 | h5 <;> rcases getD_set_self hk with h6 | h6
            · omega
            · subst h5
              by_cases hki : k = j
              · omega
              · simp only [if_neg hki, if_pos]
                exact .inr (hf k h6).1.2
            · subst h6
              by_cases hji : j = k
              · omega
              · simp only [if_neg hji, if_pos]
                exact .inl (hf j h5).1.2
            · by_cases hki : k = i
              · subst hki
                by_cases hji : j = k
                · omega
                · simp only [if_neg hji, if_pos]
                  exact .inl (hf j h5).1.2
              · by_cases hji : j = i
                · subst hji
                  simp only [if_neg hki, if_pos]
                  exact .inr (hf k h6).1.2
                · simp only [if_neg hki, if_neg hji]
                  exact hap j k h5 h6 hjk
          · rcases getD_set_self hk with h5 | h5
            · subst h5
              have : ok = o := by
                have h7 : (l ++ [o1, o2])[k]? = some o := ho'
                rw [h7] at hok
                exact (Option.some.inj hok).symm
              subst this
              obtain ⟨e, he, h2, h3⟩ := depB_spec hdep
              have := hall e he h3
              rw [h2] at this
              exact getD_set_true this
            · exact getD_set_true (hdn k ok hok h5 j hdep)
    refine ⟨fun hnil => ?_, hnext⟩
    exfalso
    obtain ⟨m, hm, hpm, hmin⟩ := least (p := fun j => listed.getD j true = false) l.length hlast
    have hmo : ∃ o, (l ++ [o1, o2]).toArray[m]? = some o := by
      rw [List.getElem?_toArray]
      exact ⟨_, List.getElem?_eq_getElem (by simp; omega)⟩
    obtain ⟨o, ho⟩ := hmo
    have hin : m ∈ Region.ready .any (l ++ [o1, o2]).toArray listed := mem_ready.2 ⟨hpm, o, ho, fun e he hbn => by
      have h1 := backB_at (l ++ [o1, o2]) 0 hbk m o (by simpa using ho) e he hbn
      have h2 := hmin e.on (by omega)
      have h3 : e.on < listed.size := by omega
      simp [h3] at h2 ⊢
      exact h2⟩
    rw [hnil] at hin
    cases hin

/-- the region, by facts -/
theorem wpIn_region_facts2 {F : Fence} {n : Nat} {P : Program} {id : Nat} {l : List Oper} {o1 o2 : Oper} {Q : Exit → Act → World → Prop} (Fs : List Fact) {a0 : Act} {w0 : World} {A : (Nat → Value) → Act} (hm : P.follows .mixedOrders = true)
    (hA : ∀ vs, puts vs 0 (l ++ [o1, o2]) a0 = A vs) (hd : dstB (l ++ [o1, o2]) = true) (hbk : backB 0 (l ++ [o1, o2]) = true) (hc : coverB (l ++ [o1]) = true) (h21 : depB o2 l.length = true) (hlen : Fs.length = l.length) (hF : MonoAll Fs)
    (hs : ∀ Q', StepsIn' F n P (l ++ [o1, o2]).toArray Q' Fs A w0 0 l)
    (hl : ∀ vs lo hi w, Below w0.heap.size w0 w → (∀ k, k < l.length → w0.heap.size ≤ lo k ∧ hi k ≤ w.heap.size) → (∀ j k, j < l.length → k < l.length → j ≠ k → hi j ≤ lo k ∨ hi k ≤ lo j) → AllF vs lo hi w 0 Fs → wpOpIn F n P (l ++ [o1, o2]).toArray Q l.length (wpOpIn F n P (l ++ [o1, o2]).toArray Q (l.length + 1) (fun a' w' => Q .normal a' w')) (A vs) w) :
    (Code.region id (l ++ [o1, o2]).toArray true).wpIn F n P Q a0 w0 := by
  refine wpIn_region_any hm ?_
  obtain ⟨vs, hvs⟩ : ∃ vs : Nat → Value, ∀ i o, (l ++ [o1, o2])[i]? = some o → vs (0 + i) = own a0 o :=
    ⟨fun i => match (l ++ [o1, o2])[i]? with | some o => own a0 o | none => undef, fun i o ho => by simp only [Nat.zero_add, ho]⟩
  have e : a0 = A vs := by rw [← hA, puts_own a0 vs _ 0 hvs]
  have h := wpAnyIn_facts2 hA hd hbk hc h21 hF hlen (hs Q) hl (l ++ [o1, o2]).toArray.size (Array.replicate (l ++ [o1, o2]).toArray.size false) vs (fun _ => 0) (fun _ => 0) { w0 with drawn := w0.drawn + 1 } (by simp) (by simp) (by simp)
    (Nat.le_trans List.count_le_length (by simp)) (Below.refl _ _).drew (fun k hk => by simp [Array.getD] at hk) (fun j k hk => by simp [Array.getD] at hk) (fun k o _ hk => by simp [Array.getD] at hk)
  rw [← e] at h
  exact h

theorem wpIn_region_facts2' {F : Fence} {n : Nat} {P : Program} {id : Nat} {L : List Oper} {Q : Exit → Act → World → Prop} {a0 : Act} {w0 : World} {A : (Nat → Value) → Act} (k : Nat) {o1 o2 : Oper} (e1 : L[k]? = some o1) (e2 : L[k + 1]? = some o2) (ek : L.length = k + 2) (Fs : List Fact) (hm : P.follows .mixedOrders = true)
    (hA : ∀ vs, puts vs 0 L a0 = A vs) (hd : dstB L = true) (hbk : backB 0 L = true) (hc : coverB (L.take (k + 1)) = true) (h21 : depB o2 k = true) (hlen : Fs.length = k) (hF : MonoAll Fs)
    (hs : ∀ Q', StepsIn' F n P L.toArray Q' Fs A w0 0 (L.take k))
    (hl : ∀ vs lo hi w, Below w0.heap.size w0 w → (∀ j, j < k → w0.heap.size ≤ lo j ∧ hi j ≤ w.heap.size) → AllF vs lo hi w 0 Fs → wpOpIn F n P L.toArray Q k (wpOpIn F n P L.toArray Q (k + 1) (fun a' w' => Q .normal a' w')) (A vs) w) :
    (Code.region id L.toArray true).wpIn F n P Q a0 w0 := by
  have hL : L = L.take k ++ [o1, o2] := by
    have h1 : L.drop k = [o1, o2] := by
      obtain ⟨i1, h1⟩ := List.getElem?_eq_some_iff.1 e1
      obtain ⟨i2, h2⟩ := List.getElem?_eq_some_iff.1 e2
      rw [List.drop_eq_getElem_cons i1, h1, List.drop_eq_getElem_cons i2, h2, List.drop_eq_nil_of_le (by omega)]
    rw [← h1, List.take_append_drop]
  have hkl : (L.take k).length = k := by rw [List.length_take]; omega
  have hc1 : L.take (k + 1) = L.take k ++ [o1] := by
    obtain ⟨i1, h1⟩ := List.getElem?_eq_some_iff.1 e1
    rw [List.take_succ_eq_append_getElem i1, h1]
  generalize L.take k = l at hL hkl hc1 hs
  rw [hc1] at hc
  subst hL
  subst hkl
  exact wpIn_region_facts2 Fs hm hA hd hbk hc h21 hlen hF hs (fun vs lo hi w h1 h2 _ h4 => hl vs lo hi w h1 h2 h4)

theorem operIn_append_run {F : Fence} {n : Nat} {P : Program} {w : World} {ops : Array Oper} {i : Nat} {o : Oper} {a : Act} {Q : Exit → Act → World → Prop} {K : Act → World → Prop} (hi : ops[i]? = some o) (hgd : o.guard = none) (s x : Operand) (t : TypeId)
    (hop : o.op = .call { callee := .builtin .append, args := #[s, x], argTypes := #[t, t] }) (v y : Value) (hs : a.eval s = v) (hx : a.eval x = y) {v' : Value} {w' : World} (hrun : (Builtin.append_ #[t, t] o.type #[v, y]).run P w = .ok v' w')
    (h : K (a.put o.dst v') w') : wpOpIn F n P ops Q i K a w := by
  refine wpOpIn_step hi (fun K' hK => ?_)
  have hw : Region.wanted o (yielded ops a.tmps) = true := by simp [Region.wanted, hgd]
  rw [if_pos hw]
  unfold Oper.wpIn
  refine ⟨?_, ?_⟩
  · simp [Oper.about, hop, resolve, Target.leads, Sem.run_pure]
  · rw [Oper.semAt_plain F _ _ (by rw [hop]; intro c hc'; cases hc')]
    simp [execOp, hop, resolve, invoke, builtin, hs, hx, hrun, Result.andThen]
    exact hK _ _ h

end Go.Proofs.Ytgfjpbiioaahhaa
