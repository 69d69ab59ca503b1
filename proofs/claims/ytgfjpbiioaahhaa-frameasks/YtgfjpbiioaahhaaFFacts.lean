/-
  A region that draws its order, by facts: one fact an operation, kept by all that grows the world; each operation is shown once, from the facts of those that it waits for. The last operation waits for all.
-/
import Derived.Test.YtgfjpbiioaahhaaFMem
import Derived.Deep.RegionHeld3
set_option linter.unusedVariables false
set_option linter.unusedSimpArgs false
set_option maxRecDepth 100000
namespace Go.Proofs.Ytgfjpbiioaahhaa
open Go.RowKit

/-- of the value that an operation gave, in a world; lo, hi: how many blocks there were ahead of it, and behind it -/
abbrev Fact := Nat → Nat → Value → World → Prop
def fct (Fs : List Fact) (k : Nat) : Fact := Fs.getD k (fun _ _ _ _ => True)
def Mono (f : Fact) : Prop := ∀ lo hi v (w w' : World), f lo hi v w → Below w.heap.size w w' → f lo hi v w'
def MonoAll : List Fact → Prop
  | [] => True
  | f :: l => Mono f ∧ MonoAll l
theorem mono_eq (x : Value) : Mono (fun _ _ v _ => v = x) := fun _ _ _ _ _ h _ => h
theorem mono_true : Mono (fun _ _ _ _ => True) := fun _ _ _ _ _ _ _ => trivial
theorem MonoAll.at {Fs : List Fact} (h : MonoAll Fs) (k : Nat) : Mono (fct Fs k) := by
  induction Fs generalizing k with
  | nil => exact mono_true
  | cons f l ih =>
    cases k with
    | zero => exact h.1
    | succ k => exact ih h.2 k

def AllF (vs : Nat → Value) (lo hi : Nat → Nat) (w : World) : Nat → List Fact → Prop
  | _, [] => True
  | k, f :: l => f (lo k) (hi k) (vs k) w ∧ AllF vs lo hi w (k + 1) l
theorem allF_of {vs : Nat → Value} {lo hi : Nat → Nat} {w : World} : ∀ (l : List Fact) (k : Nat), (∀ i, i < l.length → fct l i (lo (k + i)) (hi (k + i)) (vs (k + i)) w) → AllF vs lo hi w k l
  | [], _, _ => trivial
  | f :: l, k, h => ⟨h 0 (by simp), allF_of l (k + 1) (fun i hi => by
      have := h (i + 1) (by simp; omega)
      rw [show k + (i + 1) = k + 1 + i by omega] at this
      exact this)⟩

def puts (vs : Nat → Value) : Nat → List Oper → Act → Act
  | _, [], a => a
  | k, o :: l, a => puts vs (k + 1) l (a.put o.dst (vs k))
theorem put_put (a : Act) (d : Option Tmp) (x v : Value) : (a.put d x).put d v = a.put d v := by
  cases d <;> simp [Act.put]
theorem puts_put (vs : Nat → Value) (d : Option Tmp) (v : Value) : ∀ (l : List Oper) (m : Nat) (a : Act), (∀ o ∈ l, ∀ x, d = some x → o.dst ≠ some x) → (puts vs m l a).put d v = puts vs m l (a.put d v)
  | [], _, _, _ => rfl
  | o :: l, m, a, h => by
    simp only [puts]
    rw [puts_put vs d v l (m + 1) _ (fun o ho => h o (List.mem_cons_of_mem _ ho)), ← Act.put_comm a v (vs m) (h o (List.mem_cons_self ..))]
theorem puts_congr {vs vs' : Nat → Value} : ∀ (l : List Oper) (m : Nat) (a : Act), (∀ i, m ≤ i → vs i = vs' i) → puts vs m l a = puts vs' m l a
  | [], _, _, _ => rfl
  | o :: l, m, a, h => by
    simp only [puts]
    rw [h m (Nat.le_refl _), puts_congr l (m + 1) _ (fun i hi => h i (by omega))]
def dstB : List Oper → Bool
  | [] => true
  | o :: l => (match o.dst with | some x => l.all (fun o' => o'.dst != some x) | none => true) && dstB l
theorem dstB_cons {o : Oper} {l : List Oper} (h : dstB (o :: l) = true) : (∀ o' ∈ l, ∀ x, o.dst = some x → o'.dst ≠ some x) ∧ dstB l = true := by
  simp only [dstB, Bool.and_eq_true] at h
  refine ⟨fun o' ho' x hx => ?_, h.2⟩
  have h1 := h.1
  rw [hx] at h1
  simp only [List.all_eq_true, bne_iff_ne] at h1
  exact h1 o' ho'
theorem puts_set (vs : Nat → Value) (v : Value) (k : Nat) : ∀ (l : List Oper) (m : Nat) (a : Act) (o : Oper), dstB l = true → m ≤ k → l[k - m]? = some o →
    (puts vs m l a).put o.dst v = puts (fun i => if i = k then v else vs i) m l a
  | [], _, _, _, _, _, h => by simp at h
  | o' :: l, m, a, o, hd, hm, h => by
    obtain ⟨h1, h2⟩ := dstB_cons hd
    simp only [puts]
    by_cases hk : k = m
    · subst hk
      simp at h
      subst h
      rw [puts_put vs _ v l (k + 1) _ h1, put_put, if_pos rfl]
      exact puts_congr l (k + 1) _ (fun i hi => by rw [if_neg (by omega)])
    · rw [if_neg (fun e => hk e.symm)]
      refine puts_set vs v k l (m + 1) _ o h2 (by omega) ?_
      rw [show k - m = (k - (m + 1)) + 1 by omega, List.getElem?_cons_succ] at h
      exact h
def own (a : Act) (o : Oper) : Value := match o.dst with | some d => a.tmps.getD d undef | none => undef
theorem put_own (a : Act) (o : Oper) : a.put o.dst (own a o) = a := by
  unfold own
  cases hd : o.dst with
  | none => rfl
  | some d =>
    simp only [Act.put]
    obtain ⟨tmps, defers⟩ := a
    congr 1
    apply Array.ext
    · simp
    · intro i h1 h2
      rw [Array.getElem_setIfInBounds h2]
      split
      · rename_i e
        subst e
        simp [h2]
      · rfl
theorem puts_own (a : Act) (vs : Nat → Value) : ∀ (l : List Oper) (m : Nat), (∀ i o, l[i]? = some o → vs (m + i) = own a o) → puts vs m l a = a
  | [], _, _ => rfl
  | o :: l, m, h => by
    simp only [puts]
    rw [show vs m = own a o from h 0 o rfl, put_own]
    exact puts_own a vs l (m + 1) (fun i o' ho => by
      have := h (i + 1) o' (by simpa using ho)
      rw [show m + (i + 1) = m + 1 + i by omega] at this
      exact this)

def depB (o : Oper) (d : Nat) : Bool := o.after.toList.any (fun e => e.on == d && Region.binds .any e)
theorem depB_spec {o : Oper} {d : Nat} (h : depB o d = true) : ∃ e, e ∈ o.after ∧ e.on = d ∧ Region.binds .any e = true := by
  simp only [depB, List.any_eq_true, Bool.and_eq_true, beq_iff_eq] at h
  obtain ⟨e, he, h2, h3⟩ := h
  exact ⟨e, by simpa using he, h2, h3⟩
def backB : Nat → List Oper → Bool
  | _, [] => true
  | k, o :: l => o.after.toList.all (fun e => !Region.binds .any e || decide (e.on < k)) && backB (k + 1) l
theorem backB_at : ∀ (l : List Oper) (m : Nat), backB m l = true → ∀ i o, l[i]? = some o → ∀ e ∈ o.after, Region.binds .any e = true → e.on < m + i
  | [], _, _, _, _, h => by simp at h
  | o :: l, m, hb, i, x, hx => by
    simp only [backB, Bool.and_eq_true, List.all_eq_true, Bool.or_eq_true, Bool.not_eq_true', decide_eq_true_eq] at hb
    cases i with
    | zero =>
      simp at hx
      subst hx
      intro e he hbn
      rcases hb.1 e (by simpa using he) with h | h
      · rw [h] at hbn; cases hbn
      · exact h
    | succ i =>
      intro e he hbn
      have := backB_at l (m + 1) hb.2 i x (by simpa using hx) e he hbn
      omega
/-- each operation but the last is waited for by a later one -/
def coverB (L : List Oper) : Bool := (List.range (L.length - 1)).all (fun j => (List.range L.length).any (fun k => decide (j < k) && (match L[k]? with | some o => depB o j | none => false)))
theorem coverB_at {L : List Oper} (h : coverB L = true) (j : Nat) (hj : j < L.length - 1) : ∃ k o, j < k ∧ L[k]? = some o ∧ depB o j = true := by
  have h1 := (List.all_eq_true.1 h) j (List.mem_range.2 hj)
  obtain ⟨k, _, hk⟩ := List.any_eq_true.1 h1
  simp only [Bool.and_eq_true, decide_eq_true_eq] at hk
  cases ho : L[k]? with
  | none => rw [ho] at hk; simp at hk
  | some o => rw [ho] at hk; exact ⟨k, o, hk.1, ho, hk.2⟩
theorem least {p : Nat → Prop} : ∀ n, p n → ∃ m, m ≤ n ∧ p m ∧ ∀ i, i < m → ¬ p i := by
  intro n
  induction n using Nat.strongRecOn with
  | ind n ih =>
    intro hp
    by_cases h : ∃ i, i < n ∧ p i
    · obtain ⟨i, hi, hpi⟩ := h
      obtain ⟨m, h1, h2, h3⟩ := ih i hi hpi
      exact ⟨m, by omega, h2, h3⟩
    · exact ⟨n, Nat.le_refl _, hp, fun i hi hpi => h ⟨i, hi, hpi⟩⟩
/-- what is to be shown of one operation -/
def Step (P : Program) (ops : Array Oper) (Q : Exit → Act → World → Prop) (Fs : List Fact) (A : (Nat → Value) → Act) (w0 : World) (k : Nat) (o : Oper) : Prop :=
  ∀ (vs : Nat → Value) (lo hi : Nat → Nat) (w : World), Below w0.heap.size w0 w → (∀ d, depB o d = true → fct Fs d (lo d) (hi d) (vs d) w) → ∀ K' : Act → World → Prop,
    Shut (∀ v w', fct Fs k w.heap.size w'.heap.size v w' → Below w.heap.size w w' → K' ((A vs).put o.dst v) w') →
    if Region.wanted o (yielded ops (A vs).tmps) = true then Oper.wp P o (A vs) w K' Q else K' ((A vs).put o.dst undef) w
def Steps (P : Program) (ops : Array Oper) (Q : Exit → Act → World → Prop) (Fs : List Fact) (A : (Nat → Value) → Act) (w0 : World) : Nat → List Oper → Prop
  | _, [] => True
  | _, [_] => True
  | k, o :: o' :: l => Step P ops Q Fs A w0 k o ∧ Steps P ops Q Fs A w0 (k + 1) (o' :: l)
theorem Steps.at {P : Program} {ops : Array Oper} {Q : Exit → Act → World → Prop} {Fs : List Fact} {A : (Nat → Value) → Act} {w0 : World} : ∀ (l : List Oper) (m : Nat), Steps P ops Q Fs A w0 m l → ∀ i o, l[i]? = some o → i + 1 < l.length → Step P ops Q Fs A w0 (m + i) o
  | [], _, _, _, _, _, h => by simp at h
  | [_], _, _, i, _, _, h => by simp at h
  | o :: o' :: l, m, h, i, x, hx, hi => by
    cases i with
    | zero =>
      simp at hx
      subst hx
      exact h.1
    | succ i =>
      have := Steps.at (o' :: l) (m + 1) h.2 i x (by simpa using hx) (by simp at hi ⊢; omega)
      rw [show m + 1 + i = m + (i + 1) by omega] at this
      exact this

theorem getD_set_self {listed : Array Bool} {i j : Nat} (h : (listed.setIfInBounds i true).getD j false = true) : j = i ∨ listed.getD j false = true := by
  by_cases e : i = j
  · exact .inl e.symm
  · rw [getD_set_ne false e] at h
    exact .inr h

theorem falses_set {listed : Array Bool} {i : Nat} (h : listed.getD i true = false) : (listed.setIfInBounds i true).toList.count false + 1 = listed.toList.count false := by
  have hi : i < listed.size := by
    rcases Nat.lt_or_ge i listed.size with h' | h'
    · exact h'
    · simp [Array.getElem?_eq_none h'] at h
  have hv : listed[i] = false := by simpa [hi] using h
  rw [Array.toList_setIfInBounds, List.count_set (by simpa using hi)]
  have h2 : listed.toList[i]'(by simpa using hi) = false := by simpa using hv
  rw [h2]
  have h3 : 0 < listed.toList.count false := List.count_pos_iff.2 (by rw [← h2]; exact List.getElem_mem _)
  have e1 : (if (false == false) = true then 1 else 0) = 1 := rfl
  have e2 : (if (true == false) = true then 1 else 0) = 0 := rfl
  rw [e1, e2]
  omega

theorem wpAny_facts {P : Program} {l : List Oper} {olast : Oper} {Q : Exit → Act → World → Prop} {Fs : List Fact} {a0 : Act} {w0 : World} {A : (Nat → Value) → Act}
    (hA : ∀ vs, puts vs 0 (l ++ [olast]) a0 = A vs) (hd : dstB (l ++ [olast]) = true) (hbk : backB 0 (l ++ [olast]) = true) (hc : coverB (l ++ [olast]) = true) (hF : MonoAll Fs) (hlen : Fs.length = l.length)
    (hs : Steps P (l ++ [olast]).toArray Q Fs A w0 0 (l ++ [olast]))
    (hl : ∀ vs lo hi w, Below w0.heap.size w0 w → (∀ k, k < l.length → w0.heap.size ≤ lo k ∧ hi k ≤ w.heap.size) → (∀ j k, j < l.length → k < l.length → j ≠ k → hi j ≤ lo k ∨ hi k ≤ lo j) → AllF vs lo hi w 0 Fs → wpOp P (l ++ [olast]).toArray Q l.length (fun a' w' => Q .normal a' w') (A vs) w) :
    ∀ (fuel : Nat) (listed : Array Bool) (vs : Nat → Value) (lo hi : Nat → Nat) (w : World), listed.size = l.length + 1 → listed.getD l.length true = false → listed.toList.count false ≤ fuel → Below w0.heap.size w0 w →
      (∀ k, listed.getD k false = true → (w0.heap.size ≤ lo k ∧ hi k ≤ w.heap.size) ∧ fct Fs k (lo k) (hi k) (vs k) w) → (∀ j k, listed.getD j false = true → listed.getD k false = true → j ≠ k → hi j ≤ lo k ∨ hi k ≤ lo j) → (∀ k o, (l ++ [olast])[k]? = some o → listed.getD k false = true → ∀ j, depB o j = true → listed.getD j false = true) → wpAny P .any (l ++ [olast]).toArray Q fuel listed (A vs) w := by
  intro fuel
  induction fuel with
  | zero =>
    intro listed vs lo hi w hsz hlast hcnt
    have hi : l.length < listed.size := by omega
    have hv : listed[l.length] = false := by simpa [hi] using hlast
    have h3 : 0 < listed.toList.count false := List.count_pos_iff.2 (by rw [← hv, ← Array.getElem_toList]; exact List.getElem_mem _)
    omega
  | succ fuel ih =>
    intro listed vs lo hi w hsz hlast hcnt hb hf hap hdn
    have hnext : ∀ i, i ∈ Region.ready .any (l ++ [olast]).toArray listed → wpOp P (l ++ [olast]).toArray Q i (wpAny P .any (l ++ [olast]).toArray Q fuel (listed.setIfInBounds i true)) (A vs) w := by
      intro i hrd
      obtain ⟨hun, o, ho, hall⟩ := mem_ready.1 hrd
      have hlt : i < l.length + 1 := by
        have := (Array.getElem?_eq_some_iff.1 ho).1
        simpa using this
      by_cases hil : i = l.length
      · subst hil
        have hol : o = olast := by simpa using ho.symm
        subst hol
        have hthere : ∀ d j, j < l.length → l.length - j ≤ d → listed.getD j false = true := by
          intro d
          induction d with
          | zero => intro j hj hd'; omega
          | succ d ihd =>
            intro j hj hd'
            obtain ⟨k, ok, hjk, hok, hdep⟩ := coverB_at hc j (by simpa using hj)
            by_cases hkl : k = l.length
            · subst hkl
              have : ok = o := by simpa using hok.symm
              subst this
              obtain ⟨e, he, h2, h3⟩ := depB_spec hdep
              have := hall e he h3
              rw [h2] at this
              exact this
            · have hkn : k < l.length := by
                have := (List.getElem?_eq_some_iff.1 hok).1
                simp at this
                omega
              exact hdn k ok hok (ihd k hkn (by omega)) j hdep
        replace hthere : ∀ j, j < l.length → listed.getD j false = true := fun j hj => hthere (l.length - j) j hj (Nat.le_refl _)
        refine wpOp_mono (fun a' w' hq => ?_) (hl vs lo hi w hb (fun k hk => (hf k (hthere k hk)).1) (fun j k hj hk => hap j k (hthere j hj) (hthere k hk)) (allF_of Fs 0 (fun i hi' => by rw [Nat.zero_add]; exact (hf i (hthere i (by omega))).2)))
        have hnone : Region.ready .any (l ++ [o]).toArray (listed.setIfInBounds l.length true) = [] := by
          rw [List.eq_nil_iff_forall_not_mem]
          intro j hj
          obtain ⟨h1, _⟩ := mem_ready.1 hj
          by_cases hjl : l.length = j
          · subst hjl
            have : l.length < listed.size := by omega
            simp [this] at h1
          · rw [getD_set_ne true hjl] at h1
            have hjs : j < listed.size := by
              rcases Nat.lt_or_ge j listed.size with h' | h'
              · exact h'
              · simp [Array.getElem?_eq_none h'] at h1
            have h4 := hthere j (by omega)
            simp [hjs] at h1 h4
            rw [h1] at h4
            cases h4
        exact wpAny_done hnone hq fuel
      · have hst := Steps.at (l ++ [olast]) 0 hs i o (by simpa using ho) (by simp; omega)
        rw [Nat.zero_add] at hst
        refine wpOp_step ho (fun K' hK => hst vs lo hi w hb (fun d hdep => ?_) K' (fun v w' hv hbw => ?_))
        · obtain ⟨e, he, h2, h3⟩ := depB_spec hdep
          subst h2
          exact (hf _ (hall e he h3)).2
        · refine hK _ _ ?_
          have hset : (A vs).put o.dst v = A (fun i' => if i' = i then v else vs i') := by
            rw [← hA, ← hA]
            exact puts_set vs v i (l ++ [olast]) 0 a0 o hd (Nat.zero_le _) (by simpa using ho)
          rw [hset]
          refine ih _ _ (fun i' => if i' = i then w.heap.size else lo i') (fun i' => if i' = i then w'.heap.size else hi i') _ (by simpa using hsz) (by rw [getD_set_ne true hil]; exact hlast) ?_ (bthen hb hbw) (fun k hk => ?_) (fun j k hj hk hjk => ?_) (fun k ok hok hk j hdep => ?_)
          · have := falses_set hun
            omega
          · have h9 := hbw.size
            have h8 := hb.size
            by_cases hki : k = i
            · subst hki
              simp only [if_pos]
              exact ⟨⟨h8, Nat.le_refl _⟩, hv⟩
            · simp only [if_neg hki]
              rcases getD_set_self hk with h5 | h5
              · exact absurd h5 hki
              · have h6 := (hf k h5).1
                exact ⟨⟨h6.1, by omega⟩, hF.at k _ _ _ _ _ (hf k h5).2 hbw⟩
          · rcases getD_set_self hj with h5 | h5 <;> rcases getD_set_self hk with h6 | h6
            · omega
            · subst h5
              by_cases hki : k = j
              · omega
              · simp only [if_neg hki, if_pos]
                exact .inr (hf k h6).1.2
            · subst h6
              by_cases hji : j = k
              · omega
              · simp only [if_neg hji, if_pos]
                exact .inl (hf j h5).1.2
            · by_cases hki : k = i
              · subst hki
                by_cases hji : j = k
                · omega
                · simp only [if_neg hji, if_pos]
                  exact .inl (hf j h5).1.2
              · by_cases hji : j = i
                · subst hji
                  simp only [if_neg hki, if_pos]
                  exact .inr (hf k h6).1.2
                · simp only [if_neg hki, if_neg hji]
                  exact hap j k h5 h6 hjk
          · rcases getD_set_self hk with h5 | h5
            · subst h5
              have : ok = o := by
                have h7 : (l ++ [olast])[k]? = some o := by simpa using ho
                rw [h7] at hok
                exact (Option.some.inj hok).symm
              subst this
              obtain ⟨e, he, h2, h3⟩ := depB_spec hdep
              have := hall e he h3
              rw [h2] at this
              exact getD_set_true this
            · exact getD_set_true (hdn k ok hok h5 j hdep)
    refine ⟨fun hnil => ?_, hnext⟩
    exfalso
    obtain ⟨m, hm, hpm, hmin⟩ := least (p := fun j => listed.getD j true = false) l.length hlast
    have hmo : ∃ o, (l ++ [olast]).toArray[m]? = some o := by
      rw [List.getElem?_toArray]
      exact ⟨_, List.getElem?_eq_getElem (by simp; omega)⟩
    obtain ⟨o, ho⟩ := hmo
    have hin : m ∈ Region.ready .any (l ++ [olast]).toArray listed := mem_ready.2 ⟨hpm, o, ho, fun e he hbn => by
      have h1 := backB_at (l ++ [olast]) 0 hbk m o (by simpa using ho) e he hbn
      have h2 := hmin e.on (by omega)
      have h3 : e.on < listed.size := by omega
      simp [h3] at h2 ⊢
      exact h2⟩
    rw [hnil] at hin
    cases hin

/-- the region, by facts -/
theorem wp_region_facts {P : Program} {id : Nat} {L : List Oper} {olast : Oper} {Q : Exit → Act → World → Prop} (Fs : List Fact) {a0 : Act} {w0 : World} {A : (Nat → Value) → Act} (hm : P.follows .mixedOrders = true) (hL : L.getLast? = some olast)
    (hA : ∀ vs, puts vs 0 L a0 = A vs) (hd : dstB L = true) (hbk : backB 0 L = true) (hc : coverB L = true) (hlen : Fs.length = L.length - 1) (hF : MonoAll Fs)
    (hs : ∀ Q', Steps P L.toArray Q' Fs A w0 0 L)
    (hl : ∀ vs lo hi w, Below w0.heap.size w0 w → (∀ k, k < L.length - 1 → w0.heap.size ≤ lo k ∧ hi k ≤ w.heap.size) → (∀ j k, j < L.length - 1 → k < L.length - 1 → j ≠ k → hi j ≤ lo k ∨ hi k ≤ lo j) → AllF vs lo hi w 0 Fs → ∀ (K' : Act → World → Prop) (Q' : Exit → Act → World → Prop), Shut (∀ a w, Q .normal a w → K' a w) →
      if Region.wanted olast (yielded L.toArray (A vs).tmps) = true then Oper.wp P olast (A vs) w K' Q' else K' ((A vs).put olast.dst undef) w) :
    (Code.region id L.toArray true).wp P Q a0 w0 := by
  obtain ⟨l, rfl⟩ : ∃ l, L = l ++ [olast] := by
    obtain ⟨l, hl⟩ := List.getLast?_eq_some_iff.1 hL
    exact ⟨l, hl⟩
  have hn : (l ++ [olast]).length - 1 = l.length := by simp
  rw [hn] at hlen hl
  refine wp_region_any hm ?_
  obtain ⟨vs, hvs⟩ : ∃ vs : Nat → Value, ∀ i o, (l ++ [olast])[i]? = some o → vs (0 + i) = own a0 o :=
    ⟨fun i => match (l ++ [olast])[i]? with | some o => own a0 o | none => undef, fun i o ho => by simp only [Nat.zero_add, ho]⟩
  have e : a0 = A vs := by rw [← hA, puts_own a0 vs _ 0 hvs]
  have h := wpAny_facts hA hd hbk hc hF hlen (hs Q) (fun vs lo hi w hb h1 h2 hf => wpOp_step (by simp) (fun K' hK => hl vs lo hi w hb h1 h2 hf K' Q hK)) (l ++ [olast]).toArray.size (Array.replicate (l ++ [olast]).toArray.size false) vs (fun _ => 0) (fun _ => 0) w0.drew (by simp) (by simp)
    (Nat.le_trans List.count_le_length (by simp)) (Below.refl _ _).drew (fun k hk => by simp [Array.getD] at hk) (fun j k hk => by simp [Array.getD] at hk) (fun k o _ hk => by simp [Array.getD] at hk)
  rw [← e] at h
  exact h

end Go.Proofs.Ytgfjpbiioaahhaa
