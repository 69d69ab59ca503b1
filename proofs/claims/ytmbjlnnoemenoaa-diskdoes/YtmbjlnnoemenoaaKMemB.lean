/-
  A whole disk of layer 9 in memory; what is left of it when a file, its head or its map turns.
-/
import Derived.Test.YtmbjlnnoemenoaaKMem
set_option linter.unusedVariables false
set_option linter.unusedSimpArgs false
set_option maxRecDepth 100000
namespace Go.Proofs.Ytmbjlnnoemenoaa
open Go.RowKit Go.Maps Dk

abbrev HR : Value → Option (DataW Value × List MemPlace) := fun v => some (.held v, [])
theorem lawS : Keyed Try.prog 9 := string_keyed Try.underlying9
theorem keyS {s : ByteArray} (h : s.size ≤ maxLen) : keyOf Try.prog 9 (.string s) = some (.string s.data.toList) := WideMaps.keyOf_string_mk Try.underlying9 h
abbrev ptr (b : Nat) : Value := .pointer (some ⟨b, 0, none⟩)
/-- the map's datum -/
def ents (A : Bs → Nat) (fs : List (Bs × PF)) : List (Lit × DataW Value) := fs.map fun p => (Lit.string p.1, DataW.held (ptr (A p.1)))
abbrev dat (A : Bs → Nat) (fs : List (Bs × PF)) : DataW Value := .map (ents A fs)

theorem same_str {a b : Bs} : (Lit.string a).sameKey (.string b) = decide (a = b) := by
  simp only [Lit.sameKey]; exact Bool.beq_eq_decide_eq a b
theorem at_dat (A : Bs → Nat) (n : Bs) (z : DataW Value) : ∀ fs : List (Bs × PF), (dat A fs).atKey (.string n) z = match get fs n with | some _ => .held (ptr (A n)) | none => z
  | [] => rfl
  | p :: r => by
    have ih := at_dat A n z r
    simp only [DataW.atKey, ents, List.map_cons, List.find?_cons, same_str, Dk.get] at ih ⊢
    by_cases h : p.1 = n
    · simp [h]
    · simp only [h, decide_false, if_false]; exact ih
theorem has_dat (A : Bs → Nat) (n : Bs) : ∀ fs : List (Bs × PF), Maps.has (dat A fs) (.string n) = (get fs n).isSome
  | [] => rfl
  | p :: r => by
    have ih := has_dat A n r
    simp only [has_eq, ents, List.map_cons, List.any_cons, same_str, Dk.get] at ih ⊢
    by_cases h : p.1 = n
    · simp [h]
    · simp only [h, decide_false, if_false, Bool.false_or]; exact ih
theorem ents_congr {A A' : Bs → Nat} {fs gs : List (Bs × PF)} (hk : fs.map (·.1) = gs.map (·.1)) (hA : ∀ p ∈ gs, A p.1 = A' p.1) : ents A fs = ents A' gs := by
  have e : ∀ (A : Bs → Nat) (l : List (Bs × PF)), ents A l = (l.map (·.1)).map fun n => (Lit.string n, DataW.held (ptr (A n))) := fun A l => by simp [ents, List.map_map, Function.comp_def]
  rw [e, e, hk]
  refine List.map_congr_left fun n hn => ?_
  obtain ⟨p, hp, rfl⟩ := List.mem_map.1 hn
  rw [hA p hp]
theorem ents_ins (A : Bs → Nat) (n : Bs) : ∀ fs : List (Bs × PF), DataW.insert (Lit.string n, DataW.held (ptr (A n))) (ents A fs) = ents A (ins n fs)
  | [] => rfl
  | p :: r => by
    have ih := ents_ins A n r
    simp only [ents, List.map_cons, DataW.insert, ins, Lit.before] at ih ⊢
    by_cases hb : bytesBefore n p.1 = true
    · simp [hb]
    · simp [hb, ih]
theorem put_dat {A : Bs → Nat} {n : Bs} {fs : List (Bs × PF)} (h : get fs n = none) : (dat A fs).put (.string n) (.held (ptr (A n))) = dat A (ins n fs) := by
  show DataW.map (DataW.insert _ ((ents A fs).filter _)) = _
  rw [List.filter_eq_self.2 (fun p hp => by
    obtain ⟨q, hq, rfl⟩ := List.mem_map.1 hp
    simp [same_str, get_none h q hq]), ents_ins]

/-- a file, in its block; its bytes, in their row -/
def FileAt (w : World) (S : Nat → Prop) (a : Nat × Value) (f : PF) : Prop :=
  S a.1 ∧ Blk w a.1 #[a.2, .int .i64 f.last] 69 ∧ Row w a.2 f.all ∧ ∀ g, a.2.ownBlock = some g → S g
/-- the map of the files -/
def MapAt (w : World) (S : Nat → Prop) (mv : Value) (A : Bs → Nat) (fs : List (Bs × PF)) : Prop :=
  (mv = .map none ∧ fs = []) ∨ ∃ m, mv = .map (some m) ∧ S m ∧ w.ownsMap Try.prog 9 HR m fs.length (dat A fs)
def Apart (A : Bs → Nat × Value) (fs : List (Bs × PF)) : Prop :=
  ∀ p ∈ fs, ∀ q ∈ fs, p.1 ≠ q.1 → (A p.1).1 ≠ (A q.1).1 ∧ ∀ g, (A p.1).2.ownBlock = some g → (A q.1).2.ownBlock ≠ some g
abbrev head (P : PD) (mv : Value) : Array Value := #[.int .i64 P.room, mv, .bool P.fused, .int .i64 P.left, .bool P.dead]
/-- the disk, its parts told -/
structure IsA (w : World) (d : Nat) (S : Nat → Prop) (P : PD) (mv : Value) (A : Bs → Nat × Value) : Prop where
  wf : Wf P
  blk : Blk w d (head P mv) 56
  inS : S d
  low : ∀ k, S k → k < w.heap.size
  map : MapAt w S mv (fun n => (A n).1) P.fs
  file : ∀ p ∈ P.fs, FileAt w S (A p.1) p.2
  apart : Apart A P.fs
def IsD (w : World) (d : Nat) (S : Nat → Prop) (P : PD) : Prop := ∃ mv A, IsA w d S P mv A

/-- what a call leaves: S, and what is new -/
structure Turn (S : Nat → Prop) (w : World) (S' : Nat → Prop) (w' : World) : Prop where
  ch : Ch S w w'
  sub : ∀ k, S' k → S k ∨ w.heap.size ≤ k
theorem Turn.refl (S : Nat → Prop) (w : World) : Turn S w S w := ⟨Ch.refl _ _, fun _ h => .inl h⟩
theorem Turn.trans {S S1 S2 : Nat → Prop} {a b c : World} (h : Turn S a S1 b) (k : Turn S1 b S2 c) : Turn S a S2 c :=
  ⟨h.ch.trans k.ch h.sub, fun i hi => by
    rcases k.sub i hi with h1 | h1
    · exact h.sub i h1
    · exact .inr (Nat.le_trans h.ch.size h1)⟩
theorem Turn.of_below {w w' : World} {S : Nat → Prop} (h : Below w.heap.size w w') : Turn S w S w' := ⟨Ch.of_below _ h, fun _ h => .inl h⟩

theorem ne_of_blk {w : World} {b g : Nat} {cs cs' : Array Value} {T T' : TypeId} (h : Blk w b cs T) (k : Blk w g cs' T') (hT : T ≠ T') : b ≠ g := by
  rintro rfl
  unfold Blk at h k
  rw [h] at k
  simp at k
  exact hT k.2
theorem ne_of_map {w : World} {b m n : Nat} {cs : Array Value} {T : TypeId} {D : DataW Value} (h : Blk w b cs T) (k : w.ownsMap Try.prog 9 HR m n D) : b ≠ m := by
  rintro rfl
  obtain ⟨es, c, hb, _⟩ := k
  unfold Blk at h
  rw [h] at hb; cases hb
theorem row_blk {w : World} {v : Value} {l : Bs} (h : Row w v l) {g : Nat} (hg : v.ownBlock = some g) : ∃ cur, Blk w g cur 5 := by
  rcases h.shape with ⟨rfl, _⟩ | ⟨g', cap, cur, rfl, hb, _⟩
  · cases hg
  · cases hg; exact ⟨cur, hb⟩

theorem IsA.keep {w w' : World} {d : Nat} {S S1 : Nat → Prop} {P : PD} {mv : Value} {A : Bs → Nat × Value} (h : IsA w d S P mv A) (k : Ch S1 w w') (hd : ∀ i, S i → ¬ S1 i) : IsA w' d S P mv A := by
  refine ⟨h.wf, k.kept h.blk (hd _ h.inS), h.inS, fun i hi => Nat.lt_of_lt_of_le (h.low i hi) k.size, ?_, fun p hp => ?_, h.apart⟩
  · rcases h.map with h0 | ⟨m, h1, h2, h3⟩
    · exact .inl h0
    · obtain ⟨es, c, hb, h4⟩ := h3
      exact .inr ⟨m, h1, h2, es, c, k.kept hb (hd _ h2), h4⟩
  · obtain ⟨h1, h2, h3, h4⟩ := h.file p hp
    exact ⟨h1, k.kept h2 (hd _ h1), h3.kept k (fun g hg => hd g (h4 g hg)), h4⟩
theorem IsD.keep {w w' : World} {d : Nat} {S S1 : Nat → Prop} {P : PD} (h : IsD w d S P) (k : Ch S1 w w') (hd : ∀ i, S i → ¬ S1 i) : IsD w' d S P := by
  obtain ⟨mv, A, h⟩ := h; exact ⟨mv, A, h.keep k hd⟩
theorem IsA.below {w w' : World} {d : Nat} {S : Nat → Prop} {P : PD} {mv : Value} {A : Bs → Nat × Value} (h : IsA w d S P mv A) (k : Below w.heap.size w w') : IsA w' d S P mv A :=
  h.keep (Ch.of_below (fun _ => False) k) (fun _ _ h => h)
theorem IsD.below {w w' : World} {d : Nat} {S : Nat → Prop} {P : PD} (h : IsD w d S P) (k : Below w.heap.size w w') : IsD w' d S P := by
  obtain ⟨mv, A, h⟩ := h; exact ⟨mv, A, h.below k⟩

/-- THE HEAD HAS TURNED (and no more) -/
theorem IsA.turned {w w' : World} {d : Nat} {S : Nat → Prop} {P P' : PD} {mv : Value} {A : Bs → Nat × Value} (h : IsA w d S P mv A) (k : Ch (fun i => i = d) w w') (hf : P'.fs = P.fs) (hr : P'.room = P.room) (hl : P'.left < 9223372036854775808)
    (hb : Blk w' d (head P' mv) 56) : IsA w' d S P' mv A := by
  have hne : ∀ {b cs T}, Blk w b cs T → T ≠ 56 → ¬ b = d := fun hb hT => ne_of_blk hb h.blk hT
  refine ⟨⟨hr ▸ h.wf.room, by rw [hf, hr]; exact h.wf.used, hf ▸ h.wf.rise, hf ▸ h.wf.last, hf ▸ h.wf.few, hl, hf ▸ h.wf.names⟩, hb, h.inS, fun i hi => Nat.lt_of_lt_of_le (h.low i hi) k.size, ?_, fun p hp => ?_, hf ▸ h.apart⟩
  · rw [hf]
    rcases h.map with h0 | ⟨m, h1, h2, h3⟩
    · exact .inl h0
    · have hm := ne_of_map h.blk h3
      obtain ⟨es, c, hb, h4⟩ := h3
      exact .inr ⟨m, h1, h2, es, c, k.kept hb (fun e => hm e.symm), h4⟩
  · rw [hf] at hp
    obtain ⟨h1, h2, h3, h4⟩ := h.file p hp
    refine ⟨h1, k.kept h2 (hne h2 (by decide)), h3.kept k (fun g hg => ?_), h4⟩
    obtain ⟨cur, hc⟩ := row_blk h3 hg
    exact hne hc (by decide)

/-- A FILE, AND THE HEAD, HAVE TURNED -/
theorem IsA.filed {w w' : World} {d : Nat} {S : Nat → Prop} {P P' : PD} {mv : Value} {A : Bs → Nat × Value} (h : IsA w d S P mv A) {n : Bs} {f f' : PF} (hg : get P.fs n = some f)
    (k : Ch (fun i => i = d ∨ i = (A n).1 ∨ (A n).2.ownBlock = some i) w w') (hf : P'.fs = upd n f' P.fs) (hr : P'.room = P.room) (hl : P'.left < 9223372036854775808)
    (hu : used P'.fs ≤ P.room) (hla : f'.last ≤ f'.all.length)
    (hb : Blk w' d (head P' mv) 56) {v' : Value} (hfb : Blk w' (A n).1 #[v', .int .i64 f'.last] 69) (hrow : Row w' v' f'.all)
    (hv : v'.ownBlock = (A n).2.ownBlock ∨ v'.ownBlock = none ∨ ∃ g, v'.ownBlock = some g ∧ w.heap.size ≤ g) :
    ∃ S', IsA w' d S' P' mv (fun m => if m = n then ((A n).1, v') else A m) ∧ Turn S w S' w' := by
  have hmem := get_mem hg
  obtain ⟨f1, f2, f3, f4⟩ := h.file _ hmem
  have hlt : ∀ g, v'.ownBlock = some g → g < w'.heap.size := fun g hg => (hrow.lt g hg).2
  have hrise : Rise P'.fs := hf ▸ rise_upd h.wf.rise
  have hkeys : P'.fs.map (·.1) = P.fs.map (·.1) := by rw [hf, keys_upd]
  -- a file's block or row is none of the others'
  have hold : ∀ p ∈ P.fs, p.1 ≠ n → (¬ ((A p.1).1 = d ∨ (A p.1).1 = (A n).1 ∨ (A n).2.ownBlock = some (A p.1).1)) ∧ ∀ g, (A p.1).2.ownBlock = some g → ¬ (g = d ∨ g = (A n).1 ∨ (A n).2.ownBlock = some g) := by
    intro p hp hpn
    obtain ⟨p1, p2, p3, p4⟩ := h.file p hp
    obtain ⟨a1, a2⟩ := h.apart p hp _ hmem hpn
    refine ⟨?_, fun g hg => ?_⟩
    · rintro (e | e | e)
      · exact ne_of_blk p2 h.blk (by decide) e
      · exact a1 e
      · obtain ⟨cur, hc⟩ := row_blk f3 e
        exact ne_of_blk hc p2 (by decide) rfl
    · obtain ⟨cur, hc⟩ := row_blk p3 hg
      rintro (e | e | e)
      · exact ne_of_blk hc h.blk (by decide) e
      · exact ne_of_blk hc f2 (by decide) e
      · exact a2 g hg e
  refine ⟨fun i => S i ∨ v'.ownBlock = some i, ⟨⟨hr ▸ h.wf.room, hr ▸ hu, hrise, ?_, ?_, hl, names_of_keys hkeys h.wf.names⟩, hb, .inl h.inS, ?_, ?_, ?_, ?_⟩, ?_, ?_⟩
  · intro p hp
    rw [hf] at hp
    rcases mem_upd h.wf.rise hp with rfl | ⟨h1, _⟩
    · exact hla
    · exact h.wf.last p h1
  · rw [hf, len_upd]; exact h.wf.few
  · rintro i (hi | hi)
    · exact Nat.lt_of_lt_of_le (h.low i hi) k.size
    · exact hlt i hi
  · have he : dat (fun m => ((fun m => if m = n then ((A n).1, v') else A m) m).1) P'.fs = dat (fun m => (A m).1) P.fs := by
      unfold dat
      rw [ents_congr hkeys]
      intro p _
      show (if p.1 = n then ((A n).1, v') else A p.1).1 = _
      split
      · rename_i e; rw [e]
      · rfl
    rcases h.map with ⟨h0, h1⟩ | ⟨m, h1, h2, h3⟩
    · rw [h1] at hmem; cases hmem
    · have hmd := ne_of_map h.blk h3
      have hmf := ne_of_map f2 h3
      refine .inr ⟨m, h1, .inl h2, ?_⟩
      rw [he, show P'.fs.length = P.fs.length by rw [hf, len_upd]]
      obtain ⟨es, c, hb, h4⟩ := h3
      refine ⟨es, c, k.kept hb ?_, h4⟩
      rintro (e | e | e)
      · exact hmd e.symm
      · exact hmf e.symm
      · obtain ⟨cur, hc⟩ := row_blk f3 e
        unfold Blk at hc; rw [hc] at hb; cases hb
  · intro p hp
    rw [hf] at hp
    rcases mem_upd h.wf.rise hp with rfl | ⟨h1, h2⟩
    · simp only [if_pos]
      exact ⟨.inl f1, hfb, hrow, fun g hg => .inr hg⟩
    · rw [if_neg h2]
      obtain ⟨p1, p2, p3, p4⟩ := h.file p h1
      obtain ⟨o1, o2⟩ := hold p h1 h2
      exact ⟨.inl p1, k.kept p2 o1, p3.kept k o2, fun g hg => .inl (p4 g hg)⟩
  · intro p hp q hq hpq
    rw [hf] at hp hq
    have key : ∀ q, q ∈ P.fs → q.1 ≠ n → (A n).1 ≠ (A q.1).1 ∧ ∀ g, v'.ownBlock = some g → (A q.1).2.ownBlock ≠ some g := by
      intro q hq hqn
      obtain ⟨a1, a2⟩ := h.apart _ hmem q hq (Ne.symm hqn)
      refine ⟨a1, fun g hg e => ?_⟩
      rcases hv with hv | hv | ⟨g', hv, hge⟩
      · exact a2 g (hv ▸ hg) e
      · rw [hv] at hg; cases hg
      · rw [hv] at hg; cases hg
        obtain ⟨q1, q2, q3, q4⟩ := h.file q hq
        have := h.low g (q4 g e); omega
    rcases mem_upd h.wf.rise hp with rfl | ⟨h1, h2⟩ <;> rcases mem_upd h.wf.rise hq with rfl | ⟨h3, h4⟩
    · exact absurd rfl hpq
    · simp only [if_pos, if_neg h4]; exact key q h3 h4
    · simp only [if_pos, if_neg h2]
      obtain ⟨a1, a2⟩ := key p h1 h2
      exact ⟨Ne.symm a1, fun g hg e => a2 g e hg⟩
    · simp only [if_neg h2, if_neg h4]; exact h.apart p h1 q h3 hpq
  · refine k.weak fun i _ hi => ?_
    rcases hi with rfl | rfl | hi
    · exact h.inS
    · exact f1
    · exact f4 i hi
  · rintro i (hi | hi)
    · exact .inl hi
    · rcases hv with hv | hv | ⟨g', hv, hge⟩
      · exact .inl (f4 i (hv ▸ hi))
      · rw [hv] at hi; cases hi
      · rw [hv] at hi; cases hi; exact .inr hge
end Go.Proofs.Ytmbjlnnoemenoaa
