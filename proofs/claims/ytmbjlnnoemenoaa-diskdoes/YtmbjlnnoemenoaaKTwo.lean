/-
  A disk and the document's, side by side (layer 9's DiskDoes).
-/
import Derived.Test.YtmbjlnnoemenoaaKPair
import Derived.Test.YtmbjlnnoemenoaaKRefI
import Derived.Test.YtmbjlnnoemenoaaKRefD
import Derived.Test.YtmbjlnnoemenoaaKInv
set_option linter.unusedVariables false
set_option linter.unusedSimpArgs false
set_option maxRecDepth 100000
namespace Go.Proofs.Ytmbjlnnoemenoaa
open Go.RowKit Go.Maps Dk

/-- the pair, the disk at P, the document's at Q; ob: one block more that stays -/
structure TzS (B : Nat) (w0 w : World) (t ob d e : Nat) (oo : Obj) (S T : Nat → Prop) (P Q : PD) : Prop where
  blk : Blk w t #[ptr d, ptr e] 52
  box : w.heap[ob]? = some oo
  disk : IsD w d S P
  ref : IsE w e T Q
  apart : ∀ k, S k → ¬ T k
  tS : ¬ S t
  tT : ¬ T t
  oS : ¬ S ob
  oT : ¬ T ob
  out : Below B w0 w
  lowS : ∀ k, S k → B ≤ k
  lowT : ∀ k, T k → B ≤ k
  lowt : B ≤ t
  big : B ≤ w.heap.size
def Tz (B : Nat) (w0 w : World) (t ob d e : Nat) (oo : Obj) (P Q : PD) : Prop := ∃ S T, TzS B w0 w t ob d e oo S T P Q
theorem IsE.low {w : World} {e : Nat} {S : Nat → Prop} {P : PD} (h : IsE w e S P) : ∀ k, S k → k < w.heap.size := by obtain ⟨_, _, h⟩ := h; exact h.low
theorem lt_of_heap {w : World} {k : Nat} {o : Obj} (h : w.heap[k]? = some o) : k < w.heap.size := (Array.getElem?_eq_some_iff.1 h).1
theorem Tz.blk {B : Nat} {w0 w : World} {t ob d e : Nat} {oo : Obj} {P Q : PD} (h : Tz B w0 w t ob d e oo P Q) : Blk w t #[ptr d, ptr e] 52 := by obtain ⟨_, _, h⟩ := h; exact h.blk
theorem Tz.box {B : Nat} {w0 w : World} {t ob d e : Nat} {oo : Obj} {P Q : PD} (h : Tz B w0 w t ob d e oo P Q) : w.heap[ob]? = some oo := by obtain ⟨_, _, h⟩ := h; exact h.box
theorem Tz.out {B : Nat} {w0 w : World} {t ob d e : Nat} {oo : Obj} {P Q : PD} (h : Tz B w0 w t ob d e oo P Q) : Below B w0 w := by obtain ⟨_, _, h⟩ := h; exact h.out
theorem TzS.below {B : Nat} {w0 w w' : World} {t ob d e : Nat} {oo : Obj} {S T : Nat → Prop} {P Q : PD} (h : TzS B w0 w t ob d e oo S T P Q) (k : Below w.heap.size w w') : TzS B w0 w' t ob d e oo S T P Q :=
  ⟨(Ch.of_below (fun _ => False) k).kept h.blk (fun h => h), (Ch.of_below (fun _ => False) k).kept h.box (fun h => h), h.disk.below k, h.ref.below k, h.apart, h.tS, h.tT, h.oS, h.oT, h.out.trans (k.mono h.big), h.lowS, h.lowT, h.lowt, Nat.le_trans h.big k.size⟩
theorem Tz.below {B : Nat} {w0 w w' : World} {t ob d e : Nat} {oo : Obj} {P Q : PD} (h : Tz B w0 w t ob d e oo P Q) (k : Below w.heap.size w w') : Tz B w0 w' t ob d e oo P Q := by
  obtain ⟨S, T, h⟩ := h; exact ⟨S, T, h.below k⟩
/-- another block that stays -/
theorem Tz.boxed {B : Nat} {w0 w : World} {t ob d e : Nat} {oo : Obj} {P Q : PD} (h : Tz B w0 w t ob d e oo P Q) (o : Obj) : Tz B w0 (w.alloc o) t w.heap.size d e o P Q := by
  obtain ⟨S, T, h⟩ := h
  have k := h.below (below_alloc w o)
  refine ⟨S, T, k.blk, ?_, k.disk, k.ref, k.apart, k.tS, k.tT, fun hs => ?_, fun hs => ?_, k.out, k.lowS, k.lowT, k.lowt, k.big⟩
  · show (w.alloc o).heap[w.heap.size]? = _
    simp only [World.alloc, Array.getElem?_push_size]
  · have := h.disk.low _ hs; omega
  · have := h.ref.low _ hs; omega
/-- without it -/
theorem Tz.plain {B : Nat} {w0 w : World} {t ob d e : Nat} {oo : Obj} {P Q : PD} (h : Tz B w0 w t ob d e oo P Q) : Tz B w0 w t t d e (.cells #[ptr d, ptr e] 52 (0, 0)) P Q := by
  obtain ⟨S, T, h⟩ := h
  exact ⟨S, T, h.blk, h.blk, h.disk, h.ref, h.apart, h.tS, h.tT, h.tS, h.tT, h.out, h.lowS, h.lowT, h.lowt, h.big⟩
theorem TzS.turn1 {B : Nat} {w0 w w' : World} {t ob d e : Nat} {oo : Obj} {S T S' : Nat → Prop} {P Q P' : PD} (h : TzS B w0 w t ob d e oo S T P Q) (hd : IsD w' d S' P') (ht : Turn S w S' w') : TzS B w0 w' t ob d e oo S' T P' Q := by
  have hS : ∀ k, S' k → S k ∨ w.heap.size ≤ k := ht.sub
  refine ⟨ht.ch.kept h.blk h.tS, ht.ch.kept h.box h.oS, hd, h.ref.keep ht.ch (fun i hi hs => h.apart i hs hi), fun k hk hT => ?_, fun hk => ?_, h.tT, fun hk => ?_, h.oT, ht.ch.below h.out h.big h.lowS, fun k hk => ?_, h.lowT, h.lowt, Nat.le_trans h.big ht.ch.size⟩
  · rcases hS k hk with hs | hs
    · exact h.apart k hs hT
    · have := h.ref.low k hT; omega
  · rcases hS t hk with hs | hs
    · exact h.tS hs
    · have := h.blk.lt; omega
  · rcases hS ob hk with hs | hs
    · exact h.oS hs
    · have := lt_of_heap h.box; omega
  · rcases hS k hk with hs | hs
    · exact h.lowS k hs
    · have := h.big; omega
theorem TzS.turn2 {B : Nat} {w0 w w' : World} {t ob d e : Nat} {oo : Obj} {S T T' : Nat → Prop} {P Q Q' : PD} (h : TzS B w0 w t ob d e oo S T P Q) (hd : IsE w' e T' Q') (ht : Turn T w T' w') : TzS B w0 w' t ob d e oo S T' P Q' := by
  have hT : ∀ k, T' k → T k ∨ w.heap.size ≤ k := ht.sub
  refine ⟨ht.ch.kept h.blk h.tT, ht.ch.kept h.box h.oT, h.disk.keep ht.ch (fun i hi hs => h.apart i hi hs), hd, fun k hS hk => ?_, h.tS, fun hk => ?_, h.oS, fun hk => ?_, ht.ch.below h.out h.big h.lowT, h.lowS, fun k hk => ?_, h.lowt, Nat.le_trans h.big ht.ch.size⟩
  · rcases hT k hk with hs | hs
    · exact h.apart k hS hs
    · have := h.disk.low k hS; omega
  · rcases hT t hk with hs | hs
    · exact h.tT hs
    · have := h.blk.lt; omega
  · rcases hT ob hk with hs | hs
    · exact h.oT hs
    · have := lt_of_heap h.box; omega
  · rcases hT k hk with hs | hs
    · exact h.lowT k hs
    · have := h.big; omega
theorem Tz.call1 {B : Nat} {w0 w : World} {t ob d e : Nat} {oo : Obj} {P Q P' : PD} (h : Tz B w0 w t ob d e oo P Q) {f : FuncId} {args : Array Value} {R : Ending → Prop}
    (hc : ∀ S, IsD w d S P → Calls Try.prog f args w fun r w' => R r ∧ ∃ S', IsD w' d S' P' ∧ Turn S w S' w') : Calls Try.prog f args w fun r w' => R r ∧ Tz B w0 w' t ob d e oo P' Q := by
  obtain ⟨S, T, h⟩ := h
  refine (hc S h.disk).mono ?_
  rintro r w' ⟨hr, S', hd, ht⟩
  exact ⟨hr, S', T, h.turn1 hd ht⟩
theorem Tz.call2 {B : Nat} {w0 w : World} {t ob d e : Nat} {oo : Obj} {P Q Q' : PD} (h : Tz B w0 w t ob d e oo P Q) {f : FuncId} {args : Array Value} {R : Ending → Prop}
    (hc : ∀ S, IsE w e S Q → Calls Try.prog f args w fun r w' => R r ∧ ∃ S', IsE w' e S' Q' ∧ Turn S w S' w') : Calls Try.prog f args w fun r w' => R r ∧ Tz B w0 w' t ob d e oo P Q' := by
  obtain ⟨S, T, h⟩ := h
  refine (hc T h.ref).mono ?_
  rintro r w' ⟨hr, T', hd, ht⟩
  exact ⟨hr, S, T', h.turn2 hd ht⟩
theorem TzS.keep {B : Nat} {w0 w w' : World} {t ob d e : Nat} {oo : Obj} {S T S1 : Nat → Prop} {P Q : PD} (h : TzS B w0 w t ob d e oo S T P Q) (k : Ch S1 w w') (h1 : ∀ i, S i → ¬ S1 i) (h2 : ∀ i, T i → ¬ S1 i) (h3 : ¬ S1 t) (h4 : ¬ S1 ob) (h5 : ∀ i, S1 i → B ≤ i) : TzS B w0 w' t ob d e oo S T P Q :=
  ⟨k.kept h.blk h3, k.kept h.box h4, h.disk.keep k h1, h.ref.keep k h2, h.apart, h.tS, h.tT, h.oS, h.oT, k.below h.out h.big h5, h.lowS, h.lowT, h.lowt, Nat.le_trans h.big k.size⟩
/-- another disk stands in the pair -/
theorem TzS.first {B : Nat} {w0 w w2 : World} {t ob d e c : Nat} {oo : Obj} {S T Sc : Nat → Prop} {P Q P' : PD} (h : TzS B w0 w t ob d e oo S T P Q) (b2 : Below w.heap.size w w2) (hc : IsD w2 c Sc P') (hcl : ∀ k, Sc k → w.heap.size ≤ k) (hne : ob ≠ t) :
    TzS B w0 (w2.setCell ⟨t, 0, none⟩ (ptr c)) t ob c e oo Sc T P' Q := by
  have hk := Ch.set (w := w2) t 0 (ptr c)
  have h2 := h.below b2
  have ht := h.blk.lt
  have ho := lt_of_heap h.box
  refine ⟨?_, hk.kept h2.box hne, hc.keep hk (fun i hi e => by have := hcl i hi; omega), h2.ref.keep hk (fun i hi e => h.tT (e ▸ hi)), fun k hk hT => ?_, fun hk => ?_, h.tT, fun hk => ?_, h.oT, hk.below h2.out h2.big (fun i hi => by rw [hi]; exact h.lowt), fun k hk => ?_, h.lowT, h.lowt, Nat.le_trans h2.big hk.size⟩
  · have := h2.blk.set 0 (ptr c)
    simpa using this
  · have h1 := hcl k hk
    have h3 := h.ref.low k hT
    omega
  · have := hcl t hk; omega
  · have := hcl ob hk; omega
  · have h1 := hcl k hk
    have h3 := h.big
    omega
theorem TzS.second {B : Nat} {w0 w w2 : World} {t ob d e c : Nat} {oo : Obj} {S T Tc : Nat → Prop} {P Q Q' : PD} (h : TzS B w0 w t ob d e oo S T P Q) (b2 : Below w.heap.size w w2) (hc : IsE w2 c Tc Q') (hcl : ∀ k, Tc k → w.heap.size ≤ k) (hne : ob ≠ t) :
    TzS B w0 (w2.setCell ⟨t, 1, none⟩ (ptr c)) t ob d c oo S Tc P Q' := by
  have hk := Ch.set (w := w2) t 1 (ptr c)
  have h2 := h.below b2
  have ht := h.blk.lt
  have ho := lt_of_heap h.box
  refine ⟨?_, hk.kept h2.box hne, h2.disk.keep hk (fun i hi e => h.tS (e ▸ hi)), hc.keep hk (fun i hi e => by have := hcl i hi; omega), fun k hS hk => ?_, h.tS, fun hk => ?_, h.oS, fun hk => ?_, hk.below h2.out h2.big (fun i hi => by rw [hi]; exact h.lowt), h.lowS, fun k hk => ?_, h.lowt, Nat.le_trans h2.big hk.size⟩
  · have := h2.blk.set 1 (ptr c)
    simpa using this
  · have h1 := hcl k hk
    have h3 := h.disk.low k hS
    omega
  · have := hcl t hk; omega
  · have := hcl ob hk; omega
  · have h1 := hcl k hk
    have h3 := h.big
    omega
theorem sync_low (P : PD) (n : Bs) : (sync P n).1 < 100 := by
  unfold Dk.sync; split
  · simp
  · split
    · simp
    · split <;> simp
theorem cut_low (P : PD) (n : Bs) (m : Int) : (cut P n m).1 < 100 := by
  unfold Dk.cut; split
  · simp
  · split
    · simp
    · split
      · simp
      · split <;> simp
theorem append_low (P : PD) (n b : Bs) : (append P n b).1 < 100 := by
  unfold Dk.append; split
  · simp
  · split
    · simp
    · split
      · simp
      · simp only; split <;> simp
end Go.Proofs.Ytmbjlnnoemenoaa
