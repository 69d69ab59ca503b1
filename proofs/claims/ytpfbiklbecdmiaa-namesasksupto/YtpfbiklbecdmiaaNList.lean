/-
  THE WALK of heliastlaw06.List: servers that are let in, or not, as choices say. (Written by tools/gen_nlist.py.)
-/
import Derived.Test.YtpfbiklbecdmiaaNLetB
import Derived.Test.YtpfbiklbecdmiaaVWithC
import Derived.Test.YtpfbiklbecdmiaaVBlock
import Derived.Test.YtpfbiklbecdmiaaRTail
import Derived.Deep.DeepCutAuto
import Derived.Deep.CutBlock
import Derived.BigRegion
set_option linter.unusedVariables false
set_option linter.unusedSimpArgs false
namespace Go.Proofs.Ytpfbiklbecdmiaa
open Go.RowKit Go.Shelf

theorem mono_blk (t : TypeId) (M : Array Value) : Mono (fun lo _ v w => v = .slice (some ⟨lo, 0, none⟩) 1 1 ∧ w.heap[lo]? = some (.cells M t)) := fun lo hi v w w' h k =>
  ⟨h.1, (k.block lo (Array.getElem?_eq_some_iff.1 h.2).1).trans h.2⟩
theorem heap_alloc_nw (w : World) (o : Obj) : (w.alloc o).heap[w.heap.size]? = some o := by
  simp only [World.alloc, Array.getElem?_push_size]
theorem nown_keep {w w' : World} {base : Nat} {e : TypeId} {sz : Nat} {v : Value} {n : Nat} {xs : List Value} (h : w.ownsRow base e sz v n xs) (k : ∀ g, v.ownBlock = some g → w'.heap[g]? = w.heap[g]?) : w'.ownsRow base e sz v n xs := by
  obtain ⟨h1, h2⟩ := h
  refine ⟨h1, ?_⟩
  rcases h2 with h2 | ⟨g, cap, cur, hv, hb, hg, r⟩
  · exact .inl h2
  · refine .inr ⟨g, cap, cur, hv, hb, ?_, r⟩
    rw [k g (by rw [hv]; rfl)]; exact hg
theorem nown_below {w w' : World} {base : Nat} {e : TypeId} {sz : Nat} {v : Value} {n : Nat} {xs : List Value} (h : w.ownsRow base e sz v n xs) (k : Below w.heap.size w w') : w'.ownsRow base e sz v n xs :=
  nown_keep h (fun g hg => k.block g (h.lt g hg).2)

def tq (p : ByteArray) : Value × Value × Value × Value × Value := (.int .i64 3, .int .i64 0, .string p, .slice none 0 0, .slice none 0 0)
/-- the first k patterns that choices make -/
def pats (zs : List Int) (k : Nat) : List ByteArray := (List.range k).map fun j => ⟨(Nm.pat (zs.drop (3 * j)) 3).toArray⟩
theorem pats_length (zs : List Int) (k : Nat) : (pats zs k).length = k := by simp [pats]
theorem pats_succ (zs : List Int) (k : Nat) : pats zs (k + 1) = pats zs k ++ [⟨(Nm.pat (zs.drop (3 * k)) 3).toArray⟩] := by
  unfold pats
  rw [List.range_succ, List.map_append]
  rfl
theorem run_slice_mid (w : World) (b o len cap q m : Nat) (hl : len ≤ cap) (hm : q + m ≤ len) (hm0 : 0 < m) : (Instr.sliceAt 26 (.slice (some ⟨b, o, none⟩) len cap) (some (.int .i64 q)) (some (.int .i64 ((q : Int) + m))) none).run Try.prog w = .ok (.slice (some ⟨b, o + q, none⟩) m (cap - q)) w := by
  have hu : (Try.prog.underlying 26) = some (.slice 5) := Try.underlying26
  have hs : (sizeOf 5).run Try.prog w = .ok 1 w := Try.sizeOf5 w
  have h1 : (q : Int) + m ≤ cap := by omega
  have h2 : (q : Int) ≤ (q : Int) + m := by omega
  have h3 : (0 : Int) ≤ (q : Int) + m := by omega
  have h4 : ((q : Int) + m).toNat = q + m := by omega
  have h5 : ¬ cap - q = 0 := by omega
  have h6 : (q : Int) ≤ cap := by omega
  have h7 : ¬ cap = q := by omega
  have e : (if q = 0 then (⟨b, o, none⟩ : Addr) else ⟨b, o + q, none⟩) = ⟨b, o + q, none⟩ := by
    split
    · rename_i h; subst h; rfl
    · rfl
  simp [Instr.sliceAt, Instr.slice, run_underlying hu, Instr.sliceBounds, run_sliceBound, hs, h1, h2, h3, h4, h5, h6, h7, Addr.add]
  try exact e
theorem run_slice_3 (w : World) (b o len cap q : Nat) (hl : len ≤ cap) (hm : q + 3 ≤ len) : (Instr.sliceAt 26 (.slice (some ⟨b, o, none⟩) len cap) (some (.int .i64 q)) (some (.int .i64 ((q : Int) + 3))) none).run Try.prog w = .ok (.slice (some ⟨b, o + q, none⟩) 3 (cap - q)) w :=
  run_slice_mid w b o len cap q 3 hl hm (by omega)
theorem bys_piece {w : World} {a : Option Addr} {len : Nat} {zs : List Int} (h : Bys w a len zs) (q : Nat) (hq : q + 3 ≤ len) : ∃ b off, a = some ⟨b, off, none⟩ ∧ Bys w (some ⟨b, off + q, none⟩) 3 (zs.drop q) := by
  obtain ⟨h1, h2, h3, h4⟩ := h
  obtain ⟨b, off, ha, _⟩ := h4 0 (by omega)
  refine ⟨b, off, ha, by rw [List.length_drop]; omega, by unfold maxLen; omega, fun n hn => h3 n (List.mem_of_mem_drop hn), fun i hi => ?_⟩
  obtain ⟨b', off', ha', hc⟩ := h4 (q + i) (by omega)
  rw [ha] at ha'
  simp only [Option.some.injEq, Addr.mk.injEq, and_true] at ha'
  obtain ⟨rfl, rfl⟩ := ha'
  refine ⟨b, off + q, rfl, ?_⟩
  rw [Nat.add_assoc, hc]
  congr 2
  rw [List.getD_eq_getElem?_getD, List.getD_eq_getElem?_getD, List.getElem?_drop]

theorem box5_blk {w : World} {g : Nat} {t : TypeId} {c0 c1 c2 c3 c4 : Value} (h : w.heap[g]? = some (.cells #[c0, c1, c2, c3, c4] t)) : Box5 w g c0 c1 c2 c3 c4 := by
  refine ⟨?_, ?_, ?_, ?_, ?_⟩ <;> simp only [World.cell?, h] <;> rfl
theorem raw_blk {w : World} {g : Nat} {t : TypeId} {p : ByteArray} (h : w.heap[g]? = some (.cells #[.int .i64 3, .int .i64 0, .string p, .slice none 0 0, .slice none 0 0] t)) :
    Raw w (fun _ => True) (.slice (some ⟨g, 0, none⟩) 1 1) 5 1 (cellsQ ([p].map tq)) := by
  refine ⟨_, _, rfl, Nat.le_refl _, by decide, rfl, by simp [cellsQ, five, tq, Value.oneCell'], fun _ => ⟨_, 0, rfl, trivial, fun i hi => ?_⟩⟩
  obtain ⟨h0, h1, h2, h3, h4⟩ := box5_blk h
  have : i = 0 ∨ i = 1 ∨ i = 2 ∨ i = 3 ∨ i = 4 := by omega
  rcases this with rfl | rfl | rfl | rfl | rfl
  · exact h0
  · exact h1
  · exact h2
  · exact h3
  · exact h4
theorem boxF_keepB {w w' : World} {B g : Nat} {c0 c1 c2 c3 c4 : Value} (h : BoxF w g c0 c1 c2 c3 c4) (k : Below B w w') (hg : g < B) : BoxF w' g c0 c1 c2 c3 c4 := by
  obtain ⟨⟨h0, h1, h2, h3, h4⟩, f0, f1, f2, f3, f4⟩ := h
  have kc : ∀ o v, w.cell? ⟨g, o, none⟩ = some v → w'.cell? ⟨g, o, none⟩ = some v := fun o v hv => by rw [k.cell (p := ⟨g, o, none⟩) hg]; exact hv
  have kf : ∀ o, w.frozen? ⟨g, o, none⟩ = false → w'.frozen? ⟨g, o, none⟩ = false := fun o hv => by rw [k.frozen (p := ⟨g, o, none⟩) hg]; exact hv
  exact ⟨⟨kc _ _ h0, kc _ _ h1, kc _ _ h2, kc _ _ h3, kc _ _ h4⟩, kf _ f0, kf _ f1, kf _ f2, kf _ f3, kf _ f4⟩
theorem boxF_set4 {w : World} {g : Nat} {c0 c1 c2 c3 c4 : Value} (h : BoxF w g c0 c1 c2 c3 c4) (v : Value) : BoxF (w.setCell ⟨g, 4, none⟩ v) g c0 c1 c2 c3 v := by
  obtain ⟨⟨h0, h1, h2, h3, h4⟩, f0, f1, f2, f3, f4⟩ := h
  refine ⟨⟨box_other h0 (by omega), box_other h1 (by omega), box_other h2 (by omega), box_other h3 (by omega), World.cell?_setCell_same _ _ _ h4⟩, ?_, ?_, ?_, ?_, ?_⟩ <;> (rw [World.frozen?_setCell]; assumption)
theorem boxF_other {w : World} {g g' o : Nat} {c0 c1 c2 c3 c4 : Value} (h : BoxF w g c0 c1 c2 c3 c4) (v : Value) (hne : g ≠ g') : BoxF (w.setCell ⟨g', o, none⟩ v) g c0 c1 c2 c3 c4 := by
  obtain ⟨⟨h0, h1, h2, h3, h4⟩, f0, f1, f2, f3, f4⟩ := h
  refine ⟨⟨box_other h0 (.inl hne), box_other h1 (.inl hne), box_other h2 (.inl hne), box_other h3 (.inl hne), box_other h4 (.inl hne)⟩, ?_, ?_, ?_, ?_, ?_⟩ <;> (rw [World.frozen?_setCell]; assumption)
theorem own_set {w : World} {base : Nat} {e : TypeId} {sz : Nat} {v : Value} {n : Nat} {xs : List Value} {g o : Nat} (h : w.ownsRow base e sz v n xs) (x : Value) (hg : g < base) : (w.setCell ⟨g, o, none⟩ x).ownsRow base e sz v n xs :=
  nown_keep h (fun b hb => Below.heap_setCell _ _ _ _ (by have := own_block h b hb; simp only; omega))

theorem pats_size (zs : List Int) (k : Nat) : ∀ p ∈ pats zs k, p.size ≤ 48 := by
  intro p hp
  obtain ⟨j, _, rfl⟩ := List.mem_map.1 hp
  rw [Lib.size_eq]
  have := Nm.pick_len 6 Nm.patTab (by decide) (zs.drop (3 * j)) (min 3 12)
  show (Nm.pat (zs.drop (3 * j)) 3).length ≤ 48
  unfold Nm.pat
  omega
theorem els_texts (w : World) (S : Nat → Prop) : ∀ ps : List ByteArray, (∀ p ∈ ps, p.size ≤ maxLen) → Els w S (ps.map tq) (ps.map V.str)
  | [], _ => Els.nil _ _
  | p :: ps, h => (Els.one (e := tq p) (x := V.str p) (is_plain w S 3 0 p (h p (by simp)))).append (els_texts w S ps (fun q hq => h q (by simp [hq])))
theorem cells_texts (ps : List ByteArray) : ∀ u ∈ cellsQ (ps.map tq), u.oneCell' = true := by
  intro u hu
  unfold cellsQ at hu
  obtain ⟨e, he, hue⟩ := List.mem_flatMap.1 hu
  obtain ⟨p, _, rfl⟩ := List.mem_map.1 he
  simp [five, tq] at hue
  rcases hue with rfl | rfl | rfl | rfl | rfl <;> rfl
theorem isL_texts {w : World} {base : Nat} {t : TypeId} {v : Value} {n : Nat} {ps : List ByteArray} {S : Nat → Prop} (h : w.ownsRow base t 5 v n (cellsQ (ps.map tq))) (hS : ∀ b, base ≤ b → S b) (hps : ∀ p ∈ ps, p.size ≤ maxLen) : IsL w S v (ps.map V.str) :=
  isL_of_raw ((Raw.of_own h (cells_texts ps)).weak (fun b _ hb => hS b hb)) (els_texts w _ ps hps)

/-- what List makes -/
def listV (p d : List ByteArray) : V := ⟨5, 0, ⟨#[]⟩, [allowB, denyB], [V.texts p, V.texts d]⟩
theorem list_end {w wr : World} {N M : Nat} {la lb : Option Addr} {lc lc2 : Nat} {ps ds : List ByteArray} (hps : ∀ p ∈ ps, p.size ≤ maxLen) (hds : ∀ p ∈ ds, p.size ≤ maxLen) (hb : Below N w wr) (hsz : N + 3 ≤ wr.heap.size)
    (ha : wr.ownsRow (N + 3) 25 5 (.slice la ps.length lc) ps.length (cellsQ (ps.map tq))) (hd : wr.ownsRow M 25 5 (.slice lb ds.length lc2) ds.length (cellsQ (ds.map tq))) (hM : N + 3 ≤ M) :
    Is (((((((wr.alloc (.cells #[.string ⟨#[97, 108, 108, 111, 119]⟩, .string ⟨#[100, 101, 110, 121]⟩] 9)).alloc (.cells #[.int .i64 4, .int .i64 0, .string ⟨#[]⟩, .slice none 0 0, .slice la ps.length lc, .int .i64 4, .int .i64 0, .string ⟨#[]⟩, .slice none 0 0, .slice lb ds.length lc2] 25)).setCell ⟨N, 0, none⟩ (.int .i64 5)).setCell ⟨N, 1, none⟩ (.int .i64 0)).setCell ⟨N, 2, none⟩ (.string ⟨#[]⟩)).setCell ⟨N, 3, none⟩ (.slice (some ⟨wr.heap.size, 0, none⟩) 2 2)).setCell ⟨N, 4, none⟩ (.slice (some ⟨wr.heap.size + 1, 0, none⟩) 2 2)) (fun _ => True) (.agg #[.int .i64 5, .int .i64 0, .string ⟨#[]⟩, .slice (some ⟨wr.heap.size, 0, none⟩) 2 2, .slice (some ⟨wr.heap.size + 1, 0, none⟩) 2 2]) (listV ps ds) ∧ Below N w (((((((wr.alloc (.cells #[.string ⟨#[97, 108, 108, 111, 119]⟩, .string ⟨#[100, 101, 110, 121]⟩] 9)).alloc (.cells #[.int .i64 4, .int .i64 0, .string ⟨#[]⟩, .slice none 0 0, .slice la ps.length lc, .int .i64 4, .int .i64 0, .string ⟨#[]⟩, .slice none 0 0, .slice lb ds.length lc2] 25)).setCell ⟨N, 0, none⟩ (.int .i64 5)).setCell ⟨N, 1, none⟩ (.int .i64 0)).setCell ⟨N, 2, none⟩ (.string ⟨#[]⟩)).setCell ⟨N, 3, none⟩ (.slice (some ⟨wr.heap.size, 0, none⟩) 2 2)).setCell ⟨N, 4, none⟩ (.slice (some ⟨wr.heap.size + 1, 0, none⟩) 2 2)) := by
  have hbb : Below wr.heap.size wr ((wr.alloc (.cells #[.string ⟨#[97, 108, 108, 111, 119]⟩, .string ⟨#[100, 101, 110, 121]⟩] 9)).alloc (.cells #[.int .i64 4, .int .i64 0, .string ⟨#[]⟩, .slice none 0 0, .slice la ps.length lc, .int .i64 4, .int .i64 0, .string ⟨#[]⟩, .slice none 0 0, .slice lb ds.length lc2] 25)) := bthen (below_alloc _ _) (below_alloc _ _)
  have r1 := (row_new wr #[.string ⟨#[97, 108, 108, 111, 119]⟩, .string ⟨#[100, 101, 110, 121]⟩] 9 _ rfl).keep (by simp) (below_alloc (wr.alloc (.cells #[.string ⟨#[97, 108, 108, 111, 119]⟩, .string ⟨#[100, 101, 110, 121]⟩] 9)) (.cells #[.int .i64 4, .int .i64 0, .string ⟨#[]⟩, .slice none 0 0, .slice la ps.length lc, .int .i64 4, .int .i64 0, .string ⟨#[]⟩, .slice none 0 0, .slice lb ds.length lc2] 25))
  have r2 := row_new (wr.alloc (.cells #[.string ⟨#[97, 108, 108, 111, 119]⟩, .string ⟨#[100, 101, 110, 121]⟩] 9)) #[.int .i64 4, .int .i64 0, .string ⟨#[]⟩, .slice none 0 0, .slice la ps.length lc, .int .i64 4, .int .i64 0, .string ⟨#[]⟩, .slice none 0 0, .slice lb ds.length lc2] 25 (wr.heap.size + 1) (by simp)
  have ha2 := nown_below ha hbb
  have hd2 := nown_below hd hbb
  have h1 : Is ((wr.alloc (.cells #[.string ⟨#[97, 108, 108, 111, 119]⟩, .string ⟨#[100, 101, 110, 121]⟩] 9)).alloc (.cells #[.int .i64 4, .int .i64 0, .string ⟨#[]⟩, .slice none 0 0, .slice la ps.length lc, .int .i64 4, .int .i64 0, .string ⟨#[]⟩, .slice none 0 0, .slice lb ds.length lc2] 25)) (fun b => N + 3 ≤ b) (.agg #[.int .i64 4, .int .i64 0, .string ⟨#[]⟩, .slice none 0 0, .slice la ps.length lc]) (V.texts ps) := Is.shut (x := V.texts ps) (strs_nil _ _) (isL_texts ha2 (fun b hb => hb) hps) (Nat.zero_le _)
  have h2 : Is ((wr.alloc (.cells #[.string ⟨#[97, 108, 108, 111, 119]⟩, .string ⟨#[100, 101, 110, 121]⟩] 9)).alloc (.cells #[.int .i64 4, .int .i64 0, .string ⟨#[]⟩, .slice none 0 0, .slice la ps.length lc, .int .i64 4, .int .i64 0, .string ⟨#[]⟩, .slice none 0 0, .slice lb ds.length lc2] 25)) (fun b => N + 3 ≤ b) (.agg #[.int .i64 4, .int .i64 0, .string ⟨#[]⟩, .slice none 0 0, .slice lb ds.length lc2]) (V.texts ds) := Is.shut (x := V.texts ds) (strs_nil _ _) (isL_texts hd2 (fun b hb => Nat.le_trans hM hb) hds) (Nat.zero_le _)
  generalize (wr.alloc (.cells #[.string ⟨#[97, 108, 108, 111, 119]⟩, .string ⟨#[100, 101, 110, 121]⟩] 9)).alloc (.cells #[.int .i64 4, .int .i64 0, .string ⟨#[]⟩, .slice none 0 0, .slice la ps.length lc, .int .i64 4, .int .i64 0, .string ⟨#[]⟩, .slice none 0 0, .slice lb ds.length lc2] 25) = W2 at hbb r1 r2 h1 h2 ⊢
  have hS : Strs W2 (fun b => N + 3 ≤ b) (.slice (some ⟨wr.heap.size, 0, none⟩) 2 2) [allowB, denyB] := by
    refine ⟨_, 2, rfl, Nat.le_refl _, by decide, by decide, ?_⟩
    refine ((Row.cells r1 (S := fun b => N + 3 ≤ b) hsz (n := 2) (Nat.le_refl _))).congr (fun i hi => ?_)
    have hi' : i < 2 := hi
    have : i = 0 ∨ i = 1 := by omega
    rcases this with rfl | rfl <;> rfl
  have hL : IsL W2 (fun b => N + 3 ≤ b) (.slice (some ⟨wr.heap.size + 1, 0, none⟩) 2 2) [V.texts ps, V.texts ds] := by
    refine isL_of_raw (m := 2) (es := [(.int .i64 4, .int .i64 0, .string ⟨#[]⟩, .slice none 0 0, .slice la ps.length lc), (.int .i64 4, .int .i64 0, .string ⟨#[]⟩, .slice none 0 0, .slice lb ds.length lc2)]) ?_ ((Els.one (e := (.int .i64 4, .int .i64 0, .string ⟨#[]⟩, .slice none 0 0, .slice la ps.length lc)) h1).append (Els.one (e := (.int .i64 4, .int .i64 0, .string ⟨#[]⟩, .slice none 0 0, .slice lb ds.length lc2)) h2))
    refine ⟨_, _, rfl, Nat.le_refl _, by decide, rfl, by simp [cellsQ, five, Value.oneCell'], ?_⟩
    refine (Row.cells r2 (S := fun b => N + 3 ≤ b) (by omega) (n := 10) (Nat.le_refl _)).congr (fun i hi => ?_)
    have hi' : i < 10 := hi
    have : i = 0 ∨ i = 1 ∨ i = 2 ∨ i = 3 ∨ i = 4 ∨ i = 5 ∨ i = 6 ∨ i = 7 ∨ i = 8 ∨ i = 9 := by omega
    rcases this with rfl | rfl | rfl | rfl | rfl | rfl | rfl | rfl | rfl | rfl <;> rfl
  have hI : Is W2 (fun b => N + 3 ≤ b) (.agg #[.int .i64 5, .int .i64 0, .string ⟨#[]⟩, .slice (some ⟨wr.heap.size, 0, none⟩) 2 2, .slice (some ⟨wr.heap.size + 1, 0, none⟩) 2 2]) (listV ps ds) := Is.shut (x := listV ps ds) hS hL (Nat.zero_le _)
  refine ⟨?_, ?_⟩
  · have kp := keeps_set5 (S := fun b => N + 3 ≤ b) (w := W2) (g := N) (o := 0) (.int .i64 5) (.int .i64 0) (.string ⟨#[]⟩) (.slice (some ⟨wr.heap.size, 0, none⟩) 2 2) (.slice (some ⟨wr.heap.size + 1, 0, none⟩) 2 2) (by omega)
    exact (hI.keep kp).weak (fun _ _ _ => trivial)
  · have h0 : Below N w W2 := hb.trans (hbb.mono (by omega))
    exact ((((h0.setCell (p := ⟨N, 0, none⟩) (Nat.le_refl _) _).setCell (p := ⟨N, 1, none⟩) (Nat.le_refl _) _).setCell (p := ⟨N, 2, none⟩) (Nat.le_refl _) _).setCell (p := ⟨N, 3, none⟩) (Nat.le_refl _) _).setCell (p := ⟨N, 4, none⟩) (Nat.le_refl _) _

set_option maxRecDepth 100000 in
set_option maxHeartbeats 2000000 in
theorem list_any (a0 : Option Addr) (len0 cap0 : Nat) (z0 : List Int) (a1 : Option Addr) (len1 cap1 : Nat) (z1 : List Int) (w : World) (h0 : Bys w a0 len0 z0) (hc0 : len0 ≤ cap0) (h1 : Bys w a1 len1 z1) (hc1 : len1 ≤ cap1) :
    Calls Try.prog 17 #[.slice a0 len0 cap0, .slice a1 len1 cap1] w fun e w' => ∃ k n t b1 n1 c1 b2 n2 c2, e = .returned (.agg #[.int .i64 k, .int .i64 n, .string t, .slice b1 n1 c1, .slice b2 n2 c2]) ∧ Is w' (fun _ => True) (.agg #[.int .i64 k, .int .i64 n, .string t, .slice b1 n1 c1, .slice b2 n2 c2]) (listV (pats z0 (min 4 (len0 / 3))) (pats z1 (min 4 (len1 / 3)))) ∧ Below w.heap.size w w' := by
  have hm0 := h0.2.1
  have hm1 := h1.2.1
  unfold maxLen at hm0 hm1
  have H0 := nhide h0
  have H1 := nhide h1
  clear h0 h1
  go_enter Try.func17, Try.ntmps17
  go_wp2_with fail
  obtain ⟨W3, hW3⟩ : ∃ W3, W3 = ((w.alloc (.cells #[.int .i64 0, .int .i64 0, .string ⟨#[]⟩, .slice none 0 0, .slice none 0 0] 25)).alloc (.cells #[.int .i64 4, .int .i64 0, .string ⟨#[]⟩, .slice none 0 0, .slice none 0 0] 25)).alloc (.cells #[.int .i64 4, .int .i64 0, .string ⟨#[]⟩, .slice none 0 0, .slice none 0 0] 25) := ⟨_, rfl⟩
  rw [← hW3]
  have hb3 : Below w.heap.size w W3 := by rw [hW3]; exact bthen (bthen (below_alloc _ _) (below_alloc _ _)) (below_alloc _ _)
  have hx0 : BoxF W3 w.heap.size (.int .i64 0) (.int .i64 0) (.string ⟨#[]⟩) (.slice none 0 0) (.slice none 0 0) := by
    rw [hW3]; exact ((boxF_at _ _ _ _ _ _ _ _ rfl).keep (below_alloc _ _)).keep (below_alloc _ _)
  have hx1 : BoxF W3 (w.heap.size + 1) (.int .i64 4) (.int .i64 0) (.string ⟨#[]⟩) (.slice none 0 0) (.slice none 0 0) := by
    rw [hW3]; exact (boxF_at _ _ _ _ _ _ _ _ (by simp)).keep (below_alloc _ _)
  have hx2 : BoxF W3 (w.heap.size + 1 + 1) (.int .i64 4) (.int .i64 0) (.string ⟨#[]⟩) (.slice none 0 0) (.slice none 0 0) := by
    rw [hW3]; exact boxF_at _ _ _ _ _ _ _ _ (by simp)
  have hs3 : W3.heap.size = w.heap.size + 3 := by rw [hW3]; simp
  obtain ⟨N, hN⟩ : ∃ N, N = w.heap.size := ⟨_, rfl⟩
  rw [← hN] at hx0 hx1 hx2 hs3 hb3 ⊢
  have HB3 := nhide hb3
  have HX0 := nhide hx0
  have HX1 := nhide hx1
  have HX2 := nhide hx2
  have HN := nhide hN
  clear hW3 hb3 hx0 hx1 hx2 hN
  go_loopw [7] (fun vi wr => ∃ (k i : Nat) (la : Option Addr) (lc : Nat), Hid (i = 3 * k) ∧ k ≤ 4 ∧ vi = .int .i64 i ∧ i ≤ 12 ∧ i ≤ len0 ∧ Hid (BoxF wr N (.int .i64 0) (.int .i64 0) (.string ⟨#[]⟩) (.slice none 0 0) (.slice none 0 0)) ∧ Hid (BoxF wr (N + 1) (.int .i64 4) (.int .i64 0) (.string ⟨#[]⟩) (.slice none 0 0) (.slice la (pats z0 k).length lc)) ∧ Hid (BoxF wr (N + 1 + 1) (.int .i64 4) (.int .i64 0) (.string ⟨#[]⟩) (.slice none 0 0) (.slice none 0 0)) ∧ Hid (wr.ownsRow (N + 3) 25 5 (.slice la (pats z0 k).length lc) (pats z0 k).length (cellsQ ((pats z0 k).map tq))) ∧ Hid (Below N w wr) ∧ N + 3 ≤ wr.heap.size) (fun i _ => 12 - (intOf i).toNat)
  case atStart => exact ⟨0, 0, none, 0, rfl, by omega, rfl, by omega, by omega, HX0, HX1, HX2, World.ownsRow_nil _ _ _ _, HB3, by omega⟩
  case round =>
    obtain ⟨k, i, la, lc, HI, hk4, rfl, hi12, hil, HY0, HY1, HY2, HO, HBw, hsz⟩ := hrel
    by_cases hA : i + 3 ≤ len0
    · by_cases hB : i < 12
      · obtain ⟨cb, co, ha, hBy⟩ := bys_piece (H0.out.below (HN.out ▸ HBw.out)) i hA
        subst ha
        have hsl : ∀ w, (Instr.sliceAt 26 (.slice (some ⟨cb, co, none⟩) len0 cap0) (some (.int .i64 i)) (some (.int .i64 ((i : Int) + 3))) none).run Try.prog w = .ok (.slice (some ⟨cb, co + i, none⟩) 3 (cap0 - i)) w := fun w => run_slice_3 w cb co len0 cap0 i hc0 hA
        obtain ⟨p, hp⟩ : ∃ p : ByteArray, (⟨(Nm.pat (z0.drop i) 3).toArray⟩ : ByteArray) = p := ⟨_, rfl⟩
        have HPp := nhide hp
        have HBy := nhide hBy
        have HBX := HY1
        clear hp hBy
        have hA2 : decide ((i : Int) + 2 < (len0 : Int)) = true := by simp; omega
        have hB2 : decide ((i : Int) < 12) = true := by simp; omega
        have hwr : IntKind.i64.wrap ((i : Int) + 3) = (i : Int) + 3 := by rw [IntKind.wrap_i64]; omega
        go_upto_region 6 with fail
        refine' wp_region_factsT 10 [(fun _ _ v _ => v = .pointer (some ⟨N + 1, 4, none⟩)), (fun _ _ v _ => v = .slice la (pats z0 k).length lc), (fun _ _ v _ => v = .slice (some ⟨cb, co, none⟩) len0 cap0), (fun _ _ v _ => v = .int .i64 (i : Int)), (fun _ _ v _ => v = .int .i64 (i : Int)), (fun _ _ v _ => v = .int .i64 ((i : Int) + 3)), (fun _ _ v _ => v = .slice (some ⟨cb, co + i, none⟩) 3 (cap0 - i)), (fun _ _ v _ => v = .string p), (fun _ _ v _ => v = .agg #[.int .i64 3, .int .i64 0, .string p, .slice none 0 0, .slice none 0 0]), (fun lo _ v w => v = .slice (some ⟨lo, 0, none⟩) 1 1 ∧ w.heap[lo]? = some (.cells #[.int .i64 3, .int .i64 0, .string p, .slice none 0 0, .slice none 0 0] 25))] (by kernel_rfl) ?hA (by kernel_rfl) rfl ?mono ?steps ?last
        case hA =>
          intro vs
          simp only [puts, Act.put, List.setIfInBounds_toArray, List.set_cons_zero, List.set_cons_succ, Nat.zero_add, Nat.reduceAdd]
          rfl
        case mono => exact ⟨mono_eq _, mono_eq _, mono_eq _, mono_eq _, mono_eq _, mono_eq _, mono_eq _, mono_eq _, mono_eq _, mono_blk _ _, trivial⟩
        case steps =>
          intro Q'
          refine And.intro ?_ ?_
          · intro vs lo hi w' hM hd K' hK
            dsimp only at hK ⊢
            simp only [Act.put, List.setIfInBounds_toArray, List.set_cons_zero, List.set_cons_succ] at hK
            go_simp
            exact hK.out _ _ rfl (Below.refl _ _)
          refine And.intro ?_ ?_
          · intro vs lo hi w' hM hd K' hK
            dsimp only at hK ⊢
            simp only [Act.put, List.setIfInBounds_toArray, List.set_cons_zero, List.set_cons_succ] at hK
            have e0 : vs 0 = .pointer (some ⟨N + 1, 4, none⟩) := hd 0 (by kernel_rfl)
            simp only [e0] at hK ⊢
            clear e0
            obtain ⟨_, _, _, _, x4⟩ := HBX.out.1.keep hM
            go_simp
            exact hK.out _ _ rfl (Below.refl _ _)
          refine And.intro ?_ ?_
          · intro vs lo hi w' hM hd K' hK
            dsimp only at hK ⊢
            simp only [Act.put, List.setIfInBounds_toArray, List.set_cons_zero, List.set_cons_succ] at hK
            go_simp
            exact hK.out _ _ rfl (Below.refl _ _)
          refine And.intro ?_ ?_
          · intro vs lo hi w' hM hd K' hK
            dsimp only at hK ⊢
            simp only [Act.put, List.setIfInBounds_toArray, List.set_cons_zero, List.set_cons_succ] at hK
            go_simp
            exact hK.out _ _ rfl (Below.refl _ _)
          refine And.intro ?_ ?_
          · intro vs lo hi w' hM hd K' hK
            dsimp only at hK ⊢
            simp only [Act.put, List.setIfInBounds_toArray, List.set_cons_zero, List.set_cons_succ] at hK
            go_simp
            exact hK.out _ _ rfl (Below.refl _ _)
          refine And.intro ?_ ?_
          · intro vs lo hi w' hM hd K' hK
            dsimp only at hK ⊢
            simp only [Act.put, List.setIfInBounds_toArray, List.set_cons_zero, List.set_cons_succ] at hK
            have e4 : vs 4 = .int .i64 (i : Int) := hd 4 (by kernel_rfl)
            simp only [e4] at hK ⊢
            clear e4
            go_simp
            exact hK.out _ _ rfl (Below.refl _ _)
          refine And.intro ?_ ?_
          · intro vs lo hi w' hM hd K' hK
            dsimp only at hK ⊢
            simp only [Act.put, List.setIfInBounds_toArray, List.set_cons_zero, List.set_cons_succ] at hK
            have e2 : vs 2 = .slice (some ⟨cb, co, none⟩) len0 cap0 := hd 2 (by kernel_rfl)
            have e3 : vs 3 = .int .i64 (i : Int) := hd 3 (by kernel_rfl)
            have e5 : vs 5 = .int .i64 ((i : Int) + 3) := hd 5 (by kernel_rfl)
            simp only [e2, e3, e5] at hK ⊢
            clear e2 e3 e5
            go_simp
            exact hK.out _ _ rfl (Below.refl _ _)
          refine And.intro ?_ ?_
          · intro vs lo hi w' hM hd K' hK
            dsimp only at hK ⊢
            simp only [Act.put, List.setIfInBounds_toArray, List.set_cons_zero, List.set_cons_succ] at hK
            have e6 : vs 6 = .slice (some ⟨cb, co + i, none⟩) 3 (cap0 - i) := hd 6 (by kernel_rfl)
            simp only [e6] at hK ⊢
            clear e6
            go_simp
            refine (pat_row _ 3 _ _ w' (HBy.out.below hM)).mono ?_
            rintro e w2 ⟨rfl, b2⟩
            rw [HPp.out]
            exact hK.out _ _ rfl b2
          refine And.intro ?_ ?_
          · intro vs lo hi w' hM hd K' hK
            dsimp only at hK ⊢
            simp only [Act.put, List.setIfInBounds_toArray, List.set_cons_zero, List.set_cons_succ] at hK
            have e7 : vs 7 = .string p := hd 7 (by kernel_rfl)
            simp only [e7] at hK ⊢
            clear e7
            go_simp
            exact hK.out _ _ rfl (Below.refl _ _)
          refine And.intro ?_ ?_
          · intro vs lo hi w' hM hd K' hK
            dsimp only at hK ⊢
            simp only [Act.put, List.setIfInBounds_toArray, List.set_cons_zero, List.set_cons_succ] at hK
            have e8 : vs 8 = .agg #[.int .i64 3, .int .i64 0, .string p, .slice none 0 0, .slice none 0 0] := hd 8 (by kernel_rfl)
            simp only [e8] at hK ⊢
            clear e8
            go_simp
            exact hK.out _ _ ⟨rfl, heap_alloc_nw _ _⟩ (below_alloc _ _)
          exact trivial
        case last =>
          intro vs lo hi w' hM hlo hall
          obtain ⟨e0, e1, e2, e3, e4, e5, e6, e7, e8, ⟨e9, hb9⟩, _⟩ := hall
          have hz9 := (hlo 9 (by decide)).1
          simp only [List.drop_succ_cons, List.drop_zero]
          try dsimp only
          simp only [e0, e1, e2, e3, e4, e5, e6, e7, e8, e9]
          generalize lo 9 = g at hb9 hz9 ⊢
          clear e0 e1 e2 e3 e4 e5 e6 e7 e8 e9 hlo
          have hox := nown_below HO.out hM
          have hrx := raw_blk hb9
          have hsz' := hM.size
          obtain ⟨v2, w2, hr2, ho2, hg2⟩ := append_part 23 23 25 _ 5 80 Try.underlying23 info_val rfl (by decide) (N + 3) _ _ _ hox hrx (by unfold maxLen; rw [pats_length]; omega) (by rw [pats_length]; omega) (by omega)
          obtain ⟨na, nc, rfl⟩ := own_shape ho2
          rw [← cellsQ_append, ← List.map_append] at ho2
          have bx : Below (N + 3) wr w2 := (hM.mono hsz).grown hg2 (by omega) (own_block hox)
          have HY0' := nhide (boxF_keepB HY0.out bx (by omega))
          have HY1' := nhide (boxF_keepB HY1.out bx (by omega))
          have HY2' := nhide (boxF_keepB HY2.out bx (by omega))
          have HB2 := nhide (HBw.out.trans (bx.mono (by omega)))
          have HRUN := nhide hr2
          have HO2 := nhide ho2
          have hs2 : N + 3 ≤ w2.heap.size := Nat.le_trans hsz bx.size
          obtain ⟨⟨x0, x1, x2, x3, x4⟩, g0, g1, g2, g3, g4⟩ := id HY1'.out
          clear hox hrx hr2 ho2 hg2 bx hb9 hz9 hsl
          go_wp2_with (at_builtin; refine Lib.wpList_append_run _ rfl (.tmp 23) (.tmp 31) 23 23 rfl _ _ (by simp [Act.eval, Act.put]) (by simp [Act.eval, Act.put]) _ _ HRUN.out ?_)
          have hpk : pats z0 (k + 1) = pats z0 k ++ [p] := by rw [pats_succ, ← HI.out, HPp.out]
          have hpl : (pats z0 (k + 1)).length = (pats z0 k).length + 1 := by rw [hpk]; simp
          go_roundw
          case rel =>
            refine ⟨k + 1, i + 3, na, nc, ?_, ?_, by go_num, by have := HI.out; omega, by omega, boxF_other HY0'.out _ (by omega), ?_, boxF_other HY2'.out _ (by omega), ?_, HB2.out.setCell (p := ⟨N + 1, 4, none⟩) (by simp only; omega) _, by rw [size_set]; exact hs2⟩
            · show i + 3 = 3 * (k + 1)
              have := HI.out
              omega
            · have := HI.out
              omega
            · rw [hpl]; exact boxF_set4 HY1'.out _
            · show World.ownsRow _ _ _ _ _ _ _
              rw [hpl, hpk]
              exact own_set HO2.out _ (by omega)
          case measure => simp [intOf]; omega
      · have hB2 : ¬ (i : Int) < 12 := by omega
        have hA2 : (i : Int) + 2 < (len0 : Int) := by omega
        have hkE : k = min 4 (len0 / 3) := by have := HI.out; omega
        have HKE := nhide hkE
        clear hkE
        go_wp2_with fail
        obtain ⟨M, hM0⟩ : ∃ M, M = wr.heap.size := ⟨_, rfl⟩
        have hNM : N + 3 ≤ M := by rw [hM0]; exact hsz
        have HAb : Hid (∀ g, (Value.slice la (pats z0 k).length lc).ownBlock = some g → g < M) := fun g hg => by rw [hM0]; exact (HO.out.lt g hg).2
        have hMs : M ≤ wr.heap.size := by omega
        clear hM0
        go_loopw [8] (fun vi wr => ∃ (k2 i2 : Nat) (lb : Option Addr) (lc2 : Nat), Hid (i2 = 3 * k2) ∧ k2 ≤ 4 ∧ vi = .int .i64 i2 ∧ i2 ≤ 12 ∧ i2 ≤ len1 ∧ Hid (BoxF wr N (.int .i64 0) (.int .i64 0) (.string ⟨#[]⟩) (.slice none 0 0) (.slice none 0 0)) ∧ Hid (BoxF wr (N + 1) (.int .i64 4) (.int .i64 0) (.string ⟨#[]⟩) (.slice none 0 0) (.slice la (pats z0 k).length lc)) ∧ Hid (BoxF wr (N + 1 + 1) (.int .i64 4) (.int .i64 0) (.string ⟨#[]⟩) (.slice none 0 0) (.slice lb (pats z1 k2).length lc2)) ∧ Hid (wr.ownsRow (N + 3) 25 5 (.slice la (pats z0 k).length lc) (pats z0 k).length (cellsQ ((pats z0 k).map tq))) ∧ Hid (wr.ownsRow M 25 5 (.slice lb (pats z1 k2).length lc2) (pats z1 k2).length (cellsQ ((pats z1 k2).map tq))) ∧ Hid (Below N w wr) ∧ M ≤ wr.heap.size) (fun i _ => 12 - (intOf i).toNat)
        case atStart => exact ⟨0, 0, none, 0, rfl, by omega, rfl, by omega, by omega, HY0, HY1, HY2, HO, World.ownsRow_nil _ _ _ _, HBw, hMs⟩
        case round =>
          obtain ⟨k2, i2, lb, lc2, HI2, hk24, rfl, hi212, hil2, HB0, HB1, HB2, HOa, HOd, HBb, hszb⟩ := hrel
          by_cases hA : i2 + 3 ≤ len1
          · by_cases hB : i2 < 12
            · obtain ⟨cb, co, ha, hBy⟩ := bys_piece (H1.out.below (HN.out ▸ HBb.out)) i2 hA
              subst ha
              have hsl : ∀ w, (Instr.sliceAt 26 (.slice (some ⟨cb, co, none⟩) len1 cap1) (some (.int .i64 i2)) (some (.int .i64 ((i2 : Int) + 3))) none).run Try.prog w = .ok (.slice (some ⟨cb, co + i2, none⟩) 3 (cap1 - i2)) w := fun w => run_slice_3 w cb co len1 cap1 i2 hc1 hA
              obtain ⟨p, hp⟩ : ∃ p : ByteArray, (⟨(Nm.pat (z1.drop i2) 3).toArray⟩ : ByteArray) = p := ⟨_, rfl⟩
              have HPp := nhide hp
              have HBy := nhide hBy
              have HBX := HB2
              clear hp hBy
              have hA3 : decide ((i2 : Int) + 2 < (len1 : Int)) = true := by simp; omega
              have hB3 : decide ((i2 : Int) < 12) = true := by simp; omega
              have hwr : IntKind.i64.wrap ((i2 : Int) + 3) = (i2 : Int) + 3 := by rw [IntKind.wrap_i64]; omega
              go_upto_region 10 with fail
              refine' wp_region_factsT 10 [(fun _ _ v _ => v = .pointer (some ⟨N + 1 + 1, 4, none⟩)), (fun _ _ v _ => v = .slice lb (pats z1 k2).length lc2), (fun _ _ v _ => v = .slice (some ⟨cb, co, none⟩) len1 cap1), (fun _ _ v _ => v = .int .i64 (i2 : Int)), (fun _ _ v _ => v = .int .i64 (i2 : Int)), (fun _ _ v _ => v = .int .i64 ((i2 : Int) + 3)), (fun _ _ v _ => v = .slice (some ⟨cb, co + i2, none⟩) 3 (cap1 - i2)), (fun _ _ v _ => v = .string p), (fun _ _ v _ => v = .agg #[.int .i64 3, .int .i64 0, .string p, .slice none 0 0, .slice none 0 0]), (fun lo _ v w => v = .slice (some ⟨lo, 0, none⟩) 1 1 ∧ w.heap[lo]? = some (.cells #[.int .i64 3, .int .i64 0, .string p, .slice none 0 0, .slice none 0 0] 25))] (by kernel_rfl) ?hA (by kernel_rfl) rfl ?mono ?steps ?last
              case hA =>
                intro vs
                simp only [puts, Act.put, List.setIfInBounds_toArray, List.set_cons_zero, List.set_cons_succ, Nat.zero_add, Nat.reduceAdd]
                rfl
              case mono => exact ⟨mono_eq _, mono_eq _, mono_eq _, mono_eq _, mono_eq _, mono_eq _, mono_eq _, mono_eq _, mono_eq _, mono_blk _ _, trivial⟩
              case steps =>
                intro Q'
                refine And.intro ?_ ?_
                · intro vs lo hi w' hM hd K' hK
                  dsimp only at hK ⊢
                  simp only [Act.put, List.setIfInBounds_toArray, List.set_cons_zero, List.set_cons_succ] at hK
                  go_simp
                  exact hK.out _ _ rfl (Below.refl _ _)
                refine And.intro ?_ ?_
                · intro vs lo hi w' hM hd K' hK
                  dsimp only at hK ⊢
                  simp only [Act.put, List.setIfInBounds_toArray, List.set_cons_zero, List.set_cons_succ] at hK
                  have e0 : vs 0 = .pointer (some ⟨N + 1 + 1, 4, none⟩) := hd 0 (by kernel_rfl)
                  simp only [e0] at hK ⊢
                  clear e0
                  obtain ⟨_, _, _, _, x4⟩ := HBX.out.1.keep hM
                  go_simp
                  exact hK.out _ _ rfl (Below.refl _ _)
                refine And.intro ?_ ?_
                · intro vs lo hi w' hM hd K' hK
                  dsimp only at hK ⊢
                  simp only [Act.put, List.setIfInBounds_toArray, List.set_cons_zero, List.set_cons_succ] at hK
                  go_simp
                  exact hK.out _ _ rfl (Below.refl _ _)
                refine And.intro ?_ ?_
                · intro vs lo hi w' hM hd K' hK
                  dsimp only at hK ⊢
                  simp only [Act.put, List.setIfInBounds_toArray, List.set_cons_zero, List.set_cons_succ] at hK
                  go_simp
                  exact hK.out _ _ rfl (Below.refl _ _)
                refine And.intro ?_ ?_
                · intro vs lo hi w' hM hd K' hK
                  dsimp only at hK ⊢
                  simp only [Act.put, List.setIfInBounds_toArray, List.set_cons_zero, List.set_cons_succ] at hK
                  go_simp
                  exact hK.out _ _ rfl (Below.refl _ _)
                refine And.intro ?_ ?_
                · intro vs lo hi w' hM hd K' hK
                  dsimp only at hK ⊢
                  simp only [Act.put, List.setIfInBounds_toArray, List.set_cons_zero, List.set_cons_succ] at hK
                  have e4 : vs 4 = .int .i64 (i2 : Int) := hd 4 (by kernel_rfl)
                  simp only [e4] at hK ⊢
                  clear e4
                  go_simp
                  exact hK.out _ _ rfl (Below.refl _ _)
                refine And.intro ?_ ?_
                · intro vs lo hi w' hM hd K' hK
                  dsimp only at hK ⊢
                  simp only [Act.put, List.setIfInBounds_toArray, List.set_cons_zero, List.set_cons_succ] at hK
                  have e2 : vs 2 = .slice (some ⟨cb, co, none⟩) len1 cap1 := hd 2 (by kernel_rfl)
                  have e3 : vs 3 = .int .i64 (i2 : Int) := hd 3 (by kernel_rfl)
                  have e5 : vs 5 = .int .i64 ((i2 : Int) + 3) := hd 5 (by kernel_rfl)
                  simp only [e2, e3, e5] at hK ⊢
                  clear e2 e3 e5
                  go_simp
                  exact hK.out _ _ rfl (Below.refl _ _)
                refine And.intro ?_ ?_
                · intro vs lo hi w' hM hd K' hK
                  dsimp only at hK ⊢
                  simp only [Act.put, List.setIfInBounds_toArray, List.set_cons_zero, List.set_cons_succ] at hK
                  have e6 : vs 6 = .slice (some ⟨cb, co + i2, none⟩) 3 (cap1 - i2) := hd 6 (by kernel_rfl)
                  simp only [e6] at hK ⊢
                  clear e6
                  go_simp
                  refine (pat_row _ 3 _ _ w' (HBy.out.below hM)).mono ?_
                  rintro e w2 ⟨rfl, b2⟩
                  rw [HPp.out]
                  exact hK.out _ _ rfl b2
                refine And.intro ?_ ?_
                · intro vs lo hi w' hM hd K' hK
                  dsimp only at hK ⊢
                  simp only [Act.put, List.setIfInBounds_toArray, List.set_cons_zero, List.set_cons_succ] at hK
                  have e7 : vs 7 = .string p := hd 7 (by kernel_rfl)
                  simp only [e7] at hK ⊢
                  clear e7
                  go_simp
                  exact hK.out _ _ rfl (Below.refl _ _)
                refine And.intro ?_ ?_
                · intro vs lo hi w' hM hd K' hK
                  dsimp only at hK ⊢
                  simp only [Act.put, List.setIfInBounds_toArray, List.set_cons_zero, List.set_cons_succ] at hK
                  have e8 : vs 8 = .agg #[.int .i64 3, .int .i64 0, .string p, .slice none 0 0, .slice none 0 0] := hd 8 (by kernel_rfl)
                  simp only [e8] at hK ⊢
                  clear e8
                  go_simp
                  exact hK.out _ _ ⟨rfl, heap_alloc_nw _ _⟩ (below_alloc _ _)
                exact trivial
              case last =>
                intro vs lo hi w' hM hlo hall
                obtain ⟨e0, e1, e2, e3, e4, e5, e6, e7, e8, ⟨e9, hb9⟩, _⟩ := hall
                have hz9 := (hlo 9 (by decide)).1
                simp only [List.drop_succ_cons, List.drop_zero]
                try dsimp only
                simp only [e0, e1, e2, e3, e4, e5, e6, e7, e8, e9]
                generalize lo 9 = g at hb9 hz9 ⊢
                clear e0 e1 e2 e3 e4 e5 e6 e7 e8 e9 hlo
                have hox := nown_below HOd.out hM
                have hrx := raw_blk hb9
                have hsz' := hM.size
                obtain ⟨v2, w2, hr2, ho2, hg2⟩ := append_part 23 23 25 _ 5 80 Try.underlying23 info_val rfl (by decide) M _ _ _ hox hrx (by unfold maxLen; rw [pats_length]; omega) (by rw [pats_length]; omega) (by omega)
                obtain ⟨na, nc, rfl⟩ := own_shape ho2
                rw [← cellsQ_append, ← List.map_append] at ho2
                have bx : Below M wr w2 := (hM.mono hszb).grown hg2 (by omega) (own_block hox)
                have HB0' := nhide (boxF_keepB HB0.out bx (by omega))
                have HB1' := nhide (boxF_keepB HB1.out bx (by omega))
                have HB2' := nhide (boxF_keepB HB2.out bx (by omega))
                have HOa' := nhide (nown_keep HOa.out (fun g hg => bx.block g (HAb.out g hg)))
                have HBb' := nhide (HBb.out.trans (bx.mono (by omega)))
                have HRUN := nhide hr2
                have HO2 := nhide ho2
                have hs2 : M ≤ w2.heap.size := Nat.le_trans hszb bx.size
                obtain ⟨⟨x0, x1, x2, x3, x4⟩, g0, g1, g2, g3, g4⟩ := id HB2'.out
                clear hox hrx hr2 ho2 hg2 bx hb9 hz9 hsl
                go_wp2_with (at_builtin; refine Lib.wpList_append_run _ rfl (.tmp 46) (.tmp 54) 23 23 rfl _ _ (by simp [Act.eval, Act.put]) (by simp [Act.eval, Act.put]) _ _ HRUN.out ?_)
                have hpk : pats z1 (k2 + 1) = pats z1 k2 ++ [p] := by rw [pats_succ, ← HI2.out, HPp.out]
                have hpl : (pats z1 (k2 + 1)).length = (pats z1 k2).length + 1 := by rw [hpk]; simp
                go_roundw
                case rel =>
                  refine ⟨k2 + 1, i2 + 3, na, nc, ?_, ?_, by go_num, by have := HI2.out; omega, by omega, boxF_other HB0'.out _ (by omega), boxF_other HB1'.out _ (by omega), ?_, own_set HOa'.out _ (by omega), ?_, HBb'.out.setCell (p := ⟨N + 1 + 1, 4, none⟩) (by simp only; omega) _, by rw [size_set]; exact hs2⟩
                  · show i2 + 3 = 3 * (k2 + 1)
                    have := HI2.out
                    omega
                  · have := HI2.out
                    omega
                  · rw [hpl]; exact boxF_set4 HB2'.out _
                  · show World.ownsRow _ _ _ _ _ _ _
                    rw [hpl, hpk]
                    exact own_set HO2.out _ (by omega)
                case measure => simp [intOf]; omega
            · have hB3 : ¬ (i2 : Int) < 12 := by omega
              have hA3 : (i2 : Int) + 2 < (len1 : Int) := by omega
              have hkE2 : k2 = min 4 (len1 / 3) := by have := HI2.out; omega
              have HKE2 := nhide hkE2
              clear hkE2
              have q1 := (HB1.out.1.keep (below_alloc wr (.cells #[.string ⟨#[97, 108, 108, 111, 119]⟩, .string ⟨#[100, 101, 110, 121]⟩] 9)))
              have q2 := (HB2.out.1.keep (below_alloc wr (.cells #[.string ⟨#[97, 108, 108, 111, 119]⟩, .string ⟨#[100, 101, 110, 121]⟩] 9)))
              have q0 := (HB0.out.keep (below_alloc wr (.cells #[.string ⟨#[97, 108, 108, 111, 119]⟩, .string ⟨#[100, 101, 110, 121]⟩] 9))).keep (below_alloc (wr.alloc (.cells #[.string ⟨#[97, 108, 108, 111, 119]⟩, .string ⟨#[100, 101, 110, 121]⟩] 9)) (.cells #[.int .i64 4, .int .i64 0, .string ⟨#[]⟩, .slice none 0 0, .slice la (pats z0 k).length lc, .int .i64 4, .int .i64 0, .string ⟨#[]⟩, .slice none 0 0, .slice lb (pats z1 k2).length lc2] 25))
              obtain ⟨x0, x1, x2, x3, x4⟩ := id q1
              obtain ⟨y0, y1, y2, y3, y4⟩ := id q2
              obtain ⟨⟨s0, s1, s2, s3, s4⟩, g0, g1, g2, g3, g4⟩ := id q0
              have HQ0 := nhide q0
              clear q0 q1 q2
              go_wp2_with fail
              obtain ⟨u0, u1, u2, u3, u4⟩ := Box5.all HQ0.out.1 (.int .i64 5) (.int .i64 0) (.string ⟨#[]⟩) (.slice (some ⟨wr.heap.size, 0, none⟩) 2 2) (.slice (some ⟨wr.heap.size + 1, 0, none⟩) 2 2)
              refine bodyPost_ret (v := .agg #[.int .i64 5, .int .i64 0, .string ⟨#[]⟩, .slice (some ⟨wr.heap.size, 0, none⟩) 2 2, .slice (some ⟨wr.heap.size + 1, 0, none⟩) 2 2]) (by simp [results, Try.results17, go_sem, u0, u1, u2, u3, u4]) rfl ?_
              obtain ⟨r1, r2⟩ := list_end (fun p hp => Nat.le_trans (pats_size _ _ p hp) (by decide)) (fun p hp => Nat.le_trans (pats_size _ _ p hp) (by decide)) HBb.out (by omega) HOa.out HOd.out hNM
              simp only [← HKE.out, ← HKE2.out]
              exact ⟨_, _, _, _, _, _, _, _, _, rfl, r1, HN.out ▸ r2⟩
          · have hA3 : decide ((i2 : Int) + 2 < (len1 : Int)) = false := by simp; omega
            have hkE2 : k2 = min 4 (len1 / 3) := by have := HI2.out; omega
            have HKE2 := nhide hkE2
            clear hkE2
            have q1 := (HB1.out.1.keep (below_alloc wr (.cells #[.string ⟨#[97, 108, 108, 111, 119]⟩, .string ⟨#[100, 101, 110, 121]⟩] 9)))
            have q2 := (HB2.out.1.keep (below_alloc wr (.cells #[.string ⟨#[97, 108, 108, 111, 119]⟩, .string ⟨#[100, 101, 110, 121]⟩] 9)))
            have q0 := (HB0.out.keep (below_alloc wr (.cells #[.string ⟨#[97, 108, 108, 111, 119]⟩, .string ⟨#[100, 101, 110, 121]⟩] 9))).keep (below_alloc (wr.alloc (.cells #[.string ⟨#[97, 108, 108, 111, 119]⟩, .string ⟨#[100, 101, 110, 121]⟩] 9)) (.cells #[.int .i64 4, .int .i64 0, .string ⟨#[]⟩, .slice none 0 0, .slice la (pats z0 k).length lc, .int .i64 4, .int .i64 0, .string ⟨#[]⟩, .slice none 0 0, .slice lb (pats z1 k2).length lc2] 25))
            obtain ⟨x0, x1, x2, x3, x4⟩ := id q1
            obtain ⟨y0, y1, y2, y3, y4⟩ := id q2
            obtain ⟨⟨s0, s1, s2, s3, s4⟩, g0, g1, g2, g3, g4⟩ := id q0
            have HQ0 := nhide q0
            clear q0 q1 q2
            go_wp2_with fail
            obtain ⟨u0, u1, u2, u3, u4⟩ := Box5.all HQ0.out.1 (.int .i64 5) (.int .i64 0) (.string ⟨#[]⟩) (.slice (some ⟨wr.heap.size, 0, none⟩) 2 2) (.slice (some ⟨wr.heap.size + 1, 0, none⟩) 2 2)
            refine bodyPost_ret (v := .agg #[.int .i64 5, .int .i64 0, .string ⟨#[]⟩, .slice (some ⟨wr.heap.size, 0, none⟩) 2 2, .slice (some ⟨wr.heap.size + 1, 0, none⟩) 2 2]) (by simp [results, Try.results17, go_sem, u0, u1, u2, u3, u4]) rfl ?_
            obtain ⟨r1, r2⟩ := list_end (fun p hp => Nat.le_trans (pats_size _ _ p hp) (by decide)) (fun p hp => Nat.le_trans (pats_size _ _ p hp) (by decide)) HBb.out (by omega) HOa.out HOd.out hNM
            simp only [← HKE.out, ← HKE2.out]
            exact ⟨_, _, _, _, _, _, _, _, _, rfl, r1, HN.out ▸ r2⟩
    · have hA2 : decide ((i : Int) + 2 < (len0 : Int)) = false := by simp; omega
      have hkE : k = min 4 (len0 / 3) := by have := HI.out; omega
      have HKE := nhide hkE
      clear hkE
      go_wp2_with fail
      obtain ⟨M, hM0⟩ : ∃ M, M = wr.heap.size := ⟨_, rfl⟩
      have hNM : N + 3 ≤ M := by rw [hM0]; exact hsz
      have HAb : Hid (∀ g, (Value.slice la (pats z0 k).length lc).ownBlock = some g → g < M) := fun g hg => by rw [hM0]; exact (HO.out.lt g hg).2
      have hMs : M ≤ wr.heap.size := by omega
      clear hM0
      go_loopw [8] (fun vi wr => ∃ (k2 i2 : Nat) (lb : Option Addr) (lc2 : Nat), Hid (i2 = 3 * k2) ∧ k2 ≤ 4 ∧ vi = .int .i64 i2 ∧ i2 ≤ 12 ∧ i2 ≤ len1 ∧ Hid (BoxF wr N (.int .i64 0) (.int .i64 0) (.string ⟨#[]⟩) (.slice none 0 0) (.slice none 0 0)) ∧ Hid (BoxF wr (N + 1) (.int .i64 4) (.int .i64 0) (.string ⟨#[]⟩) (.slice none 0 0) (.slice la (pats z0 k).length lc)) ∧ Hid (BoxF wr (N + 1 + 1) (.int .i64 4) (.int .i64 0) (.string ⟨#[]⟩) (.slice none 0 0) (.slice lb (pats z1 k2).length lc2)) ∧ Hid (wr.ownsRow (N + 3) 25 5 (.slice la (pats z0 k).length lc) (pats z0 k).length (cellsQ ((pats z0 k).map tq))) ∧ Hid (wr.ownsRow M 25 5 (.slice lb (pats z1 k2).length lc2) (pats z1 k2).length (cellsQ ((pats z1 k2).map tq))) ∧ Hid (Below N w wr) ∧ M ≤ wr.heap.size) (fun i _ => 12 - (intOf i).toNat)
      case atStart => exact ⟨0, 0, none, 0, rfl, by omega, rfl, by omega, by omega, HY0, HY1, HY2, HO, World.ownsRow_nil _ _ _ _, HBw, hMs⟩
      case round =>
        obtain ⟨k2, i2, lb, lc2, HI2, hk24, rfl, hi212, hil2, HB0, HB1, HB2, HOa, HOd, HBb, hszb⟩ := hrel
        by_cases hA : i2 + 3 ≤ len1
        · by_cases hB : i2 < 12
          · obtain ⟨cb, co, ha, hBy⟩ := bys_piece (H1.out.below (HN.out ▸ HBb.out)) i2 hA
            subst ha
            have hsl : ∀ w, (Instr.sliceAt 26 (.slice (some ⟨cb, co, none⟩) len1 cap1) (some (.int .i64 i2)) (some (.int .i64 ((i2 : Int) + 3))) none).run Try.prog w = .ok (.slice (some ⟨cb, co + i2, none⟩) 3 (cap1 - i2)) w := fun w => run_slice_3 w cb co len1 cap1 i2 hc1 hA
            obtain ⟨p, hp⟩ : ∃ p : ByteArray, (⟨(Nm.pat (z1.drop i2) 3).toArray⟩ : ByteArray) = p := ⟨_, rfl⟩
            have HPp := nhide hp
            have HBy := nhide hBy
            have HBX := HB2
            clear hp hBy
            have hA3 : decide ((i2 : Int) + 2 < (len1 : Int)) = true := by simp; omega
            have hB3 : decide ((i2 : Int) < 12) = true := by simp; omega
            have hwr : IntKind.i64.wrap ((i2 : Int) + 3) = (i2 : Int) + 3 := by rw [IntKind.wrap_i64]; omega
            go_upto_region 10 with fail
            refine' wp_region_factsT 10 [(fun _ _ v _ => v = .pointer (some ⟨N + 1 + 1, 4, none⟩)), (fun _ _ v _ => v = .slice lb (pats z1 k2).length lc2), (fun _ _ v _ => v = .slice (some ⟨cb, co, none⟩) len1 cap1), (fun _ _ v _ => v = .int .i64 (i2 : Int)), (fun _ _ v _ => v = .int .i64 (i2 : Int)), (fun _ _ v _ => v = .int .i64 ((i2 : Int) + 3)), (fun _ _ v _ => v = .slice (some ⟨cb, co + i2, none⟩) 3 (cap1 - i2)), (fun _ _ v _ => v = .string p), (fun _ _ v _ => v = .agg #[.int .i64 3, .int .i64 0, .string p, .slice none 0 0, .slice none 0 0]), (fun lo _ v w => v = .slice (some ⟨lo, 0, none⟩) 1 1 ∧ w.heap[lo]? = some (.cells #[.int .i64 3, .int .i64 0, .string p, .slice none 0 0, .slice none 0 0] 25))] (by kernel_rfl) ?hA (by kernel_rfl) rfl ?mono ?steps ?last
            case hA =>
              intro vs
              simp only [puts, Act.put, List.setIfInBounds_toArray, List.set_cons_zero, List.set_cons_succ, Nat.zero_add, Nat.reduceAdd]
              rfl
            case mono => exact ⟨mono_eq _, mono_eq _, mono_eq _, mono_eq _, mono_eq _, mono_eq _, mono_eq _, mono_eq _, mono_eq _, mono_blk _ _, trivial⟩
            case steps =>
              intro Q'
              refine And.intro ?_ ?_
              · intro vs lo hi w' hM hd K' hK
                dsimp only at hK ⊢
                simp only [Act.put, List.setIfInBounds_toArray, List.set_cons_zero, List.set_cons_succ] at hK
                go_simp
                exact hK.out _ _ rfl (Below.refl _ _)
              refine And.intro ?_ ?_
              · intro vs lo hi w' hM hd K' hK
                dsimp only at hK ⊢
                simp only [Act.put, List.setIfInBounds_toArray, List.set_cons_zero, List.set_cons_succ] at hK
                have e0 : vs 0 = .pointer (some ⟨N + 1 + 1, 4, none⟩) := hd 0 (by kernel_rfl)
                simp only [e0] at hK ⊢
                clear e0
                obtain ⟨_, _, _, _, x4⟩ := HBX.out.1.keep hM
                go_simp
                exact hK.out _ _ rfl (Below.refl _ _)
              refine And.intro ?_ ?_
              · intro vs lo hi w' hM hd K' hK
                dsimp only at hK ⊢
                simp only [Act.put, List.setIfInBounds_toArray, List.set_cons_zero, List.set_cons_succ] at hK
                go_simp
                exact hK.out _ _ rfl (Below.refl _ _)
              refine And.intro ?_ ?_
              · intro vs lo hi w' hM hd K' hK
                dsimp only at hK ⊢
                simp only [Act.put, List.setIfInBounds_toArray, List.set_cons_zero, List.set_cons_succ] at hK
                go_simp
                exact hK.out _ _ rfl (Below.refl _ _)
              refine And.intro ?_ ?_
              · intro vs lo hi w' hM hd K' hK
                dsimp only at hK ⊢
                simp only [Act.put, List.setIfInBounds_toArray, List.set_cons_zero, List.set_cons_succ] at hK
                go_simp
                exact hK.out _ _ rfl (Below.refl _ _)
              refine And.intro ?_ ?_
              · intro vs lo hi w' hM hd K' hK
                dsimp only at hK ⊢
                simp only [Act.put, List.setIfInBounds_toArray, List.set_cons_zero, List.set_cons_succ] at hK
                have e4 : vs 4 = .int .i64 (i2 : Int) := hd 4 (by kernel_rfl)
                simp only [e4] at hK ⊢
                clear e4
                go_simp
                exact hK.out _ _ rfl (Below.refl _ _)
              refine And.intro ?_ ?_
              · intro vs lo hi w' hM hd K' hK
                dsimp only at hK ⊢
                simp only [Act.put, List.setIfInBounds_toArray, List.set_cons_zero, List.set_cons_succ] at hK
                have e2 : vs 2 = .slice (some ⟨cb, co, none⟩) len1 cap1 := hd 2 (by kernel_rfl)
                have e3 : vs 3 = .int .i64 (i2 : Int) := hd 3 (by kernel_rfl)
                have e5 : vs 5 = .int .i64 ((i2 : Int) + 3) := hd 5 (by kernel_rfl)
                simp only [e2, e3, e5] at hK ⊢
                clear e2 e3 e5
                go_simp
                exact hK.out _ _ rfl (Below.refl _ _)
              refine And.intro ?_ ?_
              · intro vs lo hi w' hM hd K' hK
                dsimp only at hK ⊢
                simp only [Act.put, List.setIfInBounds_toArray, List.set_cons_zero, List.set_cons_succ] at hK
                have e6 : vs 6 = .slice (some ⟨cb, co + i2, none⟩) 3 (cap1 - i2) := hd 6 (by kernel_rfl)
                simp only [e6] at hK ⊢
                clear e6
                go_simp
                refine (pat_row _ 3 _ _ w' (HBy.out.below hM)).mono ?_
                rintro e w2 ⟨rfl, b2⟩
                rw [HPp.out]
                exact hK.out _ _ rfl b2
              refine And.intro ?_ ?_
              · intro vs lo hi w' hM hd K' hK
                dsimp only at hK ⊢
                simp only [Act.put, List.setIfInBounds_toArray, List.set_cons_zero, List.set_cons_succ] at hK
                have e7 : vs 7 = .string p := hd 7 (by kernel_rfl)
                simp only [e7] at hK ⊢
                clear e7
                go_simp
                exact hK.out _ _ rfl (Below.refl _ _)
              refine And.intro ?_ ?_
              · intro vs lo hi w' hM hd K' hK
                dsimp only at hK ⊢
                simp only [Act.put, List.setIfInBounds_toArray, List.set_cons_zero, List.set_cons_succ] at hK
                have e8 : vs 8 = .agg #[.int .i64 3, .int .i64 0, .string p, .slice none 0 0, .slice none 0 0] := hd 8 (by kernel_rfl)
                simp only [e8] at hK ⊢
                clear e8
                go_simp
                exact hK.out _ _ ⟨rfl, heap_alloc_nw _ _⟩ (below_alloc _ _)
              exact trivial
            case last =>
              intro vs lo hi w' hM hlo hall
              obtain ⟨e0, e1, e2, e3, e4, e5, e6, e7, e8, ⟨e9, hb9⟩, _⟩ := hall
              have hz9 := (hlo 9 (by decide)).1
              simp only [List.drop_succ_cons, List.drop_zero]
              try dsimp only
              simp only [e0, e1, e2, e3, e4, e5, e6, e7, e8, e9]
              generalize lo 9 = g at hb9 hz9 ⊢
              clear e0 e1 e2 e3 e4 e5 e6 e7 e8 e9 hlo
              have hox := nown_below HOd.out hM
              have hrx := raw_blk hb9
              have hsz' := hM.size
              obtain ⟨v2, w2, hr2, ho2, hg2⟩ := append_part 23 23 25 _ 5 80 Try.underlying23 info_val rfl (by decide) M _ _ _ hox hrx (by unfold maxLen; rw [pats_length]; omega) (by rw [pats_length]; omega) (by omega)
              obtain ⟨na, nc, rfl⟩ := own_shape ho2
              rw [← cellsQ_append, ← List.map_append] at ho2
              have bx : Below M wr w2 := (hM.mono hszb).grown hg2 (by omega) (own_block hox)
              have HB0' := nhide (boxF_keepB HB0.out bx (by omega))
              have HB1' := nhide (boxF_keepB HB1.out bx (by omega))
              have HB2' := nhide (boxF_keepB HB2.out bx (by omega))
              have HOa' := nhide (nown_keep HOa.out (fun g hg => bx.block g (HAb.out g hg)))
              have HBb' := nhide (HBb.out.trans (bx.mono (by omega)))
              have HRUN := nhide hr2
              have HO2 := nhide ho2
              have hs2 : M ≤ w2.heap.size := Nat.le_trans hszb bx.size
              obtain ⟨⟨x0, x1, x2, x3, x4⟩, g0, g1, g2, g3, g4⟩ := id HB2'.out
              clear hox hrx hr2 ho2 hg2 bx hb9 hz9 hsl
              go_wp2_with (at_builtin; refine Lib.wpList_append_run _ rfl (.tmp 46) (.tmp 54) 23 23 rfl _ _ (by simp [Act.eval, Act.put]) (by simp [Act.eval, Act.put]) _ _ HRUN.out ?_)
              have hpk : pats z1 (k2 + 1) = pats z1 k2 ++ [p] := by rw [pats_succ, ← HI2.out, HPp.out]
              have hpl : (pats z1 (k2 + 1)).length = (pats z1 k2).length + 1 := by rw [hpk]; simp
              go_roundw
              case rel =>
                refine ⟨k2 + 1, i2 + 3, na, nc, ?_, ?_, by go_num, by have := HI2.out; omega, by omega, boxF_other HB0'.out _ (by omega), boxF_other HB1'.out _ (by omega), ?_, own_set HOa'.out _ (by omega), ?_, HBb'.out.setCell (p := ⟨N + 1 + 1, 4, none⟩) (by simp only; omega) _, by rw [size_set]; exact hs2⟩
                · show i2 + 3 = 3 * (k2 + 1)
                  have := HI2.out
                  omega
                · have := HI2.out
                  omega
                · rw [hpl]; exact boxF_set4 HB2'.out _
                · show World.ownsRow _ _ _ _ _ _ _
                  rw [hpl, hpk]
                  exact own_set HO2.out _ (by omega)
              case measure => simp [intOf]; omega
          · have hB3 : ¬ (i2 : Int) < 12 := by omega
            have hA3 : (i2 : Int) + 2 < (len1 : Int) := by omega
            have hkE2 : k2 = min 4 (len1 / 3) := by have := HI2.out; omega
            have HKE2 := nhide hkE2
            clear hkE2
            have q1 := (HB1.out.1.keep (below_alloc wr (.cells #[.string ⟨#[97, 108, 108, 111, 119]⟩, .string ⟨#[100, 101, 110, 121]⟩] 9)))
            have q2 := (HB2.out.1.keep (below_alloc wr (.cells #[.string ⟨#[97, 108, 108, 111, 119]⟩, .string ⟨#[100, 101, 110, 121]⟩] 9)))
            have q0 := (HB0.out.keep (below_alloc wr (.cells #[.string ⟨#[97, 108, 108, 111, 119]⟩, .string ⟨#[100, 101, 110, 121]⟩] 9))).keep (below_alloc (wr.alloc (.cells #[.string ⟨#[97, 108, 108, 111, 119]⟩, .string ⟨#[100, 101, 110, 121]⟩] 9)) (.cells #[.int .i64 4, .int .i64 0, .string ⟨#[]⟩, .slice none 0 0, .slice la (pats z0 k).length lc, .int .i64 4, .int .i64 0, .string ⟨#[]⟩, .slice none 0 0, .slice lb (pats z1 k2).length lc2] 25))
            obtain ⟨x0, x1, x2, x3, x4⟩ := id q1
            obtain ⟨y0, y1, y2, y3, y4⟩ := id q2
            obtain ⟨⟨s0, s1, s2, s3, s4⟩, g0, g1, g2, g3, g4⟩ := id q0
            have HQ0 := nhide q0
            clear q0 q1 q2
            go_wp2_with fail
            obtain ⟨u0, u1, u2, u3, u4⟩ := Box5.all HQ0.out.1 (.int .i64 5) (.int .i64 0) (.string ⟨#[]⟩) (.slice (some ⟨wr.heap.size, 0, none⟩) 2 2) (.slice (some ⟨wr.heap.size + 1, 0, none⟩) 2 2)
            refine bodyPost_ret (v := .agg #[.int .i64 5, .int .i64 0, .string ⟨#[]⟩, .slice (some ⟨wr.heap.size, 0, none⟩) 2 2, .slice (some ⟨wr.heap.size + 1, 0, none⟩) 2 2]) (by simp [results, Try.results17, go_sem, u0, u1, u2, u3, u4]) rfl ?_
            obtain ⟨r1, r2⟩ := list_end (fun p hp => Nat.le_trans (pats_size _ _ p hp) (by decide)) (fun p hp => Nat.le_trans (pats_size _ _ p hp) (by decide)) HBb.out (by omega) HOa.out HOd.out hNM
            simp only [← HKE.out, ← HKE2.out]
            exact ⟨_, _, _, _, _, _, _, _, _, rfl, r1, HN.out ▸ r2⟩
        · have hA3 : decide ((i2 : Int) + 2 < (len1 : Int)) = false := by simp; omega
          have hkE2 : k2 = min 4 (len1 / 3) := by have := HI2.out; omega
          have HKE2 := nhide hkE2
          clear hkE2
          have q1 := (HB1.out.1.keep (below_alloc wr (.cells #[.string ⟨#[97, 108, 108, 111, 119]⟩, .string ⟨#[100, 101, 110, 121]⟩] 9)))
          have q2 := (HB2.out.1.keep (below_alloc wr (.cells #[.string ⟨#[97, 108, 108, 111, 119]⟩, .string ⟨#[100, 101, 110, 121]⟩] 9)))
          have q0 := (HB0.out.keep (below_alloc wr (.cells #[.string ⟨#[97, 108, 108, 111, 119]⟩, .string ⟨#[100, 101, 110, 121]⟩] 9))).keep (below_alloc (wr.alloc (.cells #[.string ⟨#[97, 108, 108, 111, 119]⟩, .string ⟨#[100, 101, 110, 121]⟩] 9)) (.cells #[.int .i64 4, .int .i64 0, .string ⟨#[]⟩, .slice none 0 0, .slice la (pats z0 k).length lc, .int .i64 4, .int .i64 0, .string ⟨#[]⟩, .slice none 0 0, .slice lb (pats z1 k2).length lc2] 25))
          obtain ⟨x0, x1, x2, x3, x4⟩ := id q1
          obtain ⟨y0, y1, y2, y3, y4⟩ := id q2
          obtain ⟨⟨s0, s1, s2, s3, s4⟩, g0, g1, g2, g3, g4⟩ := id q0
          have HQ0 := nhide q0
          clear q0 q1 q2
          go_wp2_with fail
          obtain ⟨u0, u1, u2, u3, u4⟩ := Box5.all HQ0.out.1 (.int .i64 5) (.int .i64 0) (.string ⟨#[]⟩) (.slice (some ⟨wr.heap.size, 0, none⟩) 2 2) (.slice (some ⟨wr.heap.size + 1, 0, none⟩) 2 2)
          refine bodyPost_ret (v := .agg #[.int .i64 5, .int .i64 0, .string ⟨#[]⟩, .slice (some ⟨wr.heap.size, 0, none⟩) 2 2, .slice (some ⟨wr.heap.size + 1, 0, none⟩) 2 2]) (by simp [results, Try.results17, go_sem, u0, u1, u2, u3, u4]) rfl ?_
          obtain ⟨r1, r2⟩ := list_end (fun p hp => Nat.le_trans (pats_size _ _ p hp) (by decide)) (fun p hp => Nat.le_trans (pats_size _ _ p hp) (by decide)) HBb.out (by omega) HOa.out HOd.out hNM
          simp only [← HKE.out, ← HKE2.out]
          exact ⟨_, _, _, _, _, _, _, _, _, rfl, r1, HN.out ▸ r2⟩
end Go.Proofs.Ytpfbiklbecdmiaa
