/-
  THE WALKS over package value: Copy.
-/
import Derived.Test.YtpfbiklbecdmiaaVWalks
import Derived.Test.YtpfbiklbecdmiaaVRow
import Derived.Deep.OwnRows
set_option linter.unusedVariables false
set_option linter.unusedSimpArgs false
namespace Go.Proofs.Ytpfbiklbecdmiaa
open Go.RowKit

/-- no cell of block b is frozen -/
def Fre (w : World) (b : Nat) : Prop := ∀ o, w.frozen? ⟨b, o, none⟩ = false
/-- from B on, and never frozen -/
def Own (w : World) (B : Nat) (b : Nat) : Prop := B ≤ b ∧ Fre w b
theorem Fre.below {w w' : World} {b : Nat} (h : Fre w b) (hb : b < w.heap.size) (k : Below w.heap.size w w') : Fre w' b := fun o => by
  rw [k.frozen (p := ⟨b, o, none⟩) hb]; exact h o
theorem Fre.set {w : World} {b : Nat} (h : Fre w b) (a : Addr) (v : Value) : Fre (w.setCell a v) b := fun o => by
  rw [World.frozen?_setCell]; exact h o
theorem fre_new (w : World) (M : Array Value) (t : TypeId) (g : Nat) (h : g = w.heap.size) : Fre (w.alloc (.cells M t)) g := fun o => by
  subst h
  simp only [World.frozen?, World.alloc, Array.getElem?_push_size]
  simp
theorem Is.ownTo {w w' : World} {v : Value} {x : V} {B B' : Nat} (h : Is w (Own w B) v x) (kp : Keeps (fun b => B ≤ b) w w') (hf : ∀ b, b < w.heap.size → Fre w b → Fre w' b) (hB : B' ≤ B) : Is w' (Own w' B') v x :=
  ((h.weak (S' := fun b => B ≤ b ∧ Fre w' b) (fun b hb hs => ⟨hs.1, hf b hb hs.2⟩)).keep (fun b hs hb => kp b hs.1 hb)).weak (fun b _ hs => ⟨Nat.le_trans hB hs.1, hs.2⟩)
theorem IsL.ownTo {w w' : World} {v : Value} {x : List V} {B B' : Nat} (h : IsL w (Own w B) v x) (kp : Keeps (fun b => B ≤ b) w w') (hf : ∀ b, b < w.heap.size → Fre w b → Fre w' b) (hB : B' ≤ B) : IsL w' (Own w' B') v x :=
  ((h.weak (S' := fun b => B ≤ b ∧ Fre w' b) (fun b hb hs => ⟨hs.1, hf b hb hs.2⟩)).keep (fun b hs hb => kp b hs.1 hb)).weak (fun b _ hs => ⟨Nat.le_trans hB hs.1, hs.2⟩)
theorem Strs.ownTo {w w' : World} {v : Value} {x : List ByteArray} {B B' : Nat} (h : Strs w (Own w B) v x) (kp : Keeps (fun b => B ≤ b) w w') (hf : ∀ b, b < w.heap.size → Fre w b → Fre w' b) (hB : B' ≤ B) : Strs w' (Own w' B') v x :=
  ((h.weak (S' := fun b => B ≤ b ∧ Fre w' b) (fun b hb hs => ⟨hs.1, hf b hb hs.2⟩)).keep (fun b hs hb => kp b hs.1 hb)).weak (fun b _ hs => ⟨Nat.le_trans hB hs.1, hs.2⟩)
theorem Is.ownBelow {w w' : World} {v : Value} {x : V} {B B' : Nat} (h : Is w (Own w B) v x) (k : Below w.heap.size w w') (hB : B' ≤ B) : Is w' (Own w' B') v x :=
  h.ownTo (Keeps.of_below k) (fun _ hb hf => hf.below hb k) hB

theorem clone_any (s : ByteArray) (w : World) (hs : s.size ≤ 281474976710656) :
    Calls Try.prog 37 #[.string s] w fun e w' => e = .returned (.string s) ∧ Below w.heap.size w w' := by
  go_enter Try.func37, Try.ntmps37
  go_wp2_with fail
  refine (Try.stringslite_Clone s w hs).mono ?_
  rintro e w1 ⟨rfl, b1⟩
  go_wp2
  go_ret
  exact ⟨rfl, b1⟩

theorem info_str : (Try.prog.info? 9).map (fun i => (i.zero, i.size, i.bytes)) = some (some (.string ⟨#[]⟩), 1, 16) := by kernel_rfl
theorem info_val : (Try.prog.info? 25).map (fun i => (i.zero, i.size, i.bytes)) = some (some (.agg #[.int .i64 0, .int .i64 0, .string ⟨#[]⟩, .slice none 0 0, .slice none 0 0]), 5, 80) := by kernel_rfl

/-- make([]string, n) -/
theorem make_str (n : Nat) (hn : n ≤ 4294967296) : ∃ M : Array Value, M.size = n ∧ ∀ W : World, (Instr.makeSlice 22 (.int .i64 (n : Int)) (.int .i64 (n : Int))).run Try.prog W = .ok (.slice (some ⟨W.heap.size, 0, none⟩) n n) (W.alloc (.cells M 9)) := by
  obtain ⟨i0, hi, hz0, hz1, hz2⟩ := info_parts info_str
  refine ⟨madeCells (Value.string ⟨#[]⟩).cells ((n : Int).toNat * i0.size), ?_, fun W => ?_⟩
  rotate_left
  · have h := run_make (P := Try.prog) W 22 9 i0 _ Try.underlying22 hi hz0 .i64 .i64 (n : Int) (n : Int) (by omega) (by omega) (by rw [hz2]; omega) (by omega)
    simpa using h
  · rw [size_madeCells, hz1]; simp

theorem make_val (n : Nat) (hn : n ≤ 4294967296) : ∃ M : Array Value, M.size = n * 5 ∧ ∀ W : World, (Instr.makeSlice 23 (.int .i64 (n : Int)) (.int .i64 (n : Int))).run Try.prog W = .ok (.slice (some ⟨W.heap.size, 0, none⟩) n n) (W.alloc (.cells M 25)) := by
  obtain ⟨i0, hi, hz0, hz1, hz2⟩ := info_parts info_val
  refine ⟨madeCells (Value.agg #[.int .i64 0, .int .i64 0, .string ⟨#[]⟩, .slice none 0 0, .slice none 0 0]).cells ((n : Int).toNat * i0.size), ?_, fun W => ?_⟩
  rotate_left
  · have h := run_make (P := Try.prog) W 23 25 i0 _ Try.underlying23 hi hz0 .i64 .i64 (n : Int) (n : Int) (by omega) (by omega) (by rw [hz2]; omega) (by omega)
    simpa using h
  · rw [size_madeCells, hz1]; simp

set_option maxHeartbeats 4000000 in
theorem turnedSSF_any {v : Value} {ks : List ByteArray} {w : World} {S : Nat → Prop} (h : Strs w S v ks) (hw : V.wtK ks ≤ 4294967296) :
    Calls Try.prog 80 #[v, .func (.func 37) #[] #[]] w fun e w' => ∃ v', e = .returned v' ∧ Strs w' (Own w' w.heap.size) v' ks ∧ Below w.heap.size w w' := by
  obtain ⟨a, cap, rfl, h1, h2, h3, h4⟩ := h
  have hlen : ks.length ≤ 4294967296 := Nat.le_trans (V.wtK_len ks) (by omega)
  by_cases h0 : ks.length = 0
  · have hk : ks = [] := List.eq_nil_of_length_eq_zero h0
    subst hk
    go_enter Try.func80, Try.ntmps80
    go_wp2
    go_ret
    exact ⟨_, rfl, strs_nil _ _, Below.refl _ _⟩
  · have hb : ((ks.length : Int) == 0) = false := by rw [beq_eq_false_iff_ne]; omega
    obtain ⟨M, hM, hmk⟩ := make_str ks.length hlen
    have HM : Hid _ := hM
    have HC : Hid _ := h4
    have HW : Hid _ := hw
    have H3 : Hid _ := h3
    clear hM h4 hw h3 h0
    go_enter Try.func80, Try.ntmps80
    go_wp2_with fail
    clear hmk hb
    go_loopg [16] ks.length (fun g i wr => ∃ (j : Nat) (c : Nat → Value), j + g = ks.length ∧ i = .int .i64 j ∧ Below w.heap.size w wr ∧ w.heap.size < wr.heap.size ∧ Row wr w.heap.size ks.length c ∧ (∀ i, i < j → c i = .string (ks.getD i ByteArray.empty)) ∧ Hid (Fre wr w.heap.size))
    case atStart => 
      refine ⟨0, fun i => M.getD i undef, by omega, rfl, below_alloc _ _, by simp, ?_, fun i hi => absurd hi (Nat.not_lt_zero _), fre_new _ _ _ _ rfl⟩
      rw [← HM.out]
      exact row_new _ _ _ _ rfl
    case round =>
      obtain ⟨j, c, hj, rfl, bj, hgs, hrow, hc, HF⟩ := hrel
      have HR : Hid _ := hrow
      have HD : Hid _ := hc
      clear hrow hc
      by_cases hlt : j < ks.length
      · obtain ⟨b, off, K, rfl, hK, ej⟩ := str_at' HC.out bj hlt
        go_wp2_with fail
        refine (clone_any _ _ ?_).mono ?_
        · rw [hK.out]; exact Nat.le_trans (getD_wt HW.out hlt) (by decide)
        rintro e w1 ⟨rfl, b1⟩
        obtain ⟨r1, r2⟩ := (Row.keep HR.out hgs b1) j hlt
        go_wp2
        go_roundg (gk - 1)
        case measure => omega
        case rel =>
          refine ⟨j + 1, _, by omega, rfl, below_set (bthen bj b1) (Nat.le_refl _) _, by rw [size_set]; exact Nat.lt_of_lt_of_le hgs b1.size, Row.set (Row.keep HR.out hgs b1) hlt (.string K), ?_, (HF.out.below hgs b1).set _ _⟩
          intro i hi
          by_cases e : i = j
          · subst e; simp only [if_true]; rw [hK.out]
          · simp only [e, if_false]; exact HD.out i (by omega)
      · have hje : j = ks.length := by omega
        subst hje
        go_wp2
        go_ret
        refine ⟨_, rfl, ⟨_, _, rfl, Nat.le_refl _, Nat.le_trans hlen (by decide), H3.out, ?_⟩, bj⟩
        exact ((Row.cells HR.out (S := Own wr w.heap.size) ⟨Nat.le_refl _, HF.out⟩ (Nat.le_refl _))).congr (fun i hi => HD.out i hi)

def CopyAt (d : Nat) : Prop := ∀ (v : Value) (x : V) (w : World) (r : Nat) (S : Nat → Prop), IsD w S d v x → V.wt x ≤ 4294967296 →
    w.cell? ⟨r, 0, none⟩ = some (.func (.func 79) #[] #[.pointer (some ⟨r, 0, none⟩)]) →
    Calls Try.prog 79 #[v, .pointer (some ⟨r, 0, none⟩)] w fun e w' => ∃ k n t a1 n1 c1 a2 n2 c2, e = .returned (.agg #[.int .i64 k, .int .i64 n, .string t, .slice a1 n1 c1, .slice a2 n2 c2]) ∧ Is w' (Own w' w.heap.size) (.agg #[.int .i64 k, .int .i64 n, .string t, .slice a1 n1 c1, .slice a2 n2 c2]) x ∧ Below w.heap.size w w'

set_option maxHeartbeats 4000000 in
theorem turnedVV_any (d : Nat) (ih : CopyAt d) (a : Option Addr) (cap : Nat) (c : Nat → Value) (l : List V) (w : World) (S : Nat → Prop) (r : Nat)
    (h6 : Cells w S a (l.length * 5) c) (h7 : ∀ i (h : i < l.length), IsD w S d (elemV c i) l[i]) (hw : V.wtL l ≤ 4294967296)
    (hr : w.cell? ⟨r, 0, none⟩ = some (.func (.func 79) #[] #[.pointer (some ⟨r, 0, none⟩)])) :
    Calls Try.prog 81 #[.slice a l.length cap, .func (.func 79) #[] #[.pointer (some ⟨r, 0, none⟩)]] w fun e w' => ∃ a' n' c', e = .returned (.slice a' n' c') ∧ IsL w' (Own w' w.heap.size) (.slice a' n' c') l ∧ Below w.heap.size w w' := by
  have hlen : l.length ≤ 4294967296 := Nat.le_trans (V.wtL_len l) (by omega)
  by_cases h0 : l.length = 0
  · have hk : l = [] := List.eq_nil_of_length_eq_zero h0
    subst hk
    go_enter Try.func81, Try.ntmps81
    go_wp2
    go_ret
    exact ⟨_, _, _, rfl, isL_nil _ _, Below.refl _ _⟩
  · have hb : ((l.length : Int) == 0) = false := by rw [beq_eq_false_iff_ne]; omega
    obtain ⟨M, hM, hmk⟩ := make_val l.length hlen
    have HM : Hid _ := hM
    have HW : Hid _ := hw
    clear hM hw h0
    go_enter Try.func81, Try.ntmps81
    go_wp2_with fail
    clear hmk hb
    go_loopg [16] l.length (fun g i wr => ∃ (j : Nat) (c : Nat → Value), j + g = l.length ∧ i = .int .i64 j ∧ Below w.heap.size w wr ∧ w.heap.size < wr.heap.size ∧ Hid (Row wr w.heap.size (l.length * 5) c) ∧ Hid (∀ i (h : i < l.length), i < j → Is wr (Own wr (w.heap.size + 1)) (elemV c i) l[i]) ∧ Hid (Fre wr w.heap.size))
    case atStart => 
      refine ⟨0, fun i => M.getD i undef, by omega, rfl, below_alloc _ _, by simp, ?_, fun i _ hi => absurd hi (Nat.not_lt_zero _), fre_new _ _ _ _ rfl⟩
      unfold Hid
      rw [← HM.out]
      exact row_new _ _ _ _ rfl
    case round =>
      obtain ⟨j, c', hj, rfl, bj, hgs, HR, HD, HF⟩ := hrel
      by_cases hlt : j < l.length
      · obtain ⟨b, off, k', n', t', a1, n1, c1, a2, n2, c2, rfl, hel, e0, e1, e2, e3, e4⟩ := elem_open h6 bj hlt (h7 j hlt)
        have hwx := V.wtL_mem (List.getElem_mem hlt)
        have H1 : Hid _ := hwx
        clear hwx
        go_wp2_with fail
        refine (ih _ _ _ r S (hel.keep (Keeps.of_below (below_alloc wr _))) (Nat.le_trans H1.out HW.out) (cell_keep (cell_keep hr bj) (below_alloc wr _))).mono ?_
        rintro e w2 ⟨k3, n3, t3, a3, m3, d3, a4, m4, d4, rfl, his, b2⟩
        have bb := bthen (below_alloc wr _) b2
        have hrow2 : Row w2 w.heap.size (l.length * 5) c' := Row.keep HR.out hgs bb
        obtain ⟨r0, f0⟩ := hrow2 (j * 5) (by omega)
        obtain ⟨r1, f1⟩ := hrow2 (j * 5 + 1) (by omega)
        obtain ⟨r2, f2⟩ := hrow2 (j * 5 + 2) (by omega)
        obtain ⟨r3, f3⟩ := hrow2 (j * 5 + 3) (by omega)
        obtain ⟨r4, f4⟩ := hrow2 (j * 5 + 4) (by omega)
        have HROW : Hid _ := hrow2
        clear hrow2
        go_wp2
        go_roundg (gk - 1)
        case measure => omega
        case rel =>
          refine ⟨j + 1, _, by omega, rfl, below_set5 (bthen bj bb) (Nat.le_refl _) _ _ _ _ _, ?_, Row.set5 HROW.out (by omega) _ _ _ _ _, ?_, ((((((HF.out.below hgs bb).set _ _).set _ _).set _ _).set _ _).set _ _)⟩
          · have := size_set5 w2 w.heap.size (j * 5) (.int .i64 k3) (.int .i64 n3) (.string t3) (.slice a3 m3 d3) (.slice a4 m4 d4)
            unfold set5 at this
            rw [this]
            exact Nat.lt_of_lt_of_le hgs bb.size
          · intro i hi hij
            have kp : Keeps (fun b => w.heap.size + 1 ≤ b) w2 (set5 w2 w.heap.size (j * 5) (.int .i64 k3) (.int .i64 n3) (.string t3) (.slice a3 m3 d3) (.slice a4 m4 d4)) := keeps_set5 _ _ _ _ _ (by omega)
            have hf5 : ∀ b, b < w2.heap.size → Fre w2 b → Fre (set5 w2 w.heap.size (j * 5) (.int .i64 k3) (.int .i64 n3) (.string t3) (.slice a3 m3 d3) (.slice a4 m4 d4)) b := fun b _ hf => ((((hf.set _ _).set _ _).set _ _).set _ _).set _ _
            by_cases e : i = j
            · subst e
              rw [elem_set5_same]
              have his' : Is w2 (Own w2 (w.heap.size + 1)) _ _ := his.weak (S' := Own w2 (w.heap.size + 1)) (fun b _ hb => ⟨by have := hb.1; simp at this; omega, hb.2⟩)
              exact his'.ownTo kp hf5 (Nat.le_refl _)
            · rw [elem_set5_other _ _ _ e]
              exact ((HD.out i hi (by omega)).ownBelow bb (Nat.le_refl _)).ownTo kp hf5 (Nat.le_refl _)
      · have hje : j = l.length := by omega
        subst hje
        go_wp2
        go_ret
        refine ⟨_, _, _, rfl, ⟨_, _, c', rfl, Nat.le_refl _, Nat.le_trans hlen (by decide), Row.cells HR.out (S := Own wr w.heap.size) ⟨Nat.le_refl _, HF.out⟩ (Nat.le_refl _), ?_⟩, bj⟩
        intro i hi
        exact (HD.out i hi hi).weak (fun b _ hb => ⟨by have := hb.1; omega, hb.2⟩)

/-- five cells that may be written -/
def BoxF (w : World) (g : Nat) (c0 c1 c2 c3 c4 : Value) : Prop :=
  Box5 w g c0 c1 c2 c3 c4 ∧ w.frozen? ⟨g, 0, none⟩ = false ∧ w.frozen? ⟨g, 1, none⟩ = false ∧ w.frozen? ⟨g, 2, none⟩ = false ∧ w.frozen? ⟨g, 3, none⟩ = false ∧ w.frozen? ⟨g, 4, none⟩ = false

theorem boxF_at (w : World) (c0 c1 c2 c3 c4 : Value) (t : TypeId) (g : Nat) (h : g = w.heap.size) : BoxF (w.alloc (.cells #[c0, c1, c2, c3, c4] t)) g c0 c1 c2 c3 c4 := by
  subst h
  have hr := row_new w #[c0, c1, c2, c3, c4] t _ rfl
  exact ⟨box5_new w c0 c1 c2 c3 c4 t, (hr 0 (by decide : 0 < 5)).2, (hr 1 (by decide : 1 < 5)).2, (hr 2 (by decide : 2 < 5)).2, (hr 3 (by decide : 3 < 5)).2, (hr 4 (by decide : 4 < 5)).2⟩

theorem BoxF.keep {w w' : World} {g : Nat} {c0 c1 c2 c3 c4 : Value} (h : BoxF w g c0 c1 c2 c3 c4) (k : Below w.heap.size w w') : BoxF w' g c0 c1 c2 c3 c4 := by
  obtain ⟨h1, f0, f1, f2, f3, f4⟩ := h
  have hg := cell_size h1.1
  refine ⟨h1.keep k, ?_, ?_, ?_, ?_, ?_⟩ <;> rw [k.frozen (p := ⟨g, _, none⟩) hg] <;> assumption

theorem box_other {w : World} {g g' o o' : Nat} {v x : Value} (h : w.cell? ⟨g, o, none⟩ = some v) (ho : g ≠ g' ∨ o ≠ o') : (w.setCell ⟨g', o', none⟩ x).cell? ⟨g, o, none⟩ = some v := by
  rw [World.cell?_setCell_other _ _ _ _ (by simp only [ne_eq, Addr.mk.injEq]; omega)]
  exact h

theorem BoxF.set2 {w : World} {g : Nat} {c0 c1 c2 c3 c4 : Value} (h : BoxF w g c0 c1 c2 c3 c4) (v : Value) : BoxF (w.setCell ⟨g, 2, none⟩ v) g c0 c1 v c3 c4 := by
  obtain ⟨⟨h0, h1, h2, h3, h4⟩, f⟩ := h
  refine ⟨⟨box_other h0 (by omega), box_other h1 (by omega), World.cell?_setCell_same _ _ _ h2, box_other h3 (by omega), box_other h4 (by omega)⟩, ?_⟩
  simpa only [World.frozen?_setCell] using f

theorem BoxF.set3 {w : World} {g : Nat} {c0 c1 c2 c3 c4 : Value} (h : BoxF w g c0 c1 c2 c3 c4) (v : Value) : BoxF (w.setCell ⟨g, 3, none⟩ v) g c0 c1 c2 v c4 := by
  obtain ⟨⟨h0, h1, h2, h3, h4⟩, f⟩ := h
  refine ⟨⟨box_other h0 (by omega), box_other h1 (by omega), box_other h2 (by omega), World.cell?_setCell_same _ _ _ h3, box_other h4 (by omega)⟩, ?_⟩
  simpa only [World.frozen?_setCell] using f

theorem BoxF.set4 {w : World} {g : Nat} {c0 c1 c2 c3 c4 : Value} (h : BoxF w g c0 c1 c2 c3 c4) (v : Value) : BoxF (w.setCell ⟨g, 4, none⟩ v) g c0 c1 c2 c3 v := by
  obtain ⟨⟨h0, h1, h2, h3, h4⟩, f⟩ := h
  refine ⟨⟨box_other h0 (by omega), box_other h1 (by omega), box_other h2 (by omega), box_other h3 (by omega), World.cell?_setCell_same _ _ _ h4⟩, ?_⟩
  simpa only [World.frozen?_setCell] using f

theorem BoxF.other {w : World} {g g' o' : Nat} {c0 c1 c2 c3 c4 : Value} (h : BoxF w g c0 c1 c2 c3 c4) (hg : g ≠ g') (v : Value) : BoxF (w.setCell ⟨g', o', none⟩ v) g c0 c1 c2 c3 c4 := by
  obtain ⟨⟨h0, h1, h2, h3, h4⟩, f⟩ := h
  refine ⟨⟨box_other h0 (.inl hg), box_other h1 (.inl hg), box_other h2 (.inl hg), box_other h3 (.inl hg), box_other h4 (.inl hg)⟩, ?_⟩
  simpa only [World.frozen?_setCell] using f

/-- a whole box written -/
theorem Box5.all {w : World} {g : Nat} {c0 c1 c2 c3 c4 : Value} (h : Box5 w g c0 c1 c2 c3 c4) (v0 v1 v2 v3 v4 : Value) :
    Box5 (((((w.setCell ⟨g, 0, none⟩ v0).setCell ⟨g, 1, none⟩ v1).setCell ⟨g, 2, none⟩ v2).setCell ⟨g, 3, none⟩ v3).setCell ⟨g, 4, none⟩ v4) g v0 v1 v2 v3 v4 := by
  obtain ⟨h0, h1, h2, h3, h4⟩ := h
  refine ⟨?_, ?_, ?_, ?_, ?_⟩
  · exact box_other (box_other (box_other (box_other (World.cell?_setCell_same _ _ _ h0) (by omega)) (by omega)) (by omega)) (by omega)
  · exact box_other (box_other (box_other (World.cell?_setCell_same _ _ _ (box_other h1 (by omega))) (by omega)) (by omega)) (by omega)
  · exact box_other (box_other (World.cell?_setCell_same _ _ _ (box_other (box_other h2 (by omega)) (by omega))) (by omega)) (by omega)
  · exact box_other (World.cell?_setCell_same _ _ _ (box_other (box_other (box_other h3 (by omega)) (by omega)) (by omega))) (by omega)
  · exact World.cell?_setCell_same _ _ _ (box_other (box_other (box_other (box_other h4 (by omega)) (by omega)) (by omega)) (by omega))

theorem keeps5 (w : World) (g : Nat) (v0 v1 v2 v3 v4 : Value) :
    Keeps (fun b => g + 2 ≤ b) w (((((w.setCell ⟨g + 1, 0, none⟩ v0).setCell ⟨g + 1, 1, none⟩ v1).setCell ⟨g + 1, 2, none⟩ v2).setCell ⟨g + 1, 3, none⟩ v3).setCell ⟨g + 1, 4, none⟩ v4) := by
  intro b hb _
  have e : b ≠ g + 1 := by omega
  rw [Below.heap_setCell _ _ _ _ e, Below.heap_setCell _ _ _ _ e, Below.heap_setCell _ _ _ _ e, Below.heap_setCell _ _ _ _ e, Below.heap_setCell _ _ _ _ e]

theorem keeps6 (w : World) (g : Nat) (x v0 v1 v2 v3 v4 : Value) :
    Keeps (fun b => g + 2 ≤ b) w ((((((w.setCell ⟨g, 4, none⟩ x).setCell ⟨g + 1, 0, none⟩ v0).setCell ⟨g + 1, 1, none⟩ v1).setCell ⟨g + 1, 2, none⟩ v2).setCell ⟨g + 1, 3, none⟩ v3).setCell ⟨g + 1, 4, none⟩ v4) :=
  (keeps_set x (by omega)).trans (keeps5 _ g v0 v1 v2 v3 v4) (by rw [size_set]; exact Nat.le_refl _)

set_option maxHeartbeats 4000000 in
theorem copy1_any (d : Nat) : CopyAt d := by
  induction d with
  | zero => intro v x w r S h; exact h.elim
  | succ d ih =>
    intro v x w r S h hwt hr
    obtain ⟨kv, a, cap, c, rfl, h2, h3, h4, h5, h6, h7⟩ := h
    obtain ⟨k, n, t, ks, l⟩ := x
    simp only at *
    rw [V.wt_mk] at hwt
    obtain ⟨a1, c1, rfl, _⟩ := id h2
    have HW : Hid _ := hwt
    clear hwt
    go_enter Try.func79, Try.ntmps79
    go_wp2_with fail
    refine (clone_any _ _ (by have := HW.out; omega)).mono ?_
    rintro e w1 ⟨rfl, b1⟩
    have p1 : BoxF w1 w.heap.size _ _ _ _ _ := ((boxF_at w _ _ _ _ _ 25 _ rfl).keep (below_alloc _ _)).keep b1
    have q1 : BoxF w1 (w.heap.size + 1) _ _ _ _ _ := (boxF_at _ _ _ _ _ _ 25 _ (by simp)).keep b1
    obtain ⟨⟨x0, x1, x2, x3, x4⟩, f0, f1, f2, f3, f4⟩ := id p1
    go_wp2_with fail
    have bb1 : Below w.heap.size w (w1.setCell ⟨w.heap.size, 2, none⟩ (.string t)) := below_set (bthen (bthen (below_alloc w _) (below_alloc _ _)) b1) (Nat.le_refl _) _
    have s1 : w.heap.size + 2 ≤ (w1.setCell ⟨w.heap.size, 2, none⟩ (.string t)).heap.size := by rw [size_set]; have := b1.size; simp at this; omega
    have p2 := p1.set2 (.string t)
    have q2 := q1.other (g' := w.heap.size) (o' := 2) (by omega) (.string t)
    clear x0 x1 x2 x3 x4 f0 f1 f2 f3 f4 p1 q1 b1
    generalize w1.setCell ⟨w.heap.size, 2, none⟩ (.string t) = W1 at *
    refine (turnedSSF_any (h2.below bb1) (by have := HW.out; omega)).mono ?_
    rintro e w2 ⟨v2, rfl, hst, b2⟩
    obtain ⟨a3, c3, rfl, _⟩ := id hst
    have p3 := p2.keep b2
    have q3 := q2.keep b2
    obtain ⟨⟨x0, x1, x2, x3, x4⟩, f0, f1, f2, f3, f4⟩ := id p3
    have hr2 : (w2.setCell ⟨w.heap.size, 3, none⟩ (.slice a3 ks.length c3)).cell? ⟨r, 0, none⟩ = _ := box_other (cell_keep (cell_keep hr bb1) b2) (.inl (Nat.ne_of_lt (cell_size hr)))
    have p4 := p3.set3 (.slice a3 ks.length c3)
    obtain ⟨⟨_, _, _, _, y4⟩, _⟩ := id p4
    go_wp2_with fail
    have q4 := q3.other (g' := w.heap.size) (o' := 3) (by omega) (.slice a3 ks.length c3)
    have bb2 : Below w.heap.size w (w2.setCell ⟨w.heap.size, 3, none⟩ (.slice a3 ks.length c3)) := below_set (bthen bb1 b2) (Nat.le_refl _) _
    have s2 : W1.heap.size ≤ (w2.setCell ⟨w.heap.size, 3, none⟩ (.slice a3 ks.length c3)).heap.size := by rw [size_set]; exact b2.size
    have hst2 := hst.ownTo (B' := w.heap.size + 2) (keeps_set (w := w2) (g := w.heap.size) (o := 3) (.slice a3 ks.length c3) (by omega)) (fun b _ hf => hf.set _ _) s1
    clear x0 x1 x2 x3 x4 f0 f1 f2 f3 f4 p3 q3 hst b2 y4
    generalize w2.setCell ⟨w.heap.size, 3, none⟩ (.slice a3 ks.length c3) = W2 at *
    refine (turnedVV_any d ih a cap c l _ S r (h6.keep (Keeps.of_below bb2)) (fun i hi => (h7 i hi).keep (Keeps.of_below bb2)) (Nat.le_trans (by omega) HW.out) hr2).mono ?_
    rintro e w3 ⟨a5, n5, c5, rfl, hli, b3⟩
    have p5 := p4.keep b3
    have q5 := q4.keep b3
    obtain ⟨⟨x0, x1, x2, x3, x4⟩, f0, f1, f2, f3, f4⟩ := id p5
    obtain ⟨⟨y0, y1, y2, y3, y4⟩, g0, g1, g2, g3, g4⟩ := id (q5.other (g' := w.heap.size) (o' := 4) (by omega) (.slice a5 n5 c5))
    obtain ⟨⟨z0, z1, z2, z3, z4⟩, _⟩ := id (p5.set4 (.slice a5 n5 c5))
    go_wp2_with fail
    obtain ⟨u0, u1, u2, u3, u4⟩ := Box5.all ⟨y0, y1, y2, y3, y4⟩ (.int .i64 k) (.int .i64 n) (.string t) (.slice a3 ks.length c3) (.slice a5 n5 c5)
    refine bodyPost_ret (v := .agg #[.int .i64 k, .int .i64 n, .string t, .slice a3 ks.length c3, .slice a5 n5 c5]) (by simp [results, Try.results79, go_sem, u0, u1, u2, u3, u4]) rfl ?_
    refine ⟨k, n, t, a3, ks.length, c3, a5, n5, c5, rfl, ?_, ?_⟩
    · have kp := keeps6 w3 w.heap.size (.slice a5 n5 c5) (.int .i64 k) (.int .i64 n) (.string t) (.slice a3 ks.length c3) (.slice a5 n5 c5)
      refine Is.shut (x := ⟨k, n, t, ks, l⟩) ?_ ?_ h5
      · exact (hst2.ownTo (B' := w.heap.size + 2) (Keeps.of_below b3) (fun _ hb hf => hf.below hb b3) (Nat.le_refl _)).ownTo kp (fun b _ hf => (((((hf.set _ _).set _ _).set _ _).set _ _).set _ _).set _ _) (by omega)
      · exact (hli.weak (S' := Own w3 (w.heap.size + 2)) (fun b _ hb => ⟨Nat.le_trans s1 (Nat.le_trans s2 hb.1), hb.2⟩)).ownTo kp (fun b _ hf => (((((hf.set _ _).set _ _).set _ _).set _ _).set _ _).set _ _) (by omega)
    · exact (((((below_set (bthen bb2 b3) (Nat.le_refl _) _).setCell (Nat.le_succ _) _).setCell (Nat.le_succ _) _).setCell (Nat.le_succ _) _).setCell (Nat.le_succ _) _).setCell (Nat.le_succ _) _

theorem copyF_any {v : Value} {x : V} {w : World} {S : Nat → Prop} (h : Is w S v x) (hwt : V.wt x ≤ 4294967296) :
    Calls Try.prog 74 #[v] w fun e w' => ∃ k n t a1 n1 c1 a2 n2 c2, e = .returned (.agg #[.int .i64 k, .int .i64 n, .string t, .slice a1 n1 c1, .slice a2 n2 c2]) ∧ Is w' (Own w' w.heap.size) (.agg #[.int .i64 k, .int .i64 n, .string t, .slice a1 n1 c1, .slice a2 n2 c2]) x ∧ Below w.heap.size w w' := by
  obtain ⟨d, h⟩ := h
  have h' := h
  cases d with
  | zero => exact h.elim
  | succ d =>
  obtain ⟨kv, a, cap, c, rfl, ⟨a1, c1, rfl, _⟩, _⟩ := h'
  go_enter Try.func74, Try.ntmps74
  go_wp2_with fail
  refine (copy1_any _ _ _ _ _ S (h.keep (Keeps.of_below (bthen (below_alloc w _) (bthen (below_alloc _ _) (below_alloc _ _))))) hwt (cell_new _ _ _ _ (by simp))).mono ?_
  rintro e w1 ⟨k, n, t, a2, n2, c2, a3, n3, c3, rfl, his, b1⟩
  have q : BoxF w1 (w.heap.size + 1) _ _ _ _ _ := ((boxF_at _ _ _ _ _ _ 25 _ (by simp)).keep (below_alloc _ _)).keep b1
  obtain ⟨⟨y0, y1, y2, y3, y4⟩, g0, g1, g2, g3, g4⟩ := id q
  have s1 := b1.size
  have S1 : Hid _ := s1
  clear s1
  go_wp2_with fail
  obtain ⟨u0, u1, u2, u3, u4⟩ := Box5.all q.1 (.int .i64 k) (.int .i64 n) (.string t) (.slice a2 n2 c2) (.slice a3 n3 c3)
  refine bodyPost_ret (v := .agg #[.int .i64 k, .int .i64 n, .string t, .slice a2 n2 c2, .slice a3 n3 c3]) (by simp [results, Try.results74, go_sem, u0, u1, u2, u3, u4]) rfl ?_
  refine ⟨k, n, t, a2, n2, c2, a3, n3, c3, rfl, ?_, ?_⟩
  · have kp := keeps5 w1 w.heap.size (.int .i64 k) (.int .i64 n) (.string t) (.slice a2 n2 c2) (.slice a3 n3 c3)
    exact (his.weak (S' := Own w1 (w.heap.size + 2)) (fun b _ hb => ⟨by have := hb.1; simp at this; omega, hb.2⟩)).ownTo kp (fun b _ hf => ((((hf.set _ _).set _ _).set _ _).set _ _).set _ _) (by omega)
  · exact (((((bthen (bthen (below_alloc w _) (bthen (below_alloc _ _) (below_alloc _ _))) b1).setCell (Nat.le_succ _) _).setCell (Nat.le_succ _) _).setCell (Nat.le_succ _) _).setCell (Nat.le_succ _) _).setCell (Nat.le_succ _) _

theorem copy_any {v : Value} {x : V} {w : World} {S : Nat → Prop} (h : Is w S v x) (hwt : V.wt x ≤ 4294967296) :
    Calls Try.prog 74 #[v] w fun e w' => ∃ k n t a1 n1 c1 a2 n2 c2, e = .returned (.agg #[.int .i64 k, .int .i64 n, .string t, .slice a1 n1 c1, .slice a2 n2 c2]) ∧ Is w' (fun b => w.heap.size ≤ b) (.agg #[.int .i64 k, .int .i64 n, .string t, .slice a1 n1 c1, .slice a2 n2 c2]) x ∧ Below w.heap.size w w' := by
  refine (copyF_any h hwt).mono ?_
  rintro e w' ⟨k, n, t, a1, n1, c1, a2, n2, c2, rfl, his, b⟩
  exact ⟨k, n, t, a1, n1, c1, a2, n2, c2, rfl, his.weak (fun b _ hb => hb.1), b⟩

end Go.Proofs.Ytpfbiklbecdmiaa
