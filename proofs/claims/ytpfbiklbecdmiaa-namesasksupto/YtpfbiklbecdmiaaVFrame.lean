/-
  Arguments opened: a list of texts, and a value, that came in, with their bulk.
-/
import Derived.Test.YtpfbiklbecdmiaaRows
import Derived.Test.YtpfbiklbecdmiaaVWithE
import Derived.WalkKit
import Derived.ProofKit
import Derived.OpenShut
import Derived.SliceStrings
set_option linter.unusedVariables false
set_option linter.unusedSimpArgs false
namespace Go.Proofs.Ytpfbiklbecdmiaa.inn
open Go.ChangeShapes Go.WideShapes Go.ChangeAt Go.RowKit

theorem bulk_strs {H : Type} (ss : List ByteArray) : Rows.uptoBulkAll (strs (H := H) ss) = V.wtK ss := by
  induction ss with
  | nil => simp [strs, Rows.uptoBulkAll, V.wtK]
  | cons s ss ih =>
    simp only [strs, List.map_cons, Rows.uptoBulkAll, Rows.uptoBulk, V.wtK] at ih ⊢
    rw [ih]
    have e : s.data.toList.length = s.size := by rw [Array.length_toList]; rfl
    omega
theorem add_none {b off i : Nat} : (⟨b, off, none⟩ : Addr).add i = ⟨b, off + i, none⟩ := by
  by_cases h : i = 0
  · subst h
    simp [Addr.add]
  · simp [Addr.add, h]
/-- a list of texts that came in -/
theorem strs_in {W : World} {a : Addr} {len cap : Nat} {ss : List ByteArray} (hl : len ≤ cap) (hm : cap ≤ maxLen) (hz : ss.length = cap)
    (hcell : ∀ i, i < ss.length → W.cell? (a.add i) = some (.string (ss.getD i ByteArray.empty))) (hsz : ∀ s ∈ ss, s.size ≤ maxLen) : Strs W (fun _ => True) (.slice (some a) len cap) (ss.take len) := by
  have hlen : (ss.take len).length = len := by rw [List.length_take]; omega
  refine ⟨some a, cap, by rw [hlen], by rw [hlen]; exact hl, hm, fun k hk => hsz k (List.mem_of_mem_take hk), ?_⟩
  rw [hlen]
  intro h0
  obtain ⟨b, off, spot⟩ := a
  have hspot : spot = none := by
    have g0 := hcell 0 (by omega)
    simpa [Addr.add] using World.cell?_spot g0
  subst hspot
  refine ⟨b, off, rfl, trivial, fun i hi => ?_⟩
  have := hcell i (by omega)
  have e : (ss.take len).getD i ByteArray.empty = ss.getD i ByteArray.empty := by
    simp only [List.getD]
    rw [List.getElem?_take_of_lt hi]
  show W.cell? ⟨b, off + i, none⟩ = some (.string ((ss.take len).getD i ByteArray.empty))
  rw [e, ← this, add_none]
theorem strs_open {H : Type} {enc : TypeId × Value → H} {W : World} {fuel : Nat} {cs : List Value} {x : DataW H × List MemPlace} (h : DataW.trod enc Try.prog W 0 (fun _ => true) true fuel 22 cs = some x) :
    ∃ v ks, cs = [v] ∧ Strs W (fun _ => True) v ks ∧ V.wtK ks + 1 ≤ Rows.uptoBulk x.1 := by
  rcases open_strings Try.underlying22 Try.underlying9 (by kernel_rfl) h with ⟨rfl, rfl⟩ | ⟨a, l, c, ss, rfl, _, hl, hm, hz, rfl, hcell, hsz⟩
  · exact ⟨_, [], rfl, strs_nil _ _, by simp [V.wtK, Rows.uptoBulk]⟩
  · refine ⟨_, ss.take l, rfl, strs_in hl hm (by simpa using hz) hcell hsz, ?_⟩
    simp only [Rows.uptoBulk, bulk_strs]
    omega
theorem pick_all {α : Type} {P : Nat → α → Prop} : ∀ n, (∀ i, i < n → ∃ y, P i y) → ∃ l : List α, l.length = n ∧ ∀ i (h : i < l.length), P i l[i]
  | 0, _ => ⟨[], rfl, fun i h => by simp at h⟩
  | n + 1, h => by
    obtain ⟨l, hl, hp⟩ := pick_all n (fun i hi => h i (by omega))
    obtain ⟨y, hy⟩ := h n (by omega)
    refine ⟨l ++ [y], by simp [hl], fun i hi => ?_⟩
    by_cases hin : i < l.length
    · rw [List.getElem_append_left hin]
      exact hp i hin
    · have : i = n := by simp at hi; omega
      subst this
      rw [List.getElem_append_right (by omega)]
      simp [hl, hy]
theorem wtL_bulk {H : Type} : ∀ (l : List V) (es : List (DataW H)), l.length = es.length → (∀ i (h : i < l.length) (h' : i < es.length), V.wt l[i] ≤ Rows.uptoBulk es[i]) → V.wtL l ≤ Rows.uptoBulkAll es
  | [], [], _, _ => by rw [V.wtL_nil]; exact Nat.zero_le _
  | x :: l, e :: es, hl, h => by
    have h0 := h 0 (by simp) (by simp)
    have h1 := wtL_bulk l es (by simpa using hl) (fun i h2 h3 => by
      have := h (i + 1) (by simp; omega) (by simp; omega)
      simpa using this)
    rw [V.wtL_cons]
    simp only [Rows.uptoBulkAll]
    simp only [List.getElem_cons_zero] at h0
    omega
  | [], _ :: _, hl, _ => by simp at hl
  | _ :: _, [], hl, _ => by simp at hl

/-- a value that came in -/
theorem val_open {H : Type} {enc : TypeId × Value → H} {W : World} : ∀ (fuel : Nat) (cs : List Value) (x : DataW H × List MemPlace), DataW.trod enc Try.prog W 0 (fun _ => true) true fuel 25 cs = some x →
    ∃ c0 c1 c2 c3 c4 X, cs = [c0, c1, c2, c3, c4] ∧ Is W (fun _ => True) (.agg #[c0, c1, c2, c3, c4]) X ∧ V.wt X ≤ Rows.uptoBulk x.1 := by
  intro fuel
  induction fuel using Nat.strongRecOn with
  | ind fuel ih =>
    intro cs x h
    obtain ⟨xs, n, rfl, rfl, hl, hlen, hf⟩ := DataW.trod_struct Try.underlying25 h
    have h5 : Try.prog.cellsOf 25 = 5 := by kernel_rfl
    rw [h5] at hl
    obtain ⟨c0, c1, c2, c3, c4, rfl⟩ : ∃ c0 c1 c2 c3 c4, cs = [c0, c1, c2, c3, c4] := by
      match cs, hl with
      | [c0, c1, c2, c3, c4], _ => exact ⟨c0, c1, c2, c3, c4, rfl⟩
    obtain ⟨y0, y1, y2, y3, y4, rfl⟩ : ∃ y0 y1 y2 y3 y4, xs = [y0, y1, y2, y3, y4] := by
      match xs, hlen with
      | [y0, y1, y2, y3, y4], _ => exact ⟨y0, y1, y2, y3, y4, rfl⟩
    have k0 : Try.prog.cellsOf 3 = 1 := by kernel_rfl
    have k1 : Try.prog.cellsOf 2 = 1 := by kernel_rfl
    have k2 : Try.prog.cellsOf 9 = 1 := by kernel_rfl
    have k3 : Try.prog.cellsOf 22 = 1 := by kernel_rfl
    have k4 : Try.prog.cellsOf 23 = 1 := by kernel_rfl
    have f0 := hf 0 _ rfl
    have f1 := hf 1 _ rfl
    have f2 := hf 2 _ rfl
    have f3 := hf 3 _ rfl
    have f4 := hf 4 _ rfl
    simp [k0] at f0
    simp [k1] at f1
    simp [k2] at f2
    simp [k3] at f3
    simp [k4] at f4
    obtain ⟨k, hc0, rfl, _⟩ := DataW.trod_int Try.underlying3 f0
    obtain ⟨num, hc1, rfl, _⟩ := DataW.trod_int Try.underlying2 f1
    obtain ⟨txt, hc2, rfl, htx⟩ := DataW.trod_string Try.underlying9 f2
    obtain ⟨kv, ks, hc3, hstr, hbk⟩ := strs_open f3
    simp only [List.cons.injEq, and_true] at hc0 hc1 hc2 hc3
    subst hc0 hc1 hc2 hc3
    have hlist : ∃ l : List V, IsL W (fun _ => True) c4 l ∧ V.wtL l + 1 ≤ Rows.uptoBulk y4.1 := by
      rcases DataW.trod_slice Try.underlying23 f4 with ⟨hc4, rfl⟩ | ⟨a, len, cap, elems, rest, m, rfl, hc4, rfl, hb, hlc, hcm, hel, hcel, _, _⟩
      · simp only [List.cons.injEq, and_true] at hc4
        subst hc4
        exact ⟨[], isL_nil _ _, by rw [V.wtL_nil]; simp [Rows.uptoBulk]⟩
      · simp only [List.cons.injEq, and_true] at hc4
        subst hc4
        rw [h5] at hcel
        have each : ∀ i, i < len → ∃ y : V, (∀ hi : i < elems.length, V.wt y ≤ Rows.uptoBulk elems[i].1) ∧ ∃ c0 c1 c2 c3 c4, W.cells? 0 (a.add (i * 5)) 5 = some [c0, c1, c2, c3, c4] ∧ Is W (fun _ => True) (.agg #[c0, c1, c2, c3, c4]) y := by
          intro i hi
          have h1 := hcel i hi
          rw [List.getElem?_eq_getElem (by omega), Option.bind_eq_some_iff] at h1
          obtain ⟨cs', hcs, hy⟩ := h1
          obtain ⟨c0, c1, c2, c3, c4, X, rfl, hX, hw⟩ := ih m (by omega) cs' _ hy
          exact ⟨X, fun _ => hw, c0, c1, c2, c3, c4, hcs, hX⟩
        obtain ⟨l, hll, hp⟩ := pick_all len each
        refine ⟨l, ?_, ?_⟩
        · by_cases h0 : len = 0
          · subst h0
            have : l = [] := List.eq_nil_of_length_eq_zero hll
            subst this
            exact ⟨some a, cap, fun _ => undef, rfl, hlc, hcm, fun h => absurd h (by simp), fun i h => by simp at h⟩
          · obtain ⟨b, off, spot⟩ := a
            have hspot : spot = none := by
              obtain ⟨_, c0, c1, c2, c3, c4, hcs, _⟩ := hp 0 (by omega)
              have g0 := (World.cells?_some hcs).2.2 0 (by omega)
              simpa [Addr.add] using World.cell?_spot g0
            subst hspot
            have hat : ∀ i (hi : i < l.length), ∃ c0 c1 c2 c3 c4, W.cell? ⟨b, off + i * 5, none⟩ = some c0 ∧ W.cell? ⟨b, off + (i * 5 + 1), none⟩ = some c1 ∧ W.cell? ⟨b, off + (i * 5 + 2), none⟩ = some c2 ∧ W.cell? ⟨b, off + (i * 5 + 3), none⟩ = some c3 ∧ W.cell? ⟨b, off + (i * 5 + 4), none⟩ = some c4 ∧ Is W (fun _ => True) (.agg #[c0, c1, c2, c3, c4]) l[i] := by
              intro i hi
              obtain ⟨_, c0, c1, c2, c3, c4, hcs, hX⟩ := hp i hi
              have g := (World.cells?_some hcs).2.2
              rw [add_none] at g
              have g0 := g 0 (by omega)
              have g1 := g 1 (by omega)
              have g2 := g 2 (by omega)
              have g3 := g 3 (by omega)
              have g4 := g 4 (by omega)
              rw [add_none] at g0 g1 g2 g3 g4
              exact ⟨c0, c1, c2, c3, c4, by simpa using g0, by simpa [Nat.add_assoc] using g1, by simpa [Nat.add_assoc] using g2, by simpa [Nat.add_assoc] using g3, by simpa [Nat.add_assoc] using g4, hX⟩
            have hc : ∀ m, m < l.length * 5 → W.cell? ⟨b, off + m, none⟩ = some ((W.cell? ⟨b, off + m, none⟩).getD undef) := by
              intro m hm
              obtain ⟨c0, c1, c2, c3, c4, q0, q1, q2, q3, q4, _⟩ := hat (m / 5) (by omega)
              have hq : m = m / 5 * 5 ∨ m = m / 5 * 5 + 1 ∨ m = m / 5 * 5 + 2 ∨ m = m / 5 * 5 + 3 ∨ m = m / 5 * 5 + 4 := by omega
              rcases hq with e | e | e | e | e
              · rw [← e] at q0; rw [q0]; rfl
              · rw [← e] at q1; rw [q1]; rfl
              · rw [← e] at q2; rw [q2]; rfl
              · rw [← e] at q3; rw [q3]; rfl
              · rw [← e] at q4; rw [q4]; rfl
            refine ⟨some ⟨b, off, none⟩, cap, fun m => (W.cell? ⟨b, off + m, none⟩).getD undef, by rw [hll], by rw [hll]; exact hlc, hcm, fun _ => ⟨b, off, rfl, trivial, hc⟩, fun i hi => ?_⟩
            obtain ⟨c0, c1, c2, c3, c4, q0, q1, q2, q3, q4, hX⟩ := hat i hi
            simp only [elemV, q0, q1, q2, q3, q4, Option.getD_some]
            exact hX
        · have := wtL_bulk l (elems.map (·.1)) (by simp; omega) (fun i h1 h2 => by
            have h3 := (hp i h1).1 (by simpa using h2)
            simpa using h3)
          simp only [Rows.uptoBulk]
          omega
    obtain ⟨l, hl4, hbl⟩ := hlist
    refine ⟨_, _, _, _, _, ⟨k, num, txt, ks, l⟩, rfl, Is.shut (x := ⟨k, num, txt, ks, l⟩) hstr hl4 htx, ?_⟩
    rw [V.wt_mk]
    have e : txt.data.toList.length = txt.size := by rw [Array.length_toList]; rfl
    simp only [List.map_cons, List.map_nil, Rows.uptoBulk, Rows.uptoBulkAll]
    omega

end Go.Proofs.Ytpfbiklbecdmiaa.inn
