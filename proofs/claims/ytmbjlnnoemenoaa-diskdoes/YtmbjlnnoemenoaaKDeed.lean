/-
  Arguments opened: a list of deeds that came in (layer 9's laws).
-/
import Derived.Test.YtmbjlnnoemenoaaRows
import Derived.Test.YtmbjlnnoemenoaaKLasts0
import Derived.ProofKit
import Derived.OpenShut
import Derived.SizedLaws
set_option linter.unusedVariables false
set_option linter.unusedSimpArgs false
set_option maxRecDepth 100000
namespace Go.Proofs.Ytmbjlnnoemenoaa
open Go.ChangeShapes Go.WideShapes Go.ChangeAt Go.RowKit Dk

structure Dd where
  kind : Int
  a : Int
  n : Int
  b : ByteArray
structure DdOk (x : Dd) : Prop where
  kind : 0 ≤ x.kind ∧ x.kind < 256
  a : 0 ≤ x.a ∧ x.a < 256
  n : x.n < 9223372036854775808
/-- deeds that lie in a row -/
def Dds (W : World) (a : Option Addr) (l : List Dd) : Prop :=
  (∀ x ∈ l, DdOk x) ∧ ∀ i (h : i < l.length), ∃ b off, a = some ⟨b, off, none⟩ ∧ W.cell? ⟨b, off + i * 4, none⟩ = some (.int .u8 l[i].kind) ∧ W.cell? ⟨b, off + i * 4 + 1, none⟩ = some (.int .u8 l[i].a) ∧
    W.cell? ⟨b, off + i * 4 + 2, none⟩ = some (.int .i64 l[i].n) ∧ W.cell? ⟨b, off + i * 4 + 3, none⟩ = some (.string l[i].b)

theorem add_none {b off i : Nat} : (⟨b, off, none⟩ : Addr).add i = ⟨b, off + i, none⟩ := by
  by_cases h : i = 0
  · subst h
    simp [Addr.add]
  · simp [Addr.add, h]
theorem pick_all {α : Type} {P : Nat → α → Prop} : ∀ n, (∀ i, i < n → ∃ y, P i y) → ∃ l : List α, l.length = n ∧ ∀ i (h : i < l.length), P i l[i]
  | 0, _ => ⟨[], rfl, fun i h => by simp at h⟩
  | n + 1, h => by
    obtain ⟨l, hl, hp⟩ := pick_all n (fun i hi => h i (by omega))
    obtain ⟨y, hy⟩ := h n (by omega)
    refine ⟨l ++ [y], by simp [hl], fun i hi => ?_⟩
    by_cases hin : i < l.length
    · rw [List.getElem_append_left hin]
      exact hp i hin
    · have : i = n := by simp at hi; omega
      subst this
      rw [List.getElem_append_right (by omega)]
      simpa [hl] using hy

theorem deed_open {H : Type} {enc : TypeId × Value → H} {W : World} {fuel : Nat} {cs : List Value} {x : DataW H × List MemPlace} (h : DataW.trod enc Try.prog W 0 (fun _ => true) true fuel 44 cs = some x) : ∃ y : Dd, cs = [.int .u8 y.kind, .int .u8 y.a, .int .i64 y.n, .string y.b] ∧ DdOk y := by
  obtain ⟨xs, n, rfl, rfl, hl, hlen, hf⟩ := DataW.trod_struct Try.underlying44 h
  have h4 : Try.prog.cellsOf 44 = 4 := by kernel_rfl
  rw [h4] at hl
  obtain ⟨c0, c1, c2, c3, rfl⟩ : ∃ c0 c1 c2 c3, cs = [c0, c1, c2, c3] := by
    match cs, hl with
    | [c0, c1, c2, c3], _ => exact ⟨c0, c1, c2, c3, rfl⟩
  obtain ⟨y0, y1, y2, y3, rfl⟩ : ∃ y0 y1 y2 y3, xs = [y0, y1, y2, y3] := by
    match xs, hlen with
    | [y0, y1, y2, y3], _ => exact ⟨y0, y1, y2, y3, rfl⟩
  have k0 : Try.prog.cellsOf 5 = 1 := by kernel_rfl
  have k2 : Try.prog.cellsOf 3 = 1 := by kernel_rfl
  have k3 : Try.prog.cellsOf 9 = 1 := by kernel_rfl
  have f0 := hf 0 _ rfl
  have f1 := hf 1 _ rfl
  have f2 := hf 2 _ rfl
  have f3 := hf 3 _ rfl
  simp [k0] at f0
  simp [k0] at f1
  simp [k2] at f2
  simp [k3] at f3
  obtain ⟨kd, hc0, rfl, w0⟩ := DataW.trod_int Try.underlying5 f0
  obtain ⟨ka, hc1, rfl, w1⟩ := DataW.trod_int Try.underlying5 f1
  obtain ⟨kn, hc2, rfl, w2⟩ := DataW.trod_int Try.underlying3 f2
  obtain ⟨kb, hc3, rfl, w3⟩ := DataW.trod_string Try.underlying9 f3
  simp only [List.cons.injEq, and_true] at hc0 hc1 hc2 hc3
  subst hc0 hc1 hc2 hc3
  exact ⟨⟨kd, ka, kn, kb⟩, rfl, byte_of_wf w0, byte_of_wf w1, lt_of_wf w2⟩

theorem deeds_open {H : Type} {enc : TypeId × Value → H} {W : World} {fuel : Nat} {cs : List Value} {x : DataW H × List MemPlace} (h : DataW.trod enc Try.prog W 0 (fun _ => true) true fuel 22 cs = some x) : ∃ a cap l, cs = [.slice a (l : List Dd).length cap] ∧ l.length ≤ cap ∧ cap ≤ maxLen ∧ Dds W a l := by
  rcases DataW.trod_slice Try.underlying22 h with ⟨rfl, rfl⟩ | ⟨a, len, cap, elems, rest, m, rfl, rfl, rfl, hb, hlc, hcm, hel, hcel, _, _⟩
  · exact ⟨none, 0, [], rfl, Nat.le_refl _, by decide, (fun x hx => by cases hx), fun i hi => absurd hi (Nat.not_lt_zero _)⟩
  · have h4 : Try.prog.cellsOf 44 = 4 := by kernel_rfl
    rw [h4] at hcel
    have each : ∀ i, i < len → ∃ y : Dd, DdOk y ∧ W.cells? 0 (a.add (i * 4)) 4 = some [.int .u8 y.kind, .int .u8 y.a, .int .i64 y.n, .string y.b] := by
      intro i hi
      have h1 := hcel i hi
      rw [List.getElem?_eq_getElem (by omega), Option.bind_eq_some_iff] at h1
      obtain ⟨cs', hcs, hy⟩ := h1
      obtain ⟨y, rfl, ho⟩ := deed_open hy
      exact ⟨y, ho, hcs⟩
    obtain ⟨l, hll, hp⟩ := pick_all len each
    refine ⟨some a, cap, l, by rw [hll], by omega, hcm, fun x hx => ?_, fun i hi => ?_⟩
    · obtain ⟨i, hi, rfl⟩ := List.mem_iff_getElem.1 hx
      exact (hp i hi).1
    · obtain ⟨b, off, spot⟩ := a
      obtain ⟨_, hcs⟩ := hp i hi
      have hspot : spot = none := by
        obtain ⟨_, hcs0⟩ := hp 0 (by omega)
        have g0 := (World.cells?_some hcs0).2.2 0 (by omega)
        simpa [Addr.add] using World.cell?_spot g0
      subst hspot
      have g := (World.cells?_some hcs).2.2
      rw [add_none] at g
      have g0 := g 0 (by omega)
      have g1 := g 1 (by omega)
      have g2 := g 2 (by omega)
      have g3 := g 3 (by omega)
      rw [add_none] at g0 g1 g2 g3
      exact ⟨b, off, rfl, by simpa using g0, by simpa using g1, by simpa using g2, by simpa using g3⟩
end Go.Proofs.Ytmbjlnnoemenoaa
