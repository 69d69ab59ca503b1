/-
  Arguments opened: a list of deeds that came in, each text's length by the form's reach (layer 9's DiskDoes).
-/
import Derived.Test.YtmbjlnnoemenoaaKAll
set_option linter.unusedVariables false
set_option linter.unusedSimpArgs false
set_option maxRecDepth 100000
namespace Go.Proofs.Ytmbjlnnoemenoaa
open Go.ChangeShapes Go.WideShapes Go.ChangeAt Go.RowKit Dk

theorem weight_inD {H : Type} {P : Program} {e : TypeId} {n : Nat} {d : DataW H} (h : n ∈ d.weights P e) : ∀ l : List (DataW H), d ∈ l → n ∈ DataW.weightsAll P e l
  | [], hd => by cases hd
  | x :: r, hd => by
    simp only [DataW.weightsAll, List.mem_append]
    rcases List.mem_cons.1 hd with rfl | hd
    · exact .inl h
    · exact .inr (weight_inD h r hd)
theorem int_of_wf {a : Int} (h : (Lit.int .i64 a).wf = true) : -9223372036854775808 ≤ a ∧ a < 9223372036854775808 := by
  simp [Lit.wf, IntKind.min, IntKind.max, IntKind.signed, IntKind.bits] at h
  omega
theorem deed_openB {H : Type} {enc : TypeId × Value → H} {W : World} {fuel : Nat} {cs : List Value} {x : DataW H × List MemPlace} (h : DataW.trod enc Try.prog W 0 (fun _ => true) true fuel 44 cs = some x) : ∃ y : Dd, cs = [.int .u8 y.kind, .int .u8 y.a, .int .i64 y.n, .string y.b] ∧ DdOk y ∧ y.b.size ∈ x.1.weights Try.prog 44 := by
  obtain ⟨xs, n, rfl, rfl, hl, hlen, hf⟩ := DataW.trod_struct Try.underlying44 h
  have h4 : Try.prog.cellsOf 44 = 4 := by kernel_rfl
  rw [h4] at hl
  obtain ⟨c0, c1, c2, c3, rfl⟩ : ∃ c0 c1 c2 c3, cs = [c0, c1, c2, c3] := by
    match cs, hl with
    | [c0, c1, c2, c3], _ => exact ⟨c0, c1, c2, c3, rfl⟩
  obtain ⟨y0, y1, y2, y3, rfl⟩ : ∃ y0 y1 y2 y3, xs = [y0, y1, y2, y3] := by
    match xs, hlen with
    | [y0, y1, y2, y3], _ => exact ⟨y0, y1, y2, y3, rfl⟩
  have k0 : Try.prog.cellsOf 5 = 1 := by kernel_rfl
  have k2 : Try.prog.cellsOf 3 = 1 := by kernel_rfl
  have k3 : Try.prog.cellsOf 9 = 1 := by kernel_rfl
  have f0 := hf 0 _ rfl
  have f1 := hf 1 _ rfl
  have f2 := hf 2 _ rfl
  have f3 := hf 3 _ rfl
  simp [k0] at f0
  simp [k0] at f1
  simp [k2] at f2
  simp [k3] at f3
  obtain ⟨kd, hc0, rfl, w0⟩ := DataW.trod_int Try.underlying5 f0
  obtain ⟨ka, hc1, rfl, w1⟩ := DataW.trod_int Try.underlying5 f1
  obtain ⟨kn, hc2, rfl, w2⟩ := DataW.trod_int Try.underlying3 f2
  obtain ⟨kb, hc3, rfl, w3⟩ := DataW.trod_string Try.underlying9 f3
  simp only [List.cons.injEq, and_true] at hc0 hc1 hc2 hc3
  subst hc0 hc1 hc2 hc3
  refine ⟨⟨kd, ka, kn, kb⟩, rfl, ⟨byte_of_wf w0, byte_of_wf w1, lt_of_wf w2⟩, ?_⟩
  simp [DataW.weights, Try.underlying44, DataW.weightsEach]

theorem deeds_openB {H : Type} {enc : TypeId × Value → H} {W : World} {fuel : Nat} {cs : List Value} {x : DataW H × List MemPlace} (h : DataW.trod enc Try.prog W 0 (fun _ => true) true fuel 22 cs = some x) : ∃ a cap l, cs = [.slice a (l : List Dd).length cap] ∧ l.length ≤ cap ∧ cap ≤ maxLen ∧ Dds W a l ∧ ∀ y ∈ l, y.b.size ∈ x.1.weights Try.prog 22 := by
  rcases DataW.trod_slice Try.underlying22 h with ⟨rfl, rfl⟩ | ⟨a, len, cap, elems, rest, m, rfl, rfl, rfl, hb, hlc, hcm, hel, hcel, _, _⟩
  · exact ⟨none, 0, [], rfl, Nat.le_refl _, by decide, ⟨(fun x hx => by cases hx), fun i hi => absurd hi (Nat.not_lt_zero _)⟩, (fun y hy => by cases hy)⟩
  · have h4 : Try.prog.cellsOf 44 = 4 := by kernel_rfl
    rw [h4] at hcel
    have each : ∀ i, i < len → ∃ y : Dd, (DdOk y ∧ ∃ h : i < elems.length, y.b.size ∈ elems[i].1.weights Try.prog 44) ∧ W.cells? 0 (a.add (i * 4)) 4 = some [.int .u8 y.kind, .int .u8 y.a, .int .i64 y.n, .string y.b] := by
      intro i hi
      have h1 := hcel i hi
      rw [List.getElem?_eq_getElem (by omega), Option.bind_eq_some_iff] at h1
      obtain ⟨cs', hcs, hy⟩ := h1
      obtain ⟨y, rfl, ho, hw⟩ := deed_openB hy
      exact ⟨y, ⟨ho, by omega, hw⟩, hcs⟩
    obtain ⟨l, hll, hp⟩ := pick_all len each
    refine ⟨some a, cap, l, by rw [hll], by omega, hcm, ⟨fun x hx => ?_, fun i hi => ?_⟩, fun y hy => ?_⟩
    · obtain ⟨i, hi, rfl⟩ := List.mem_iff_getElem.1 hx
      exact (hp i hi).1.1
    · obtain ⟨b, off, spot⟩ := a
      obtain ⟨_, hcs⟩ := hp i hi
      have hspot : spot = none := by
        obtain ⟨_, hcs0⟩ := hp 0 (by omega)
        have g0 := (World.cells?_some hcs0).2.2 0 (by omega)
        simpa [Addr.add] using World.cell?_spot g0
      subst hspot
      have g := (World.cells?_some hcs).2.2
      rw [add_none] at g
      have g0 := g 0 (by omega)
      have g1 := g 1 (by omega)
      have g2 := g 2 (by omega)
      have g3 := g 3 (by omega)
      rw [add_none] at g0 g1 g2 g3
      exact ⟨b, off, rfl, by simpa using g0, by simpa using g1, by simpa using g2, by simpa using g3⟩
    · obtain ⟨i, hi, rfl⟩ := List.mem_iff_getElem.1 hy
      obtain ⟨_, h9, hw⟩ := (hp i hi).1
      simp only [DataW.weights, Try.underlying22, List.mem_cons, List.mem_append]
      exact .inr (.inl (weight_inD hw _ (List.mem_map.2 ⟨_, List.getElem_mem h9, rfl⟩)))
end Go.Proofs.Ytmbjlnnoemenoaa
