/-
  PROVED: the law ValueTexts of heliast/heliastlaw02, in its second form: for every input of bulk at most 1048576 the call returns true, and the argument reads afterwards as it read before. Condition: the bulk's bound (the form's own). The first form is false by size alone.
-/
import Derived.Test.YteijnkdfacndoaaRows
import Derived.Test.YteijnkdfacndoaaVTexts
import Derived.WalkKit
import Derived.ProofKit
import Derived.OpenShut
import Derived.ShutString
import Derived.ChangeOld
import Derived.Below
import Derived.SliceStrings
import Derived.JoinedCond
namespace Go.Proofs.Yteijnkdfacndoaa.valueTexts
open Go.ChangeShapes Go.WideShapes Go.ChangeAt Go.RowKit
set_option linter.unusedVariables false

theorem own : ownKnob Try.prog.godebug = none := by kernel_rfl
theorem laidOut : laidOutB Try.prog = true := by kernel_rfl

theorem bulk_strs {H : Type} (ss : List ByteArray) : Rows.uptoBulkAll (strs (H := H) ss) = V.wtK ss := by
  induction ss with
  | nil => simp [strs, Rows.uptoBulkAll, V.wtK]
  | cons s ss ih =>
    simp only [strs, List.map_cons, Rows.uptoBulkAll, Rows.uptoBulk, V.wtK] at ih ⊢
    rw [ih]
    have e : s.data.toList.length = s.size := by rw [Array.length_toList]; rfl
    omega
theorem bound {H : Type} {ss : List ByteArray} {n : Nat} (hk : Rows.uptoSmall H [.slice (strs (ss.take n)) (strs (ss.drop n))] = true) : V.wtK (ss.take n) ≤ 1048576 := by
  have h : Rows.uptoBulkAll [DataW.slice (H := H) (strs (ss.take n)) (strs (ss.drop n))] ≤ 1048576 := of_decide_eq_true hk
  simp only [Rows.uptoBulkAll, Rows.uptoBulk, bulk_strs] at h
  omega
/-- a list of texts that came in -/
theorem strs_in {W : World} {a : Addr} {len cap : Nat} {ss : List ByteArray} (hl : len ≤ cap) (hm : cap ≤ maxLen) (hz : ss.length = cap)
    (hcell : ∀ i, i < ss.length → W.cell? (a.add i) = some (.string (ss.getD i ByteArray.empty))) (hsz : ∀ s ∈ ss, s.size ≤ maxLen) : Strs W (fun _ => True) (.slice (some a) len cap) (ss.take len) := by
  have hlen : (ss.take len).length = len := by rw [List.length_take]; omega
  refine ⟨some a, cap, by rw [hlen], by rw [hlen]; exact hl, hm, fun k hk => hsz k (List.mem_of_mem_take hk), ?_⟩
  rw [hlen]
  intro h0
  obtain ⟨b, off, spot⟩ := a
  have hspot : spot = none := by
    have g0 := hcell 0 (by omega)
    simpa [Addr.add] using World.cell?_spot g0
  subst hspot
  refine ⟨b, off, rfl, trivial, fun i hi => ?_⟩
  have := hcell i (by omega)
  have e : (ss.take len).getD i ByteArray.empty = ss.getD i ByteArray.empty := by
    simp only [List.getD]
    rw [List.getElem?_take_of_lt hi]
  show W.cell? ⟨b, off + i, none⟩ = some (.string ((ss.take len).getD i ByteArray.empty))
  rw [e, ← this]
  congr 1
  by_cases h : i = 0
  · subst h
    simp [Addr.add]
  · simp [Addr.add, h]

theorem contract (H : Type) (enc : TypeId × Value → H) (W : World) (base : Nat) (args : Array Value) (ds gs : List (DataW H)) (before : List MemPlace)
    (hval : ∀ (j : Nat) t v, Try.f8.params[j]? = some t → args[j]? = some v → Value.okWide Try.prog W .any base t v)
    (hW : DataW.Whole enc Try.prog Try.f8.params.toList Rows.valueTextsSpec.vars false W args.toList ds gs before) (hk : Rows.uptoSmall H (ds ++ gs) = true) :
    Calls Try.prog 8 args W fun e W' => ∃ v, e = .returned v ∧ Rows.valueTextsSpec.post enc Try.prog Try.f8 false true false false W args v W' := by
  have hW' := hW
  obtain ⟨p, q, hA0, hV, rfl, hfz, hnd⟩ := hW
  have hA : DataW.TrodAll enc Try.prog W 0 (fun _ => true) true Try.f8.params.toList args.toList ds p := hA0
  rw [Try.params8] at hA hval
  obtain ⟨v0, vs0, d0, ds0, p0, q0, hargs, rfl, rfl, h0, r0⟩ := trodAll_cons hA
  obtain ⟨rfl, rfl, rfl⟩ := trodAll_nil r0
  obtain rfl : args = #[v0] := by cases args; simp_all
  obtain ⟨rfl, rfl⟩ := trodVars_none hV
  obtain ⟨a0, len0, cap0, rfl⟩ := okWide_slice Try.underlying22 (hval 0 22 v0 rfl rfl)
  have k0 := h0
  have lt0 : ∀ x ∈ p0, x.block < W.heap.size := by obtain ⟨m, hm⟩ := k0; exact DataW.trod_lt m _ _ _ hm
  obtain ⟨ks, hstr, hwt⟩ : ∃ ks, Strs W (fun _ => True) (.slice a0 len0 cap0) ks ∧ V.wtK ks ≤ 1048576 := by
    obtain ⟨fuel, hf⟩ := h0
    rcases open_strings Try.underlying22 Try.underlying9 (by kernel_rfl) hf with ⟨hcs, _⟩ | ⟨x, l, c, ss, hcs, _, hl, hm, hz, hx, hcell, hsz⟩
    · simp [Value.cells] at hcs
      obtain ⟨rfl, rfl, rfl⟩ := hcs
      exact ⟨[], strs_nil _ _, by simp [V.wtK]⟩
    · simp [Value.cells] at hcs
      obtain ⟨rfl, rfl, rfl⟩ := hcs
      simp only [Prod.mk.injEq] at hx
      obtain ⟨rfl, rfl⟩ := hx
      exact ⟨ss.take len0, strs_in hl hm (by simpa using hz) hcell hsz, bound (by simpa using hk)⟩
  clear hA0
  refine (valueTexts_walk a0 len0 cap0 ks W _ hstr hwt).mono fun e W' ⟨he, bel⟩ => ?_
  subst he
  exact ⟨_, rfl, _, _, _, [], _, [], hW', trodAll_mk1 (shut_bool Try.underlying4 _), (trodAll_cons_mk (Below.trod laidOut (by kernel_rfl) (of_decide_eq_true (by kernel_rfl)) k0 bel lt0) trodAll_mk0), rfl, bel.frame _, fun h => by cases h⟩

set_option maxRecDepth 100000 in
theorem lifted (os : Os) (started : os.Started) (H : Type) (enc : TypeId × Value → H) (F : Stop.Interp) :
    ReturnsInHanded {} Try.checked os 8 .any ((Rows.OpenSpec.upto Rows.valueTextsSpec).pre6 enc Try.prog Try.f8 Rows.valueTextsUptoRow.domain false) (((Rows.OpenSpec.upto Rows.valueTextsSpec).at F).post enc Try.prog Try.f8 false true false false) := by
  refine returnsInHanded_of_cond (C := Try.checked) (s := Rows.OpenSpec.upto Rows.valueTextsSpec) (k := Rows.uptoSmall) rfl own started (by kernel_rfl) Try.func8
    (OpenSpec.witness (enc := enc) (C := Try.checked) (s := Rows.OpenSpec.upto Rows.valueTextsSpec) (k := Rows.uptoSmall) rfl false ⟨#[], #[.slice none 0 0], []⟩ 8 (by kernel_rfl) (by kernel_rfl) (by kernel_rfl)
      (x := ([.nil], [], [])) (by kernel_rfl) rfl (by kernel_rfl)) ?_
  intro W base args ds gs before hval hW _ hk _
  exact contract H enc W base args ds gs before hval hW hk

theorem over : Rows.valueTextsUptoRow.holds Try.pinned (Rows.OpenSpec.upto Rows.valueTextsSpec) :=
  OpenClaim.holds_of_cond 8 Try.f8 rfl rfl rfl rfl rfl rfl rfl ⟨rfl, rfl, rfl, rfl, rfl⟩ rfl rfl rfl rfl rfl (by kernel_rfl) Try.func8 (by kernel_rfl)
    (of_decide_eq_true (by kernel_rfl)) (by unfold Func.isWrapper; first | (rw [if_pos (by decide +kernel)]; kernel_rfl) | (rw [if_neg (by decide +kernel)]; exact ⟨rfl, rfl⟩))
    (fun os started H enc _ F => lifted os started H enc F)

theorem proved : Rows.ValueTextsUptoSaid := over
end Go.Proofs.Yteijnkdfacndoaa.valueTexts
