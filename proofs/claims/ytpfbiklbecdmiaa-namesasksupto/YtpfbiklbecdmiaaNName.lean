/-
  THE WALKS of package names: what may stand in a name.
-/
import Derived.Test.YtpfbiklbecdmiaaNGlob
import Derived.Test.YtpfbiklbecdmiaaShelf
import Derived.Laws.Runes
import Derived.Laws.RangeAny
import Derived.Laws.RangeString
import Derived.WalkSmall
import Derived.Lib.DecodeN
set_option linter.unusedVariables false
set_option linter.unusedSimpArgs false
namespace Go.Proofs.Ytpfbiklbecdmiaa
open Go.RowKit Go.Shelf

theorem nm_index_none : ∀ (l : List UInt8) (c : UInt8), c ∉ l → Lib.indexByte l c = -1
  | [], _, _ => rfl
  | b :: l, c, h => by
    have h1 : ¬ b = c := fun e => h (by simp [e])
    have h2 := nm_index_none l c (fun hm => h (by simp [hm]))
    unfold Lib.indexByte
    simp [h1, h2]

/-- a text of bytes below 128 -/
def Asc (M : ByteArray) : Prop := ∀ i (h : i < M.size), (M[i]'h).toNat < 128

theorem asc_mem {M : ByteArray} (h : Asc M) : ∀ c ∈ M.data.toList, c.toNat < 128 := by
  intro c hc
  obtain ⟨i, hi, e⟩ := List.mem_iff_getElem.1 hc
  rw [← e]
  exact h i (by simpa using hi)

theorem nm_slice (s : ByteArray) (q : Nat) (h : q + 1 ≤ s.size) (w : World) : (Instr.sliceAt 9 (.string s) (some (.int .i64 ((q : Int) + 1))) none none).run Try.prog w = .ok (.string (s.extract (q + 1) s.size)) w := by
  have hu : (Try.prog.underlying 9) = some .string := Try.underlying9
  have h1 : (q : Int) + 1 ≤ s.size := by omega
  have h3 : (0 : Int) ≤ (q : Int) + 1 := by omega
  have h4 : ((q : Int) + 1).toNat = q + 1 := by omega
  simp [Instr.sliceAt, Instr.slice, run_underlying hu, Instr.sliceBounds, run_sliceBound, h1, h3, h4]

set_option maxRecDepth 100000 in
set_option maxHeartbeats 2000000 in
theorem nrune_high (M : ByteArray) (hM : Asc M) (h64 : M.size ≤ 64) (r : Int) (h0 : 128 ≤ r) (h1 : r ≤ 2147483647) (w : World) :
    Calls Try.prog 63 #[.string M, .int .i32 r] w fun e w' => e = .returned (.int .i64 (-1)) ∧ Below w.heap.size w w' := by
  by_cases hE : r = 65533
  · subst hE
    go_enter Try.func63, Try.ntmps63
    go_wp2_with fail
    go_loopw [] (fun wr => ∃ (pos : Nat), wr = w.iter M pos) (fun wr => M.size - wr.iterPos w.heap.size)
    case atStart => exact ⟨0, rfl⟩
    case round =>
      obtain ⟨pos, rfl⟩ := hrel
      by_cases hp : pos < M.size
      · have ha := hM pos hp
        have hnx : ∀ ty, (Instr.next (.pointer (some ⟨w.heap.size, 0, none⟩)) true ty).run Try.prog (w.iter M pos) = _ := fun ty => run_next_ascii w M pos ty hp ha
        obtain ⟨c, hc⟩ : ∃ c, c = (M[pos]'hp).toNat := ⟨_, rfl⟩
        rw [← hc] at hnx ha
        go_wp2_with fail
        go_roundw
        case rel => exact ⟨pos + 1, rfl⟩
        case measure =>
          have e1 : ∀ q, (w.iter M q).iterPos w.heap.size = q := fun q => by simp [World.iterPos, World.iter_heap]
          rw [e1, e1]
          omega
      · have hnx : ∀ ty, (Instr.next (.pointer (some ⟨w.heap.size, 0, none⟩)) true ty).run Try.prog (w.iter M pos) = _ := fun ty => run_next_end w M pos ty hp
        go_wp2_with fail
        go_ret
        exact ⟨rfl, (Below.refl _ _).alloc (Nat.le_refl _) _⟩
  · go_enter Try.func63, Try.ntmps63
    go_wp2_with fail
    refine (Try.utf8_ValidRune r _).mono ?_
    rintro e w ⟨rfl, rfl⟩
    cases hv : Lib.validRune r with
    | false =>
      go_wp2_with fail
      go_ret
      exact ⟨rfl, Below.refl _ _⟩
    | true =>
      have hv2 : Utf8.valid r = true := by
        simp [Lib.validRune] at hv
        simp [Utf8.valid]
        omega
      obtain ⟨hz2, hz4, hzb⟩ := encode_facts r hv2 h0
      go_wp2_with fail
      go_step3
      go_wp2_with fail
      generalize Utf8.encode r = rs at hz2 hz4 hzb ⊢
      obtain ⟨q, hq⟩ : ∃ q, rs.size = q + 1 := ⟨rs.size - 1, by omega⟩
      have hqi : (rs.size : Int) - 1 = q := by omega
      have hq3 : q ≤ 3 := by omega
      have hq0 : q < rs.size := by omega
      simp only [hqi]
      have hzq : 128 ≤ (rs[q]'hq0).toNat := by
        have := hzb (by omega)
        simp only [show rs.size - 1 = q by omega] at this
        exact this
      obtain ⟨c, hc⟩ : ∃ c, c = (rs[q]'hq0).toNat := ⟨_, rfl⟩
      rw [← hc] at hzq
      have HQ := nhide hq
      have HM := nhide hM
      clear hzb hqi hv hv2 hq hz2 hz4 hM
      go_loopw [9] (fun i wr => i = .int .i64 q ∧ wr = w) (fun _ _ => 0)
      case atStart => exact ⟨rfl, rfl⟩
      case round =>
        obtain ⟨rfl, rfl⟩ := hrel
        by_cases hsq : q < M.size
        · have hsa := HM.out q hsq
          go_wp2_with fail
          go_step3
          go_wp2_with fail
          have hne : ((((M[q]'hsq).toNat : Nat) : Int) == (((rs[q]'hq0).toNat : Nat) : Int)) = false := by
            rw [beq_eq_false_iff_ne]
            rw [← hc]
            omega
          go_quiet (fail)
          go_wp2_with fail
          have hix : Lib.indexByte (M.extract (q + 1) M.size).data.toList (((rs[q]'hq0).toNat : Int).toNat.toUInt8) = -1 := by
            apply nm_index_none
            intro hm
            have h5 : ∀ x ∈ (M.extract (q + 1) M.size).data.toList, x.toNat < 128 := by
              intro x hx
              rw [Lib.extract_data] at hx
              exact asc_mem HM.out x (List.mem_of_mem_drop (List.mem_of_mem_take hx))
            have h6 := h5 _ hm
            simp at h6
            omega
          have hwq : IntKind.i64.wrap ((q : Int) + 1) = (q : Int) + 1 := by rw [IntKind.wrap_i64]; omega
          have hsl : ∀ w, (Instr.sliceAt 9 (.string M) (some (.int .i64 ((q : Int) + 1))) none none).run Try.prog w = .ok (.string (M.extract (q + 1) M.size)) w := fun w => nm_slice M q (by omega) w
          have HW2 : Hid (Below wr.heap.size wr (wr.drewN nq)) := below_drewN (Below.refl _ _) nq
          generalize wr.drewN nq = w2 at HW2 ⊢
          go_quiet ((go_at_call 69; exact Calls.quiet_of_same (Try.strings_IndexByte _ _ _)))
          simp only [hix]
          clear hix hsl hwq hne
          go_wp2_with fail
          rw [Exit.noGoto_ret]
          go_wp2_with fail
          rw [Exit.noGoto_ret]
          go_wp2_with fail
          go_ret
          exact ⟨rfl, below_drewN HW2.out nq⟩
        · go_wp2_with fail
          try rw [Exit.noGoto_ret]
          try go_wp2_with fail
          go_ret
          exact ⟨rfl, Below.refl _ _⟩

theorem ncontains_high (M : ByteArray) (hM : Asc M) (h64 : M.size ≤ 64) (r : Int) (h0 : 128 ≤ r) (h1 : r ≤ 2147483647) (w : World) :
    Calls Try.prog 53 #[.string M, .int .i32 r] w fun e w' => e = .returned (.bool false) ∧ Below w.heap.size w w' := by
  go_enter Try.func53, Try.ntmps53
  go_wp2_with fail
  refine (nrune_high M hM h64 r h0 h1 w).mono ?_
  rintro e w1 ⟨rfl, b1⟩
  go_wp2_with fail
  go_ret
  exact ⟨rfl, b1⟩

/-- the closure that says what may stand in a name with these marks -/
abbrev mayV (g : Nat) : Value := .func (.func 52) #[] #[.pointer (some ⟨g, 0, none⟩)]

theorem with_any (M : ByteArray) (w : World) :
    Calls Try.prog 39 #[.string M] w fun e w' => e = .returned (mayV w.heap.size) ∧ w'.cell? ⟨w.heap.size, 0, none⟩ = some (.string M) ∧ Below w.heap.size w w' := by
  go_enter Try.func39, Try.ntmps39
  go_wp2_with fail
  go_ret
  exact ⟨rfl, by simp [go_sem], (Below.refl _ _).alloc (Nat.le_refl _) _⟩

def mayI (M : ByteArray) (r : Int) : Bool := (decide (97 ≤ r) && decide (r ≤ 122)) || (decide (48 ≤ r) && decide (r ≤ 57)) || decide (0 ≤ Lib.indexByte M.data.toList r.toNat.toUInt8)

theorem with1_low (M : ByteArray) (g : Nat) (r : Int) (w : World) (h0 : 0 ≤ r) (h1 : r < 128) (hc : w.cell? ⟨g, 0, none⟩ = some (.string M)) :
    Calls Try.prog 52 #[.int .i32 r, .pointer (some ⟨g, 0, none⟩)] w fun e w' => e = .returned (.bool (mayI M r)) ∧ w' = w := by
  by_cases ha : 97 ≤ r
  · by_cases hz : r ≤ 122
    · have e : mayI M r = true := by simp [mayI, ha, hz]
      rw [e]
      go_enter Try.func52, Try.ntmps52
      go_wp2_with fail
      go_ret
      exact ⟨rfl, rfl⟩
    · have h9 : ¬ r ≤ 57 := by omega
      have h8 : 48 ≤ r := by omega
      have e : mayI M r = decide (0 ≤ Lib.indexByte M.data.toList r.toNat.toUInt8) := by simp [mayI, hz, h9]
      rw [e]
      go_enter Try.func52, Try.ntmps52
      go_wp2_with fail
      refine (Try.strings_ContainsRune_ascii M r w h0 h1).mono ?_
      rintro e w ⟨rfl, rfl⟩
      go_wp2_with fail
      go_ret
      exact ⟨rfl, rfl⟩
  · by_cases h8 : 48 ≤ r
    · by_cases h9 : r ≤ 57
      · have e : mayI M r = true := by simp [mayI, h8, h9]
        rw [e]
        go_enter Try.func52, Try.ntmps52
        go_wp2_with fail
        go_ret
        exact ⟨rfl, rfl⟩
      · have e : mayI M r = decide (0 ≤ Lib.indexByte M.data.toList r.toNat.toUInt8) := by simp [mayI, ha, h9]
        rw [e]
        go_enter Try.func52, Try.ntmps52
        go_wp2_with fail
        refine (Try.strings_ContainsRune_ascii M r w h0 h1).mono ?_
        rintro e w ⟨rfl, rfl⟩
        go_wp2_with fail
        go_ret
        exact ⟨rfl, rfl⟩
    · have e : mayI M r = decide (0 ≤ Lib.indexByte M.data.toList r.toNat.toUInt8) := by simp [mayI, ha, h8]
      rw [e]
      go_enter Try.func52, Try.ntmps52
      go_wp2_with fail
      refine (Try.strings_ContainsRune_ascii M r w h0 h1).mono ?_
      rintro e w ⟨rfl, rfl⟩
      go_wp2_with fail
      go_ret
      exact ⟨rfl, rfl⟩

theorem with1_high (M : ByteArray) (hM : Asc M) (h64 : M.size ≤ 64) (g : Nat) (r : Int) (w : World) (h0 : 128 ≤ r) (h1 : r ≤ 2147483647) (hc : w.cell? ⟨g, 0, none⟩ = some (.string M)) :
    Calls Try.prog 52 #[.int .i32 r, .pointer (some ⟨g, 0, none⟩)] w fun e w' => e = .returned (.bool false) ∧ Below w.heap.size w w' := by
  have ha : 97 ≤ r := by omega
  have hz : ¬ r ≤ 122 := by omega
  have h8 : 48 ≤ r := by omega
  have h9 : ¬ r ≤ 57 := by omega
  go_enter Try.func52, Try.ntmps52
  go_wp2_with fail
  refine (ncontains_high M hM h64 r h0 h1 w).mono ?_
  rintro e w1 ⟨rfl, b1⟩
  go_wp2_with fail
  go_ret
  exact ⟨rfl, b1⟩
end Go.Proofs.Ytpfbiklbecdmiaa
