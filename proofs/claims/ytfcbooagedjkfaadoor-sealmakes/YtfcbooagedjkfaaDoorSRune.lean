/-
  THE WALK of strings.IndexRune, among the signs, at what is no byte.
-/
import Derived.Test.YtfcbooagedjkfaaDoorSText
import Derived.Laws.Runes
import Derived.WalkMore
import Derived.BigQuiet
set_option linter.unusedVariables false
set_option linter.unusedSimpArgs false
namespace Go.Proofs.YtfcbooagedjkfaaDoor
open Go.RowKit Go.Shelf

def signsB : ByteArray := { data := #[65, 66, 67, 68, 69, 70, 71, 72, 73, 74, 75, 76, 77, 78, 79, 80, 81, 82, 83, 84, 85, 86, 87, 88, 89, 90, 97, 98, 99, 100, 101, 102, 103, 104, 105, 106, 107, 108, 109, 110, 111, 112, 113, 114, 115, 116, 117, 118, 119, 120, 121, 122, 48, 49, 50, 51, 52, 53, 54, 55, 56, 57, 45, 95] }
theorem signsB_list : signsB.data.toList = Sl.signs := rfl

theorem index_none : ∀ (l : List UInt8) (c : UInt8), c ∉ l → Lib.indexByte l c = -1
  | [], _, _ => rfl
  | b :: l, c, h => by
    have h1 : ¬ b = c := fun e => h (by simp [e])
    have h2 := index_none l c (fun hm => h (by simp [hm]))
    unfold Lib.indexByte
    simp [h1, h2]
theorem signs_ascii' : ∀ c ∈ Sl.signs, c.toNat < 128 := by decide +kernel
theorem signs_ascii (i : Nat) (h : i < signsB.size) : (signsB[i]'h).toNat < 128 := signs_ascii' _ (List.getElem_mem (l := Sl.signs) (by exact h))

theorem slice_str (s : ByteArray) (q : Nat) (h : q + 1 ≤ s.size) (w : World) : (Instr.sliceAt 9 (.string s) (some (.int .i64 ((q : Int) + 1))) none none).run Tryd.prog w = .ok (.string (s.extract (q + 1) s.size)) w := by
  have hu : (Tryd.prog.underlying 9) = some .string := Tryd.underlying9
  have h1 : (q : Int) + 1 ≤ s.size := by omega
  have h3 : (0 : Int) ≤ (q : Int) + 1 := by omega
  have h4 : ((q : Int) + 1).toNat = q + 1 := by omega
  simp [Instr.sliceAt, Instr.slice, run_underlying hu, Instr.sliceBounds, run_sliceBound, h1, h3, h4]
theorem slice_signs (q : Nat) (h : q ≤ 3) (w : World) : (Instr.sliceAt 9 (.string signsB) (some (.int .i64 ((q : Int) + 1))) none none).run Tryd.prog w = .ok (.string (signsB.extract (q + 1) 64)) w :=
  slice_str signsB q (by show q + 1 ≤ 64; omega) w

set_option maxRecDepth 100000 in
set_option maxHeartbeats 2000000 in
theorem rune_high (r : Int) (h0 : 128 ≤ r) (h1 : r ≤ 2147483647) (w : World) :
    Calls Tryd.prog 48 #[.string signsB, .int .i32 r] w fun e w' => e = .returned (.int .i64 (-1)) ∧ Below w.heap.size w w' := by
  by_cases hE : r = 65533
  · subst hE
    go_enter Tryd.func48, Tryd.ntmps48
    go_wp2_with fail
    go_loopw [] (fun wr => ∃ (pos : Nat), wr = w.iter signsB pos) (fun wr => signsB.size - wr.iterPos w.heap.size)
    case atStart => exact ⟨0, rfl⟩
    case round =>
      obtain ⟨pos, rfl⟩ := hrel
      by_cases hp : pos < signsB.size
      · have ha := signs_ascii pos hp
        have hnx : ∀ ty, (Instr.next (.pointer (some ⟨w.heap.size, 0, none⟩)) true ty).run Tryd.prog (w.iter signsB pos) = _ := fun ty => run_next_ascii w signsB pos ty hp ha
        obtain ⟨c, hc⟩ : ∃ c, c = (signsB[pos]'hp).toNat := ⟨_, rfl⟩
        rw [← hc] at hnx ha
        go_wp2_with fail
        go_roundw
        case rel => exact ⟨pos + 1, rfl⟩
        case measure =>
          have e1 : ∀ q, (w.iter signsB q).iterPos w.heap.size = q := fun q => by simp [World.iterPos, World.iter_heap]
          rw [e1, e1]
          omega
      · have hnx : ∀ ty, (Instr.next (.pointer (some ⟨w.heap.size, 0, none⟩)) true ty).run Tryd.prog (w.iter signsB pos) = _ := fun ty => run_next_end w signsB pos ty hp
        go_wp2_with fail
        go_ret
        exact ⟨rfl, (Below.refl _ _).alloc (Nat.le_refl _) _⟩
  · go_enter Tryd.func48, Tryd.ntmps48
    go_wp2_with fail
    refine (Tryd.utf8_ValidRune r _).mono ?_
    rintro e w ⟨rfl, rfl⟩
    cases hv : Lib.validRune r with
    | false =>
      go_wp2_with fail
      go_ret
      exact ⟨rfl, Below.refl _ _⟩
    | true =>
      have hv2 : Utf8.valid r = true := by
        simp [Lib.validRune] at hv
        simp [Utf8.valid]
        omega
      obtain ⟨hz2, hz4, hzb⟩ := encode_facts r hv2 h0
      go_wp2_with fail
      go_step3
      go_wp2_with fail
      generalize Utf8.encode r = rs at hz2 hz4 hzb ⊢
      obtain ⟨q, hq⟩ : ∃ q, rs.size = q + 1 := ⟨rs.size - 1, by omega⟩
      have hqi : (rs.size : Int) - 1 = q := by omega
      have hq3 : q ≤ 3 := by omega
      have hq0 : q < rs.size := by omega
      simp only [hqi]
      have hzq : 128 ≤ (rs[q]'hq0).toNat := by
        have := hzb (by omega)
        simp only [show rs.size - 1 = q by omega] at this
        exact this
      obtain ⟨c, hc⟩ : ∃ c, c = (rs[q]'hq0).toNat := ⟨_, rfl⟩
      rw [← hc] at hzq
      have hss : signsB.size = 64 := rfl
      have hsq : q < signsB.size := by omega
      have hsa := signs_ascii q hsq
      have HQ := hide hq
      clear hzb hqi hv hv2 hq hz2 hz4
      go_loopw [9] (fun i wr => i = .int .i64 q ∧ wr = w) (fun _ _ => 0)
      case atStart => exact ⟨rfl, rfl⟩
      case round =>
        obtain ⟨rfl, rfl⟩ := hrel
        go_wp2_with fail
        go_step3
        go_wp2_with fail
        have hne : ((((signsB[q]'hsq).toNat : Nat) : Int) == (((rs[q]'hq0).toNat : Nat) : Int)) = false := by
          rw [beq_eq_false_iff_ne]
          rw [← hc]
          omega
        go_quiet (fail)
        go_wp2_with fail
        have hix : Lib.indexByte (signsB.extract (q + 1) 64).data.toList (((rs[q]'hq0).toNat : Int).toNat.toUInt8) = -1 := by
          apply index_none
          intro hm
          have h5 : ∀ x ∈ (signsB.extract (q + 1) 64).data.toList, x.toNat < 128 := by
            intro x hx
            rw [Lib.extract_data] at hx
            rw [signsB_list] at hx
            exact signs_ascii' x (List.mem_of_mem_drop (List.mem_of_mem_take hx))
          have h6 := h5 _ hm
          simp at h6
          omega
        have hwq : IntKind.i64.wrap ((q : Int) + 1) = (q : Int) + 1 := by rw [IntKind.wrap_i64]; omega
        have hsl : ∀ w, (Instr.sliceAt 9 (.string signsB) (some (.int .i64 ((q : Int) + 1))) none none).run Tryd.prog w = .ok (.string (signsB.extract (q + 1) 64)) w := fun w => slice_signs q (by omega) w
        have HW2 : Hid (Below wr.heap.size wr (wr.drewN nq)) := below_drewN (Below.refl _ _) nq
        generalize wr.drewN nq = w2 at HW2 ⊢
        go_quiet ((go_at_call 60; exact Calls.quiet_of_same (Tryd.strings_IndexByte _ _ _)))
        simp only [hix]
        clear hix hsl hwq hne
        go_wp2_with fail
        rw [Exit.noGoto_ret]
        go_wp2_with fail
        rw [Exit.noGoto_ret]
        go_wp2_with fail
        go_ret
        exact ⟨rfl, below_drewN HW2.out nq⟩
end Go.Proofs.YtfcbooagedjkfaaDoor
