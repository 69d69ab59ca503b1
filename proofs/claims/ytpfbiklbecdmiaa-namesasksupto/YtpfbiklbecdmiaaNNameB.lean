/-
  THE WALKS of package names: what may stand in a name.
  THE WALKS of package names: names.
-/
import Derived.Test.YtpfbiklbecdmiaaNGlob
import Derived.Test.YtpfbiklbecdmiaaShelf
import Derived.Laws.Runes
import Derived.Laws.RangeAny
import Derived.Laws.RangeString
import Derived.WalkSmall
import Derived.Lib.DecodeN
import Derived.Test.YtpfbiklbecdmiaaL1
set_option linter.unusedVariables false
set_option linter.unusedSimpArgs false
namespace Go.Proofs.Ytpfbiklbecdmiaa
open Go.RowKit Go.Shelf

theorem nm_index_none : ∀ (l : List UInt8) (c : UInt8), c ∉ l → Lib.indexByte l c = -1
  | [], _, _ => rfl
  | b :: l, c, h => by
    have h1 : ¬ b = c := fun e => h (by simp [e])
    have h2 := nm_index_none l c (fun hm => h (by simp [hm]))
    unfold Lib.indexByte
    simp [h1, h2]

/-- a text of bytes below 128 -/
def Asc (M : ByteArray) : Prop := ∀ i (h : i < M.size), (M[i]'h).toNat < 128

theorem asc_mem {M : ByteArray} (h : Asc M) : ∀ c ∈ M.data.toList, c.toNat < 128 := by
  intro c hc
  obtain ⟨i, hi, e⟩ := List.mem_iff_getElem.1 hc
  rw [← e]
  exact h i (by simpa using hi)

theorem nm_slice (s : ByteArray) (q : Nat) (h : q + 1 ≤ s.size) (w : World) : (Instr.sliceAt 9 (.string s) (some (.int .i64 ((q : Int) + 1))) none none).run Try.prog w = .ok (.string (s.extract (q + 1) s.size)) w := by
  have hu : (Try.prog.underlying 9) = some .string := Try.underlying9
  have h1 : (q : Int) + 1 ≤ s.size := by omega
  have h3 : (0 : Int) ≤ (q : Int) + 1 := by omega
  have h4 : ((q : Int) + 1).toNat = q + 1 := by omega
  simp [Instr.sliceAt, Instr.slice, run_underlying hu, Instr.sliceBounds, run_sliceBound, h1, h3, h4]

set_option maxRecDepth 100000 in
set_option maxHeartbeats 2000000 in
theorem nrune_high (M : ByteArray) (hM : Asc M) (h64 : M.size ≤ 64) (r : Int) (h0 : 128 ≤ r) (h1 : r ≤ 2147483647) (w : World) :
    Calls Try.prog 63 #[.string M, .int .i32 r] w fun e w' => e = .returned (.int .i64 (-1)) ∧ Below w.heap.size w w' := by
  by_cases hE : r = 65533
  · subst hE
    go_enter Try.func63, Try.ntmps63
    go_wp2_with fail
    go_loopw [] (fun wr => ∃ (pos : Nat), wr = w.iter M pos) (fun wr => M.size - wr.iterPos w.heap.size)
    case atStart => exact ⟨0, rfl⟩
    case round =>
      obtain ⟨pos, rfl⟩ := hrel
      by_cases hp : pos < M.size
      · have ha := hM pos hp
        have hnx : ∀ ty, (Instr.next (.pointer (some ⟨w.heap.size, 0, none⟩)) true ty).run Try.prog (w.iter M pos) = _ := fun ty => run_next_ascii w M pos ty hp ha
        obtain ⟨c, hc⟩ : ∃ c, c = (M[pos]'hp).toNat := ⟨_, rfl⟩
        rw [← hc] at hnx ha
        go_wp2_with fail
        go_roundw
        case rel => exact ⟨pos + 1, rfl⟩
        case measure =>
          have e1 : ∀ q, (w.iter M q).iterPos w.heap.size = q := fun q => by simp [World.iterPos, World.iter_heap]
          rw [e1, e1]
          omega
      · have hnx : ∀ ty, (Instr.next (.pointer (some ⟨w.heap.size, 0, none⟩)) true ty).run Try.prog (w.iter M pos) = _ := fun ty => run_next_end w M pos ty hp
        go_wp2_with fail
        go_ret
        exact ⟨rfl, (Below.refl _ _).alloc (Nat.le_refl _) _⟩
  · go_enter Try.func63, Try.ntmps63
    go_wp2_with fail
    refine (Try.utf8_ValidRune r _).mono ?_
    rintro e w ⟨rfl, rfl⟩
    cases hv : Lib.validRune r with
    | false =>
      go_wp2_with fail
      go_ret
      exact ⟨rfl, Below.refl _ _⟩
    | true =>
      have hv2 : Utf8.valid r = true := by
        simp [Lib.validRune] at hv
        simp [Utf8.valid]
        omega
      obtain ⟨hz2, hz4, hzb⟩ := encode_facts r hv2 h0
      go_wp2_with fail
      go_step3
      go_wp2_with fail
      generalize Utf8.encode r = rs at hz2 hz4 hzb ⊢
      obtain ⟨q, hq⟩ : ∃ q, rs.size = q + 1 := ⟨rs.size - 1, by omega⟩
      have hqi : (rs.size : Int) - 1 = q := by omega
      have hq3 : q ≤ 3 := by omega
      have hq0 : q < rs.size := by omega
      simp only [hqi]
      have hzq : 128 ≤ (rs[q]'hq0).toNat := by
        have := hzb (by omega)
        simp only [show rs.size - 1 = q by omega] at this
        exact this
      obtain ⟨c, hc⟩ : ∃ c, c = (rs[q]'hq0).toNat := ⟨_, rfl⟩
      rw [← hc] at hzq
      have HQ := nhide hq
      have HM := nhide hM
      clear hzb hqi hv hv2 hq hz2 hz4 hM
      go_loopw [9] (fun i wr => i = .int .i64 q ∧ wr = w) (fun _ _ => 0)
      case atStart => exact ⟨rfl, rfl⟩
      case round =>
        obtain ⟨rfl, rfl⟩ := hrel
        by_cases hsq : q < M.size
        · have hsa := HM.out q hsq
          go_wp2_with fail
          go_step3
          go_wp2_with fail
          have hne : ((((M[q]'hsq).toNat : Nat) : Int) == (((rs[q]'hq0).toNat : Nat) : Int)) = false := by
            rw [beq_eq_false_iff_ne]
            rw [← hc]
            omega
          go_quiet (fail)
          go_wp2_with fail
          have hix : Lib.indexByte (M.extract (q + 1) M.size).data.toList (((rs[q]'hq0).toNat : Int).toNat.toUInt8) = -1 := by
            apply nm_index_none
            intro hm
            have h5 : ∀ x ∈ (M.extract (q + 1) M.size).data.toList, x.toNat < 128 := by
              intro x hx
              rw [Lib.extract_data] at hx
              exact asc_mem HM.out x (List.mem_of_mem_drop (List.mem_of_mem_take hx))
            have h6 := h5 _ hm
            simp at h6
            omega
          have hwq : IntKind.i64.wrap ((q : Int) + 1) = (q : Int) + 1 := by rw [IntKind.wrap_i64]; omega
          have hsl : ∀ w, (Instr.sliceAt 9 (.string M) (some (.int .i64 ((q : Int) + 1))) none none).run Try.prog w = .ok (.string (M.extract (q + 1) M.size)) w := fun w => nm_slice M q (by omega) w
          have HW2 : Hid (Below wr.heap.size wr (wr.drewN nq)) := below_drewN (Below.refl _ _) nq
          generalize wr.drewN nq = w2 at HW2 ⊢
          go_quiet ((go_at_call 69; exact Calls.quiet_of_same (Try.strings_IndexByte _ _ _)))
          simp only [hix]
          clear hix hsl hwq hne
          go_wp2_with fail
          rw [Exit.noGoto_ret]
          go_wp2_with fail
          rw [Exit.noGoto_ret]
          go_wp2_with fail
          go_ret
          exact ⟨rfl, below_drewN HW2.out nq⟩
        · go_wp2_with fail
          try rw [Exit.noGoto_ret]
          try go_wp2_with fail
          go_ret
          exact ⟨rfl, Below.refl _ _⟩

theorem ncontains_high (M : ByteArray) (hM : Asc M) (h64 : M.size ≤ 64) (r : Int) (h0 : 128 ≤ r) (h1 : r ≤ 2147483647) (w : World) :
    Calls Try.prog 53 #[.string M, .int .i32 r] w fun e w' => e = .returned (.bool false) ∧ Below w.heap.size w w' := by
  go_enter Try.func53, Try.ntmps53
  go_wp2_with fail
  refine (nrune_high M hM h64 r h0 h1 w).mono ?_
  rintro e w1 ⟨rfl, b1⟩
  go_wp2_with fail
  go_ret
  exact ⟨rfl, b1⟩

/-- the closure that says what may stand in a name with these marks -/
abbrev mayV (g : Nat) : Value := .func (.func 52) #[] #[.pointer (some ⟨g, 0, none⟩)]

theorem with_any (M : ByteArray) (w : World) :
    Calls Try.prog 39 #[.string M] w fun e w' => e = .returned (mayV w.heap.size) ∧ w'.cell? ⟨w.heap.size, 0, none⟩ = some (.string M) ∧ Below w.heap.size w w' := by
  go_enter Try.func39, Try.ntmps39
  go_wp2_with fail
  go_ret
  exact ⟨rfl, by simp [go_sem], (Below.refl _ _).alloc (Nat.le_refl _) _⟩

def mayI (M : ByteArray) (r : Int) : Bool := (decide (97 ≤ r) && decide (r ≤ 122)) || (decide (48 ≤ r) && decide (r ≤ 57)) || decide (0 ≤ Lib.indexByte M.data.toList r.toNat.toUInt8)

theorem with1_low (M : ByteArray) (g : Nat) (r : Int) (w : World) (h0 : 0 ≤ r) (h1 : r < 128) (hc : w.cell? ⟨g, 0, none⟩ = some (.string M)) :
    Calls Try.prog 52 #[.int .i32 r, .pointer (some ⟨g, 0, none⟩)] w fun e w' => e = .returned (.bool (mayI M r)) ∧ w' = w := by
  by_cases ha : 97 ≤ r
  · by_cases hz : r ≤ 122
    · have e : mayI M r = true := by simp [mayI, ha, hz]
      rw [e]
      go_enter Try.func52, Try.ntmps52
      go_wp2_with fail
      go_ret
      exact ⟨rfl, rfl⟩
    · have h9 : ¬ r ≤ 57 := by omega
      have h8 : 48 ≤ r := by omega
      have e : mayI M r = decide (0 ≤ Lib.indexByte M.data.toList r.toNat.toUInt8) := by simp [mayI, hz, h9]
      rw [e]
      go_enter Try.func52, Try.ntmps52
      go_wp2_with fail
      refine (Try.strings_ContainsRune_ascii M r w h0 h1).mono ?_
      rintro e w ⟨rfl, rfl⟩
      go_wp2_with fail
      go_ret
      exact ⟨rfl, rfl⟩
  · by_cases h8 : 48 ≤ r
    · by_cases h9 : r ≤ 57
      · have e : mayI M r = true := by simp [mayI, h8, h9]
        rw [e]
        go_enter Try.func52, Try.ntmps52
        go_wp2_with fail
        go_ret
        exact ⟨rfl, rfl⟩
      · have e : mayI M r = decide (0 ≤ Lib.indexByte M.data.toList r.toNat.toUInt8) := by simp [mayI, ha, h9]
        rw [e]
        go_enter Try.func52, Try.ntmps52
        go_wp2_with fail
        refine (Try.strings_ContainsRune_ascii M r w h0 h1).mono ?_
        rintro e w ⟨rfl, rfl⟩
        go_wp2_with fail
        go_ret
        exact ⟨rfl, rfl⟩
    · have e : mayI M r = decide (0 ≤ Lib.indexByte M.data.toList r.toNat.toUInt8) := by simp [mayI, ha, h8]
      rw [e]
      go_enter Try.func52, Try.ntmps52
      go_wp2_with fail
      refine (Try.strings_ContainsRune_ascii M r w h0 h1).mono ?_
      rintro e w ⟨rfl, rfl⟩
      go_wp2_with fail
      go_ret
      exact ⟨rfl, rfl⟩

theorem with1_high (M : ByteArray) (hM : Asc M) (h64 : M.size ≤ 64) (g : Nat) (r : Int) (w : World) (h0 : 128 ≤ r) (h1 : r ≤ 2147483647) (hc : w.cell? ⟨g, 0, none⟩ = some (.string M)) :
    Calls Try.prog 52 #[.int .i32 r, .pointer (some ⟨g, 0, none⟩)] w fun e w' => e = .returned (.bool false) ∧ Below w.heap.size w w' := by
  have ha : 97 ≤ r := by omega
  have hz : ¬ r ≤ 122 := by omega
  have h8 : 48 ≤ r := by omega
  have h9 : ¬ r ≤ 57 := by omega
  go_enter Try.func52, Try.ntmps52
  go_wp2_with fail
  refine (ncontains_high M hM h64 r h0 h1 w).mono ?_
  rintro e w1 ⟨rfl, b1⟩
  go_wp2_with fail
  go_ret
  exact ⟨rfl, b1⟩
end Go.Proofs.Ytpfbiklbecdmiaa
namespace Go.Proofs.Ytpfbiklbecdmiaa
open Go.RowKit Go.Shelf

theorem cell_lt {w : World} {b o : Nat} {v : Value} (h : w.cell? ⟨b, o, none⟩ = some v) : b < w.heap.size := by
  rcases Nat.lt_or_ge b w.heap.size with h1 | h1
  · exact h1
  · simp [World.cell?, Array.getElem?_eq_none h1] at h
theorem cell_below {w w' : World} {b o : Nat} {v : Value} (h : w.cell? ⟨b, o, none⟩ = some v) (k : Below w.heap.size w w') : w'.cell? ⟨b, o, none⟩ = some v := by
  rw [← h]
  exact World.cell?_of_block (w := w) (k.block b (cell_lt h))
theorem nthen {a b c : World} (h1 : Below a.heap.size a b) (h2 : Below b.heap.size b c) : Below a.heap.size a c :=
  h1.trans (h2.mono h1.size)
theorem take_all {f : UInt8 → Bool} (l : List UInt8) (p : Nat) (h : p < l.length) (h1 : (l.take p).all f = true) (h2 : f l[p] = true) : (l.take (p + 1)).all f = true := by
  rw [List.take_succ_eq_append_getElem h, List.all_append, h1]
  simp [h2]
theorem not_all {f : UInt8 → Bool} (l : List UInt8) (p : Nat) (h : p < l.length) (h2 : f l[p] = false) : l.all f = false := by
  rw [← Bool.not_eq_true, List.all_eq_true]
  intro e
  have := e _ (List.getElem_mem h)
  rw [h2] at this
  cases this

set_option maxHeartbeats 1000000 in
theorem madeOf_any (M : ByteArray) (hM : Asc M) (h64 : M.size ≤ 64) (f : UInt8 → Bool) (hf : ∀ c : UInt8, c.toNat < 128 → f c = mayI M c.toNat) (hf' : ∀ c : UInt8, 128 ≤ c.toNat → f c = false)
    (g : Nat) (s : ByteArray) (w : World) (hc : w.cell? ⟨g, 0, none⟩ = some (.string M)) :
    Calls Try.prog 38 #[.string s, mayV g] w fun e w' => e = .returned (.bool (Nm.made f s.data.toList)) ∧ Below w.heap.size w w' := by
  obtain ⟨r, hr⟩ : ∃ r, r = Nm.made f s.data.toList := ⟨_, rfl⟩
  rw [← hr]
  have HR := nhide hr
  have hsz : s.data.toList.length = s.size := (Lib.size_eq s).symm
  have HF := nhide hf
  have HF' := nhide hf'
  have HM := nhide hM
  have HC := nhide hc
  have HZ := nhide hsz
  clear hr hf hf' hM hc hsz
  by_cases h0 : s.size = 0
  · have hs : s = ⟨#[]⟩ := by
      have h1 := Lib.size_eq s
      rw [h0] at h1
      have h2 := List.length_eq_zero_iff.1 h1.symm
      cases s with
      | mk d => 
        have : d = #[] := by simpa using h2
        rw [this]
    subst hs
    have hrf : r = false := by rw [HR.out]; rfl
    subst hrf
    go_enter Try.func38, Try.ntmps38
    go_wp2_with fail
    go_ret
    exact ⟨rfl, Below.refl _ _⟩
  · have hne : s.toList.isEmpty = false := by
      rw [Lib.toList_data, List.isEmpty_eq_false_iff]
      intro e
      have h1 := Lib.size_eq s
      rw [e] at h1
      exact h0 h1
    by_cases h40 : 40 < s.size
    · have hrf : r = false := by
        rw [HR.out, Nm.made]
        have : ¬ s.data.toList.length ≤ 40 := by rw [HZ.out]; omega
        simp only [this, decide_false, Bool.and_false, Bool.false_and]
      subst hrf
      go_enter Try.func38, Try.ntmps38
      go_wp2_with fail
      go_ret
      exact ⟨rfl, Below.refl _ _⟩
    · have hra : r = s.data.toList.all f := by
        rw [HR.out, Nm.made]
        have h1 : s.data.toList.length ≤ 40 := by rw [HZ.out]; omega
        have h2 : 1 ≤ s.data.toList.length := by rw [HZ.out]; omega
        simp only [h1, h2, decide_true, Bool.true_and]
      have HA := nhide hra
      clear hra
      go_enter Try.func38, Try.ntmps38
      go_wp2_with fail
      go_loopw [] (fun wr => ∃ (pos : Nat), pos ≤ s.size ∧ wr = w.iter s pos ∧ Hid ((s.data.toList.take pos).all f = true)) (fun wr => s.size - wr.iterPos w.heap.size)
      case atStart => exact ⟨0, by omega, rfl, rfl⟩
      case round =>
        obtain ⟨pos, hpos, rfl, HT⟩ := hrel
        have hbw : Below w.heap.size w (w.iter s pos) := (Below.refl _ _).alloc (Nat.le_refl _) _
        by_cases hp : pos < s.size
        · have hp' : pos < s.data.toList.length := by rw [HZ.out]; exact hp
          by_cases ha : (s[pos]'hp).toNat < 128
          · have hnx : ∀ ty, (Instr.next (.pointer (some ⟨w.heap.size, 0, none⟩)) true ty).run Try.prog (w.iter s pos) = _ := fun ty => run_next_ascii w s pos ty hp ha
            have hfc := HF.out (s[pos]'hp) ha
            obtain ⟨c, hcc⟩ : ∃ c, c = (s[pos]'hp).toNat := ⟨_, rfl⟩
            rw [← hcc] at hnx ha hfc
            have hbw1 : Below w.heap.size w (w.iter s (pos + 1)) := (Below.refl _ _).alloc (Nat.le_refl _) _
            have hcl := cell_below HC.out hbw1
            have HFC := nhide hfc
            have HCC := nhide hcc
            clear hfc hcc
            cases hm : mayI M c with
            | true =>
              go_wp2_with fail
              refine (with1_low M g (c : Int) _ (by omega) (by omega) hcl).mono ?_
              rintro e w2 ⟨rfl, rfl⟩
              rw [hm]
              go_wp2_with fail
              go_roundw
              case rel => exact ⟨pos + 1, hp, rfl, take_all _ _ hp' HT.out (HFC.out.trans hm)⟩
              case measure =>
                have e1 : ∀ q, (w.iter s q).iterPos w.heap.size = q := fun q => by simp [World.iterPos, World.iter_heap]
                rw [e1, e1]
                omega
            | false =>
              have hrf : r = false := by rw [HA.out]; exact not_all _ _ hp' (HFC.out.trans hm)
              go_wp2_with fail
              refine (with1_low M g (c : Int) _ (by omega) (by omega) hcl).mono ?_
              rintro e w2 ⟨rfl, rfl⟩
              rw [hm]
              go_wp2_with fail
              go_ret
              exact ⟨by rw [hrf]; rfl, hbw1⟩
          · have hnx : ∀ ty, (Instr.next (.pointer (some ⟨w.heap.size, 0, none⟩)) true ty).run Try.prog (w.iter s pos) = _ := fun ty => run_next_any w s pos ty hp
            have hrf : r = false := by rw [HA.out]; exact not_all _ _ hp' (HF'.out _ (by have : s.data.toList[pos] = s[pos]'hp := rfl; rw [this]; omega))
            have hd := Gm.dec_eq s pos
            have hn0 : 128 ≤ Gm.nth (s.data.toList.drop pos) 0 := by
              unfold Gm.nth
              rw [List.drop_eq_getElem_cons hp']
              have : s.data.toList[pos] = s[pos]'hp := rfl
              simp only [List.getD_cons_zero, this]
              omega
            have h5 := Gm.dec_high _ hn0
            have h6 := Gm.dec_le (s.data.toList.drop pos)
            rw [← hd] at h5 h6
            have hbw1 : Below w.heap.size w (w.iter s (pos + (Utf8.decode s pos).2)) := (Below.refl _ _).alloc (Nat.le_refl _) _
            have hcl := cell_below HC.out hbw1
            clear hd hn0
            go_wp2_with fail
            refine (with1_high M HM.out h64 g _ _ (by omega) (by omega) hcl).mono ?_
            rintro e w2 ⟨rfl, b2⟩
            go_wp2_with fail
            go_ret
            exact ⟨by rw [hrf]; rfl, nthen hbw1 b2⟩
        · have hnx : ∀ ty, (Instr.next (.pointer (some ⟨w.heap.size, 0, none⟩)) true ty).run Try.prog (w.iter s pos) = _ := fun ty => run_next_end w s pos ty hp
          have hrt : r = true := by
            have h1 := HT.out
            rw [List.take_of_length_le (by rw [HZ.out]; omega)] at h1
            rw [HA.out, h1]
          go_wp2_with fail
          go_ret
          exact ⟨by rw [hrt]; rfl, hbw⟩

def marksH : ByteArray := ⟨#[46, 45]⟩
def marksL : ByteArray := ⟨#[46, 95, 61, 45, 47]⟩
theorem asc_H : Asc marksH := by unfold Asc; decide
theorem asc_L : Asc marksL := by unfold Asc; decide
theorem may_H : ∀ c : UInt8, c.toNat < 128 → Nm.hostB c = mayI marksH c.toNat := by
  have h : ∀ n : Fin 256, n.val < 128 → Nm.hostB (UInt8.ofNat n.val) = mayI marksH (UInt8.ofNat n.val).toNat := by decide +kernel
  intro c hc
  have := h ⟨c.toNat, c.toNat_lt⟩ hc
  simpa using this
theorem may_L : ∀ c : UInt8, c.toNat < 128 → Nm.locB c = mayI marksL c.toNat := by
  have h : ∀ n : Fin 256, n.val < 128 → Nm.locB (UInt8.ofNat n.val) = mayI marksL (UInt8.ofNat n.val).toNat := by decide +kernel
  intro c hc
  have := h ⟨c.toNat, c.toNat_lt⟩ hc
  simpa using this
theorem high_H (c : UInt8) (h : 128 ≤ c.toNat) : Nm.hostB c = false := by
  unfold Nm.hostB; simp; omega
theorem high_L (c : UInt8) (h : 128 ≤ c.toNat) : Nm.locB c = false := by
  unfold Nm.locB; rw [high_H c h]; simp; omega

theorem host_any (s : ByteArray) (w : World) :
    Calls Try.prog 23 #[.string s] w fun e w' => e = .returned (.bool (Nm.host s.data.toList)) ∧ Below w.heap.size w w' := by
  go_enter Try.func23, Try.ntmps23
  go_wp2_with fail
  refine (with_any marksH w).mono ?_
  rintro e w1 ⟨rfl, hc, b1⟩
  go_wp2_with fail
  refine (madeOf_any marksH asc_H (by decide) Nm.hostB may_H high_H _ s w1 hc).mono ?_
  rintro e w2 ⟨rfl, b2⟩
  go_wp2_with fail
  go_ret
  exact ⟨rfl, nthen b1 b2⟩
end Go.Proofs.Ytpfbiklbecdmiaa
