/-
  THE WALKS of disk's Used and names (layer 9).
-/
import Derived.Test.YtmbjlnnoemenoaaKLook
import Derived.Sort.KeysCollected
import Derived.Sort.OwnSorted
import Derived.Maps.OwnSet
import Derived.Shelf.Slices.In.SortNone
set_option linter.unusedVariables false
set_option linter.unusedSimpArgs false
set_option maxRecDepth 100000
namespace Go.Proofs.Ytmbjlnnoemenoaa
open Go.RowKit Go.Maps Go.Sort Dk

def usedL (left : Lit → Bool) : List (Bs × PF) → Nat
  | [] => 0
  | p :: r => (if left (.string p.1) then 0 else p.2.all.length) + usedL left r
theorem usedL_same {left : Lit → Bool} {n : Bs} : ∀ {fs : List (Bs × PF)}, (∀ p ∈ fs, p.1 ≠ n) → usedL (fun z => left z && !z.sameKey (.string n)) fs = usedL left fs
  | [], _ => rfl
  | p :: r, h => by
    have h0 := h p List.mem_cons_self
    simp only [usedL, usedL_same (fun q hq => h q (List.mem_cons_of_mem _ hq)), same_str, h0, decide_false, Bool.not_false, Bool.and_true]
theorem usedL_step {left : Lit → Bool} {n : Bs} {f : PF} (hl : left (.string n) = true) : ∀ {fs : List (Bs × PF)}, Rise fs → get fs n = some f → usedL (fun z => left z && !z.sameKey (.string n)) fs = usedL left fs + f.all.length
  | [], _, h => by cases h
  | p :: r, hr, h => by
    obtain ⟨h1, h2⟩ := List.pairwise_cons.1 hr
    unfold Dk.get at h
    split at h
    · rename_i e
      cases h
      subst e
      simp only [usedL, usedL_same (fun q hq e => before_ne (h1 q hq) e.symm), same_str, hl, decide_true, Bool.not_true, Bool.and_false, if_true]
      simp; omega
    · rename_i e
      simp only [usedL, usedL_step hl h2 h, same_str, e, decide_false, Bool.not_false, Bool.and_true]
      omega
theorem usedL_start {A : Bs → Nat} {gs : List (Bs × PF)} (hr : Rise gs) : ∀ fs : List (Bs × PF), (∀ p ∈ fs, p ∈ gs) → usedL (Maps.has (dat A gs)) fs = 0
  | [], _ => rfl
  | p :: r, h => by
    simp only [usedL, has_dat, get_of_mem hr (h p List.mem_cons_self), Option.isSome_some, if_true, usedL_start hr r (fun q hq => h q (List.mem_cons_of_mem _ hq))]
theorem usedL_end {left : Lit → Bool} (h : ∀ kl, left kl = false) : ∀ fs : List (Bs × PF), usedL left fs = used fs
  | [] => rfl
  | p :: r => by simp [usedL, h, usedL_end h r, used]
theorem usedL_le {left : Lit → Bool} : ∀ fs : List (Bs × PF), usedL left fs ≤ used fs
  | [] => Nat.le_refl _
  | p :: r => by have := usedL_le (left := left) r; simp only [usedL, used]; split <;> omega

theorem before_le : ∀ {a b : Bs}, bytesBefore a b = true → a ≤ b
  | [], b, _ => List.nil_le b
  | a :: r, [], h => by cases h
  | a :: r, b :: s, h => by
    simp only [bytesBefore, Bool.or_eq_true, Bool.and_eq_true, decide_eq_true_eq, beq_iff_eq] at h
    rw [List.cons_le_cons_iff]
    rcases h with h | ⟨h1, h2⟩
    · exact .inl h
    · exact .inr ⟨h1, before_le h2⟩
theorem entry_of {A : Bs → Nat} {fs : List (Bs × PF)} {n : Bs} {c : Value} (hat : ∀ zd, (dat A fs).atKey (.string n) zd = .held c) : ∃ f, get fs n = some f ∧ c = ptr (A n) := by
  have h1 := hat .nil
  rw [at_dat] at h1
  cases hg : get fs n with
  | none => rw [hg] at h1; cases h1
  | some f => rw [hg] at h1; exact ⟨f, rfl, (DataW.held.inj h1).symm⟩

set_option maxHeartbeats 2000000 in
theorem used_any (P : PD) (d : Nat) (S : Nat → Prop) (w : World) (h : IsD w d S P) :
    Calls Try.prog 24 #[ptr d] w fun e w' => e = .returned (.int .i64 (used P.fs)) ∧ Below w.heap.size w w' := by
  obtain ⟨mv, A, h⟩ := h
  have c1 := h.blk.cell 1
  simp [head] at c1
  have hu := h.wf.used
  have hro := h.wf.room
  rcases id h.map with ⟨rfl, hfs⟩ | ⟨m, rfl, hm, hown⟩
  · have hrg := run_range_nilMap (P := Try.prog) w 54 9 57 Try.underlying54
    have hnx : ∀ ty, (Instr.next (.pointer (some ⟨w.heap.size, 0, none⟩)) false ty).run Try.prog (w.alloc (.mapIter none 0 #[] 0)) = _ := fun ty => run_next_nilMap _ ty 0 0 #[]
    have HF := hide hfs
    clear h hfs hu hro
    go_enter Try.func24, Try.ntmps24
    go_wp2_with fail
    refine wp_loop_rounds 1 ?_
    rw [rounds_succ]
    go_wp2_with fail
    go_ret
    exact ⟨by rw [HF.out]; rfl, (Below.refl _ _).alloc (Nat.le_refl _) _⟩
  · have H := hide h
    have HW := hide hown
    have HU : Hid (used P.fs ≤ 4194304) := hide (Nat.le_trans hu hro)
    clear h hu hro
    go_enter Try.func24, Try.ntmps24
    go_wp2_with (first
      | (at_range; refine wpList_range_own _ rfl _ 54 rfl 9 57 lawS Try.underlying54 _ m _ _ rfl HW.out ?_; intro w0 hrg0 hg0 hs0)
      | go_in)
    go_frame
    go_loopw [3] (fun v wr => ∃ (left : Lit → Bool) (cnt u : Nat), v = .int .i64 u ∧ Hid (u = usedL left P.fs) ∧ Hid (wr.ranges Try.prog 9 HR m w.heap.size P.fs.length (dat (fun n => (A n).1) P.fs) left cnt) ∧ Hid (Below w.heap.size w wr))
      (fun _ wr => wr.rangeLeft m w.heap.size)
    case atStart =>
      exact ⟨_, _, 0, rfl, hide (usedL_start H.out.wf.rise P.fs (fun p hp => hp)).symm, hide hrg0, hide ((Below.refl _ _).grown hg0 (Nat.le_refl _) (fun j hj => by cases hj))⟩
    case round =>
      obtain ⟨left, cnt, u, rfl, HUL, HRG, HBL⟩ := hrel
      go_wp2_with (first
        | (at_next; refine wpList_next_ranges _ rfl _ rfl 9 lawS HR encStr (fun v : Value => v) (fun key kl hk => by obtain ⟨x, hx, _⟩ := Maps.keyOf_str Try.underlying9 hk; exact ⟨x, hx⟩) (fun v y hv => ⟨v, rfl⟩) m w.heap.size _ _ _ _ rfl HRG.out ?_ ?_)
        | go_in)
      · intro hc0 hl0
        have hue : u = used P.fs := by rw [HUL.out, usedL_end hl0]
        clear hl0
        go_wp2_with fail
        go_ret
        exact ⟨by subst hue; rfl, HBL.out⟩
      · intro x c kl yd yp w2 cnt2 hkey hlk hv hv' hat hrg2 hlt hg2 hs2 hen
        obtain ⟨x', ex, rfl, _⟩ := Maps.keyOf_str Try.underlying9 hkey
        obtain rfl : x = x' := encStr_inj ex
        subst hv
        obtain ⟨f, hgf, rfl⟩ := entry_of hat
        have hrise := H.out.wf.rise
        have hstep := usedL_step hlk hrise hgf
        have hle := usedL_le (left := fun z => left z && !z.sameKey (.string x)) P.fs
        obtain ⟨_, fbk, frow, _⟩ := H.out.file _ (get_mem hgf)
        have hb2 : Below w.heap.size w w2 := HBL.out.grown hg2 HBL.out.size (fun j hj => by cases hj; exact Nat.le_refl _)
        obtain ⟨a0, c0, hv0⟩ := own_shape frow
        rw [hv0] at fbk
        have k0 := (Ch.of_below (fun _ => False) hb2).kept fbk (fun h => h)
        have k1 := Blk.cell k0 0
        simp at k1
        have HR2 := hide hrg2
        have HB2 := hide hb2
        have HS2 : Hid (u + f.all.length = usedL (fun z => left z && !z.sameKey (.string x)) P.fs) := hide (by rw [hstep, HUL.out])
        have hbound : u + f.all.length ≤ 4194304 := by have := HU.out; have := HS2.out; omega
        have HLT := hide hlt
        have hwr : IntKind.i64.wrap ((u : Int) + f.all.length) = ((u + f.all.length : Nat) : Int) := by rw [IntKind.wrap_i64]; omega
        clear hs2 hrg2 hlt hg2 hb2 hat hlk hkey ex hgf hstep hle hrise frow fbk k0 hv0 hv'
        go_wp2_with fail
        refine ⟨⟨_, _, u + f.all.length, by congr 1, HS2, HR2, HB2⟩, ?_⟩
        rw [HR2.out.left_eq, HRG.out.left_eq]; exact HLT.out

theorem infoS : (Try.prog.info? 9).map (fun i => (i.zero, i.size, i.bytes)) = some (some (.string ⟨#[]⟩), 1, 16) := by kernel_rfl
theorem keys_sorted {fs : List (Bs × PF)} (h : Rise fs) : (fs.map (·.1)).mergeSort (fun x y => decide (x ≤ y)) = fs.map (·.1) := by
  refine List.mergeSort_of_pairwise ?_
  rw [List.pairwise_map]
  refine h.imp fun {p q} hb => ?_
  rw [decide_eq_true_eq]
  exact before_le hb

set_option maxHeartbeats 2000000 in
theorem names_any (P : PD) (d : Nat) (S : Nat → Prop) (w : World) (h : IsD w d S P) :
    Calls Try.prog 36 #[ptr d] w fun e w' => ∃ v, e = .returned v ∧ w'.ownsRow w.heap.size 9 1 v P.fs.length ((P.fs.map (·.1)).map encStr) ∧ Below w.heap.size w w' := by
  obtain ⟨mv, A, h⟩ := h
  have c1 := h.blk.cell 1
  simp [head] at c1
  obtain ⟨i0, hi, hz0, hz1, hz2⟩ := info_parts infoS
  rcases id h.map with ⟨rfl, hfs⟩ | ⟨m, rfl, hm, hown⟩
  · have hrg := run_range_nilMap (P := Try.prog) w 54 9 57 Try.underlying54
    have hnx : ∀ ty, (Instr.next (.pointer (some ⟨w.heap.size, 0, none⟩)) false ty).run Try.prog (w.alloc (.mapIter none 0 #[] 0)) = _ := fun ty => run_next_nilMap _ ty 0 0 #[]
    have HF := hide hfs
    clear h hfs
    go_enter Try.func36, Try.ntmps36
    go_wp2_with fail
    refine wp_loop_rounds 1 ?_
    rw [rounds_succ]
    go_wp2_with fail
    refine (Any.slices_Sort_string_none Try.lays190 none 0 _).mono ?_
    rintro e w' ⟨rfl, rfl⟩
    go_wp2_with fail
    go_ret
    refine ⟨.slice none 0 0, rfl, ?_, (Below.refl _ _).alloc (Nat.le_refl _) _⟩
    rw [HF.out]
    exact World.ownsRow_nil _ _ _ _
  · have H := hide h
    have HW := hide hown
    clear h hown
    go_enter Try.func36, Try.ntmps36
    go_wp2_with (first
      | (at_range; refine wpList_range_own _ rfl _ 54 rfl 9 57 lawS Try.underlying54 _ m _ _ rfl HW.out ?_; intro w0 hrg0 hg0 hs0)
      | go_in)
    go_frame
    go_loopw [3] (fun v wr => ∃ (left : Lit → Bool) (cnt : Nat) (ss : List (List UInt8)), Hid (wr.ranges Try.prog 9 HR m w.heap.size P.fs.length (dat (fun n => (A n).1) P.fs) left cnt) ∧ ss.length + cnt ≤ P.fs.length ∧
        Hid (wr.ownsRow (w.heap.size + 1) 9 1 v ss.length (ss.map encStr)) ∧ Hid (Collected (dat (fun n => (A n).1) P.fs) left ss) ∧ Hid (Below w.heap.size w wr) ∧ w.heap.size + 1 ≤ wr.heap.size)
      (fun _ wr => wr.rangeLeft m w.heap.size)
    case atStart =>
      exact ⟨_, _, [], hide hrg0, by simp [size_eq, ents], hide (World.ownsRow_nil _ _ _ _), hide (Collected.start _), hide ((Below.refl _ _).grown hg0 (Nat.le_refl _) (fun j hj => by cases hj)), by omega⟩
    case round =>
      obtain ⟨left, cnt, ss, HRG, hcs, HRO, HCO, HBL, hsz⟩ := hrel
      go_wp2_with (first
        | (at_next; refine wpList_next_ranges _ rfl _ rfl 9 lawS HR encStr (fun v : Value => v) (fun key kl hk => by obtain ⟨x, hx, _⟩ := Maps.keyOf_str Try.underlying9 hk; exact ⟨x, hx⟩) (fun v y hv => ⟨v, rfl⟩) m w.heap.size _ _ _ _ rfl HRG.out ?_ ?_)
        | go_in)
      · intro hc0 hl0
        have hperm := HCO.out.perm HRG.out.owns lawS Try.underlying9 hl0
        have hkeys : strKeys (dat (fun n => (A n).1) P.fs) = P.fs.map (·.1) := by simp [strKeys, ents, strOf, Function.comp_def]
        rw [hkeys] at hperm
        have hsort : ss.mergeSort (fun x y => decide (x ≤ y)) = P.fs.map (·.1) := by
          have := mergeSort_of_perm hperm
          rw [keys_sorted H.out.wf.rise] at this
          exact this
        have hlen : ss.length = P.fs.length := by simpa using hperm.length_eq
        have HSo := hide hsort
        have HLe := hide hlen
        clear hsort hlen hperm hkeys hl0
        rcases id HRO.out.2 with ⟨hnil, hl0⟩ | ⟨g, cap, cur, hv, hbase, hb, h1, h2, h3, h4⟩
        · have hss : ss = [] := List.eq_nil_of_length_eq_zero hl0
          subst hnil
          clear hl0
          go_wp2_with fail
          refine (Any.slices_Sort_string_none Try.lays190 none 0 _).mono ?_
          rintro e w' ⟨rfl, rfl⟩
          go_wp2_with fail
          go_ret
          refine ⟨.slice none 0 0, rfl, ?_, HBL.out⟩
          have e1 := HLe.out
          have e2 := HSo.out
          rw [hss] at e1 e2
          rw [← e1, ← e2, List.mergeSort_nil]
          exact World.ownsRow_nil _ _ _ _
        · subst hv
          have hH : Holds encStr wr g 0 ss.toArray := holds_of_block hb (by simpa using h4)
          have hgl : g < wr.heap.size := (Array.getElem?_eq_some_iff.1 hb).1
          have hsl : ss.length < 4611686018427387904 := by have := HLe.out; have := H.out.wf.few; omega
          have hc := Try.slices_Sort_string g 0 cap ss wr hH hgl hsl
          have hc2 : Calls Try.prog 53 #[.slice (some ⟨g, 0, none⟩) ss.length cap] wr fun e w' => e = .returned (.tuple #[]) ∧ w'.ownsRow w.heap.size 9 1 (.slice (some ⟨g, 0, none⟩) ss.length cap) ss.length ((ss.mergeSort fun x y => decide (x ≤ y)).map encStr) ∧ Below w.heap.size w w' := by
            refine hc.mono ?_
            rintro e w' ⟨rfl, nn, os, rfl⟩
            exact ⟨rfl, ownsRow_sorted (by simp) (by omega) hb h1 h2 h3, HBL.out.grown (grownBy_sorted _) HBL.out.size (fun j hj => by cases hj; omega)⟩
          clear hc hH h4 hb h3
          go_wp2_with fail
          refine hc2.mono ?_
          rintro e w' ⟨rfl, hrow, hbe⟩
          rw [HSo.out, HLe.out] at hrow
          have HRW := hide hrow
          have HBE := hide hbe
          have e1 := HLe.out
          clear hrow hbe hc2
          go_wp2_with fail
          go_ret
          refine ⟨_, rfl, ?_, HBE.out⟩
          simpa [e1] using HRW.out
      · intro x c kl yd yp w2 cnt2 hkey hlk hv hv' hat hrg2 hlt hg2 hs2 hen
        obtain ⟨x', ex, rfl, _⟩ := Maps.keyOf_str Try.underlying9 hkey
        obtain rfl : x = x' := encStr_inj ex
        have hrow2 := HRO.out.kept hg2 (Or.inr (row_ne_iter HRO.out HRG.out).symm)
        have hC2 := hide (HCO.out.step hlk hat)
        have hb2 : Below w.heap.size w w2 := HBL.out.grown hg2 HBL.out.size (fun j hj => by cases hj; exact Nat.le_refl _)
        have hsz2 : w.heap.size + 1 ≤ w2.heap.size := Nat.le_trans hsz hg2.size
        have hsl : ss.length ≤ 4 := by have := H.out.wf.few; omega
        have HB2 := hide hb2
        have HG2 := hide hrg2
        have HLT := hide hlt
        clear hs2 hv hv' hlk hat hkey ex hb2 hrg2 hlt hg2
        go_wp2_with (first
          | (at_builtin; refine wpList_append_own _ rfl _ _ 64 rfl (w.heap.size + 1) 9 i0 (.string ⟨#[]⟩) 1 16 Try.underlying64 hi hz0 hz1 hz2 rfl (by decide) _ _ _ rfl (hrow2.alloc _) ⟨w2.heap.size, 0, none⟩ 1 1 [encStr x] rfl rfl (cell_one_new _ _ _) (by simp [Value.oneCell', encStr]) (by unfold maxLen; omega) (by omega) (by simp; omega) ?_; intro v' w3 hown' hg3 hnil3)
          | go_in)
        have hml := HW.out.lt
        have hrg3 := (HG2.out.alloc (.cells #[encStr x] 9)).kept hg3 (row_ne_low hrow2 (by omega)) (row_ne_iter hrow2 HG2.out)
        have hbe3 : Below w.heap.size w w3 := (HB2.out.alloc HB2.out.size _).grown hg3 (by have := HB2.out.size; simp; omega) (fun j hj => by have := (hrow2.lt j hj).1; omega)
        refine ⟨⟨_, _, ss ++ [x], hide hrg3, by have := HLT.out; simp; omega, hide (by simpa using hown'), hC2, hide hbe3, by have := hg3.size; simp at this; omega⟩, ?_⟩
        rw [hrg3.left_eq, HRG.out.left_eq]; exact HLT.out
end Go.Proofs.Ytmbjlnnoemenoaa
