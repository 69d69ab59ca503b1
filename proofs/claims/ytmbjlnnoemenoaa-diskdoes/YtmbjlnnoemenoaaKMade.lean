/-
  THE WALK of disk's made (layer 9).
-/
import Derived.Test.YtmbjlnnoemenoaaKUsed
import Derived.Test.YtmbjlnnoemenoaaKRFacts
set_option linter.unusedVariables false
set_option linter.unusedSimpArgs false
set_option maxRecDepth 100000
namespace Go.Proofs.Ytmbjlnnoemenoaa
open Go.RowKit Go.Maps Dk

set_option maxHeartbeats 1000000 in
theorem clone_any (s : ByteArray) (w : World) (h : s.size ≤ 1099511627776) :
    Calls Try.prog 52 #[.string s] w fun e w' => e = .returned (.string s) ∧ Below w.heap.size w w' := by
  have H : Hid (s.size ≤ 281474976710656) := by show s.size ≤ 281474976710656; omega
  clear h
  go_enter Try.func52, Try.ntmps52
  go_wp2_with fail
  refine (Try.stringslite_Clone s w H.out).mono ?_
  rintro e w1 ⟨rfl, b1⟩
  have HB := hide b1
  clear b1
  go_wp2_with fail
  go_ret
  exact ⟨rfl, HB.out⟩

/-- A NEW FILE HAS COME -/
theorem IsA.madeNew {w w' w2 : World} {d : Nat} {S : Nat → Prop} {P : PD} {m : Nat} {A : Bs → Nat × Value} (h : IsA w d S P (.map (some m)) A) (hM : Below w.heap.size w w') {n : ByteArray} (hg : get P.fs (bs n) = none) (hf : P.fs.length < 4) (hnm : n.size ≤ 1099511627776) {fb : Nat} (hz : w.heap.size ≤ fb)
    (hb : Blk w' fb #[.slice none 0 0, .int .i64 0] 69) (ho : w2.ownsMap Try.prog 9 HR m (P.fs.length + 1) ((dat (fun n => (A n).1) P.fs).put (.string (bs n)) (.held (ptr fb)))) (hg2 : w'.grownBy w2 (some m)) :
    ∃ S', IsA w2 d S' { P with fs := ins (bs n) P.fs } (.map (some m)) (fun k => if k = bs n then (fb, .slice none 0 0) else A k) ∧ Turn S w S' w2 := by
  have hno := get_none hg
  obtain ⟨hmS, hmO⟩ : S m ∧ w.ownsMap Try.prog 9 HR m P.fs.length (dat (fun n => (A n).1) P.fs) := by
    rcases h.map with ⟨h0, _⟩ | ⟨m', h1, h2, h3⟩
    · cases h0
    · cases h1; exact ⟨h2, h3⟩
  have hch : Ch (fun k => k = m) w w2 := (Ch.of_below (fun _ => False) hM).weak (fun _ _ h => h.elim) |>.trans (Ch.of_grown hg2) (fun i hi => .inl (Option.some.inj hi).symm)
  have hmap : ∀ {g cs T}, Blk w' g cs T → g ≠ m := fun hb e => by
    subst e
    obtain ⟨es, c, hx, _⟩ := hmO
    have := (Ch.of_below (fun _ => False) hM).kept hx (fun h => h)
    unfold Blk at hb; rw [hb] at this; cases this
  have hmap0 : ∀ {g cs T}, Blk w g cs T → ¬ g = m := fun hb e => ne_of_map hb hmO e
  have hfb2 : Blk w2 fb #[.slice none 0 0, .int .i64 0] 69 := (Ch.of_grown hg2).kept hb (fun e => hmap hb (Option.some.inj e).symm)
  have hdat : (dat (fun n => (A n).1) P.fs).put (.string (bs n)) (.held (ptr fb)) = dat (fun k => (if k = bs n then (fb, Value.slice none 0 0) else A k).1) (ins (bs n) P.fs) := by
    have e1 : dat (fun n => (A n).1) P.fs = dat (fun k => (if k = bs n then (fb, Value.slice none 0 0) else A k).1) P.fs := by
      unfold dat
      rw [ents_congr rfl]
      intro p hp
      simp only [if_neg (hno p hp)]
    rw [e1, ← put_dat hg]
    simp
  refine ⟨fun k => S k ∨ k = fb, ⟨⟨h.wf.room, ?_, rise_ins h.wf.rise hno, ?_, ?_, h.wf.left, ?_⟩, ?_, .inl h.inS, ?_, ?_, ?_, ?_⟩, hch.weak (fun i _ hi => hi ▸ hmS), ?_⟩
  · show used (ins (bs n) P.fs) ≤ P.room; rw [used_ins]; exact h.wf.used
  · intro p hp
    rcases mem_ins.1 hp with rfl | hp
    · exact Nat.le_refl _
    · exact h.wf.last p hp
  · show (ins (bs n) P.fs).length ≤ 4; rw [len_ins]; omega
  · intro p hp
    rcases mem_ins.1 hp with rfl | hp
    · show (bs n).length ≤ 1099511627776
      have : (bs n).length = n.size := Array.length_toList
      omega
    · exact h.wf.names p hp
  · exact hch.kept h.blk (hmap0 h.blk)
  · rintro k (hk | rfl)
    · exact Nat.lt_of_lt_of_le (h.low k hk) hch.size
    · exact hfb2.lt
  · refine .inr ⟨m, rfl, .inl hmS, ?_⟩
    show w2.ownsMap _ _ _ _ (ins (bs n) P.fs).length _
    rw [len_ins, ← hdat]; exact ho
  · intro p hp
    rcases mem_ins.1 hp with rfl | hp
    · simp only [if_pos]
      exact ⟨.inr rfl, hfb2, World.ownsRow_nil _ _ _ _, fun g hg => by cases hg⟩
    · rw [if_neg (hno p hp)]
      obtain ⟨p1, p2, p3, p4⟩ := h.file p hp
      exact ⟨.inl p1, hch.kept p2 (hmap0 p2), p3.kept hch (fun g hg => by obtain ⟨cur, hc⟩ := row_blk p3 hg; exact hmap0 hc), fun g hg => .inl (p4 g hg)⟩
  · intro p hp q hq hpq
    have lowq : ∀ q ∈ P.fs, (A q.1).1 < w.heap.size := fun q hq => h.low _ (h.file q hq).1
    rcases mem_ins.1 hp with rfl | hp <;> rcases mem_ins.1 hq with rfl | hq
    · exact absurd rfl hpq
    · simp only [if_pos, if_neg (hno q hq)]
      exact ⟨fun e => by have := lowq q hq; omega, fun g hg => by cases hg⟩
    · simp only [if_pos, if_neg (hno p hp)]
      exact ⟨fun e => by have := lowq p hp; omega, fun g hg e => by cases e⟩
    · simp only [if_neg (hno p hp), if_neg (hno q hq)]; exact h.apart p hp q hq hpq
  · rintro k (hk | rfl)
    · exact .inl hk
    · exact .inr hz

/-- THE MAP HAS COME -/
theorem IsA.mapped {w : World} {d : Nat} {S : Nat → Prop} {P : PD} {A : Bs → Nat × Value} (h : IsA w d S P (.map none) A) :
    IsA ((w.alloc (.map #[] 0)).setCell ⟨d, 1, none⟩ (.map (some w.heap.size))) d (fun k => S k ∨ k = w.heap.size) P (.map (some w.heap.size)) A ∧ P.fs = [] ∧
      Turn S w (fun k => S k ∨ k = w.heap.size) ((w.alloc (.map #[] 0)).setCell ⟨d, 1, none⟩ (.map (some w.heap.size))) := by
  have hfs : P.fs = [] := by
    rcases h.map with ⟨_, h0⟩ | ⟨m, h1, _⟩
    · exact h0
    · cases h1
  have hdl := h.blk.lt
  have hch : Ch (fun k => k = d) w ((w.alloc (.map #[] 0)).setCell ⟨d, 1, none⟩ (.map (some w.heap.size))) := (Ch.of_below _ (below_alloc w _)).trans (Ch.set d 1 _) (fun i hi => .inl hi)
  refine ⟨⟨h.wf, ?_, .inl h.inS, ?_, ?_, ?_, ?_⟩, hfs, hch.weak (fun i _ hi => hi ▸ h.inS), ?_⟩
  · have := (h.blk.alloc (.map #[] 0)).set 1 (.map (some w.heap.size))
    simpa [head] using this
  · rintro k (hk | rfl)
    · have := h.low k hk; simp; omega
    · simp
  · refine .inr ⟨w.heap.size, rfl, .inr rfl, ?_⟩
    rw [hfs]
    exact (World.ownsMap_made w Try.prog 9 HR).setCell (a := ⟨d, 1, none⟩) (by show w.heap.size ≠ d; omega) _
  · intro p hp; rw [hfs] at hp; cases hp
  · intro p hp; rw [hfs] at hp; cases hp
  · rintro k (hk | rfl)
    · exact .inl hk
    · exact .inr (Nat.le_refl _)

set_option maxHeartbeats 4000000 in
theorem made_any0 (P : PD) (m : Nat) (A : Bs → Nat × Value) (d : Nat) (S : Nat → Prop) (n : ByteArray) (w : World) (h : IsA w d S P (.map (some m)) A) (hn : n.size ≤ 1099511627776) (hg : get P.fs (bs n) = none) (hf : P.fs.length < 4) :
    Calls Try.prog 31 #[ptr d, .string n] w fun e w' => ∃ S' A', e = .returned (ptr (A' (bs n)).1) ∧ IsA w' d S' { P with fs := ins (bs n) P.fs } (.map (some m)) A' ∧ Turn S w S' w' := by
  have c1 := h.blk.cell 1
  simp [head] at c1
  have hl := look_any h.map n (by unfold maxLen; omega)
  rw [atF_none hg] at hl
  have HA := hide h
  have HB := hide h.blk
  have HN : Hid (n.size ≤ 1099511627776) := hide hn
  have HNM : Hid (n.size ≤ maxLen) := by show n.size ≤ maxLen; unfold maxLen; omega
  have HG := hide hg
  have HF := hide hf
  have HO : Hid (w.ownsMap Try.prog 9 HR m P.fs.length (dat (fun n => (A n).1) P.fs)) := by
    rcases h.map with ⟨h0, _⟩ | ⟨m', h1, h2, h3⟩
    · cases h0
    · cases h1; exact h3
  clear h hn hg hf
  have hnil := fun w => run_eql_map_nil (P := Try.prog) w 54 9 57 (some m) Try.underlying54
  go_enter Try.func31, Try.ntmps31
  go_upto_region 4 with fail
  refine' wp_region_facts [(fun _ _ v _ => v = (.pointer (some ⟨d, 0, none⟩))), (fun _ _ v _ => v = (.pointer (some ⟨d, 0, none⟩))), (fun _ _ v _ => v = (.pointer (some ⟨d, 1, none⟩))), (fun _ _ v _ => v = (.map (some m))), (fun _ _ v _ => v = (.string n)), (fun _ _ v _ => v = (.string n)), (fun _ _ v _ => v = (.agg #[.slice none 0 0, .int .i64 0])), (fun lo _ v w => v = .pointer (some ⟨lo, 0, none⟩) ∧ Blk w lo #[.slice none 0 0, .int .i64 0] 69)] (by kernel_rfl) rfl ?hA (by kernel_rfl) (by kernel_rfl) (by kernel_rfl) rfl ?mono ?steps ?last
  case hA =>
    intro vs
    simp only [puts, Act.put, List.setIfInBounds_toArray, List.set_cons_zero, List.set_cons_succ, Nat.zero_add, Nat.reduceAdd]
    rfl
  case mono => exact ⟨mono_eq _, mono_eq _, mono_eq _, mono_eq _, mono_eq _, mono_eq _, mono_eq _, (fun lo hi v w w' h hb => ⟨h.1, (Ch.of_below (fun _ => False) hb).kept h.2 (fun h => h)⟩), trivial⟩
  case steps =>
    intro Q'
    refine And.intro ?_ ?_
    · intro vs lo hi w' hM hd K' hK
      dsimp only at hK ⊢
      simp only [Act.put, List.setIfInBounds_toArray, List.set_cons_zero, List.set_cons_succ] at hK
      go_simp
      exact hK.out _ _ rfl (Below.refl _ _)
    refine And.intro ?_ ?_
    · intro vs lo hi w' hM hd K' hK
      dsimp only at hK ⊢
      simp only [Act.put, List.setIfInBounds_toArray, List.set_cons_zero, List.set_cons_succ] at hK
      have e0 : vs 0 = (.pointer (some ⟨d, 0, none⟩)) := hd 0 (by kernel_rfl)
      simp only [e0] at hK ⊢
      clear e0
      go_simp
      exact hK.out _ _ rfl (Below.refl _ _)
    refine And.intro ?_ ?_
    · intro vs lo hi w' hM hd K' hK
      dsimp only at hK ⊢
      simp only [Act.put, List.setIfInBounds_toArray, List.set_cons_zero, List.set_cons_succ] at hK
      have e1 : vs 1 = (.pointer (some ⟨d, 0, none⟩)) := hd 1 (by kernel_rfl)
      simp only [e1] at hK ⊢
      clear e1
      go_simp
      exact hK.out _ _ rfl (Below.refl _ _)
    refine And.intro ?_ ?_
    · intro vs lo hi w' hM hd K' hK
      dsimp only at hK ⊢
      simp only [Act.put, List.setIfInBounds_toArray, List.set_cons_zero, List.set_cons_succ] at hK
      have e2 : vs 2 = (.pointer (some ⟨d, 1, none⟩)) := hd 2 (by kernel_rfl)
      simp only [e2] at hK ⊢
      clear e2
      have q1 := (Blk.cell ((Ch.of_below (fun _ => False) hM).kept HB.out (fun h => h)) 1)
      simp [head] at q1
      go_simp
      exact hK.out _ _ rfl (Below.refl _ _)
    refine And.intro ?_ ?_
    · intro vs lo hi w' hM hd K' hK
      dsimp only at hK ⊢
      simp only [Act.put, List.setIfInBounds_toArray, List.set_cons_zero, List.set_cons_succ] at hK
      go_simp
      exact hK.out _ _ rfl (Below.refl _ _)
    refine And.intro ?_ ?_
    · intro vs lo hi w' hM hd K' hK
      dsimp only at hK ⊢
      simp only [Act.put, List.setIfInBounds_toArray, List.set_cons_zero, List.set_cons_succ] at hK
      have e4 : vs 4 = (.string n) := hd 4 (by kernel_rfl)
      simp only [e4] at hK ⊢
      clear e4
      go_simp
      refine (clone_any n _ HN.out).mono ?_
      rintro e w7 ⟨rfl, b7⟩
      exact hK.out _ _ rfl b7
    refine And.intro ?_ ?_
    · intro vs lo hi w' hM hd K' hK
      dsimp only at hK ⊢
      simp only [Act.put, List.setIfInBounds_toArray, List.set_cons_zero, List.set_cons_succ] at hK
      go_simp
      exact hK.out _ _ rfl (Below.refl _ _)
    refine And.intro ?_ ?_
    · intro vs lo hi w' hM hd K' hK
      dsimp only at hK ⊢
      simp only [Act.put, List.setIfInBounds_toArray, List.set_cons_zero, List.set_cons_succ] at hK
      have e6 : vs 6 = (.agg #[.slice none 0 0, .int .i64 0]) := hd 6 (by kernel_rfl)
      simp only [e6] at hK ⊢
      clear e6
      go_simp
      exact hK.out _ _ ⟨rfl, Blk.new _ _ _⟩ (below_alloc _ _)
    exact trivial
  case last =>
    intro vs lo hi w' hM hlo hap hall K' Q' hK
    obtain ⟨_, _, _, e3, _, e5, _, h7, _⟩ := hall
    obtain ⟨e7, HBX⟩ := h7
    have hz7 := (hlo 7 (by decide)).1
    dsimp only
    simp only [e3, e5, e7]
    clear e3 e5 e7 hap hlo
    generalize lo 7 = fb at HBX hz7 ⊢
    obtain ⟨w2, hrun, hown2, hg2⟩ := (HO.out.kept (row := none) ⟨hM.os, hM.tape, hM.output, hM.size, fun k hk _ => hM.block k hk⟩ (by simp)).update lawS Try.underlying54 (by have := HF.out; unfold maxLen; omega) (keyS HNM.out) (show HR (ptr fb) = some (.held (ptr fb), []) from rfl)
    obtain ⟨S', hA, hT⟩ := HA.out.madeNew hM HG.out HF.out HN.out hz7 HBX hown2 hg2
    have HA2 := hide hA
    have HT2 := hide hT
    have q2 := (Blk.cell hA.blk 1)
    simp [head] at q2
    have q3 := look_any hA.map n HNM.out
    rw [atF_some (get_ins_same HG.out)] at q3
    clear hA hT hown2 hg2 HBX
    go_simp
    refine hK.out _ _ ?_
    clear hK hrun
    go_wp2_with fail
    go_ret
    exact ⟨S', _, by rw [if_pos rfl]; rfl, HA2.out, HT2.out⟩

set_option maxHeartbeats 4000000 in
theorem made_any1 (P : PD) (A : Bs → Nat × Value) (d : Nat) (S : Nat → Prop) (n : ByteArray) (w : World) (h : IsA w d S P (.map none) A) (hn : n.size ≤ 1099511627776) :
    Calls Try.prog 31 #[ptr d, .string n] w fun e w' => ∃ S' mv' A', e = .returned (ptr (A' (bs n)).1) ∧ IsA w' d S' { P with fs := ins (bs n) P.fs } mv' A' ∧ Turn S w S' w' := by
  have c1 := h.blk.cell 1
  have f1 := (h.blk.alloc (.map #[] 0)).free 1
  have c2 := (h.blk.alloc (.map #[] 0)).cell 1
  simp [head] at c1 c2
  obtain ⟨ha1, hfs, ht1⟩ := h.mapped
  have hg : get P.fs (bs n) = none := by rw [hfs]; rfl
  have hf : P.fs.length < 4 := by rw [hfs]; decide
  have hnil := fun w => run_eql_map_nil (P := Try.prog) w 54 9 57 none Try.underlying54
  have hmm := @run_makeMap Try.prog
  have HA0 := hide ha1
  have HT0 := hide ht1
  have HN : Hid (n.size ≤ 1099511627776) := hide hn
  have HNM : Hid (n.size ≤ maxLen) := by show n.size ≤ maxLen; unfold maxLen; omega
  have HG := hide hg
  have HF := hide hf
  clear h hn hg hf hfs ha1 ht1
  go_enter Try.func31, Try.ntmps31
  go_upto_region 3 with fail
  obtain ⟨m, hm⟩ : ∃ m, m = w.heap.size := ⟨_, rfl⟩
  rw [← hm] at HA0 HT0 ⊢
  generalize (w.alloc (.map #[] 0)).setCell ⟨d, 1, none⟩ (.map (some m)) = w1 at HA0 HT0 ⊢
  clear c1 f1 c2 hmm hm
  obtain ⟨w0, hw0⟩ : ∃ w0, w0 = w := ⟨_, rfl⟩
  rw [← hw0] at HT0
  have hl := look_any HA0.out.map n HNM.out
  rw [atF_none HG.out] at hl
  have c1 := HA0.out.blk.cell 1
  simp [head] at c1
  have HB := hide HA0.out.blk
  have HO : Hid (w1.ownsMap Try.prog 9 HR m P.fs.length (dat (fun n => (A n).1) P.fs)) := by
    rcases HA0.out.map with ⟨h0, _⟩ | ⟨m', h1, h2, h3⟩
    · cases h0
    · cases h1; exact h3
  obtain ⟨HA, hHA⟩ : ∃ HA : Hid (IsA w1 d _ P (.map (some m)) A), True := ⟨HA0, trivial⟩
  clear HA0 hHA
  go_upto_region 4 with fail
  refine' wp_region_facts [(fun _ _ v _ => v = (.pointer (some ⟨d, 0, none⟩))), (fun _ _ v _ => v = (.pointer (some ⟨d, 0, none⟩))), (fun _ _ v _ => v = (.pointer (some ⟨d, 1, none⟩))), (fun _ _ v _ => v = (.map (some m))), (fun _ _ v _ => v = (.string n)), (fun _ _ v _ => v = (.string n)), (fun _ _ v _ => v = (.agg #[.slice none 0 0, .int .i64 0])), (fun lo _ v w => v = .pointer (some ⟨lo, 0, none⟩) ∧ Blk w lo #[.slice none 0 0, .int .i64 0] 69)] (by kernel_rfl) rfl ?hA (by kernel_rfl) (by kernel_rfl) (by kernel_rfl) rfl ?mono ?steps ?last
  case hA =>
    intro vs
    simp only [puts, Act.put, List.setIfInBounds_toArray, List.set_cons_zero, List.set_cons_succ, Nat.zero_add, Nat.reduceAdd]
    rfl
  case mono => exact ⟨mono_eq _, mono_eq _, mono_eq _, mono_eq _, mono_eq _, mono_eq _, mono_eq _, (fun lo hi v w w' h hb => ⟨h.1, (Ch.of_below (fun _ => False) hb).kept h.2 (fun h => h)⟩), trivial⟩
  case steps =>
    intro Q'
    refine And.intro ?_ ?_
    · intro vs lo hi w' hM hd K' hK
      dsimp only at hK ⊢
      simp only [Act.put, List.setIfInBounds_toArray, List.set_cons_zero, List.set_cons_succ] at hK
      go_simp
      exact hK.out _ _ rfl (Below.refl _ _)
    refine And.intro ?_ ?_
    · intro vs lo hi w' hM hd K' hK
      dsimp only at hK ⊢
      simp only [Act.put, List.setIfInBounds_toArray, List.set_cons_zero, List.set_cons_succ] at hK
      have e0 : vs 0 = (.pointer (some ⟨d, 0, none⟩)) := hd 0 (by kernel_rfl)
      simp only [e0] at hK ⊢
      clear e0
      go_simp
      exact hK.out _ _ rfl (Below.refl _ _)
    refine And.intro ?_ ?_
    · intro vs lo hi w' hM hd K' hK
      dsimp only at hK ⊢
      simp only [Act.put, List.setIfInBounds_toArray, List.set_cons_zero, List.set_cons_succ] at hK
      have e1 : vs 1 = (.pointer (some ⟨d, 0, none⟩)) := hd 1 (by kernel_rfl)
      simp only [e1] at hK ⊢
      clear e1
      go_simp
      exact hK.out _ _ rfl (Below.refl _ _)
    refine And.intro ?_ ?_
    · intro vs lo hi w' hM hd K' hK
      dsimp only at hK ⊢
      simp only [Act.put, List.setIfInBounds_toArray, List.set_cons_zero, List.set_cons_succ] at hK
      have e2 : vs 2 = (.pointer (some ⟨d, 1, none⟩)) := hd 2 (by kernel_rfl)
      simp only [e2] at hK ⊢
      clear e2
      have q1 := (Blk.cell ((Ch.of_below (fun _ => False) hM).kept HB.out (fun h => h)) 1)
      simp [head] at q1
      go_simp
      exact hK.out _ _ rfl (Below.refl _ _)
    refine And.intro ?_ ?_
    · intro vs lo hi w' hM hd K' hK
      dsimp only at hK ⊢
      simp only [Act.put, List.setIfInBounds_toArray, List.set_cons_zero, List.set_cons_succ] at hK
      go_simp
      exact hK.out _ _ rfl (Below.refl _ _)
    refine And.intro ?_ ?_
    · intro vs lo hi w' hM hd K' hK
      dsimp only at hK ⊢
      simp only [Act.put, List.setIfInBounds_toArray, List.set_cons_zero, List.set_cons_succ] at hK
      have e4 : vs 4 = (.string n) := hd 4 (by kernel_rfl)
      simp only [e4] at hK ⊢
      clear e4
      go_simp
      refine (clone_any n _ HN.out).mono ?_
      rintro e w7 ⟨rfl, b7⟩
      exact hK.out _ _ rfl b7
    refine And.intro ?_ ?_
    · intro vs lo hi w' hM hd K' hK
      dsimp only at hK ⊢
      simp only [Act.put, List.setIfInBounds_toArray, List.set_cons_zero, List.set_cons_succ] at hK
      go_simp
      exact hK.out _ _ rfl (Below.refl _ _)
    refine And.intro ?_ ?_
    · intro vs lo hi w' hM hd K' hK
      dsimp only at hK ⊢
      simp only [Act.put, List.setIfInBounds_toArray, List.set_cons_zero, List.set_cons_succ] at hK
      have e6 : vs 6 = (.agg #[.slice none 0 0, .int .i64 0]) := hd 6 (by kernel_rfl)
      simp only [e6] at hK ⊢
      clear e6
      go_simp
      exact hK.out _ _ ⟨rfl, Blk.new _ _ _⟩ (below_alloc _ _)
    exact trivial
  case last =>
    intro vs lo hi w' hM hlo hap hall K' Q' hK
    obtain ⟨_, _, _, e3, _, e5, _, h7, _⟩ := hall
    obtain ⟨e7, HBX⟩ := h7
    have hz7 := (hlo 7 (by decide)).1
    dsimp only
    simp only [e3, e5, e7]
    clear e3 e5 e7 hap hlo
    generalize lo 7 = fb at HBX hz7 ⊢
    obtain ⟨w2, hrun, hown2, hg2⟩ := (HO.out.kept (row := none) ⟨hM.os, hM.tape, hM.output, hM.size, fun k hk _ => hM.block k hk⟩ (by simp)).update lawS Try.underlying54 (by have := HF.out; unfold maxLen; omega) (keyS HNM.out) (show HR (ptr fb) = some (.held (ptr fb), []) from rfl)
    obtain ⟨S', hA, hT⟩ := HA.out.madeNew hM HG.out HF.out HN.out hz7 HBX hown2 hg2
    have HA2 := hide hA
    have HT2 := hide hT
    have q2 := (Blk.cell hA.blk 1)
    simp [head] at q2
    have q3 := look_any hA.map n HNM.out
    rw [atF_some (get_ins_same HG.out)] at q3
    clear hA hT hown2 hg2 HBX
    go_simp
    refine hK.out _ _ ?_
    clear hK hrun
    go_wp2_with fail
    go_ret
    rw [hw0] at HT0
    exact ⟨S', .map (some m), _, by rw [if_pos rfl]; rfl, HA2.out, HT0.out.trans HT2.out⟩

set_option maxHeartbeats 1000000 in
theorem made_any2 (P : PD) (m : Nat) (A : Bs → Nat × Value) (d : Nat) (S : Nat → Prop) (n : ByteArray) (w : World) (h : IsA w d S P (.map (some m)) A) (hn : n.size ≤ 1099511627776) (f : PF) (hg : get P.fs (bs n) = some f) :
    Calls Try.prog 31 #[ptr d, .string n] w fun e w' => e = .returned (ptr (A (bs n)).1) ∧ w' = w := by
  have c1 := h.blk.cell 1
  simp [head] at c1
  have hl := look_any h.map n (by unfold maxLen; omega)
  rw [atF_some hg] at hl
  have hnil := fun w => run_eql_map_nil (P := Try.prog) w 54 9 57 (some m) Try.underlying54
  clear h hn hg
  go_enter Try.func31, Try.ntmps31
  go_wp2_with fail
  go_ret
  exact ⟨rfl, rfl⟩

theorem made_any (P : PD) (mv : Value) (A : Bs → Nat × Value) (d : Nat) (S : Nat → Prop) (n : ByteArray) (w : World) (h : IsA w d S P mv A) (hn : n.size ≤ 1099511627776) (hf : get P.fs (bs n) = none → P.fs.length < 4) :
    Calls Try.prog 31 #[ptr d, .string n] w fun e w' => ∃ S' mv' A', e = .returned (ptr (A' (bs n)).1) ∧ IsA w' d S' { P with fs := made (bs n) P.fs } mv' A' ∧ Turn S w S' w' := by
  rcases id h.map with ⟨rfl, hfs⟩ | ⟨m, rfl, _⟩
  · refine (made_any1 P A d S n w h hn).mono ?_
    rintro e w' ⟨S', mv', A', h1, h2, h3⟩
    refine ⟨S', mv', A', h1, ?_, h3⟩
    rw [get_made_none (by rw [hfs]; rfl)]; exact h2
  · cases hg : get P.fs (bs n) with
    | none =>
      refine (made_any0 P m A d S n w h hn hg (hf hg)).mono ?_
      rintro e w' ⟨S', A', h1, h2, h3⟩
      refine ⟨S', .map (some m), A', h1, ?_, h3⟩
      rw [get_made_none hg]; exact h2
    | some f =>
      refine (made_any2 P m A d S n w h hn f hg).mono ?_
      rintro e w' ⟨h1, rfl⟩
      refine ⟨S, .map (some m), A, h1, ?_, Turn.refl _ _⟩
      rw [get_made_some hg]; exact h
end Go.Proofs.Ytmbjlnnoemenoaa
