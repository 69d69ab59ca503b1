/-
  THE WALK of disk's Append (layer 9).
-/
import Derived.Test.YtmbjlnnoemenoaaKMade
set_option linter.unusedVariables false
set_option linter.unusedSimpArgs false
set_option maxRecDepth 100000
namespace Go.Proofs.Ytmbjlnnoemenoaa
open Go.RowKit Go.Maps Dk

theorem append_dead {P : PD} {n b : Bs} (h : P.dead = true) : append P n b = (21, P) := by unfold Dk.append; simp [h]
theorem append_arg {P : PD} {n b : Bs} (h : P.dead = false) (h1 : n = [] ∨ (get P.fs n = none ∧ 4 ≤ P.fs.length)) : append P n b = (1, P) := by
  unfold Dk.append; rw [if_neg (by simp [h]), if_pos h1]
theorem append_full {P : PD} {n b : Bs} (h : P.dead = false) (h1 : ¬ (n = [] ∨ (get P.fs n = none ∧ 4 ≤ P.fs.length))) (h2 : P.room < used P.fs + b.length) : append P n b = (20, P) := by
  unfold Dk.append; rw [if_neg (by simp [h]), if_neg h1, if_pos h2]
theorem append_done {P : PD} {n b : Bs} {f : PF} (h : P.dead = false) (h1 : ¬ (n = [] ∨ (get P.fs n = none ∧ 4 ≤ P.fs.length))) (h2 : ¬ P.room < used P.fs + b.length) (hg : get (made n P.fs) n = some f) :
    append P n b = (if steps P b.length < b.length then 21 else 0, { gone P b.length with fs := upd n ⟨f.all ++ b.take (steps P b.length), f.last⟩ (made n P.fs) }) := by
  unfold Dk.append; rw [if_neg (by simp [h]), if_neg h1, if_neg h2, hg]

theorem len_any {w : World} {S : Nat → Prop} {mv : Value} {A : Bs → Nat} {fs : List (Bs × PF)} (h : MapAt w S mv A fs) (ty : TypeId) :
    (Builtin.len_ #[54] ty #[mv]).run Try.prog w = .ok (.int .i64 (fs.length : Int)) w := by
  rcases h with ⟨rfl, rfl⟩ | ⟨m, rfl, _, ho⟩
  · exact Maps.len_nil Try.underlying54 ty
  · rw [ho.len Try.underlying54 ty]; simp [Maps.size_eq, ents]

set_option maxHeartbeats 4000000 in
theorem append_any (P : PD) (mv : Value) (A : Bs → Nat × Value) (d : Nat) (S : Nat → Prop) (n b : ByteArray) (w : World) (h : IsA w d S P mv A) (hn : n.size ≤ 1099511627776) :
    Calls Try.prog 16 #[ptr d, .string n, .string b] w fun e w' => e = .returned (.int .u16 ((append P (bs n) (bs b)).1 : Nat)) ∧ ∃ S', IsD w' d S' (append P (bs n) (bs b)).2 ∧ Turn S w S' w' := by
  have c1 := h.blk.cell 1
  simp [head] at c1
  have hl := look_any h.map n (by unfold maxLen; omega)
  have hlen := fun ty => len_any h.map ty
  have HLB : Hid ((bs b).length = b.size) := hide Array.length_toList
  have HN := hide hn
  have HA := hide h
  have HWR : Hid (IntKind.i64.wrap ((P.room : Int) - used P.fs) = (P.room : Int) - used P.fs) := by
    show IntKind.i64.wrap ((P.room : Int) - used P.fs) = (P.room : Int) - used P.fs
    have h1 := h.wf.used
    have h2 := h.wf.room
    rw [IntKind.wrap_i64]; omega
  clear h hn
  cases hd : P.dead with
  | true =>
    have HD := hide hd
    clear hd
    go_enter Try.func16, Try.ntmps16
    go_wp2_with fail
    refine (dead_any P mv d w HA.out.blk).mono ?_
    rintro e w ⟨rfl, rfl⟩
    rw [HD.out]
    go_wp2_with fail
    go_ret
    rw [append_dead HD.out]
    exact ⟨rfl, S, ⟨mv, A, HA.out⟩, Turn.refl _ _⟩
  | false =>
    have HDD := hide hd
    clear hd
    by_cases hne : bs n = []
    · have hemp : n.toList.isEmpty = true := by rw [Lib.toList_data]; simp [hne]
      have HE := hide hne
      clear hne
      go_enter Try.func16, Try.ntmps16
      go_wp2_with fail
      refine (dead_any P mv d w HA.out.blk).mono ?_
      rintro e w ⟨rfl, rfl⟩
      rw [HDD.out]
      go_wp2_with fail
      go_ret
      rw [append_arg HDD.out (.inl HE.out)]
      exact ⟨rfl, S, ⟨mv, A, HA.out⟩, Turn.refl _ _⟩
    · have hemp : n.toList.isEmpty = false := by rw [Lib.toList_data]; simpa using hne
      cases hg : get P.fs (bs n) with
      | none =>
        rw [atF_none hg] at hl
        by_cases hfour : 4 ≤ P.fs.length
        · have h4 : (4 : Int) ≤ P.fs.length := by omega
          have HE := hide (show bs n = [] ∨ (get P.fs (bs n) = none ∧ 4 ≤ P.fs.length) from .inr ⟨hg, hfour⟩)
          clear hne hg hfour
          go_enter Try.func16, Try.ntmps16
          go_wp2_with fail
          refine (dead_any P mv d w HA.out.blk).mono ?_
          rintro e w ⟨rfl, rfl⟩
          rw [HDD.out]
          go_wp2_with fail
          go_ret
          rw [append_arg HDD.out HE.out]
          exact ⟨rfl, S, ⟨mv, A, HA.out⟩, Turn.refl _ _⟩
        · have h4 : ¬ (4 : Int) ≤ P.fs.length := by omega
          have HOK := hide (show ¬ (bs n = [] ∨ (get P.fs (bs n) = none ∧ 4 ≤ P.fs.length)) from fun hh => by rcases hh with hh | ⟨_, hh⟩; exact hne hh; exact hfour hh)
          have HFEW : Hid (get P.fs (bs n) = none → P.fs.length < 4) := hide (fun _ => by omega)
          clear hne hg hfour
          go_enter Try.func16, Try.ntmps16
          go_wp2_with fail
          refine (dead_any P mv d w HA.out.blk).mono ?_
          rintro e w ⟨rfl, rfl⟩
          rw [HDD.out]
          go_upto_region 5 with fail
          refine' wp_region_facts [(fun _ _ v _ => v = (.string b)), (fun _ _ v _ => v = (.int .i64 (b.size : Int))), (fun _ _ v _ => v = (.pointer (some ⟨d, 0, none⟩))), (fun _ _ v _ => v = (.pointer (some ⟨d, 0, none⟩))), (fun _ _ v _ => v = (.pointer (some ⟨d, 0, none⟩))), (fun _ _ v _ => v = (.int .i64 (P.room : Int))), (fun _ _ v _ => v = (.pointer (some ⟨d, 0, none⟩))), (fun _ _ v _ => v = (.int .i64 (used P.fs : Int))), (fun _ _ v _ => v = (.int .i64 ((P.room : Int) - used P.fs))), (fun _ _ v _ => v = (.bool (decide ((P.room : Int) - used P.fs < (b.size : Int)))))] (by kernel_rfl) rfl ?hA (by kernel_rfl) (by kernel_rfl) (by kernel_rfl) rfl ?mono ?steps ?last
          case hA =>
            intro vs
            simp only [puts, Act.put, List.setIfInBounds_toArray, List.set_cons_zero, List.set_cons_succ, Nat.zero_add, Nat.reduceAdd]
            rfl
          case mono => exact ⟨mono_eq _, mono_eq _, mono_eq _, mono_eq _, mono_eq _, mono_eq _, mono_eq _, mono_eq _, mono_eq _, mono_eq _, trivial⟩
          case steps =>
            intro Q'
            refine And.intro ?_ ?_
            · intro vs lo hi w' hM hd K' hK
              dsimp only at hK ⊢
              simp only [Act.put, List.setIfInBounds_toArray, List.set_cons_zero, List.set_cons_succ] at hK
              go_simp
              exact hK.out _ _ rfl (Below.refl _ _)
            refine And.intro ?_ ?_
            · intro vs lo hi w' hM hd K' hK
              dsimp only at hK ⊢
              simp only [Act.put, List.setIfInBounds_toArray, List.set_cons_zero, List.set_cons_succ] at hK
              have e0 : vs 0 = (.string b) := hd 0 (by kernel_rfl)
              simp only [e0] at hK ⊢
              clear e0
              go_simp
              exact hK.out _ _ rfl (Below.refl _ _)
            refine And.intro ?_ ?_
            · intro vs lo hi w' hM hd K' hK
              dsimp only at hK ⊢
              simp only [Act.put, List.setIfInBounds_toArray, List.set_cons_zero, List.set_cons_succ] at hK
              go_simp
              exact hK.out _ _ rfl (Below.refl _ _)
            refine And.intro ?_ ?_
            · intro vs lo hi w' hM hd K' hK
              dsimp only at hK ⊢
              simp only [Act.put, List.setIfInBounds_toArray, List.set_cons_zero, List.set_cons_succ] at hK
              have e2 : vs 2 = (.pointer (some ⟨d, 0, none⟩)) := hd 2 (by kernel_rfl)
              simp only [e2] at hK ⊢
              clear e2
              go_simp
              exact hK.out _ _ rfl (Below.refl _ _)
            refine And.intro ?_ ?_
            · intro vs lo hi w' hM hd K' hK
              dsimp only at hK ⊢
              simp only [Act.put, List.setIfInBounds_toArray, List.set_cons_zero, List.set_cons_succ] at hK
              have e3 : vs 3 = (.pointer (some ⟨d, 0, none⟩)) := hd 3 (by kernel_rfl)
              simp only [e3] at hK ⊢
              clear e3
              go_simp
              exact hK.out _ _ rfl (Below.refl _ _)
            refine And.intro ?_ ?_
            · intro vs lo hi w' hM hd K' hK
              dsimp only at hK ⊢
              simp only [Act.put, List.setIfInBounds_toArray, List.set_cons_zero, List.set_cons_succ] at hK
              have e4 : vs 4 = (.pointer (some ⟨d, 0, none⟩)) := hd 4 (by kernel_rfl)
              simp only [e4] at hK ⊢
              clear e4
              have q1 := (Blk.cell ((Ch.of_below (fun _ => False) hM).kept HA.out.blk (fun h => h)) 0)
              simp [head] at q1
              go_simp
              exact hK.out _ _ rfl (Below.refl _ _)
            refine And.intro ?_ ?_
            · intro vs lo hi w' hM hd K' hK
              dsimp only at hK ⊢
              simp only [Act.put, List.setIfInBounds_toArray, List.set_cons_zero, List.set_cons_succ] at hK
              go_simp
              exact hK.out _ _ rfl (Below.refl _ _)
            refine And.intro ?_ ?_
            · intro vs lo hi w' hM hd K' hK
              dsimp only at hK ⊢
              simp only [Act.put, List.setIfInBounds_toArray, List.set_cons_zero, List.set_cons_succ] at hK
              have e6 : vs 6 = (.pointer (some ⟨d, 0, none⟩)) := hd 6 (by kernel_rfl)
              simp only [e6] at hK ⊢
              clear e6
              go_simp
              refine (used_any P d S _ ⟨mv, A, HA.out.below hM⟩).mono ?_
              rintro e w7 ⟨rfl, b7⟩
              exact hK.out _ _ rfl b7
            refine And.intro ?_ ?_
            · intro vs lo hi w' hM hd K' hK
              dsimp only at hK ⊢
              simp only [Act.put, List.setIfInBounds_toArray, List.set_cons_zero, List.set_cons_succ] at hK
              have e5 : vs 5 = (.int .i64 (P.room : Int)) := hd 5 (by kernel_rfl)
              have e7 : vs 7 = (.int .i64 (used P.fs : Int)) := hd 7 (by kernel_rfl)
              simp only [e5, e7] at hK ⊢
              clear e5 e7
              have hw := HWR.out
              go_simp
              exact hK.out _ _ rfl (Below.refl _ _)
            refine And.intro ?_ ?_
            · intro vs lo hi w' hM hd K' hK
              dsimp only at hK ⊢
              simp only [Act.put, List.setIfInBounds_toArray, List.set_cons_zero, List.set_cons_succ] at hK
              have e1 : vs 1 = (.int .i64 (b.size : Int)) := hd 1 (by kernel_rfl)
              have e8 : vs 8 = (.int .i64 ((P.room : Int) - used P.fs)) := hd 8 (by kernel_rfl)
              simp only [e1, e8] at hK ⊢
              clear e1 e8
              go_simp
              exact hK.out _ _ rfl (Below.refl _ _)
            exact trivial
          case last =>
            intro vs lo hi w' hM hlo hap hall K' Q' hK
            obtain ⟨_, _, _, _, _, _, _, _, _, e9, _⟩ := hall
            dsimp only
            simp only [e9]
            clear e9 hap hlo
            go_simp
            refine hK.out _ _ ?_
            clear hK
            have HB5 := hide hM
            have HA5 := hide (HA.out.below hM)
            clear hM
            rename_i w5
            by_cases hfull : (P.room : Int) - used P.fs < (b.size : Int)
            · go_wp2_with fail
              go_ret
              refine ⟨?_, S, ⟨mv, A, ?_⟩, Turn.of_below HB5.out⟩
              · rw [append_full HDD.out HOK.out (by have h1 := hfull; have h2 := HLB.out; omega)]; rfl
              · rw [append_full HDD.out HOK.out (by have h1 := hfull; have h2 := HLB.out; omega)]; exact HA5.out
            · have hroom : used P.fs + b.size ≤ P.room := by omega
              have HRM := hide hroom
              have HW := hide HA.out.wf
              clear hroom
              go_wp2_with fail
              refine (made_any P mv A d S n _ HA5.out HN.out HFEW.out).mono ?_
              rintro e w6 ⟨S6, mv6, A6, rfl, hA6, hT6⟩
              obtain ⟨f, hgf⟩ := get_made (n := bs n) P.fs
              obtain ⟨f1, f2, f3, f4⟩ := hA6.file _ (get_mem hgf)
              have hfl : f.all.length + b.size ≤ 4194304 := by
                have h1 := get_used hgf
                rw [used_made] at h1
                have h2 := HRM.out
                have h3 := HW.out.room
                omega
              obtain ⟨ok, hok⟩ : ∃ ok, ok = decide (steps P b.size = b.size) := ⟨_, rfl⟩
              have HF2 := hide f2
              have HF3 := hide f3
              have HG := hide hgf
              have HA6 := hide hA6
              have HT6 := hide hT6
              have HO := hide hok
              have HFL := hide hfl
              clear f1 f2 f3 f4 hgf hA6 hT6 hok hfl
              go_wp2_with fail
              refine (fput_any { P with fs := made (bs n) P.fs } mv6 d f (A6 (bs n)).2 (A6 (bs n)).1 b w6 HA6.out.blk HDD.out HW.out.left HF2.out HF3.out HFL.out).mono ?_
              rintro e w8 ⟨rfl, hd8, v8, hb8, hr8, hv8, hc8⟩
              rw [show decide (steps { P with fs := made (bs n) P.fs } b.size = b.size) = ok from HO.out.symm]
              have HD8 := hide hd8
              have HB8 := hide hb8
              have HR8 := hide hr8
              have HV8 := hide hv8
              have HC8 := hide hc8
              clear hd8 hb8 hr8 hv8 hc8
              go_wp2_with fail
              refine (told_any ok _).mono ?_
              rintro e w9 ⟨rfl, hw9⟩
              subst hw9
              obtain ⟨z, hz⟩ : ∃ z : Int, z = if ok = true then 0 else 21 := ⟨_, rfl⟩
              rw [← hz]
              have HZ := hide hz
              clear hz
              go_wp2_with fail
              go_ret
              have happ := append_done (b := bs b) HDD.out HOK.out (by have h1 := HRM.out; have h2 := HLB.out; omega) HG.out
              have hlb : (bs b).length = b.size := HLB.out
              rw [hlb] at happ
              obtain ⟨S9, hA9, hT9⟩ := HA6.out.filed (P' := { gone P b.size with fs := upd (bs n) ⟨f.all ++ (bs b).take (steps P b.size), f.last⟩ (made (bs n) P.fs) }) (f' := ⟨f.all ++ (bs b).take (steps P b.size), f.last⟩) HG.out HC8.out rfl rfl
                (by have := HW.out.left; simp only [gone]; split <;> omega)
                (by
                  have h1 := used_upd (f := ⟨f.all ++ (bs b).take (steps P b.size), f.last⟩) HG.out
                  rw [used_made] at h1
                  have h2 := HRM.out
                  have h3 : (f.all ++ (bs b).take (steps P b.size)).length ≤ f.all.length + b.size := by rw [List.length_append, List.length_take]; have := steps_le P b.size; omega
                  simp only at h1 ⊢
                  omega)
                (by have h1 := HA6.out.wf.last _ (get_mem HG.out); show f.last ≤ (f.all ++ _).length; rw [List.length_append]; simp only at h1; omega)
                HD8.out HB8.out HR8.out (by
                  rcases HV8.out with h | h
                  · exact .inl h
                  · exact .inr (.inr h))
              have hD9 : IsD w9 d S9 _ := ⟨_, _, hA9⟩
              refine ⟨?_, S9, ?_, ((Turn.of_below HB5.out).trans HT6.out).trans hT9⟩
              · rw [happ]
                have hzz : z = if steps P b.size < b.size then 21 else 0 := by
                  rw [HZ.out, HO.out]
                  have := steps_le P b.size
                  by_cases h : steps P b.size = b.size
                  · have h' : ¬ steps P b.size < b.size := by omega
                    simp [h]
                  · have h' : steps P b.size < b.size := by omega
                    simp [h, h']
                rw [hzz]
                show Ending.returned (Value.int .u16 _) = Ending.returned (Value.int .u16 _)
                split <;> rfl
              · rw [happ]; exact hD9
      | some f0 =>
        rw [atF_some hg] at hl
        have HOK := hide (show ¬ (bs n = [] ∨ (get P.fs (bs n) = none ∧ 4 ≤ P.fs.length)) from fun hh => by rcases hh with hh | ⟨hh, _⟩; exact hne hh; rw [hg] at hh; cases hh)
        have HFEW : Hid (get P.fs (bs n) = none → P.fs.length < 4) := hide (fun hh => by rw [hg] at hh; cases hh)
        clear hne hg
        go_enter Try.func16, Try.ntmps16
        go_wp2_with fail
        refine (dead_any P mv d w HA.out.blk).mono ?_
        rintro e w ⟨rfl, rfl⟩
        rw [HDD.out]
        go_upto_region 5 with fail
        refine' wp_region_facts [(fun _ _ v _ => v = (.string b)), (fun _ _ v _ => v = (.int .i64 (b.size : Int))), (fun _ _ v _ => v = (.pointer (some ⟨d, 0, none⟩))), (fun _ _ v _ => v = (.pointer (some ⟨d, 0, none⟩))), (fun _ _ v _ => v = (.pointer (some ⟨d, 0, none⟩))), (fun _ _ v _ => v = (.int .i64 (P.room : Int))), (fun _ _ v _ => v = (.pointer (some ⟨d, 0, none⟩))), (fun _ _ v _ => v = (.int .i64 (used P.fs : Int))), (fun _ _ v _ => v = (.int .i64 ((P.room : Int) - used P.fs))), (fun _ _ v _ => v = (.bool (decide ((P.room : Int) - used P.fs < (b.size : Int)))))] (by kernel_rfl) rfl ?hA (by kernel_rfl) (by kernel_rfl) (by kernel_rfl) rfl ?mono ?steps ?last
        case hA =>
          intro vs
          simp only [puts, Act.put, List.setIfInBounds_toArray, List.set_cons_zero, List.set_cons_succ, Nat.zero_add, Nat.reduceAdd]
          rfl
        case mono => exact ⟨mono_eq _, mono_eq _, mono_eq _, mono_eq _, mono_eq _, mono_eq _, mono_eq _, mono_eq _, mono_eq _, mono_eq _, trivial⟩
        case steps =>
          intro Q'
          refine And.intro ?_ ?_
          · intro vs lo hi w' hM hd K' hK
            dsimp only at hK ⊢
            simp only [Act.put, List.setIfInBounds_toArray, List.set_cons_zero, List.set_cons_succ] at hK
            go_simp
            exact hK.out _ _ rfl (Below.refl _ _)
          refine And.intro ?_ ?_
          · intro vs lo hi w' hM hd K' hK
            dsimp only at hK ⊢
            simp only [Act.put, List.setIfInBounds_toArray, List.set_cons_zero, List.set_cons_succ] at hK
            have e0 : vs 0 = (.string b) := hd 0 (by kernel_rfl)
            simp only [e0] at hK ⊢
            clear e0
            go_simp
            exact hK.out _ _ rfl (Below.refl _ _)
          refine And.intro ?_ ?_
          · intro vs lo hi w' hM hd K' hK
            dsimp only at hK ⊢
            simp only [Act.put, List.setIfInBounds_toArray, List.set_cons_zero, List.set_cons_succ] at hK
            go_simp
            exact hK.out _ _ rfl (Below.refl _ _)
          refine And.intro ?_ ?_
          · intro vs lo hi w' hM hd K' hK
            dsimp only at hK ⊢
            simp only [Act.put, List.setIfInBounds_toArray, List.set_cons_zero, List.set_cons_succ] at hK
            have e2 : vs 2 = (.pointer (some ⟨d, 0, none⟩)) := hd 2 (by kernel_rfl)
            simp only [e2] at hK ⊢
            clear e2
            go_simp
            exact hK.out _ _ rfl (Below.refl _ _)
          refine And.intro ?_ ?_
          · intro vs lo hi w' hM hd K' hK
            dsimp only at hK ⊢
            simp only [Act.put, List.setIfInBounds_toArray, List.set_cons_zero, List.set_cons_succ] at hK
            have e3 : vs 3 = (.pointer (some ⟨d, 0, none⟩)) := hd 3 (by kernel_rfl)
            simp only [e3] at hK ⊢
            clear e3
            go_simp
            exact hK.out _ _ rfl (Below.refl _ _)
          refine And.intro ?_ ?_
          · intro vs lo hi w' hM hd K' hK
            dsimp only at hK ⊢
            simp only [Act.put, List.setIfInBounds_toArray, List.set_cons_zero, List.set_cons_succ] at hK
            have e4 : vs 4 = (.pointer (some ⟨d, 0, none⟩)) := hd 4 (by kernel_rfl)
            simp only [e4] at hK ⊢
            clear e4
            have q1 := (Blk.cell ((Ch.of_below (fun _ => False) hM).kept HA.out.blk (fun h => h)) 0)
            simp [head] at q1
            go_simp
            exact hK.out _ _ rfl (Below.refl _ _)
          refine And.intro ?_ ?_
          · intro vs lo hi w' hM hd K' hK
            dsimp only at hK ⊢
            simp only [Act.put, List.setIfInBounds_toArray, List.set_cons_zero, List.set_cons_succ] at hK
            go_simp
            exact hK.out _ _ rfl (Below.refl _ _)
          refine And.intro ?_ ?_
          · intro vs lo hi w' hM hd K' hK
            dsimp only at hK ⊢
            simp only [Act.put, List.setIfInBounds_toArray, List.set_cons_zero, List.set_cons_succ] at hK
            have e6 : vs 6 = (.pointer (some ⟨d, 0, none⟩)) := hd 6 (by kernel_rfl)
            simp only [e6] at hK ⊢
            clear e6
            go_simp
            refine (used_any P d S _ ⟨mv, A, HA.out.below hM⟩).mono ?_
            rintro e w7 ⟨rfl, b7⟩
            exact hK.out _ _ rfl b7
          refine And.intro ?_ ?_
          · intro vs lo hi w' hM hd K' hK
            dsimp only at hK ⊢
            simp only [Act.put, List.setIfInBounds_toArray, List.set_cons_zero, List.set_cons_succ] at hK
            have e5 : vs 5 = (.int .i64 (P.room : Int)) := hd 5 (by kernel_rfl)
            have e7 : vs 7 = (.int .i64 (used P.fs : Int)) := hd 7 (by kernel_rfl)
            simp only [e5, e7] at hK ⊢
            clear e5 e7
            have hw := HWR.out
            go_simp
            exact hK.out _ _ rfl (Below.refl _ _)
          refine And.intro ?_ ?_
          · intro vs lo hi w' hM hd K' hK
            dsimp only at hK ⊢
            simp only [Act.put, List.setIfInBounds_toArray, List.set_cons_zero, List.set_cons_succ] at hK
            have e1 : vs 1 = (.int .i64 (b.size : Int)) := hd 1 (by kernel_rfl)
            have e8 : vs 8 = (.int .i64 ((P.room : Int) - used P.fs)) := hd 8 (by kernel_rfl)
            simp only [e1, e8] at hK ⊢
            clear e1 e8
            go_simp
            exact hK.out _ _ rfl (Below.refl _ _)
          exact trivial
        case last =>
          intro vs lo hi w' hM hlo hap hall K' Q' hK
          obtain ⟨_, _, _, _, _, _, _, _, _, e9, _⟩ := hall
          dsimp only
          simp only [e9]
          clear e9 hap hlo
          go_simp
          refine hK.out _ _ ?_
          clear hK
          have HB5 := hide hM
          have HA5 := hide (HA.out.below hM)
          clear hM
          rename_i w5
          by_cases hfull : (P.room : Int) - used P.fs < (b.size : Int)
          · go_wp2_with fail
            go_ret
            refine ⟨?_, S, ⟨mv, A, ?_⟩, Turn.of_below HB5.out⟩
            · rw [append_full HDD.out HOK.out (by have h1 := hfull; have h2 := HLB.out; omega)]; rfl
            · rw [append_full HDD.out HOK.out (by have h1 := hfull; have h2 := HLB.out; omega)]; exact HA5.out
          · have hroom : used P.fs + b.size ≤ P.room := by omega
            have HRM := hide hroom
            have HW := hide HA.out.wf
            clear hroom
            go_wp2_with fail
            refine (made_any P mv A d S n _ HA5.out HN.out HFEW.out).mono ?_
            rintro e w6 ⟨S6, mv6, A6, rfl, hA6, hT6⟩
            obtain ⟨f, hgf⟩ := get_made (n := bs n) P.fs
            obtain ⟨f1, f2, f3, f4⟩ := hA6.file _ (get_mem hgf)
            have hfl : f.all.length + b.size ≤ 4194304 := by
              have h1 := get_used hgf
              rw [used_made] at h1
              have h2 := HRM.out
              have h3 := HW.out.room
              omega
            obtain ⟨ok, hok⟩ : ∃ ok, ok = decide (steps P b.size = b.size) := ⟨_, rfl⟩
            have HF2 := hide f2
            have HF3 := hide f3
            have HG := hide hgf
            have HA6 := hide hA6
            have HT6 := hide hT6
            have HO := hide hok
            have HFL := hide hfl
            clear f1 f2 f3 f4 hgf hA6 hT6 hok hfl
            go_wp2_with fail
            refine (fput_any { P with fs := made (bs n) P.fs } mv6 d f (A6 (bs n)).2 (A6 (bs n)).1 b w6 HA6.out.blk HDD.out HW.out.left HF2.out HF3.out HFL.out).mono ?_
            rintro e w8 ⟨rfl, hd8, v8, hb8, hr8, hv8, hc8⟩
            rw [show decide (steps { P with fs := made (bs n) P.fs } b.size = b.size) = ok from HO.out.symm]
            have HD8 := hide hd8
            have HB8 := hide hb8
            have HR8 := hide hr8
            have HV8 := hide hv8
            have HC8 := hide hc8
            clear hd8 hb8 hr8 hv8 hc8
            go_wp2_with fail
            refine (told_any ok _).mono ?_
            rintro e w9 ⟨rfl, hw9⟩
            subst hw9
            obtain ⟨z, hz⟩ : ∃ z : Int, z = if ok = true then 0 else 21 := ⟨_, rfl⟩
            rw [← hz]
            have HZ := hide hz
            clear hz
            go_wp2_with fail
            go_ret
            have happ := append_done (b := bs b) HDD.out HOK.out (by have h1 := HRM.out; have h2 := HLB.out; omega) HG.out
            have hlb : (bs b).length = b.size := HLB.out
            rw [hlb] at happ
            obtain ⟨S9, hA9, hT9⟩ := HA6.out.filed (P' := { gone P b.size with fs := upd (bs n) ⟨f.all ++ (bs b).take (steps P b.size), f.last⟩ (made (bs n) P.fs) }) (f' := ⟨f.all ++ (bs b).take (steps P b.size), f.last⟩) HG.out HC8.out rfl rfl
              (by have := HW.out.left; simp only [gone]; split <;> omega)
              (by
                have h1 := used_upd (f := ⟨f.all ++ (bs b).take (steps P b.size), f.last⟩) HG.out
                rw [used_made] at h1
                have h2 := HRM.out
                have h3 : (f.all ++ (bs b).take (steps P b.size)).length ≤ f.all.length + b.size := by rw [List.length_append, List.length_take]; have := steps_le P b.size; omega
                simp only at h1 ⊢
                omega)
              (by have h1 := HA6.out.wf.last _ (get_mem HG.out); show f.last ≤ (f.all ++ _).length; rw [List.length_append]; simp only at h1; omega)
              HD8.out HB8.out HR8.out (by
                rcases HV8.out with h | h
                · exact .inl h
                · exact .inr (.inr h))
            have hD9 : IsD w9 d S9 _ := ⟨_, _, hA9⟩
            refine ⟨?_, S9, ?_, ((Turn.of_below HB5.out).trans HT6.out).trans hT9⟩
            · rw [happ]
              have hzz : z = if steps P b.size < b.size then 21 else 0 := by
                rw [HZ.out, HO.out]
                have := steps_le P b.size
                by_cases h : steps P b.size = b.size
                · have h' : ¬ steps P b.size < b.size := by omega
                  simp [h]
                · have h' : steps P b.size < b.size := by omega
                  simp [h, h']
              rw [hzz]
              show Ending.returned (Value.int .u16 _) = Ending.returned (Value.int .u16 _)
              split <;> rfl
            · rw [happ]; exact hD9
end Go.Proofs.Ytmbjlnnoemenoaa
