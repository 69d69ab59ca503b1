/-
  What this claim takes of the earlier layers' texts: RefV.
-/
import Derived.Test.YtapcmbbhhclepaaGreatDoorQ9
import Derived.Deep.DeepCutAuto
import Derived.BigQuiet
import Derived.Deep.QuietTactic
import Derived.Lib.QuietBelow
set_option linter.unusedVariables false
set_option linter.unusedSimpArgs false
set_option maxRecDepth 100000
namespace Go.Proofs.YtapcmbbhhclepaaGreatDoor
open Go.RowKit Go.Sort
theorem bytes_eq {t t' : ByteArray} (h : t.toList = t'.toList) : t = t' := by
  rw [Lib.toList_data, Lib.toList_data] at h
  exact ByteArray.ext (Array.ext' h)
namespace V
theorem take_eq_succ {α : Type} {l l' : List α} {j : Nat} (h : l.take j = l'.take j) (h1 : j < l.length) (h2 : j < l'.length) (he : l[j] = l'[j]) : l.take (j + 1) = l'.take (j + 1) := by
  rw [List.take_succ_eq_append_getElem h1, List.take_succ_eq_append_getElem h2, h, he]
end V
set_option maxHeartbeats 1000000 in
set_option maxRecDepth 100000 in
theorem refStrings_any {a a' : Option Addr} {n n' c c' : Nat} {ks ks' : List ByteArray} {w : World} {S S' : Nat → Prop} (h : Strs w S (.slice a n c) ks) (h' : Strs w S' (.slice a' n' c') ks') (hw : ks.length ≤ 4294967296) (q : Bool) (hq : q = true ↔ ks = ks') :
    Calls Tryz.prog 48 #[.slice a n c, .slice a' n' c'] w fun e w' => e = .returned (.bool q) ∧ Below w.heap.size w w' := by
  obtain ⟨rfl, _, _, _, hcell⟩ := h.out
  obtain ⟨rfl, _, _, _, hcell'⟩ := h'.out
  have HC := hide hcell
  have HC' := hide hcell'
  have HQ := hide hq
  clear hcell hcell' hq h h'
  by_cases hll : ks.length = ks'.length
  · have t1 : (ks.length == ks'.length) = true := by simp [hll]
    have HLL := hide hll
    rw [← hll]
    clear t1
    have hln : ∀ j, j < ks.length → j < ks'.length := fun j hj => by rw [← hll]; exact hj
    clear hll
    go_enter Tryz.func48, Tryz.ntmps48
    go_wp2_with fail
    go_loopg [5] ks.length (fun g i wr => ∃ j : Nat, j + g = ks.length ∧ i = .int .i64 j ∧ Hid (ks.take j = ks'.take j) ∧ Hid (Below w.heap.size w wr))
    case atStart => exact ⟨0, by omega, rfl, rfl, Below.refl _ _⟩
    case round =>
      obtain ⟨j, hj, rfl, HT, HBJ⟩ := hrel
      by_cases hlt : j < ks.length
      · obtain ⟨b, off, K, rfl, hK, ej⟩ := str_at' HC.out HBJ.out hlt
        obtain ⟨b', off', K', rfl, hK', ej'⟩ := str_at' HC'.out HBJ.out (hln j hlt)
        have e1 : ks.getD j ByteArray.empty = ks[j] := by simp [List.getD, hlt]
        have e2 : ks'.getD j ByteArray.empty = ks'[j]'(hln j hlt) := by simp [List.getD, hln j hlt]
        have HE1 := hide (hK.out.trans e1)
        have HE2 := hide (hK'.out.trans e2)
        clear e1 e2
        cases hkk : (K.toList == K'.toList) with
        | true =>
          have e3 : K.toList = K'.toList := by simpa using hkk
          have e4 : K = K' := bytes_eq e3
          have HE4 := hide e4
          clear e3 e4
          go_wp2_with fail
          go_quiet (fail)
          go_wp2_with fail
          go_roundg (gk - 1)
          case measure => omega
          case rel => exact ⟨j + 1, by omega, rfl, V.take_eq_succ HT.out hlt (hln j hlt) (by rw [← HE1.out, ← HE2.out, HE4.out]), below_drewN HBJ.out _⟩
        | false =>
          have e3 : ¬ K.toList = K'.toList := by simpa using hkk
          go_wp2_with fail
          go_quiet (fail)
          go_wp2_with fail
          go_ret
          refine ⟨?_, below_drewN HBJ.out _⟩
          have : q = false := by
            cases q with
            | false => rfl
            | true =>
              have h1 := HQ.out.1 rfl
              subst h1
              exact absurd (by rw [HE1.out, HE2.out]) e3
          rw [this]
          rfl
      · have hje : j = ks.length := by omega
        go_wp2_with fail
        go_ret
        refine ⟨?_, HBJ.out⟩
        have : q = true := by
          refine HQ.out.2 ?_
          have := HT.out
          rw [hje, List.take_length, HLL.out, List.take_length] at this
          exact this
        rw [this]
        rfl
  · have t1 : (ks.length == ks'.length) = false := by simp [hll]
    go_enter Tryz.func48, Tryz.ntmps48
    go_wp2_with fail
    go_ret
    refine ⟨?_, Below.refl _ _⟩
    have : q = false := by
      cases q with
      | false => rfl
      | true => exact absurd (congrArg List.length (HQ.out.1 rfl)) hll
    rw [this]
    rfl
set_option maxHeartbeats 4000000 in
set_option maxRecDepth 100000 in
theorem refSameD (d : Nat) : ∀ (va vb : Value) (x y : V) (w : World) (S S' : Nat → Prop) (q : Bool), IsD w S d va x → Is w S' vb y → V.wt x ≤ 4294967296 → V.wt y ≤ 4294967296 → (q = true ↔ x = y) →
    Calls Tryz.prog 20 #[va, vb] w fun e w' => e = .returned (.bool q) ∧ Below w.heap.size w w' := by
  induction d with
  | zero => intro va vb x y w S S' q h; exact h.elim
  | succ d ih =>
    intro va vb x y w S S' q h h' hwx hwy hq
    obtain ⟨kv, a, cap, c, rfl, h2, h3, h4, h5, h6, h7⟩ := h
    obtain ⟨kv', lv', rfl, h2', h8, h5'⟩ := h'.open
    obtain ⟨k, n, t, ks, l⟩ := x
    obtain ⟨k', n', t', ks', l'⟩ := y
    simp only at *
    rw [V.wt_mk] at hwx hwy
    obtain ⟨a1, c1, rfl, _⟩ := id h2
    obtain ⟨a1', c1', rfl, _⟩ := id h2'
    obtain ⟨a', cap', _, rfl, _⟩ := id h8
    simp only [V.mk.injEq] at hq
    have HW := hide hwx
    have HW' := hide hwy
    have HQ := hide hq
    have H2 := hide h2
    have H2' := hide h2'
    have H6 := hide h6
    have H7 := hide h7
    have H8 := hide h8
    have hlen : l.length ≤ 4294967296 := Nat.le_trans (V.wtL_len l) (by omega)
    clear hwx hwy hq h' h2 h2' h3 h4 h5 h5' h6 h7 h8
    have bb2 : Below w.heap.size w ((w.alloc (.cells #[.int .i64 k, .int .i64 n, .string t, .slice a1 ks.length c1, .slice a l.length cap] 27)).alloc (.cells #[.int .i64 k', .int .i64 n', .string t', .slice a1' ks'.length c1', .slice a' l'.length cap'] 27)) := bthen (below_alloc _ _) (below_alloc _ _)
    have hba : Box5 ((w.alloc (.cells #[.int .i64 k, .int .i64 n, .string t, .slice a1 ks.length c1, .slice a l.length cap] 27)).alloc (.cells #[.int .i64 k', .int .i64 n', .string t', .slice a1' ks'.length c1', .slice a' l'.length cap'] 27)) w.heap.size _ _ _ _ _ := (box5_new w _ _ _ _ _ 27).keep (below_alloc _ _)
    have hbb : Box5 ((w.alloc (.cells #[.int .i64 k, .int .i64 n, .string t, .slice a1 ks.length c1, .slice a l.length cap] 27)).alloc (.cells #[.int .i64 k', .int .i64 n', .string t', .slice a1' ks'.length c1', .slice a' l'.length cap'] 27)) (w.heap.size + 1) _ _ _ _ _ := box5_at _ _ _ _ _ _ 27 _ (by simp)
    have HBB2 := hide bb2
    have HBA0 := hide hba
    have HBB0 := hide hbb
    clear bb2 hba hbb
    have hno : ∀ (P : Prop), (q = true → P) → ¬ P → q = false := fun P h1 h2 => by
      cases q with
      | false => rfl
      | true => exact absurd (h1 rfl) h2
    by_cases hk : k = k'
    case neg =>
      have hq' := hno _ (fun h => (HQ.out.1 h).1) hk
      have t1 : (k != k') = true := by simp [hk]
      clear hk hno
      obtain ⟨x0, x1, x2, x3, x4⟩ := id HBA0.out
      obtain ⟨y0, y1, y2, y3, y4⟩ := id HBB0.out
      go_enter Tryz.func20, Tryz.ntmps20
      go_wp2_with fail
      go_ret
      exact ⟨by first | rfl | (rw [hq']; rfl), HBB2.out⟩
    subst hk
    by_cases hn : n = n'
    case neg =>
      have hq' := hno _ (fun h => (HQ.out.1 h).2.1) hn
      have t1 : (n != n') = true := by simp [hn]
      clear hn hno
      obtain ⟨x0, x1, x2, x3, x4⟩ := id HBA0.out
      obtain ⟨y0, y1, y2, y3, y4⟩ := id HBB0.out
      go_enter Tryz.func20, Tryz.ntmps20
      go_wp2_with fail
      go_ret
      exact ⟨by first | rfl | (rw [hq']; rfl), HBB2.out⟩
    subst hn
    by_cases ht : t = t'
    case neg =>
      have hq' := hno _ (fun h => (HQ.out.1 h).2.2.1) ht
      have t1 := bytes_ne ht
      have t2 : ¬ t.toList = t'.toList := by simpa using t1
      have t3 : (t.toList != t'.toList) = true := by simpa using t2
      clear ht hno
      obtain ⟨x0, x1, x2, x3, x4⟩ := id HBA0.out
      obtain ⟨y0, y1, y2, y3, y4⟩ := id HBB0.out
      go_enter Tryz.func20, Tryz.ntmps20
      go_wp2_with fail
      go_ret
      exact ⟨by first | rfl | (rw [hq']; rfl), HBB2.out⟩
    subst ht
    obtain ⟨qs, hqs⟩ : ∃ qs : Bool, qs = true ↔ ks = ks' := by
      by_cases h : ks = ks'
      · exact ⟨true, ⟨fun _ => h, fun _ => rfl⟩⟩
      · exact ⟨false, ⟨fun h' => absurd h' (by decide), fun h' => absurd h' h⟩⟩
    have HQS := hide hqs
    clear hqs
    have HKL : Hid (ks.length ≤ 4294967296) := hide (Nat.le_trans (V.wtK_len ks) (by have := HW.out; omega))
    obtain ⟨x0, x1, x2, x3, x4⟩ := id HBA0.out
    obtain ⟨y0, y1, y2, y3, y4⟩ := id HBB0.out
    go_enter Tryz.func20, Tryz.ntmps20
    go_wp2_with fail
    clear x0 x1 x2 x3 x4 y0 y1 y2 y3 y4
    refine (refStrings_any (H2.out.below HBB2.out) (H2'.out.below HBB2.out) HKL.out qs HQS.out).mono ?_
    rintro e w1 ⟨rfl, b1⟩
    have HB1 := hide (bthen HBB2.out b1)
    have HBA1 := hide (HBA0.out.keep b1)
    have HBB1 := hide (HBB0.out.keep b1)
    clear b1
    obtain ⟨x0, x1, x2, x3, x4⟩ := id HBA1.out
    obtain ⟨y0, y1, y2, y3, y4⟩ := id HBB1.out
    cases qs with
    | false =>
      have hkk : ¬ ks = ks' := fun h => absurd (HQS.out.2 h) (by decide)
      have hq' := hno _ (fun h => (HQ.out.1 h).2.2.2.1) hkk
      clear hkk hno
      go_wp2_with fail
      go_ret
      exact ⟨by first | rfl | (rw [hq']; rfl), HB1.out⟩
    | true =>
      have hks := HQS.out.1 rfl
      have HQ1 : Hid (q = true ↔ l = l') := hide (by rw [HQ.out]; simp [hks])
      clear hks
      by_cases hll : l.length = l'.length
      case neg =>
        have hq' := hno _ (fun h => congrArg List.length (HQ1.out.1 h)) hll
        have t1 : ((l.length : Int) != (l'.length : Int)) = true := by simp; omega
        have t2 : ¬ (l.length : Int) = (l'.length : Int) := by omega
        clear hno
        go_wp2_with fail
        go_ret
        exact ⟨by first | rfl | (rw [hq']; rfl), HB1.out⟩
      have HLL := hide hll
      have hln : ∀ j, j < l.length → j < l'.length := fun j hj => by rw [← hll]; exact hj
      rw [← hll] at HBB1 y4 ⊢
      have HIL : Hid (IsL w S' (.slice a' l.length cap') l') := hide (by rw [hll]; exact H8.out)
      clear hll H8 HBA0 HBB0 hno
      go_wp2_with fail
      clear x0 x1 x2 x3 x4 y0 y1 y2 y3 y4
      go_loopg [5] l.length (fun g i wr => ∃ j : Nat, j + g = l.length ∧ i = .int .i64 j ∧ Hid (l.take j = l'.take j) ∧ Hid (Below w.heap.size w wr) ∧ Hid (Box5 wr w.heap.size (.int .i64 k) (.int .i64 n) (.string t) (.slice a1 ks.length c1) (.slice a l.length cap)) ∧ Hid (Box5 wr (w.heap.size + 1) (.int .i64 k) (.int .i64 n) (.string t) (.slice a1' ks'.length c1') (.slice a' l.length cap')))
      case atStart => exact ⟨0, by omega, rfl, rfl, HB1, HBA1, HBB1⟩
      case round =>
        clear HBA1 HBB1 HB1
        obtain ⟨j, hj, rfl, HT, HBJ, HBA, HBB⟩ := hrel
        obtain ⟨x0, x1, x2, x3, x4⟩ := id HBA.out
        by_cases hlt : j < l.length
        · have hlt' := hln j hlt
          obtain ⟨ab, ao, k3, m3, t3, a13, n13, c13, a23, n23, c23, rfl, hel, q0, q1, q2, q3, q4⟩ := elem_open H6.out HBJ.out hlt (H7.out j hlt)
          obtain ⟨bb, bo, k4, m4, t4, a14, n14, c14, a24, n24, c24, rfl, hem, p0, p1, p2, p3, p4⟩ := isL_open HIL.out HBJ.out hlt'
          obtain ⟨qj, hqj⟩ : ∃ qj : Bool, qj = true ↔ l[j] = l'[j] := by
            by_cases h : l[j] = l'[j]
            · exact ⟨true, ⟨fun _ => h, fun _ => rfl⟩⟩
            · exact ⟨false, ⟨fun h' => absurd h' (by decide), fun h' => absurd h' h⟩⟩
          have HQJ := hide hqj
          have HW1 : Hid (V.wt l[j] ≤ 4294967296) := hide (by have h1 := V.wtL_mem (List.getElem_mem hlt); have h2 := HW.out; omega)
          have HW2 : Hid (V.wt l'[j] ≤ 4294967296) := hide (by have h1 := V.wtL_mem (List.getElem_mem hlt'); have h2 := HW'.out; omega)
          have HEL := hide hel
          have HEM := hide hem
          have HQ0 := hide q0
          have HQ11 := hide q1
          have HQ2 := hide q2
          have HQ3 := hide q3
          have HQ4 := hide q4
          have HP0 := hide p0
          have HP1 := hide p1
          have HP2 := hide p2
          have HP3 := hide p3
          have HP4 := hide p4
          clear hel hem q0 q1 q2 q3 q4 p0 p1 p2 p3 p4 hqj
          go_upto_region 6 with fail
          clear x0 x1 x2 x3 x4
          refine' wp_region_facts [(fun _ _ v _ => v = (.pointer (some ⟨w.heap.size, 4, none⟩))), (fun _ _ v _ => v = (.slice (some ⟨ab, ao, none⟩) l.length cap)), (fun _ _ v _ => v = (.int .i64 (j : Int))), (fun _ _ v _ => v = (.pointer (some ⟨ab, ao + j * 5, none⟩))), (fun _ _ v _ => v = (.agg #[.int .i64 k3, .int .i64 m3, .string t3, .slice a13 n13 c13, .slice a23 n23 c23])), (fun _ _ v _ => v = (.pointer (some ⟨w.heap.size + 1, 4, none⟩))), (fun _ _ v _ => v = (.slice (some ⟨bb, bo, none⟩) l.length cap')), (fun _ _ v _ => v = (.int .i64 (j : Int))), (fun _ _ v _ => v = (.pointer (some ⟨bb, bo + j * 5, none⟩))), (fun _ _ v _ => v = (.agg #[.int .i64 k4, .int .i64 m4, .string t4, .slice a14 n14 c14, .slice a24 n24 c24])), (fun _ _ v _ => v = (.bool qj))] (by kernel_rfl) rfl ?hA (by kernel_rfl) (by kernel_rfl) (by kernel_rfl) rfl ?mono ?steps ?last
          case hA =>
            intro vs
            simp only [puts, Act.put, List.setIfInBounds_toArray, List.set_cons_zero, List.set_cons_succ, Nat.zero_add, Nat.reduceAdd]
            rfl
          case mono => exact ⟨mono_eq _, mono_eq _, mono_eq _, mono_eq _, mono_eq _, mono_eq _, mono_eq _, mono_eq _, mono_eq _, mono_eq _, mono_eq _, trivial⟩
          case steps =>
            intro Q'
            refine And.intro ?_ ?_
            · intro vs lo hi w' hM hd K' hK
              dsimp only at hK ⊢
              simp only [Act.put, List.setIfInBounds_toArray, List.set_cons_zero, List.set_cons_succ] at hK
              go_simp
              exact hK.out _ _ rfl (Below.refl _ _)
            refine And.intro ?_ ?_
            · intro vs lo hi w' hM hd K' hK
              dsimp only at hK ⊢
              simp only [Act.put, List.setIfInBounds_toArray, List.set_cons_zero, List.set_cons_succ] at hK
              have e0 : vs 0 = (.pointer (some ⟨w.heap.size, 4, none⟩)) := hd 0 (by kernel_rfl)
              simp only [e0] at hK ⊢
              clear e0
              obtain ⟨y0, y1, y2, y3, y4⟩ := HBA.out.keep hM
              go_simp
              exact hK.out _ _ rfl (Below.refl _ _)
            refine And.intro ?_ ?_
            · intro vs lo hi w' hM hd K' hK
              dsimp only at hK ⊢
              simp only [Act.put, List.setIfInBounds_toArray, List.set_cons_zero, List.set_cons_succ] at hK
              go_simp
              exact hK.out _ _ rfl (Below.refl _ _)
            refine And.intro ?_ ?_
            · intro vs lo hi w' hM hd K' hK
              dsimp only at hK ⊢
              simp only [Act.put, List.setIfInBounds_toArray, List.set_cons_zero, List.set_cons_succ] at hK
              have e1 : vs 1 = (.slice (some ⟨ab, ao, none⟩) l.length cap) := hd 1 (by kernel_rfl)
              have e2 : vs 2 = (.int .i64 (j : Int)) := hd 2 (by kernel_rfl)
              simp only [e1, e2] at hK ⊢
              clear e1 e2
              go_simp
              exact hK.out _ _ rfl (Below.refl _ _)
            refine And.intro ?_ ?_
            · intro vs lo hi w' hM hd K' hK
              dsimp only at hK ⊢
              simp only [Act.put, List.setIfInBounds_toArray, List.set_cons_zero, List.set_cons_succ] at hK
              have e3 : vs 3 = (.pointer (some ⟨ab, ao + j * 5, none⟩)) := hd 3 (by kernel_rfl)
              simp only [e3] at hK ⊢
              clear e3
              have q0 := cell_keep HQ0.out hM
              have q1 := cell_keep HQ11.out hM
              have q2 := cell_keep HQ2.out hM
              have q3 := cell_keep HQ3.out hM
              have q4 := cell_keep HQ4.out hM
              go_simp
              exact hK.out _ _ rfl (Below.refl _ _)
            refine And.intro ?_ ?_
            · intro vs lo hi w' hM hd K' hK
              dsimp only at hK ⊢
              simp only [Act.put, List.setIfInBounds_toArray, List.set_cons_zero, List.set_cons_succ] at hK
              go_simp
              exact hK.out _ _ rfl (Below.refl _ _)
            refine And.intro ?_ ?_
            · intro vs lo hi w' hM hd K' hK
              dsimp only at hK ⊢
              simp only [Act.put, List.setIfInBounds_toArray, List.set_cons_zero, List.set_cons_succ] at hK
              have e5 : vs 5 = (.pointer (some ⟨w.heap.size + 1, 4, none⟩)) := hd 5 (by kernel_rfl)
              simp only [e5] at hK ⊢
              clear e5
              obtain ⟨y0, y1, y2, y3, y4⟩ := HBB.out.keep hM
              go_simp
              exact hK.out _ _ rfl (Below.refl _ _)
            refine And.intro ?_ ?_
            · intro vs lo hi w' hM hd K' hK
              dsimp only at hK ⊢
              simp only [Act.put, List.setIfInBounds_toArray, List.set_cons_zero, List.set_cons_succ] at hK
              go_simp
              exact hK.out _ _ rfl (Below.refl _ _)
            refine And.intro ?_ ?_
            · intro vs lo hi w' hM hd K' hK
              dsimp only at hK ⊢
              simp only [Act.put, List.setIfInBounds_toArray, List.set_cons_zero, List.set_cons_succ] at hK
              have e6 : vs 6 = (.slice (some ⟨bb, bo, none⟩) l.length cap') := hd 6 (by kernel_rfl)
              have e7 : vs 7 = (.int .i64 (j : Int)) := hd 7 (by kernel_rfl)
              simp only [e6, e7] at hK ⊢
              clear e6 e7
              go_simp
              exact hK.out _ _ rfl (Below.refl _ _)
            refine And.intro ?_ ?_
            · intro vs lo hi w' hM hd K' hK
              dsimp only at hK ⊢
              simp only [Act.put, List.setIfInBounds_toArray, List.set_cons_zero, List.set_cons_succ] at hK
              have e8 : vs 8 = (.pointer (some ⟨bb, bo + j * 5, none⟩)) := hd 8 (by kernel_rfl)
              simp only [e8] at hK ⊢
              clear e8
              have q0 := cell_keep HP0.out hM
              have q1 := cell_keep HP1.out hM
              have q2 := cell_keep HP2.out hM
              have q3 := cell_keep HP3.out hM
              have q4 := cell_keep HP4.out hM
              go_simp
              exact hK.out _ _ rfl (Below.refl _ _)
            refine And.intro ?_ ?_
            · intro vs lo hi w' hM hd K' hK
              dsimp only at hK ⊢
              simp only [Act.put, List.setIfInBounds_toArray, List.set_cons_zero, List.set_cons_succ] at hK
              have e4 : vs 4 = (.agg #[.int .i64 k3, .int .i64 m3, .string t3, .slice a13 n13 c13, .slice a23 n23 c23]) := hd 4 (by kernel_rfl)
              have e9 : vs 9 = (.agg #[.int .i64 k4, .int .i64 m4, .string t4, .slice a14 n14 c14, .slice a24 n24 c24]) := hd 9 (by kernel_rfl)
              simp only [e4, e9] at hK ⊢
              clear e4 e9
              go_simp
              refine (ih _ _ _ _ _ _ _ qj (HEL.out.keep (Keeps.of_below hM)) (HEM.out.below hM) HW1.out HW2.out HQJ.out).mono ?_
              rintro e w7 ⟨rfl, b7⟩
              exact hK.out _ _ rfl b7
            exact trivial
          case last =>
            intro vs lo hi w' hM hlo hap hall K' Q' hK
            have h10 : vs 10 = .bool qj := hall.2.2.2.2.2.2.2.2.2.2.1
            dsimp only
            simp only [h10]
            clear h10 hall hap hlo
            go_simp
            refine hK.out _ _ ?_
            clear hK
            have HM := hide hM
            clear hM
            cases qj with
            | true =>
              have hjj := HQJ.out.1 rfl
              go_wp2_with fail
              go_roundg (gk - 1)
              case measure => omega
              case rel => exact ⟨j + 1, by omega, rfl, V.take_eq_succ HT.out hlt hlt' hjj, bthen HBJ.out HM.out, HBA.out.keep HM.out, HBB.out.keep HM.out⟩
            | false =>
              have hjj : ¬ l[j] = l'[j] := fun h => absurd (HQJ.out.2 h) (by decide)
              go_wp2_with fail
              go_ret
              refine ⟨?_, bthen HBJ.out HM.out⟩
              have : q = false := by
                cases q with
                | false => rfl
                | true =>
                  have h1 := HQ1.out.1 rfl
                  subst h1
                  exact absurd rfl hjj
              rw [this]
              rfl
        · have hje : j = l.length := by omega
          go_wp2_with fail
          go_ret
          refine ⟨?_, HBJ.out⟩
          have : q = true := by
            refine HQ1.out.2 ?_
            have := HT.out
            rw [hje, List.take_length, HLL.out, List.take_length] at this
            exact this
          rw [this]
          rfl
theorem refSame_any {va vb : Value} {x y : V} {w : World} {S S' : Nat → Prop} (h : Is w S va x) (h' : Is w S' vb y) (hwx : V.wt x ≤ 4294967296) (hwy : V.wt y ≤ 4294967296) (q : Bool) (hq : q = true ↔ x = y) :
    Calls Tryz.prog 20 #[va, vb] w fun e w' => e = .returned (.bool q) ∧ Below w.heap.size w w' := by
  obtain ⟨d, hd⟩ := h
  exact refSameD d va vb x y w S S' q hd h' hwx hwy hq
end Go.Proofs.YtapcmbbhhclepaaGreatDoor
