/-
  What this claim takes of the earlier layers' texts: WWith WWithB RefVB.
-/
import Derived.Test.YtapcmbbhhclepaaGreatDoorQ11
set_option linter.unusedVariables false
set_option linter.unusedSimpArgs false
set_option maxRecDepth 100000
namespace Go.Proofs.YtapcmbbhhclepaaGreatDoor
open Go.RowKit
theorem V.place_hit (k n : Int) (t : ByteArray) (ks : List ByteArray) (l : List V) (key : ByteArray) (j : Nat) (hk : k = 5) (hj : j < ks.length) (h1 : ks.getD j ByteArray.empty = key) (h2 : ∀ i, i < j → ks.getD i ByteArray.empty ≠ key) :
    V.place ⟨k, n, t, ks, l⟩ key = if j < l.length then (j : Int) else -1 := by
  simp only [V.place]
  rw [if_pos hk]
  by_cases hl : j < l.length
  · rw [if_pos hl]
    exact Lib.idxOfS_hit ks (min ks.length l.length) j key (by omega) (by omega) h1 h2
  · rw [if_neg hl]
    exact Lib.idxOfS_miss ks _ key (fun i hi => h2 i (by omega))
theorem V.place_miss (k n : Int) (t : ByteArray) (ks : List ByteArray) (l : List V) (key : ByteArray) (hk : k = 5) (h2 : ∀ i, i < ks.length → ks.getD i ByteArray.empty ≠ key) :
    V.place ⟨k, n, t, ks, l⟩ key = -1 := by
  simp only [V.place]
  rw [if_pos hk]
  exact Lib.idxOfS_miss ks _ key (fun i hi => h2 i (by omega))
set_option maxHeartbeats 4000000 in
theorem refPlace_any {v : Value} {x : V} {w : World} {S : Nat → Prop} (h : Is w S v x) (hwt : V.wt x ≤ 4294967296) (key : ByteArray) (p : Int) (hp : V.place x key = p) :
    Calls Tryz.prog 47 #[v, .string key] w fun e w' => e = .returned (.int .i64 p) ∧ Below w.heap.size w w' := by
  subst hp
  have hkl := V.klen_wt x
  have hll := V.len_wt x
  obtain ⟨kv, lv, rfl, h2, h8, _⟩ := h.open
  obtain ⟨k, n, t, ks, l⟩ := x
  simp only at *
  obtain ⟨a1, c1, rfl, h3, h4, _, h5⟩ := id h2
  obtain ⟨a, cap, c, rfl, h6, h7, _⟩ := id h8
  have hk32 : ks.length ≤ 4294967296 := by omega
  have hl32 : l.length ≤ 4294967296 := by omega
  have H5 := hide h5
  clear h h2 h8 h5 h4 h7 hwt hkl hll
  by_cases hk : k = 5
  · have HK := hide hk
    have hk' : (k != 5) = false := by simp [hk]
    clear hk
    go_enter Tryz.func47, Tryz.ntmps47
    go_wp2_with fail
    go_loopg [5] ks.length (fun g i wr => ∃ j : Nat, j + g = ks.length ∧ i = .int .i64 j ∧ Hid (∀ i, i < j → ks.getD i ByteArray.empty ≠ key) ∧ Below w.heap.size w wr ∧ Box5 wr w.heap.size (.int .i64 k) (.int .i64 n) (.string t) (.slice a1 ks.length c1) (.slice a l.length cap))
    case atStart => exact ⟨0, by omega, rfl, fun i hi => absurd hi (Nat.not_lt_zero _), below_alloc _ _, box5_new _ _ _ _ _ _ _⟩
    case round =>
      obtain ⟨j, hj, rfl, HA, bj, hbox⟩ := hrel
      obtain ⟨x0, x1, x2, x3, x4⟩ := id hbox
      by_cases hlt : j < ks.length
      · obtain ⟨b, off, K, rfl, hK, ej⟩ := str_at' H5.out bj hlt
        by_cases hKe : K = key
        · have he : (K.toList == key.toList) = true := by rw [hKe]; simp
          have HE := hide hKe
          clear hKe
          by_cases hl : j < l.length
          · have hl' : ¬ (l.length : Int) ≤ (j : Int) := by omega
            go_wp2_with fail
            go_ret
            refine ⟨ret_int ?_, bj⟩
            rw [V.place_hit k n t ks l key j HK.out hlt (by rw [← hK.out]; exact HE.out) HA.out, if_pos hl]
          · have hl' : (l.length : Int) ≤ (j : Int) := by omega
            go_wp2_with fail
            go_ret
            refine ⟨ret_int ?_, bj⟩
            rw [V.place_hit k n t ks l key j HK.out hlt (by rw [← hK.out]; exact HE.out) HA.out, if_neg (by omega)]
        · have he := bytes_ne hKe
          have HE := hide hKe
          clear hKe
          go_wp2_with fail
          go_roundg (gk - 1)
          case measure => omega
          case rel =>
            refine ⟨j + 1, by omega, rfl, ?_, bj, hbox⟩
            intro i hi
            by_cases e : i = j
            · subst e; rw [← hK.out]; exact HE.out
            · exact HA.out i (by omega)
      · have hje : j = ks.length := by omega
        subst hje
        go_wp2_with fail
        go_ret
        refine ⟨ret_int ?_, bj⟩
        rw [V.place_miss k n t ks l key HK.out HA.out]
  · have hk' : (k != 5) = true := by simp [hk]
    go_enter Tryz.func47, Tryz.ntmps47
    go_wp2_with fail
    go_ret
    refine ⟨ret_int ?_, below_alloc _ _⟩
    simp only [V.place, if_neg hk]
theorem slice_mid_str (a : Option Addr) (n cap l h : Nat) (h1 : l ≤ h) (h2 : h ≤ cap) (W : World) :
    (Instr.slice 24 (.slice a n cap) (some (.int .i64 (l : Int))) (some (.int .i64 (h : Int))) none).run Tryz.prog W = .ok (.slice (tailAddr a cap l 1) (h - l) (cap - l)) W := by
  rw [run_slice_lh (P := Tryz.prog) W _ a n cap Tryz.underlying24 .i64 .i64 (l : Int) (h : Int) (by omega) (by omega) (by omega)]
  simp [sliced, go_sem, tailAddr]
theorem slice_mid_val (a : Option Addr) (n cap l h : Nat) (h1 : l ≤ h) (h2 : h ≤ cap) (W : World) :
    (Instr.slice 25 (.slice a n cap) (some (.int .i64 (l : Int))) (some (.int .i64 (h : Int))) none).run Tryz.prog W = .ok (.slice (tailAddr a cap l 5) (h - l) (cap - l)) W := by
  rw [run_slice_lh (P := Tryz.prog) W _ a n cap Tryz.underlying25 .i64 .i64 (l : Int) (h : Int) (by omega) (by omega) (by omega)]
  simp [sliced, go_sem, tailAddr]
theorem append3 {P : Program} {w : World} (t ty e : TypeId) (z : Value) (size bytes : Nat) (ht : P.underlying t = some (.slice e)) (hinfo : (P.info? e).map (fun i => (i.zero, i.size, i.bytes)) = some (some z, size, bytes)) (hzs : z.cells.size = size) (hsz : 0 < size)
    {S : Nat → Prop} {x1 x2 x3 : Value} {m1 m2 m3 : Nat} {c1 c2 c3 : List Value} (h1 : Raw w S x1 size m1 c1) (h2 : Raw w S x2 size m2 c2) (h3 : Raw w S x3 size m3 c3)
    (hbytes : (m1 + m2 + m3) * bytes ≤ 140737488355328) (h63 : m1 + m2 + m3 ≤ maxLen) :
    ∃ a1 n1 k1 w1 a2 n2 k2 w2 a3 n3 k3 w3, (Builtin.append_ #[t, t] ty #[.slice none 0 0, x1]).run P w = .ok (.slice a1 n1 k1) w1 ∧ (Builtin.append_ #[t, t] ty #[.slice a1 n1 k1, x2]).run P w1 = .ok (.slice a2 n2 k2) w2 ∧ (Builtin.append_ #[t, t] ty #[.slice a2 n2 k2, x3]).run P w2 = .ok (.slice a3 n3 k3) w3 ∧
      Raw w3 (fun b => w.heap.size ≤ b) (.slice a3 n3 k3) size (m1 + m2 + m3) (c1 ++ c2 ++ c3) ∧ Below w.heap.size w w1 ∧ Below w.heap.size w w2 ∧ Below w.heap.size w w3 := by
  have hb1 : (0 + m1) * bytes ≤ 140737488355328 := Nat.le_trans (Nat.mul_le_mul_right _ (by omega)) hbytes
  have hb2 : (0 + m1 + m2) * bytes ≤ 140737488355328 := Nat.le_trans (Nat.mul_le_mul_right _ (by omega)) hbytes
  have hb3 : (0 + m1 + m2 + m3) * bytes ≤ 140737488355328 := Nat.le_trans (Nat.mul_le_mul_right _ (by omega)) hbytes
  obtain ⟨v1, w1, r1, o1, g1⟩ := append_part t ty e z size bytes ht hinfo hzs hsz w.heap.size _ _ _ (World.ownsRow_nil w w.heap.size e size) h1 (by omega) hb1 (Nat.le_refl _)
  obtain ⟨a1, k1, rfl⟩ := own_shape o1
  have b1 : Below w.heap.size w w1 := (Below.refl _ _).grown g1 (Nat.le_refl _) (fun k hk => by simp [Value.ownBlock] at hk)
  obtain ⟨v2, w2, r2, o2, g2⟩ := append_part t ty e z size bytes ht hinfo hzs hsz w.heap.size _ _ _ o1 (h2.below b1) (by omega) hb2 b1.size
  obtain ⟨a2, k2, rfl⟩ := own_shape o2
  have b2 : Below w.heap.size w w2 := b1.grown g2 b1.size (own_block o1)
  obtain ⟨v3, w3, r3, o3, g3⟩ := append_part t ty e z size bytes ht hinfo hzs hsz w.heap.size _ _ _ o2 (h3.below b2) (by omega) hb3 b2.size
  obtain ⟨a3, k3, rfl⟩ := own_shape o3
  have b3 : Below w.heap.size w w3 := b2.grown g3 b2.size (own_block o2)
  simp only [Nat.zero_add] at r1 r2 r3
  refine ⟨_, _, _, w1, _, _, _, w2, _, _, _, w3, r1, r2, r3, ?_, b1, b2, b3⟩
  have hraw := Raw.of_own o3 (fun u hu => by
    simp only [List.nil_append, List.mem_append] at hu
    rcases hu with (hu | hu) | hu
    · obtain ⟨_, _, _, _, _, _, q, _⟩ := h1; exact q u hu
    · obtain ⟨_, _, _, _, _, _, q, _⟩ := h2; exact q u hu
    · obtain ⟨_, _, _, _, _, _, q, _⟩ := h3; exact q u hu)
  rw [List.nil_append, Nat.zero_add] at hraw
  exact hraw
set_option maxHeartbeats 8000000 in
set_option maxRecDepth 100000 in
theorem refWith_core {v : Value} {x : V} {w : World} {S : Nat → Prop} (h : Is w S v x) (hwx : V.wt x ≤ 1000000000) (h5 : x.kind = 5) (p q : Nat) (kv' lv' : Value) (mk : List ByteArray) (ml : List V) (hk' : Strs w S kv' mk) (hl' : IsL w S lv' ml)
    (hpq : p + q ≤ min x.keys.length x.list.length) (hmk : mk.length ≤ 10) (hml : ml.length ≤ 10) :
    Calls Tryz.prog 55 #[v, .int .i64 p, .int .i64 q, kv', lv'] w fun e w' => ∃ k n t a1 n1 c1 a2 n2 c2, e = .returned (.agg #[.int .i64 k, .int .i64 n, .string t, .slice a1 n1 c1, .slice a2 n2 c2]) ∧ Is w' (fun b => S b ∨ w.heap.size ≤ b) (.agg #[.int .i64 k, .int .i64 n, .string t, .slice a1 n1 c1, .slice a2 n2 c2]) (V.laid x p (p + q) mk ml) ∧ Below w.heap.size w w' := by
  replace h := h.weak (S' := fun b => S b ∧ b < w.heap.size) (fun b hb hs => ⟨hs, hb⟩)
  replace hk' := hk'.weak (S' := fun b => S b ∧ b < w.heap.size) (fun b hb hs => ⟨hs, hb⟩)
  replace hl' := hl'.weak (S' := fun b => S b ∧ b < w.heap.size) (fun b hb hs => ⟨hs, hb⟩)
  have hkl := V.klen_wt x
  have hll := V.len_wt x
  obtain ⟨kv, lv, rfl, h2, h8, ht⟩ := id h.open
  obtain ⟨k, n, t, ks, l⟩ := x
  simp only at *
  subst h5
  obtain ⟨a1, c1, rfl, q1, _, hks, _⟩ := id h2
  obtain ⟨a2, c2, _, rfl, q2, _⟩ := id h8
  obtain ⟨a1', c1', rfl, _, _, hks', _⟩ := id hk'
  obtain ⟨a2', c2', _, rfl, _⟩ := id hl'
  obtain ⟨m, hm⟩ : ∃ m, min ks.length l.length = m := ⟨_, rfl⟩
  rw [hm] at hpq
  have hm32 : m ≤ 1000000000 := by omega
  have hmks : m ≤ ks.length := by omega
  have hml' : m ≤ l.length := by omega
  have hmI : min (ks.length : Int) (l.length : Int) = (m : Int) := by omega
  have HM := hide hm
  have HK := hide hks
  have HK' := hide hks'
  have bb0 := bthen (below_alloc w (.cells #[.int .i64 5, .int .i64 n, .string t, .slice a1 ks.length c1, .slice a2 l.length c2] 27)) (below_alloc _ (.cells #[.int .i64 0, .int .i64 0, .string ⟨#[]⟩, .slice none 0 0, .slice none 0 0] 27))
  have pa0 := (boxF_at w (.int .i64 5) (.int .i64 n) (.string t) (.slice a1 ks.length c1) (.slice a2 l.length c2) 27 _ rfl).keep (below_alloc _ (.cells #[.int .i64 0, .int .i64 0, .string ⟨#[]⟩, .slice none 0 0, .slice none 0 0] 27))
  have pr0 := boxF_at (w.alloc (.cells #[.int .i64 5, .int .i64 n, .string t, .slice a1 ks.length c1, .slice a2 l.length c2] 27)) (.int .i64 0) (.int .i64 0) (.string ⟨#[]⟩) (.slice none 0 0) (.slice none 0 0) 27 (w.heap.size + 1) (by simp)
  have sz0 : ((w.alloc (.cells #[.int .i64 5, .int .i64 n, .string t, .slice a1 ks.length c1, .slice a2 l.length c2] 27)).alloc (.cells #[.int .i64 0, .int .i64 0, .string ⟨#[]⟩, .slice none 0 0, .slice none 0 0] 27)).heap.size = w.heap.size + 2 := by simp
  have rk0 := raw_of_strs (h2.below bb0)
  have rk1 := rk0.front (n := p) (by omega)
  rw [Nat.mul_one, ← List.map_take] at rk1
  have rk3 := (rk0.front (n := m) hmks).tail (n := p + q) hpq
  rw [Nat.mul_one, Nat.mul_one, ← List.map_take, ← List.map_drop] at rk3
  obtain ⟨e1, f1, g1, W1, e2, f2, g2, W2, e3, f3, g3, W3, R1, R2, R3, rkf, bk1, bk2, bk3⟩ := append3 24 24 9 _ 1 16 Tryz.underlying24 info_str rfl (by decide) rk1 (raw_of_strs (hk'.below bb0)) rk3 (by omega) (by unfold maxLen; omega)
  obtain ⟨es, rl0, hes⟩ := raw_of_isL (h8.below (bthen bb0 bk3))
  obtain ⟨es', rl', hes'⟩ := raw_of_isL (hl'.below (bthen bb0 bk3))
  have rl1 := rl0.front (n := p) (by omega)
  rw [cellsQ_take _ _ (by rw [hes.1]; omega)] at rl1
  have rl3 := (rl0.front (n := m) hml').tail (n := p + q) hpq
  rw [cellsQ_take _ _ (by rw [hes.1]; omega), cellsQ_drop _ _ (by rw [List.length_take, hes.1]; omega)] at rl3
  obtain ⟨e4, f4, g4, W4, e5, f5, g5, W5, e6, f6, g6, W6, R4, R5, R6, rlf, bl1, bl2, bl3⟩ := append3 25 25 27 _ 5 80 Tryz.underlying25 info_val rfl (by decide) rl1 rl' rl3 (by omega) (by unfold maxLen; omega)
  have s1 := slice_front_str a1 ks.length c1 p (by omega)
  have s2 := slice_mid_str a1 ks.length c1 (p + q) m hpq (by omega)
  have s3 := slice_front_val a2 l.length c2 p (by omega)
  have s4 := slice_mid_val a2 l.length c2 (p + q) m hpq (by omega)
  have hpqI : (p : Int) + (q : Int) = ((p + q : Nat) : Int) := by omega
  obtain ⟨pq, hpqe⟩ : ∃ r, p + q = r := ⟨_, rfl⟩
  rw [hpqe] at s2 s4 hpqI rk3 rl3 R3 R6 rkf rlf hpq
  have pa1 := pa0.keep bk1
  have pa2 := pa0.keep bk2
  have pa3 := pa0.keep bk3
  have pa4 := pa3.keep bl1
  have pa5 := pa3.keep bl2
  have pa6 := pa3.keep bl3
  have pr6 := (pr0.keep bk3).keep bl3
  have q1' := (pa1.1)
  obtain ⟨_, _, _, y1, _⟩ := pa1.1
  obtain ⟨_, _, _, y2, _⟩ := pa2.1
  obtain ⟨_, _, _, _, y3⟩ := pa3.1
  obtain ⟨_, _, _, _, y4⟩ := pa4.1
  obtain ⟨_, _, _, _, y5⟩ := pa5.1
  obtain ⟨_, y6, y7, _, _⟩ := pa6.1
  obtain ⟨⟨z0, z1, z2, z3, z4⟩, g0', g1', g2', g3', g4'⟩ := id pr6
  have HR1 := hide R1
  have HR2 := hide R2
  have HR3 := hide R3
  have HR4 := hide R4
  have HR5 := hide R5
  have HR6 := hide R6
  have HPQ := hide hpqe
  have BF := bthen (bthen bb0 bk3) bl3
  have HKF := hide rkf
  have HLF := hide rlf
  have HES := hide hes
  have HES' := hide hes'
  have HBL := hide bl3
  have HBK := hide bk3
  clear R1 R2 R3 R4 R5 R6 rk0 rk1 rk3 rl0 rl1 rl' rl3 rkf rlf pa0 pa1 pa2 pa3 pa4 pa5 pa6 pr0 q1' bk1 bk2 bl1 bl2 bb0 hm hes hes' hpqe h h2 h8 hk' hl' hks hks' bl3 bk3
  go_enter Tryz.func55, Tryz.ntmps55
  go_wp2_with (first
    | (at_builtin; refine Lib.wpList_append_run _ rfl (.tmp 21) (.tmp 25) 24 24 rfl _ _ (by simp [Act.eval, Act.put]) (by simp [Act.eval, Act.put]) _ _ HR1.out ?_)
    | (at_builtin; refine Lib.wpList_append_run _ rfl (.tmp 27) (.tmp 28) 24 24 rfl _ _ (by simp [Act.eval, Act.put]) (by simp [Act.eval, Act.put]) _ _ HR2.out ?_)
    | (at_builtin; refine Lib.wpList_append_run _ rfl (.tmp 30) (.tmp 37) 24 24 rfl _ _ (by simp [Act.eval, Act.put]) (by simp [Act.eval, Act.put]) _ _ HR3.out ?_)
    | (at_builtin; refine Lib.wpList_append_run _ rfl (.tmp 39) (.tmp 43) 25 25 rfl _ _ (by simp [Act.eval, Act.put]) (by simp [Act.eval, Act.put]) _ _ HR4.out ?_)
    | (at_builtin; refine Lib.wpList_append_run _ rfl (.tmp 45) (.tmp 46) 25 25 rfl _ _ (by simp [Act.eval, Act.put]) (by simp [Act.eval, Act.put]) _ _ HR5.out ?_)
    | (at_builtin; refine Lib.wpList_append_run _ rfl (.tmp 48) (.tmp 55) 25 25 rfl _ _ (by simp [Act.eval, Act.put]) (by simp [Act.eval, Act.put]) _ _ HR6.out ?_))
  obtain ⟨u0, u1, u2, u3, u4⟩ := Box5.all pr6.1 (.int .i64 5) (.int .i64 n) (.string t) (.slice e3 f3 g3) (.slice e6 f6 g6)
  refine bodyPost_ret (v := .agg #[.int .i64 5, .int .i64 n, .string t, .slice e3 f3 g3, .slice e6 f6 g6]) (by simp [results, Tryz.results55, go_sem, u0, u1, u2, u3, u4]) rfl ?_
  refine ⟨5, n, t, e3, f3, g3, e6, f6, g6, rfl, ?_, ?_⟩
  · have kp : Keeps (fun b => b ≠ w.heap.size + 1) W6 _ := keeps_set5 (S := fun b => b ≠ w.heap.size + 1) (w := W6) (g := w.heap.size + 1) (o := 0) (.int .i64 5) (.int .i64 n) (.string t) (.slice e3 f3 g3) (.slice e6 f6 g6) (by simp)
    have sz3 := HBK.out.size
    rw [sz0] at sz3
    refine Is.shut (x := V.laid ⟨5, n, t, ks, l⟩ p (p + q) mk ml) ?_ ?_ ht
    · simp only [V.laid, HM.out]
      have hr := (HKF.out.below HBL.out).weak (S' := fun b => b ≠ w.heap.size + 1 ∧ w.heap.size ≤ b) (fun b _ hb => by rw [sz0] at hb; omega)
      rw [← HPQ.out, ← List.map_append, ← List.map_append, show List.take p ks = List.take p (List.take m ks) by rw [List.take_take, Nat.min_eq_left (by omega)]] at hr
      have e1 : List.take p (List.take m ks) ++ mk ++ List.drop (p + q) (List.take m ks) = V.splice (ks.take m) p (p + q) mk := rfl
      rw [e1] at hr
      refine strs_of_raw ((hr.keep (fun b hb hl => kp b hb.1 hl)).weak (fun b _ hb => .inr hb.2)) ?_
      intro u hu
      simp only [V.splice, List.mem_append] at hu
      rcases hu with (hu | hu) | hu
      · exact HK.out u (List.mem_of_mem_take (List.mem_of_mem_take hu))
      · exact HK'.out u hu
      · exact HK.out u (List.mem_of_mem_take (List.mem_of_mem_drop hu))
    · simp only [V.laid, HM.out]
      have hr := HLF.out.weak (S' := fun b => b ≠ w.heap.size + 1 ∧ (S b ∨ w.heap.size ≤ b)) (fun b _ hb => ⟨by omega, .inr (by omega)⟩)
      rw [← HPQ.out, ← cellsQ_append, ← cellsQ_append, show List.take p es = List.take p (List.take m es) by rw [List.take_take, Nat.min_eq_left (by omega)]] at hr
      have k0 : Els W6 (fun b => b ≠ w.heap.size + 1 ∧ (S b ∨ w.heap.size ≤ b)) es l := (HES.out.keep (Keeps.of_below HBL.out)).weak (fun b _ hb => ⟨by omega, .inl hb.1⟩)
      have k0' : Els W6 (fun b => b ≠ w.heap.size + 1 ∧ (S b ∨ w.heap.size ≤ b)) es' ml := (HES'.out.keep (Keeps.of_below HBL.out)).weak (fun b _ hb => ⟨by omega, .inl hb.1⟩)
      have k3 := (((k0.take m).take p).append k0').append ((k0.take m).drop (p + q))
      exact (isL_of_raw (hr.keep (fun b hb hl => kp b hb.1 hl)) (k3.keep (fun b hb hl => kp b hb.1 hl))).weak (fun b _ hb => hb.2)
  · have le2 : w.heap.size ≤ w.heap.size + 1 := by omega
    exact ((((BF.setCell le2 _).setCell le2 _).setCell le2 _).setCell le2 _).setCell le2 _
end Go.Proofs.YtapcmbbhhclepaaGreatDoor
namespace Go.Proofs.YtapcmbbhhclepaaGreatDoor
open Go.RowKit
set_option maxHeartbeats 1000000 in
set_option maxRecDepth 100000 in
theorem refWith_hit {v vy : Value} {x y : V} {w : World} {S : Nat → Prop} (h : Is w S v x) (h' : Is w S vy y) (hwx : V.wt x ≤ 1000000000) (key : ByteArray) (hkey : key.size ≤ 1000000000) (h5 : x.kind = 5) (p : Nat) (hp : V.place x key = p) :
    Calls Tryz.prog 25 #[v, .string key, vy] w fun e w' => ∃ k n t a1 n1 c1 a2 n2 c2, e = .returned (.agg #[.int .i64 k, .int .i64 n, .string t, .slice a1 n1 c1, .slice a2 n2 c2]) ∧ Is w' (fun b => S b ∨ w.heap.size ≤ b) (.agg #[.int .i64 k, .int .i64 n, .string t, .slice a1 n1 c1, .slice a2 n2 c2]) (V.laid x p (p + 1) [key] [y]) ∧ Below w.heap.size w w' := by
  have hpl := (V.place_lt x key (by omega)).2
  rw [hp] at hpl
  have hpl' : p + 1 ≤ min x.keys.length x.list.length := by rw [Int.toNat_natCast] at hpl; omega
  have HP := hide hp
  clear hp hpl
  obtain ⟨kv, lv, rfl, h2, h8, ht⟩ := id h.open
  obtain ⟨kvy, lvy, rfl, hy2, hy8, _⟩ := id h'.open
  obtain ⟨a1, c1, rfl, q1, _, _, hcell⟩ := id h2
  have HC := hide hcell
  clear hcell
  obtain ⟨a2, c2, _, rfl, q2, _⟩ := id h8
  obtain ⟨b1, d1, rfl, _⟩ := id hy2
  obtain ⟨b2, d2, _, rfl, _⟩ := id hy8
  have h5' : (x.kind != 5) = false := by simp [h5]
  have H5 := hide h5
  have HH := hide h
  have HH' := hide h'
  have HWX := hide hwx
  have HKEY := hide hkey
  have HPL := hide hpl'
  clear h5 h h' h2 h8 hy2 hy8 hwx ht hkey hpl'
  go_enter Tryz.func25, Tryz.ntmps25
  go_wp2_with fail
  refine (refPlace_any (HH.out.below (bthen (below_alloc w _) (bthen (below_alloc _ _) (below_alloc _ _)))) (Nat.le_trans HWX.out (by decide)) key p HP.out).mono ?_
  rintro e w1 ⟨rfl, bw1⟩
  have pa : BoxF w1 w.heap.size _ _ _ _ _ := ((boxF_at w _ _ _ _ _ 27 _ rfl).keep (bthen (below_alloc _ _) (below_alloc _ _))).keep bw1
  have pb : BoxF w1 (w.heap.size + 1) _ _ _ _ _ := ((boxF_at _ _ _ _ _ _ 27 _ (by simp)).keep (below_alloc _ _)).keep bw1
  have pr : BoxF w1 (w.heap.size + 2) _ _ _ _ _ := (boxF_at _ _ _ _ _ _ 27 _ (by simp)).keep bw1
  have bb := bthen (bthen (below_alloc w _) (bthen (below_alloc _ _) (below_alloc _ _))) bw1
  have sz : w.heap.size + 3 ≤ w1.heap.size := by have := bw1.size; simpa using this
  clear bw1
  obtain ⟨⟨x0, x1, x2, x3, x4⟩, _⟩ := id pa
  obtain ⟨⟨y0, y1, y2, y3, y4⟩, _⟩ := id pb
  have g0 : ∀ o, (w1.alloc o).cell? _ = _ := fun o => cell_keep y0 (below_alloc w1 o)
  have g1 : ∀ o, (w1.alloc o).cell? _ = _ := fun o => cell_keep y1 (below_alloc w1 o)
  have g2 : ∀ o, (w1.alloc o).cell? _ = _ := fun o => cell_keep y2 (below_alloc w1 o)
  have g3 : ∀ o, (w1.alloc o).cell? _ = _ := fun o => cell_keep y3 (below_alloc w1 o)
  have g4 : ∀ o, (w1.alloc o).cell? _ = _ := fun o => cell_keep y4 (below_alloc w1 o)
  go_wp2_with fail
  clear g0 g1 g2 g3 g4
  clear x0 x1 x2 x3 x4 y0 y1 y2 y3 y4
  have hS : ∀ b, b < w.heap.size → S b → (S b ∧ b < w.heap.size) ∨ w.heap.size + 3 ≤ b := fun b hb hs => .inl ⟨hs, hb⟩
  have bk := below_alloc w1 (.cells #[.string key] 9)
  have rkey := raw_one_str w1 key (fun b => (S b ∧ b < w.heap.size) ∨ w.heap.size + 3 ≤ b) _ rfl (.inr sz)
  have bk2 := below_alloc (w1.alloc (.cells #[.string key] 9)) (.cells #[.int .i64 y.kind, .int .i64 y.num, .string y.text, .slice b1 y.keys.length d1, .slice b2 y.list.length d2] 27)
  have rval := raw_one_val (w1.alloc (.cells #[.string key] 9)) y.kind y.num y.text b1 y.keys.length d1 b2 y.list.length d2 (fun b => (S b ∧ b < w.heap.size) ∨ w.heap.size + 3 ≤ b) (w1.heap.size + 1) (by simp) (.inr (by omega))
  have hkk : Strs _ _ _ [key] := strs_of_raw (ks := [key]) (rkey.below bk2) (fun k hk => by rw [List.mem_singleton.1 hk]; exact Nat.le_trans HKEY.out (by decide))
  have hll := isL_of_raw rval (Els.one (x := y) ((HH'.out.weak hS).below (bthen bb (bthen bk bk2))))
  refine (refWith_core ((HH.out.weak hS).below (bthen bb (bthen bk bk2))) HWX.out H5.out p 1 _ _ [key] [y] hkk hll HPL.out (by simp) (by simp)).mono ?_
  rintro e w3 ⟨k5, n5, t5, a5, m5, c5, a6, m6, c6, rfl, his, bw3⟩
  replace pr := pr.keep (bthen (bthen bk bk2) bw3)
  replace bb := bthen bb (bthen (bthen bk bk2) bw3)
  clear rkey rval hkk hll
  obtain ⟨⟨y0, y1, y2, y3, y4⟩, g0, g1, g2, g3, g4⟩ := id pr
  go_wp2_with fail
  obtain ⟨u0, u1, u2, u3, u4⟩ := Box5.all pr.1 (.int .i64 k5) (.int .i64 n5) (.string t5) (.slice a5 m5 c5) (.slice a6 m6 c6)
  refine bodyPost_ret (v := .agg #[.int .i64 k5, .int .i64 n5, .string t5, .slice a5 m5 c5, .slice a6 m6 c6]) (by simp [results, Tryz.results25, go_sem, u0, u1, u2, u3, u4]) rfl ?_
  refine ⟨k5, n5, t5, a5, m5, c5, a6, m6, c6, rfl, ?_, ?_⟩
  · have kp := keeps_set5 (S := fun b => b ≠ w.heap.size + 2) (w := w3) (g := w.heap.size + 2) (o := 0) (.int .i64 k5) (.int .i64 n5) (.string t5) (.slice a5 m5 c5) (.slice a6 m6 c6) (by simp)
    have hi2 := his.weak (S' := fun b => b ≠ w.heap.size + 2 ∧ (S b ∨ w.heap.size ≤ b)) (fun b hb2 hb => by
      rcases hb with (hb | hb) | hb
      · exact ⟨by omega, .inl hb.1⟩
      · exact ⟨by omega, .inr (by omega)⟩
      · have := bk.size; have := bk2.size; exact ⟨by omega, .inr (by omega)⟩)
    exact (hi2.keep (fun b hb hl => kp b hb.1 hl)).weak (fun b _ hb => hb.2)
  · have le2 : w.heap.size ≤ w.heap.size + 2 := by omega
    exact ((((bb.setCell le2 _).setCell le2 _).setCell le2 _).setCell le2 _).setCell le2 _
set_option maxHeartbeats 1000000 in
set_option maxRecDepth 100000 in
theorem refWith_miss {v vy : Value} {x y : V} {w : World} {S : Nat → Prop} (h : Is w S v x) (h' : Is w S vy y) (hwx : V.wt x ≤ 1000000000) (key : ByteArray) (hkey : key.size ≤ 1000000000) (h5 : x.kind = 5) (pz : Int) (hp : V.place x key = pz) (hneg : pz < 0) :
    Calls Tryz.prog 25 #[v, .string key, vy] w fun e w' => ∃ k n t a1 n1 c1 a2 n2 c2, e = .returned (.agg #[.int .i64 k, .int .i64 n, .string t, .slice a1 n1 c1, .slice a2 n2 c2]) ∧ Is w' (fun b => S b ∨ w.heap.size ≤ b) (.agg #[.int .i64 k, .int .i64 n, .string t, .slice a1 n1 c1, .slice a2 n2 c2]) (V.laid x (V.room (x.keys.take (min x.keys.length x.list.length)) key) (V.room (x.keys.take (min x.keys.length x.list.length)) key) [key] [y]) ∧ Below w.heap.size w w' := by
  obtain ⟨m, hm⟩ : ∃ m, min x.keys.length x.list.length = m := ⟨_, rfl⟩
  rw [hm]
  obtain ⟨p, hroom⟩ : ∃ p, V.room (x.keys.take m) key = p := ⟨_, rfl⟩
  rw [hroom]
  have hpl' := V.room_le (x.keys.take m) key
  rw [hroom, List.length_take] at hpl'
  have hkl := V.klen_wt x
  have HP := hide hp
  have HM := hide hm
  have HRO := hide hroom
  have hmI : min (x.keys.length : Int) (x.list.length : Int) = (m : Int) := by omega
  have hm32 : m ≤ 4294967296 := by omega
  have hmk : m ≤ x.keys.length := by omega
  clear hp hm hroom hkl
  obtain ⟨kv, lv, rfl, h2, h8, ht⟩ := id h.open
  obtain ⟨kvy, lvy, rfl, hy2, hy8, _⟩ := id h'.open
  obtain ⟨a1, c1, rfl, q1, _, _, hcell⟩ := id h2
  have HC := hide hcell
  clear hcell
  obtain ⟨a2, c2, _, rfl, q2, _⟩ := id h8
  obtain ⟨b1, d1, rfl, _⟩ := id hy2
  obtain ⟨b2, d2, _, rfl, _⟩ := id hy8
  have h5' : (x.kind != 5) = false := by simp [h5]
  have HS0 : Hid (∀ k ∈ x.keys, k.size ≤ maxLen) := by obtain ⟨_, _, _, _, _, q, _⟩ := h2; exact q
  have H5 := hide h5
  have HH := hide h
  have HH' := hide h'
  have HWX := hide hwx
  have HKEY := hide hkey
  have HPL := hide hpl'
  clear h5 h h' h2 h8 hy2 hy8 hwx ht hkey hpl'
  go_enter Tryz.func25, Tryz.ntmps25
  go_wp2_with fail
  refine (refPlace_any (HH.out.below (bthen (below_alloc w _) (bthen (below_alloc _ _) (below_alloc _ _)))) (Nat.le_trans HWX.out (by decide)) key pz HP.out).mono ?_
  rintro e w1 ⟨rfl, bw1⟩
  have pa : BoxF w1 w.heap.size _ _ _ _ _ := ((boxF_at w _ _ _ _ _ 27 _ rfl).keep (bthen (below_alloc _ _) (below_alloc _ _))).keep bw1
  have pb : BoxF w1 (w.heap.size + 1) _ _ _ _ _ := ((boxF_at _ _ _ _ _ _ 27 _ (by simp)).keep (below_alloc _ _)).keep bw1
  have pr : BoxF w1 (w.heap.size + 2) _ _ _ _ _ := (boxF_at _ _ _ _ _ _ 27 _ (by simp)).keep bw1
  have bb := bthen (bthen (below_alloc w _) (bthen (below_alloc _ _) (below_alloc _ _))) bw1
  have sz : w.heap.size + 3 ≤ w1.heap.size := by have := bw1.size; simpa using this
  clear bw1
  obtain ⟨⟨x0, x1, x2, x3, x4⟩, _⟩ := id pa
  obtain ⟨⟨y0, y1, y2, y3, y4⟩, _⟩ := id pb
  go_wp2_with fail
  clear x0 x1 x2 x3 x4 y0 y1 y2 y3 y4
  go_loopg [8] m (fun g i wr => ∃ j : Nat, j + g = m ∧ i = .int .i64 j ∧ Hid (∀ i, i < j → V.less (x.keys.getD i ByteArray.empty) key = true) ∧ Below w.heap.size w wr ∧ w.heap.size + 3 ≤ wr.heap.size ∧ BoxF wr w.heap.size (.int .i64 x.kind) (.int .i64 x.num) (.string x.text) (.slice a1 x.keys.length c1) (.slice a2 x.list.length c2) ∧ BoxF wr (w.heap.size + 1) (.int .i64 y.kind) (.int .i64 y.num) (.string y.text) (.slice b1 y.keys.length d1) (.slice b2 y.list.length d2) ∧ BoxF wr (w.heap.size + 2) (.int .i64 0) (.int .i64 0) (.string ⟨#[]⟩) (.slice none 0 0) (.slice none 0 0))
  case atStart => exact ⟨0, by omega, rfl, fun i hi => absurd hi (Nat.not_lt_zero _), bb, sz, pa, pb, pr⟩
  case round =>
    clear pa pb pr bb sz
    obtain ⟨j, hj, rfl, HA, bb, sz, pa, pb, pr⟩ := hrel
    obtain ⟨⟨x0, x1, x2, x3, x4⟩, _⟩ := id pa
    obtain ⟨⟨y0, y1, y2, y3, y4⟩, _⟩ := id pb
    by_cases hlt : j < m
    · obtain ⟨b, off, K, rfl, hK, ej⟩ := str_at' HC.out bb (Nat.lt_of_lt_of_le hlt hmk)
      have zj := getD_size HS0.out j
      rw [← hK.out] at zj
      cases hle : V.less K key with
      | true =>
        have HL := hide hle
        clear hle
        go_wp2_with fail
        refine (refLess_any K key _ zj (Nat.le_trans HKEY.out (by decide))).mono ?_
        rintro e w2 ⟨rfl, b2⟩
        rw [show Op.bytesLess K.toList key.toList = true from HL.out]
        go_wp2_with fail
        go_roundg (gk - 1)
        case measure => omega
        case rel =>
          refine ⟨j + 1, by omega, rfl, ?_, bthen bb b2, Nat.le_trans sz b2.size, pa.keep b2, pb.keep b2, pr.keep b2⟩
          intro i hi
          by_cases e : i = j
          · subst e; rw [← hK.out]; exact HL.out
          · exact HA.out i (by omega)
      | false =>
        have HL := hide hle
        clear hle
        go_wp2_with fail
        refine (refLess_any K key _ zj (Nat.le_trans HKEY.out (by decide))).mono ?_
        rintro e w2 ⟨rfl, b2⟩
        rw [show Op.bytesLess K.toList key.toList = false from HL.out]
        have hpj : p = j := by
          rw [← HRO.out]
          exact V.room_hit _ key j (by rw [List.length_take]; omega) (by rw [V.getD_take _ _ _ hlt, ← hK.out]; exact HL.out) (fun i hi => by rw [V.getD_take _ _ _ (by omega)]; exact HA.out i hi)
        subst hpj
        replace pa := pa.keep b2
        replace pb := pb.keep b2
        replace pr := pr.keep b2
        replace bb := bthen bb b2
        replace sz := Nat.le_trans sz b2.size
        clear x0 x1 x2 x3 x4 y0 y1 y2 y3 y4 b2
        obtain ⟨⟨x0, x1, x2, x3, x4⟩, _⟩ := id pa
        obtain ⟨⟨y0, y1, y2, y3, y4⟩, _⟩ := id pb
        have g0 : ∀ o, (w2.alloc o).cell? _ = _ := fun o => cell_keep y0 (below_alloc w2 o)
        have g1 : ∀ o, (w2.alloc o).cell? _ = _ := fun o => cell_keep y1 (below_alloc w2 o)
        have g2 : ∀ o, (w2.alloc o).cell? _ = _ := fun o => cell_keep y2 (below_alloc w2 o)
        have g3 : ∀ o, (w2.alloc o).cell? _ = _ := fun o => cell_keep y3 (below_alloc w2 o)
        have g4 : ∀ o, (w2.alloc o).cell? _ = _ := fun o => cell_keep y4 (below_alloc w2 o)
        go_wp2_with fail
        clear g0 g1 g2 g3 g4
        clear x0 x1 x2 x3 x4 y0 y1 y2 y3 y4
        have hS : ∀ b, b < w.heap.size → S b → (S b ∧ b < w.heap.size) ∨ w.heap.size + 3 ≤ b := fun b hb hs => .inl ⟨hs, hb⟩
        have bk := below_alloc w2 (.cells #[.string key] 9)
        have rkey := raw_one_str w2 key (fun b => (S b ∧ b < w.heap.size) ∨ w.heap.size + 3 ≤ b) _ rfl (.inr sz)
        have bk2 := below_alloc (w2.alloc (.cells #[.string key] 9)) (.cells #[.int .i64 y.kind, .int .i64 y.num, .string y.text, .slice b1 y.keys.length d1, .slice b2 y.list.length d2] 27)
        have rval := raw_one_val (w2.alloc (.cells #[.string key] 9)) y.kind y.num y.text b1 y.keys.length d1 b2 y.list.length d2 (fun b => (S b ∧ b < w.heap.size) ∨ w.heap.size + 3 ≤ b) (w2.heap.size + 1) (by simp) (.inr (by omega))
        have hkk : Strs _ _ _ [key] := strs_of_raw (ks := [key]) (rkey.below bk2) (fun k hk => by rw [List.mem_singleton.1 hk]; exact Nat.le_trans HKEY.out (by decide))
        have hll := isL_of_raw rval (Els.one (x := y) ((HH'.out.weak hS).below (bthen bb (bthen bk bk2))))
        refine (refWith_core ((HH.out.weak hS).below (bthen bb (bthen bk bk2))) HWX.out H5.out p 0 _ _ [key] [y] hkk hll (by have := HM.out; have := HPL.out; omega) (by simp) (by simp)).mono ?_
        rintro e w3 ⟨k5, n5, t5, a5, m5, c5, a6, m6, c6, rfl, his, bw3⟩
        replace pr := pr.keep (bthen (bthen bk bk2) bw3)
        replace bb := bthen bb (bthen (bthen bk bk2) bw3)
        clear rkey rval hkk hll
        obtain ⟨⟨y0, y1, y2, y3, y4⟩, g0, g1, g2, g3, g4⟩ := id pr
        go_wp2_with fail
        obtain ⟨u0, u1, u2, u3, u4⟩ := Box5.all pr.1 (.int .i64 k5) (.int .i64 n5) (.string t5) (.slice a5 m5 c5) (.slice a6 m6 c6)
        refine bodyPost_ret (v := .agg #[.int .i64 k5, .int .i64 n5, .string t5, .slice a5 m5 c5, .slice a6 m6 c6]) (by simp [results, Tryz.results25, go_sem, u0, u1, u2, u3, u4]) rfl ?_
        refine ⟨k5, n5, t5, a5, m5, c5, a6, m6, c6, rfl, ?_, ?_⟩
        · have kp := keeps_set5 (S := fun b => b ≠ w.heap.size + 2) (w := w3) (g := w.heap.size + 2) (o := 0) (.int .i64 k5) (.int .i64 n5) (.string t5) (.slice a5 m5 c5) (.slice a6 m6 c6) (by simp)
          have hi2 := his.weak (S' := fun b => b ≠ w.heap.size + 2 ∧ (S b ∨ w.heap.size ≤ b)) (fun b hb2 hb => by
            rcases hb with (hb | hb) | hb
            · exact ⟨by omega, .inl hb.1⟩
            · exact ⟨by omega, .inr (by omega)⟩
            · have := bk.size; have := bk2.size; exact ⟨by omega, .inr (by omega)⟩)
          exact (hi2.keep (fun b hb hl => kp b hb.1 hl)).weak (fun b _ hb => hb.2)
        · have le2 : w.heap.size ≤ w.heap.size + 2 := by omega
          exact ((((bb.setCell le2 _).setCell le2 _).setCell le2 _).setCell le2 _).setCell le2 _
    · have hje : j = m := by omega
      subst hje
      have hpj : p = j := by
        have hlen : (x.keys.take j).length = j := by rw [List.length_take]; omega
        rw [← HRO.out, V.room_miss _ key (fun i hi => by rw [hlen] at hi; rw [V.getD_take _ _ _ hi]; exact HA.out i hi), hlen]
      subst hpj
      have g0 : ∀ o, (wr.alloc o).cell? _ = _ := fun o => cell_keep y0 (below_alloc wr o)
      have g1 : ∀ o, (wr.alloc o).cell? _ = _ := fun o => cell_keep y1 (below_alloc wr o)
      have g2 : ∀ o, (wr.alloc o).cell? _ = _ := fun o => cell_keep y2 (below_alloc wr o)
      have g3 : ∀ o, (wr.alloc o).cell? _ = _ := fun o => cell_keep y3 (below_alloc wr o)
      have g4 : ∀ o, (wr.alloc o).cell? _ = _ := fun o => cell_keep y4 (below_alloc wr o)
      go_wp2_with fail
      clear g0 g1 g2 g3 g4
      clear x0 x1 x2 x3 x4 y0 y1 y2 y3 y4
      have hS : ∀ b, b < w.heap.size → S b → (S b ∧ b < w.heap.size) ∨ w.heap.size + 3 ≤ b := fun b hb hs => .inl ⟨hs, hb⟩
      have bk := below_alloc wr (.cells #[.string key] 9)
      have rkey := raw_one_str wr key (fun b => (S b ∧ b < w.heap.size) ∨ w.heap.size + 3 ≤ b) _ rfl (.inr sz)
      have bk2 := below_alloc (wr.alloc (.cells #[.string key] 9)) (.cells #[.int .i64 y.kind, .int .i64 y.num, .string y.text, .slice b1 y.keys.length d1, .slice b2 y.list.length d2] 27)
      have rval := raw_one_val (wr.alloc (.cells #[.string key] 9)) y.kind y.num y.text b1 y.keys.length d1 b2 y.list.length d2 (fun b => (S b ∧ b < w.heap.size) ∨ w.heap.size + 3 ≤ b) (wr.heap.size + 1) (by simp) (.inr (by omega))
      have hkk : Strs _ _ _ [key] := strs_of_raw (ks := [key]) (rkey.below bk2) (fun k hk => by rw [List.mem_singleton.1 hk]; exact Nat.le_trans HKEY.out (by decide))
      have hll := isL_of_raw rval (Els.one (x := y) ((HH'.out.weak hS).below (bthen bb (bthen bk bk2))))
      refine (refWith_core ((HH.out.weak hS).below (bthen bb (bthen bk bk2))) HWX.out H5.out p 0 _ _ [key] [y] hkk hll (by have := HM.out; have := HPL.out; omega) (by simp) (by simp)).mono ?_
      rintro e w3 ⟨k5, n5, t5, a5, m5, c5, a6, m6, c6, rfl, his, bw3⟩
      replace pr := pr.keep (bthen (bthen bk bk2) bw3)
      replace bb := bthen bb (bthen (bthen bk bk2) bw3)
      clear rkey rval hkk hll
      obtain ⟨⟨y0, y1, y2, y3, y4⟩, g0, g1, g2, g3, g4⟩ := id pr
      go_wp2_with fail
      obtain ⟨u0, u1, u2, u3, u4⟩ := Box5.all pr.1 (.int .i64 k5) (.int .i64 n5) (.string t5) (.slice a5 m5 c5) (.slice a6 m6 c6)
      refine bodyPost_ret (v := .agg #[.int .i64 k5, .int .i64 n5, .string t5, .slice a5 m5 c5, .slice a6 m6 c6]) (by simp [results, Tryz.results25, go_sem, u0, u1, u2, u3, u4]) rfl ?_
      refine ⟨k5, n5, t5, a5, m5, c5, a6, m6, c6, rfl, ?_, ?_⟩
      · have kp := keeps_set5 (S := fun b => b ≠ w.heap.size + 2) (w := w3) (g := w.heap.size + 2) (o := 0) (.int .i64 k5) (.int .i64 n5) (.string t5) (.slice a5 m5 c5) (.slice a6 m6 c6) (by simp)
        have hi2 := his.weak (S' := fun b => b ≠ w.heap.size + 2 ∧ (S b ∨ w.heap.size ≤ b)) (fun b hb2 hb => by
          rcases hb with (hb | hb) | hb
          · exact ⟨by omega, .inl hb.1⟩
          · exact ⟨by omega, .inr (by omega)⟩
          · have := bk.size; have := bk2.size; exact ⟨by omega, .inr (by omega)⟩)
        exact (hi2.keep (fun b hb hl => kp b hb.1 hl)).weak (fun b _ hb => hb.2)
      · have le2 : w.heap.size ≤ w.heap.size + 2 := by omega
        exact ((((bb.setCell le2 _).setCell le2 _).setCell le2 _).setCell le2 _).setCell le2 _
end Go.Proofs.YtapcmbbhhclepaaGreatDoor
namespace Go.Proofs.YtapcmbbhhclepaaGreatDoor
open Go.RowKit Go.Sort
theorem refStr_any (s : ByteArray) (w : World) :
    Calls Tryz.prog 26 #[.string s] w fun e w' => e = .returned (.agg #[.int .i64 3, .int .i64 0, .string s, .slice none 0 0, .slice none 0 0]) ∧ Below w.heap.size w w' := by
  go_enter Tryz.func26, Tryz.ntmps26
  go_wp2_with fail
  obtain ⟨u0, u1, u2, u3, u4⟩ := box5_new w (.int .i64 3) (.int .i64 0) (.string s) (.slice none 0 0) (.slice none 0 0) 27
  refine bodyPost_ret (v := .agg #[.int .i64 3, .int .i64 0, .string s, .slice none 0 0, .slice none 0 0]) (by simp [results, Tryz.results26, go_sem, u0, u1, u2, u3, u4]) rfl ?_
  exact ⟨rfl, below_alloc _ _⟩
theorem refNum_any (n : Int) (w : World) :
    Calls Tryz.prog 60 #[.int .i64 n] w fun e w' => e = .returned (.agg #[.int .i64 2, .int .i64 n, .string ⟨#[]⟩, .slice none 0 0, .slice none 0 0]) ∧ Below w.heap.size w w' := by
  go_enter Tryz.func60, Tryz.ntmps60
  go_wp2_with fail
  obtain ⟨u0, u1, u2, u3, u4⟩ := box5_new w (.int .i64 2) (.int .i64 n) (.string ⟨#[]⟩) (.slice none 0 0) (.slice none 0 0) 27
  refine bodyPost_ret (v := .agg #[.int .i64 2, .int .i64 n, .string ⟨#[]⟩, .slice none 0 0, .slice none 0 0]) (by simp [results, Tryz.results60, go_sem, u0, u1, u2, u3, u4]) rfl ?_
  exact ⟨rfl, below_alloc _ _⟩
theorem V.get_eq' (x : V) (key : ByteArray) : V.get x key = if V.place x key < 0 then none else x.list[(V.place x key).toNat]? := rfl
set_option maxHeartbeats 2000000 in
set_option maxRecDepth 100000 in
theorem refGet_all {v : Value} {x : V} {w : World} {S : Nat → Prop} (h : Is w S v x) (key : ByteArray) (hwt : V.wt x ≤ 4294967296) :
    Calls Tryz.prog 19 #[v, .string key] w fun e w' => ∃ k n t a1 n1 c1 a2 n2 c2 is, e = .returned (.tuple #[.agg #[.int .i64 k, .int .i64 n, .string t, .slice a1 n1 c1, .slice a2 n2 c2], .bool is]) ∧ is = (V.get x key).isSome ∧ Is w' (fun _ => True) (.agg #[.int .i64 k, .int .i64 n, .string t, .slice a1 n1 c1, .slice a2 n2 c2]) ((V.get x key).getD V.nul) ∧ Below w.heap.size w w' := by
  replace h := h.weak (S' := fun b => b < w.heap.size) (fun b hb _ => hb)
  obtain ⟨kv, lv, rfl, h2, h8, _⟩ := id h.open
  obtain ⟨a1, c1, rfl, h3, h4, _, h5⟩ := id h2
  obtain ⟨a, cap, c, rfl, h6, h7, _⟩ := id h8
  obtain ⟨p, hp⟩ : ∃ p, V.place x key = p := ⟨_, rfl⟩
  have hlen : x.list.length ≤ 4294967296 := by have := V.len_wt x; omega
  have HP := hide hp
  have H8 := hide h8
  have HH := hide h
  clear hp h5 h4 h7 h8 h2 h
  have b0 : Below w.heap.size w ((w.alloc (.cells #[.int .i64 x.kind, .int .i64 x.num, .string x.text, .slice a1 x.keys.length c1, .slice a x.list.length cap] 27)).alloc (.cells #[.int .i64 0, .int .i64 0, .string ⟨#[]⟩, .slice none 0 0, .slice none 0 0] 27)) := bthen (below_alloc _ _) (below_alloc _ _)
  have HB0 := hide b0
  clear b0
  obtain ⟨x0, x1, x2, x3, x4⟩ : Box5 ((w.alloc (.cells #[.int .i64 x.kind, .int .i64 x.num, .string x.text, .slice a1 x.keys.length c1, .slice a x.list.length cap] 27)).alloc (.cells #[.int .i64 0, .int .i64 0, .string ⟨#[]⟩, .slice none 0 0, .slice none 0 0] 27)) w.heap.size _ _ _ _ _ := (box5_new w _ _ _ _ _ 27).keep (below_alloc _ _)
  go_enter Tryz.func19, Tryz.ntmps19
  go_wp2_with fail
  clear x0 x1 x2 x3 x4
  refine (refPlace_any (HH.out.below HB0.out) hwt key p HP.out).mono ?_
  rintro e w1 ⟨rfl, b1⟩
  have q : BoxF w1 (w.heap.size + 1) _ _ _ _ _ := (boxF_at _ _ _ _ _ _ 27 _ (by simp)).keep b1
  have hbx : Box5 w1 w.heap.size _ _ _ _ _ := ((box5_new w _ _ _ _ _ 27).keep (below_alloc _ _)).keep b1
  have HQ := hide q
  have bb := bthen HB0.out b1
  have HBB := hide bb
  clear b1
  obtain ⟨⟨y0, y1, y2, y3, y4⟩, g0, g1, g2, g3, g4⟩ := id q
  clear q
  by_cases hneg : p < 0
  · clear bb
    go_wp2_with fail
    obtain ⟨u0, u1, u2, u3, u4⟩ := Box5.all HQ.out.1 (.int .i64 0) (.int .i64 0) (.string ⟨#[]⟩) (.slice none 0 0) (.slice none 0 0)
    refine bodyPost_ret (v := .tuple #[.agg #[.int .i64 0, .int .i64 0, .string ⟨#[]⟩, .slice none 0 0, .slice none 0 0], .bool false]) (by simp [results, Tryz.results19, go_sem, u0, u1, u2, u3, u4]) rfl ?_
    have e1 : V.get x key = none := by rw [V.get_eq', HP.out, if_pos hneg]
    rw [e1]
    exact ⟨_, _, _, _, _, _, _, _, _, _, rfl, rfl, is_plain _ _ 0 0 ⟨#[]⟩ (by decide), ((((HBB.out.setCell (Nat.le_succ _) _).setCell (Nat.le_succ _) _).setCell (Nat.le_succ _) _).setCell (Nat.le_succ _) _).setCell (Nat.le_succ _) _⟩
  · have hpl := (V.place_lt x key (by rw [HP.out]; omega)).2
    rw [HP.out] at hpl
    obtain ⟨m, hm⟩ : ∃ m : Nat, p.toNat = m := ⟨_, rfl⟩
    have hpm : p = (m : Int) := by omega
    have hml : m < x.list.length := by omega
    subst hpm
    clear hm hpl
    obtain ⟨b, off, k', n', t', a1', n1', c1', a2', n2', c2', rfl, hel, e0, e1, e2, e3, e4⟩ := isL_open H8.out bb hml
    have HEL := hide hel
    have hget : V.get x key = some x.list[m] := by rw [V.get_eq', HP.out, if_neg (by omega), Int.toNat_natCast, List.getElem?_eq_getElem hml]
    have HG := hide hget
    clear hel hget bb
    obtain ⟨x0, x1, x2, x3, x4⟩ := hbx
    go_wp2_with fail
    obtain ⟨u0, u1, u2, u3, u4⟩ := Box5.all HQ.out.1 (.int .i64 k') (.int .i64 n') (.string t') (.slice a1' n1' c1') (.slice a2' n2' c2')
    refine bodyPost_ret (v := .tuple #[.agg #[.int .i64 k', .int .i64 n', .string t', .slice a1' n1' c1', .slice a2' n2' c2'], .bool true]) (by simp [results, Tryz.results19, go_sem, u0, u1, u2, u3, u4]) rfl ?_
    rw [HG.out]
    refine ⟨_, _, _, _, _, _, _, _, _, _, rfl, rfl, ?_, ((((HBB.out.setCell (Nat.le_succ _) _).setCell (Nat.le_succ _) _).setCell (Nat.le_succ _) _).setCell (Nat.le_succ _) _).setCell (Nat.le_succ _) _⟩
    have kp := keeps_set5 (S := fun b => b < w.heap.size) (w := w1) (g := w.heap.size + 1) (o := 0) (.int .i64 k') (.int .i64 n') (.string t') (.slice a1' n1' c1') (.slice a2' n2' c2') (by omega)
    exact (HEL.out.keep kp).weak (fun _ _ _ => trivial)
set_option maxHeartbeats 2000000 in
set_option maxRecDepth 100000 in
theorem refWithout_any {v : Value} {x : V} {w : World} {S : Nat → Prop} (h : Is w S v x) (key : ByteArray) (hwt : V.wt x ≤ 1000000000) :
    Calls Tryz.prog 66 #[v, .string key] w fun e w' => ∃ k n t a1 n1 c1 a2 n2 c2, e = .returned (.agg #[.int .i64 k, .int .i64 n, .string t, .slice a1 n1 c1, .slice a2 n2 c2]) ∧ Is w' (fun _ => True) (.agg #[.int .i64 k, .int .i64 n, .string t, .slice a1 n1 c1, .slice a2 n2 c2]) (V.without x key) ∧ Below w.heap.size w w' := by
  replace h := h.weak (S' := fun b => b < w.heap.size) (fun b hb _ => hb)
  obtain ⟨kv, lv, rfl, h2, h8, _⟩ := id h.open
  obtain ⟨a1, c1, rfl, h3, h4, _, h5⟩ := id h2
  obtain ⟨a, cap, c, rfl, h6, h7, _⟩ := id h8
  obtain ⟨p, hp⟩ : ∃ p, V.place x key = p := ⟨_, rfl⟩
  have HP := hide hp
  have HH := hide h
  clear hp h5 h4 h7 h8 h2 h
  have b0 : Below w.heap.size w ((w.alloc (.cells #[.int .i64 x.kind, .int .i64 x.num, .string x.text, .slice a1 x.keys.length c1, .slice a x.list.length cap] 27)).alloc (.cells #[.int .i64 0, .int .i64 0, .string ⟨#[]⟩, .slice none 0 0, .slice none 0 0] 27)) := bthen (below_alloc _ _) (below_alloc _ _)
  have HB0 := hide b0
  clear b0
  obtain ⟨x0, x1, x2, x3, x4⟩ : Box5 ((w.alloc (.cells #[.int .i64 x.kind, .int .i64 x.num, .string x.text, .slice a1 x.keys.length c1, .slice a x.list.length cap] 27)).alloc (.cells #[.int .i64 0, .int .i64 0, .string ⟨#[]⟩, .slice none 0 0, .slice none 0 0] 27)) w.heap.size _ _ _ _ _ := (box5_new w _ _ _ _ _ 27).keep (below_alloc _ _)
  go_enter Tryz.func66, Tryz.ntmps66
  go_wp2_with fail
  clear x0 x1 x2 x3 x4
  refine (refPlace_any (HH.out.below HB0.out) (Nat.le_trans hwt (by decide)) key p HP.out).mono ?_
  rintro e w1 ⟨rfl, b1⟩
  have q : BoxF w1 (w.heap.size + 1) _ _ _ _ _ := (boxF_at _ _ _ _ _ _ 27 _ (by simp)).keep b1
  have hbx : Box5 w1 w.heap.size _ _ _ _ _ := ((box5_new w _ _ _ _ _ 27).keep (below_alloc _ _)).keep b1
  have HQ := hide q
  have bb := bthen HB0.out b1
  have HBB := hide bb
  have hsz : w.heap.size + 2 ≤ w1.heap.size := by have := b1.size; simpa using this
  clear b1 bb
  obtain ⟨x0, x1, x2, x3, x4⟩ := hbx
  by_cases hneg : p < 0
  · obtain ⟨⟨y0, y1, y2, y3, y4⟩, g0, g1, g2, g3, g4⟩ := id q
    clear q
    go_wp2_with fail
    obtain ⟨u0, u1, u2, u3, u4⟩ := Box5.all HQ.out.1 (.int .i64 x.kind) (.int .i64 x.num) (.string x.text) (.slice a1 x.keys.length c1) (.slice a x.list.length cap)
    refine bodyPost_ret (v := .agg #[.int .i64 x.kind, .int .i64 x.num, .string x.text, .slice a1 x.keys.length c1, .slice a x.list.length cap]) (by simp [results, Tryz.results66, go_sem, u0, u1, u2, u3, u4]) rfl ?_
    have e1 : V.without x key = x := by unfold V.without; rw [HP.out, if_neg (by omega)]
    rw [e1]
    refine ⟨_, _, _, _, _, _, _, _, _, rfl, ?_, ((((HBB.out.setCell (Nat.le_succ _) _).setCell (Nat.le_succ _) _).setCell (Nat.le_succ _) _).setCell (Nat.le_succ _) _).setCell (Nat.le_succ _) _⟩
    have kp := keeps_set5 (S := fun b => b < w.heap.size) (w := w1) (g := w.heap.size + 1) (o := 0) (.int .i64 x.kind) (.int .i64 x.num) (.string x.text) (.slice a1 x.keys.length c1) (.slice a x.list.length cap) (by omega)
    exact ((HH.out.below HBB.out).keep kp).weak (fun _ _ _ => trivial)
  · have hpl := V.place_lt x key (by rw [HP.out]; omega)
    rw [HP.out] at hpl
    obtain ⟨m, hm⟩ : ∃ m : Nat, p.toNat = m := ⟨_, rfl⟩
    have hpm : p = (m : Int) := by omega
    subst hpm
    have hml : m + 1 ≤ min x.keys.length x.list.length := by have := hpl.2; omega
    have H5 := hide hpl.1
    have HML := hide hml
    clear hm hpl hml q
    go_wp2_with fail
    clear x0 x1 x2 x3 x4
    refine (refWith_core (HH.out.below HBB.out) hwt H5.out m 1 _ _ [] [] (strs_nil _ _) (isL_nil _ _) HML.out (by simp) (by simp)).mono ?_
    rintro e w2 ⟨k5, n5, t5, a5, m5, c5, a6, m6, c6, rfl, his, b2⟩
    have q2 := HQ.out.keep b2
    have HQ2 := hide q2
    have HIS := hide his
    have HB2 := hide (bthen HBB.out b2)
    clear his b2
    obtain ⟨⟨y0, y1, y2, y3, y4⟩, g0, g1, g2, g3, g4⟩ := id q2
    clear q2
    go_wp2_with fail
    obtain ⟨u0, u1, u2, u3, u4⟩ := Box5.all HQ2.out.1 (.int .i64 k5) (.int .i64 n5) (.string t5) (.slice a5 m5 c5) (.slice a6 m6 c6)
    refine bodyPost_ret (v := .agg #[.int .i64 k5, .int .i64 n5, .string t5, .slice a5 m5 c5, .slice a6 m6 c6]) (by simp [results, Tryz.results66, go_sem, u0, u1, u2, u3, u4]) rfl ?_
    have e1 : V.without x key = V.laid x m (m + 1) [] [] := by unfold V.without; rw [HP.out, if_pos (by omega), Int.toNat_natCast]
    rw [e1]
    refine ⟨_, _, _, _, _, _, _, _, _, rfl, ?_, ((((HB2.out.setCell (Nat.le_succ _) _).setCell (Nat.le_succ _) _).setCell (Nat.le_succ _) _).setCell (Nat.le_succ _) _).setCell (Nat.le_succ _) _⟩
    have kp := keeps_set5 (S := fun b => b < w.heap.size ∨ w1.heap.size ≤ b) (w := w2) (g := w.heap.size + 1) (o := 0) (.int .i64 k5) (.int .i64 n5) (.string t5) (.slice a5 m5 c5) (.slice a6 m6 c6) (by omega)
    exact (HIS.out.keep kp).weak (fun _ _ _ => trivial)
set_option maxHeartbeats 2000000 in
set_option maxRecDepth 100000 in
theorem refWith_new {v vy : Value} {x y : V} {w : World} {S : Nat → Prop} (h : Is w S v x) (h' : Is w S vy y) (key : ByteArray) (hkey : key.size ≤ 1000000000) (h5 : x.kind ≠ 5) :
    Calls Tryz.prog 25 #[v, .string key, vy] w fun e w' => ∃ k n t a1 n1 c1 a2 n2 c2, e = .returned (.agg #[.int .i64 k, .int .i64 n, .string t, .slice a1 n1 c1, .slice a2 n2 c2]) ∧ Is w' (fun _ => True) (.agg #[.int .i64 k, .int .i64 n, .string t, .slice a1 n1 c1, .slice a2 n2 c2]) ⟨5, 0, ⟨#[]⟩, [key], [y]⟩ ∧ Below w.heap.size w w' := by
  replace h' := h'.weak (S' := fun b => b < w.heap.size) (fun b hb _ => hb)
  obtain ⟨kv, lv, rfl, h2, h8, _⟩ := id h.open
  obtain ⟨a1, c1, rfl, _⟩ := id h2
  obtain ⟨a, cap, c, rfl, _⟩ := id h8
  obtain ⟨kv', lv', rfl, h2', h8', _⟩ := id h'.open
  obtain ⟨b1, d1, rfl, _⟩ := id h2'
  obtain ⟨b2, d2, c', rfl, _⟩ := id h8'
  have t5 : (x.kind != 5) = true := by simpa using h5
  have HH := hide h'
  clear h h' h2 h8 h2' h8' h5
  generalize x.kind = xk at t5 ⊢
  generalize x.num = xn
  generalize x.text = xt
  generalize x.keys.length = xa
  generalize x.list.length = xb
  go_enter Tryz.func25, Tryz.ntmps25
  go_wp2_with fail
  have bw : Below w.heap.size w (((((w.alloc (.cells #[.int .i64 xk, .int .i64 xn, .string xt, .slice a1 xa c1, .slice a xb cap] 27)).alloc (.cells #[.int .i64 y.kind, .int .i64 y.num, .string y.text, .slice b1 y.keys.length d1, .slice b2 y.list.length d2] 27)).alloc (.cells #[.int .i64 5, .int .i64 0, .string ⟨#[]⟩, .slice (some ⟨w.heap.size + 1 + 1 + 1, 0, none⟩) 1 1, .slice (some ⟨w.heap.size + 1 + 1 + 1 + 1, 0, none⟩) 1 1] 27)).alloc (.cells #[.string key] 9)).alloc (.cells #[.int .i64 y.kind, .int .i64 y.num, .string y.text, .slice b1 y.keys.length d1, .slice b2 y.list.length d2] 27)) := bthen (below_alloc _ _) (bthen (below_alloc _ _) (bthen (below_alloc _ _) (bthen (below_alloc _ _) (below_alloc _ _))))
  obtain ⟨u0, u1, u2, u3, u4⟩ : Box5 (((((w.alloc (.cells #[.int .i64 xk, .int .i64 xn, .string xt, .slice a1 xa c1, .slice a xb cap] 27)).alloc (.cells #[.int .i64 y.kind, .int .i64 y.num, .string y.text, .slice b1 y.keys.length d1, .slice b2 y.list.length d2] 27)).alloc (.cells #[.int .i64 5, .int .i64 0, .string ⟨#[]⟩, .slice (some ⟨w.heap.size + 1 + 1 + 1, 0, none⟩) 1 1, .slice (some ⟨w.heap.size + 1 + 1 + 1 + 1, 0, none⟩) 1 1] 27)).alloc (.cells #[.string key] 9)).alloc (.cells #[.int .i64 y.kind, .int .i64 y.num, .string y.text, .slice b1 y.keys.length d1, .slice b2 y.list.length d2] 27)) (w.heap.size + 1 + 1) _ _ _ _ _ := ((box5_at _ _ _ _ _ _ 27 _ (by simp)).keep (below_alloc _ _)).keep (below_alloc _ _)
  refine bodyPost_ret (v := .agg #[.int .i64 5, .int .i64 0, .string ⟨#[]⟩, .slice (some ⟨w.heap.size + 1 + 1 + 1, 0, none⟩) 1 1, .slice (some ⟨w.heap.size + 1 + 1 + 1 + 1, 0, none⟩) 1 1]) (by simp [results, Tryz.results25, go_sem, u0, u1, u2, u3, u4]) rfl ?_
  refine ⟨_, _, _, _, _, _, _, _, _, rfl, ?_, bw⟩
  refine Is.shut (x := ⟨5, 0, ⟨#[]⟩, [key], [y]⟩) ?_ ?_ (Nat.zero_le _)
  · exact strs_of_raw (ks := [key]) ((raw_one_str (((w.alloc (.cells #[.int .i64 xk, .int .i64 xn, .string xt, .slice a1 xa c1, .slice a xb cap] 27)).alloc (.cells #[.int .i64 y.kind, .int .i64 y.num, .string y.text, .slice b1 y.keys.length d1, .slice b2 y.list.length d2] 27)).alloc (.cells #[.int .i64 5, .int .i64 0, .string ⟨#[]⟩, .slice (some ⟨w.heap.size + 1 + 1 + 1, 0, none⟩) 1 1, .slice (some ⟨w.heap.size + 1 + 1 + 1 + 1, 0, none⟩) 1 1] 27)) key (fun _ => True) _ (by simp) trivial).below (below_alloc _ _)) (fun k hk => by rw [List.mem_singleton.1 hk]; exact Nat.le_trans hkey (by decide))
  · exact isL_of_raw (raw_one_val ((((w.alloc (.cells #[.int .i64 xk, .int .i64 xn, .string xt, .slice a1 xa c1, .slice a xb cap] 27)).alloc (.cells #[.int .i64 y.kind, .int .i64 y.num, .string y.text, .slice b1 y.keys.length d1, .slice b2 y.list.length d2] 27)).alloc (.cells #[.int .i64 5, .int .i64 0, .string ⟨#[]⟩, .slice (some ⟨w.heap.size + 1 + 1 + 1, 0, none⟩) 1 1, .slice (some ⟨w.heap.size + 1 + 1 + 1 + 1, 0, none⟩) 1 1] 27)).alloc (.cells #[.string key] 9)) y.kind y.num y.text b1 y.keys.length d1 b2 y.list.length d2 (fun _ => True) _ (by simp) trivial) (Els.one (x := y) ((HH.out.weak (S' := fun _ => True) (fun _ _ _ => trivial)).below bw))
theorem refWith_all {v vy : Value} {x y : V} {w : World} {S S' : Nat → Prop} (h : Is w S v x) (h' : Is w S' vy y) (hwx : V.wt x ≤ 1000000000) (key : ByteArray) (hkey : key.size ≤ 1000000000) :
    Calls Tryz.prog 25 #[v, .string key, vy] w fun e w' => ∃ k n t a1 n1 c1 a2 n2 c2, e = .returned (.agg #[.int .i64 k, .int .i64 n, .string t, .slice a1 n1 c1, .slice a2 n2 c2]) ∧ Is w' (fun _ => True) (.agg #[.int .i64 k, .int .i64 n, .string t, .slice a1 n1 c1, .slice a2 n2 c2]) (V.withV x key y) ∧ Below w.heap.size w w' := by
  replace h := h.weak (S' := fun _ => True) (fun _ _ _ => trivial)
  replace h' := h'.weak (S' := fun _ => True) (fun _ _ _ => trivial)
  by_cases h5 : x.kind = 5
  · by_cases hp : 0 ≤ V.place x key
    · have e1 : V.withV x key y = V.laid x (V.place x key).toNat ((V.place x key).toNat + 1) [key] [y] := by
        unfold V.withV
        rw [if_pos h5]
        unfold V.with5
        rw [if_pos hp]
      rw [e1]
      refine (refWith_hit h h' hwx key hkey h5 (V.place x key).toNat (by omega)).mono ?_
      rintro e w' ⟨k, n, t, a1, n1, c1, a2, n2, c2, rfl, his, b⟩
      exact ⟨k, n, t, a1, n1, c1, a2, n2, c2, rfl, his.weak (fun _ _ _ => trivial), b⟩
    · have e1 : V.withV x key y = V.laid x (V.room (x.keys.take (min x.keys.length x.list.length)) key) (V.room (x.keys.take (min x.keys.length x.list.length)) key) [key] [y] := by
        unfold V.withV
        rw [if_pos h5]
        unfold V.with5
        rw [if_neg hp]
      rw [e1]
      refine (refWith_miss h h' hwx key hkey h5 _ rfl (by omega)).mono ?_
      rintro e w' ⟨k, n, t, a1, n1, c1, a2, n2, c2, rfl, his, b⟩
      exact ⟨k, n, t, a1, n1, c1, a2, n2, c2, rfl, his.weak (fun _ _ _ => trivial), b⟩
  · have e1 : V.withV x key y = ⟨5, 0, ⟨#[]⟩, [key], [y]⟩ := by
      unfold V.withV V.with5
      rw [if_neg h5]
      have : ¬ (0 : Int) ≤ V.place V.none5 key := by
        show ¬ (0 : Int) ≤ Lib.idxOfS [] key
        rw [Lib.idxOfS_nonneg_iff]
        simp
      rw [if_neg this]
      rfl
    rw [e1]
    exact refWith_new h h' key hkey h5
end Go.Proofs.YtapcmbbhhclepaaGreatDoor
