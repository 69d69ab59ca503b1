/-
  THE WALKS over the document's own answer for layer 2: place, with.
-/
import Derived.Test.YtpfbiklbecdmiaaVWithE
import Derived.Test.YtpfbiklbecdmiaaL1R
set_option linter.unusedVariables false
set_option linter.unusedSimpArgs false
namespace Go.Proofs.Ytpfbiklbecdmiaa
open Go.RowKit

theorem V.place_hit (k n : Int) (t : ByteArray) (ks : List ByteArray) (l : List V) (key : ByteArray) (j : Nat) (hk : k = 5) (hj : j < ks.length) (h1 : ks.getD j ByteArray.empty = key) (h2 : ∀ i, i < j → ks.getD i ByteArray.empty ≠ key) :
    V.place ⟨k, n, t, ks, l⟩ key = if j < l.length then (j : Int) else -1 := by
  simp only [V.place]
  rw [if_pos hk]
  by_cases hl : j < l.length
  · rw [if_pos hl]
    exact Lib.idxOfS_hit ks (min ks.length l.length) j key (by omega) (by omega) h1 h2
  · rw [if_neg hl]
    exact Lib.idxOfS_miss ks _ key (fun i hi => h2 i (by omega))
theorem V.place_miss (k n : Int) (t : ByteArray) (ks : List ByteArray) (l : List V) (key : ByteArray) (hk : k = 5) (h2 : ∀ i, i < ks.length → ks.getD i ByteArray.empty ≠ key) :
    V.place ⟨k, n, t, ks, l⟩ key = -1 := by
  simp only [V.place]
  rw [if_pos hk]
  exact Lib.idxOfS_miss ks _ key (fun i hi => h2 i (by omega))

set_option maxHeartbeats 4000000 in
theorem refPlace_any {v : Value} {x : V} {w : World} {S : Nat → Prop} (h : Is w S v x) (hwt : V.wt x ≤ 4294967296) (key : ByteArray) (p : Int) (hp : V.place x key = p) :
    Calls Try.prog 58 #[v, .string key] w fun e w' => e = .returned (.int .i64 p) ∧ Below w.heap.size w w' := by
  subst hp
  have hkl := V.klen_wt x
  have hll := V.len_wt x
  obtain ⟨kv, lv, rfl, h2, h8, _⟩ := h.open
  obtain ⟨k, n, t, ks, l⟩ := x
  simp only at *
  obtain ⟨a1, c1, rfl, h3, h4, _, h5⟩ := id h2
  obtain ⟨a, cap, c, rfl, h6, h7, _⟩ := id h8
  have hk32 : ks.length ≤ 4294967296 := by omega
  have hl32 : l.length ≤ 4294967296 := by omega
  have H5 := hide h5
  clear h h2 h8 h5 h4 h7 hwt hkl hll
  by_cases hk : k = 5
  · have HK := hide hk
    have hk' : (k != 5) = false := by simp [hk]
    clear hk
    go_enter Try.func58, Try.ntmps58
    go_wp2_with fail
    go_loopg [5] ks.length (fun g i wr => ∃ j : Nat, j + g = ks.length ∧ i = .int .i64 j ∧ Hid (∀ i, i < j → ks.getD i ByteArray.empty ≠ key) ∧ Below w.heap.size w wr ∧ Box5 wr w.heap.size (.int .i64 k) (.int .i64 n) (.string t) (.slice a1 ks.length c1) (.slice a l.length cap))
    case atStart => exact ⟨0, by omega, rfl, fun i hi => absurd hi (Nat.not_lt_zero _), below_alloc _ _, box5_new _ _ _ _ _ _ _⟩
    case round =>
      obtain ⟨j, hj, rfl, HA, bj, hbox⟩ := hrel
      obtain ⟨x0, x1, x2, x3, x4⟩ := id hbox
      by_cases hlt : j < ks.length
      · obtain ⟨b, off, K, rfl, hK, ej⟩ := str_at' H5.out bj hlt
        by_cases hKe : K = key
        · have he : (K.toList == key.toList) = true := by rw [hKe]; simp
          have HE := hide hKe
          clear hKe
          by_cases hl : j < l.length
          · have hl' : ¬ (l.length : Int) ≤ (j : Int) := by omega
            go_wp2_with fail
            go_ret
            refine ⟨ret_int ?_, bj⟩
            rw [V.place_hit k n t ks l key j HK.out hlt (by rw [← hK.out]; exact HE.out) HA.out, if_pos hl]
          · have hl' : (l.length : Int) ≤ (j : Int) := by omega
            go_wp2_with fail
            go_ret
            refine ⟨ret_int ?_, bj⟩
            rw [V.place_hit k n t ks l key j HK.out hlt (by rw [← hK.out]; exact HE.out) HA.out, if_neg (by omega)]
        · have he := bytes_ne hKe
          have HE := hide hKe
          clear hKe
          go_wp2_with fail
          go_roundg (gk - 1)
          case measure => omega
          case rel =>
            refine ⟨j + 1, by omega, rfl, ?_, bj, hbox⟩
            intro i hi
            by_cases e : i = j
            · subst e; rw [← hK.out]; exact HE.out
            · exact HA.out i (by omega)
      · have hje : j = ks.length := by omega
        subst hje
        go_wp2_with fail
        go_ret
        refine ⟨ret_int ?_, bj⟩
        rw [V.place_miss k n t ks l key HK.out HA.out]
  · have hk' : (k != 5) = true := by simp [hk]
    go_enter Try.func58, Try.ntmps58
    go_wp2_with fail
    go_ret
    refine ⟨ret_int ?_, below_alloc _ _⟩
    simp only [V.place, if_neg hk]

theorem slice_mid_str (a : Option Addr) (n cap l h : Nat) (h1 : l ≤ h) (h2 : h ≤ cap) (W : World) :
    (Instr.slice 22 (.slice a n cap) (some (.int .i64 (l : Int))) (some (.int .i64 (h : Int))) none).run Try.prog W = .ok (.slice (tailAddr a cap l 1) (h - l) (cap - l)) W := by
  rw [run_slice_lh (P := Try.prog) W _ a n cap Try.underlying22 .i64 .i64 (l : Int) (h : Int) (by omega) (by omega) (by omega)]
  simp [sliced, go_sem, tailAddr]
theorem slice_mid_val (a : Option Addr) (n cap l h : Nat) (h1 : l ≤ h) (h2 : h ≤ cap) (W : World) :
    (Instr.slice 23 (.slice a n cap) (some (.int .i64 (l : Int))) (some (.int .i64 (h : Int))) none).run Try.prog W = .ok (.slice (tailAddr a cap l 5) (h - l) (cap - l)) W := by
  rw [run_slice_lh (P := Try.prog) W _ a n cap Try.underlying23 .i64 .i64 (l : Int) (h : Int) (by omega) (by omega) (by omega)]
  simp [sliced, go_sem, tailAddr]

/-- three appends to nil, one behind the other -/
theorem append3 {P : Program} {w : World} (t ty e : TypeId) (z : Value) (size bytes : Nat) (ht : P.underlying t = some (.slice e)) (hinfo : (P.info? e).map (fun i => (i.zero, i.size, i.bytes)) = some (some z, size, bytes)) (hzs : z.cells.size = size) (hsz : 0 < size)
    {S : Nat → Prop} {x1 x2 x3 : Value} {m1 m2 m3 : Nat} {c1 c2 c3 : List Value} (h1 : Raw w S x1 size m1 c1) (h2 : Raw w S x2 size m2 c2) (h3 : Raw w S x3 size m3 c3)
    (hbytes : (m1 + m2 + m3) * bytes ≤ 140737488355328) (h63 : m1 + m2 + m3 ≤ maxLen) :
    ∃ a1 n1 k1 w1 a2 n2 k2 w2 a3 n3 k3 w3, (Builtin.append_ #[t, t] ty #[.slice none 0 0, x1]).run P w = .ok (.slice a1 n1 k1) w1 ∧ (Builtin.append_ #[t, t] ty #[.slice a1 n1 k1, x2]).run P w1 = .ok (.slice a2 n2 k2) w2 ∧ (Builtin.append_ #[t, t] ty #[.slice a2 n2 k2, x3]).run P w2 = .ok (.slice a3 n3 k3) w3 ∧
      Raw w3 (fun b => w.heap.size ≤ b) (.slice a3 n3 k3) size (m1 + m2 + m3) (c1 ++ c2 ++ c3) ∧ Below w.heap.size w w1 ∧ Below w.heap.size w w2 ∧ Below w.heap.size w w3 := by
  have hb1 : (0 + m1) * bytes ≤ 140737488355328 := Nat.le_trans (Nat.mul_le_mul_right _ (by omega)) hbytes
  have hb2 : (0 + m1 + m2) * bytes ≤ 140737488355328 := Nat.le_trans (Nat.mul_le_mul_right _ (by omega)) hbytes
  have hb3 : (0 + m1 + m2 + m3) * bytes ≤ 140737488355328 := Nat.le_trans (Nat.mul_le_mul_right _ (by omega)) hbytes
  obtain ⟨v1, w1, r1, o1, g1⟩ := append_part t ty e z size bytes ht hinfo hzs hsz w.heap.size _ _ _ (World.ownsRow_nil w w.heap.size e size) h1 (by omega) hb1 (Nat.le_refl _)
  obtain ⟨a1, k1, rfl⟩ := own_shape o1
  have b1 : Below w.heap.size w w1 := (Below.refl _ _).grown g1 (Nat.le_refl _) (fun k hk => by simp [Value.ownBlock] at hk)
  obtain ⟨v2, w2, r2, o2, g2⟩ := append_part t ty e z size bytes ht hinfo hzs hsz w.heap.size _ _ _ o1 (h2.below b1) (by omega) hb2 b1.size
  obtain ⟨a2, k2, rfl⟩ := own_shape o2
  have b2 : Below w.heap.size w w2 := b1.grown g2 b1.size (own_block o1)
  obtain ⟨v3, w3, r3, o3, g3⟩ := append_part t ty e z size bytes ht hinfo hzs hsz w.heap.size _ _ _ o2 (h3.below b2) (by omega) hb3 b2.size
  obtain ⟨a3, k3, rfl⟩ := own_shape o3
  have b3 : Below w.heap.size w w3 := b2.grown g3 b2.size (own_block o2)
  simp only [Nat.zero_add] at r1 r2 r3
  refine ⟨_, _, _, w1, _, _, _, w2, _, _, _, w3, r1, r2, r3, ?_, b1, b2, b3⟩
  have hraw := Raw.of_own o3 (fun u hu => by
    simp only [List.nil_append, List.mem_append] at hu
    rcases hu with (hu | hu) | hu
    · obtain ⟨_, _, _, _, _, _, q, _⟩ := h1; exact q u hu
    · obtain ⟨_, _, _, _, _, _, q, _⟩ := h2; exact q u hu
    · obtain ⟨_, _, _, _, _, _, q, _⟩ := h3; exact q u hu)
  rw [List.nil_append, Nat.zero_add] at hraw
  exact hraw

set_option maxHeartbeats 8000000 in
set_option maxRecDepth 100000 in
theorem refWith_core {v : Value} {x : V} {w : World} {S : Nat → Prop} (h : Is w S v x) (hwx : V.wt x ≤ 1000000000) (h5 : x.kind = 5) (p q : Nat) (kv' lv' : Value) (mk : List ByteArray) (ml : List V) (hk' : Strs w S kv' mk) (hl' : IsL w S lv' ml)
    (hpq : p + q ≤ min x.keys.length x.list.length) (hmk : mk.length ≤ 10) (hml : ml.length ≤ 10) :
    Calls Try.prog 59 #[v, .int .i64 p, .int .i64 q, kv', lv'] w fun e w' => ∃ k n t a1 n1 c1 a2 n2 c2, e = .returned (.agg #[.int .i64 k, .int .i64 n, .string t, .slice a1 n1 c1, .slice a2 n2 c2]) ∧ Is w' (fun b => S b ∨ w.heap.size ≤ b) (.agg #[.int .i64 k, .int .i64 n, .string t, .slice a1 n1 c1, .slice a2 n2 c2]) (V.laid x p (p + q) mk ml) ∧ Below w.heap.size w w' := by
  replace h := h.weak (S' := fun b => S b ∧ b < w.heap.size) (fun b hb hs => ⟨hs, hb⟩)
  replace hk' := hk'.weak (S' := fun b => S b ∧ b < w.heap.size) (fun b hb hs => ⟨hs, hb⟩)
  replace hl' := hl'.weak (S' := fun b => S b ∧ b < w.heap.size) (fun b hb hs => ⟨hs, hb⟩)
  have hkl := V.klen_wt x
  have hll := V.len_wt x
  obtain ⟨kv, lv, rfl, h2, h8, ht⟩ := id h.open
  obtain ⟨k, n, t, ks, l⟩ := x
  simp only at *
  subst h5
  obtain ⟨a1, c1, rfl, q1, _, hks, _⟩ := id h2
  obtain ⟨a2, c2, _, rfl, q2, _⟩ := id h8
  obtain ⟨a1', c1', rfl, _, _, hks', _⟩ := id hk'
  obtain ⟨a2', c2', _, rfl, _⟩ := id hl'
  obtain ⟨m, hm⟩ : ∃ m, min ks.length l.length = m := ⟨_, rfl⟩
  rw [hm] at hpq
  have hm32 : m ≤ 1000000000 := by omega
  have hmks : m ≤ ks.length := by omega
  have hml' : m ≤ l.length := by omega
  have hmI : min (ks.length : Int) (l.length : Int) = (m : Int) := by omega
  have HM := hide hm
  have HK := hide hks
  have HK' := hide hks'
  have bb0 := bthen (below_alloc w (.cells #[.int .i64 5, .int .i64 n, .string t, .slice a1 ks.length c1, .slice a2 l.length c2] 25)) (below_alloc _ (.cells #[.int .i64 0, .int .i64 0, .string ⟨#[]⟩, .slice none 0 0, .slice none 0 0] 25))
  have pa0 := (boxF_at w (.int .i64 5) (.int .i64 n) (.string t) (.slice a1 ks.length c1) (.slice a2 l.length c2) 25 _ rfl).keep (below_alloc _ (.cells #[.int .i64 0, .int .i64 0, .string ⟨#[]⟩, .slice none 0 0, .slice none 0 0] 25))
  have pr0 := boxF_at (w.alloc (.cells #[.int .i64 5, .int .i64 n, .string t, .slice a1 ks.length c1, .slice a2 l.length c2] 25)) (.int .i64 0) (.int .i64 0) (.string ⟨#[]⟩) (.slice none 0 0) (.slice none 0 0) 25 (w.heap.size + 1) (by simp)
  have sz0 : ((w.alloc (.cells #[.int .i64 5, .int .i64 n, .string t, .slice a1 ks.length c1, .slice a2 l.length c2] 25)).alloc (.cells #[.int .i64 0, .int .i64 0, .string ⟨#[]⟩, .slice none 0 0, .slice none 0 0] 25)).heap.size = w.heap.size + 2 := by simp
  have rk0 := raw_of_strs (h2.below bb0)
  have rk1 := rk0.front (n := p) (by omega)
  rw [Nat.mul_one, ← List.map_take] at rk1
  have rk3 := (rk0.front (n := m) hmks).tail (n := p + q) hpq
  rw [Nat.mul_one, Nat.mul_one, ← List.map_take, ← List.map_drop] at rk3
  obtain ⟨e1, f1, g1, W1, e2, f2, g2, W2, e3, f3, g3, W3, R1, R2, R3, rkf, bk1, bk2, bk3⟩ := append3 22 22 9 _ 1 16 Try.underlying22 info_str rfl (by decide) rk1 (raw_of_strs (hk'.below bb0)) rk3 (by omega) (by unfold maxLen; omega)
  obtain ⟨es, rl0, hes⟩ := raw_of_isL (h8.below (bthen bb0 bk3))
  obtain ⟨es', rl', hes'⟩ := raw_of_isL (hl'.below (bthen bb0 bk3))
  have rl1 := rl0.front (n := p) (by omega)
  rw [cellsQ_take _ _ (by rw [hes.1]; omega)] at rl1
  have rl3 := (rl0.front (n := m) hml').tail (n := p + q) hpq
  rw [cellsQ_take _ _ (by rw [hes.1]; omega), cellsQ_drop _ _ (by rw [List.length_take, hes.1]; omega)] at rl3
  obtain ⟨e4, f4, g4, W4, e5, f5, g5, W5, e6, f6, g6, W6, R4, R5, R6, rlf, bl1, bl2, bl3⟩ := append3 23 23 25 _ 5 80 Try.underlying23 info_val rfl (by decide) rl1 rl' rl3 (by omega) (by unfold maxLen; omega)
  have s1 := slice_front_str a1 ks.length c1 p (by omega)
  have s2 := slice_mid_str a1 ks.length c1 (p + q) m hpq (by omega)
  have s3 := slice_front_val a2 l.length c2 p (by omega)
  have s4 := slice_mid_val a2 l.length c2 (p + q) m hpq (by omega)
  have hpqI : (p : Int) + (q : Int) = ((p + q : Nat) : Int) := by omega
  obtain ⟨pq, hpqe⟩ : ∃ r, p + q = r := ⟨_, rfl⟩
  rw [hpqe] at s2 s4 hpqI rk3 rl3 R3 R6 rkf rlf hpq
  have pa1 := pa0.keep bk1
  have pa2 := pa0.keep bk2
  have pa3 := pa0.keep bk3
  have pa4 := pa3.keep bl1
  have pa5 := pa3.keep bl2
  have pa6 := pa3.keep bl3
  have pr6 := (pr0.keep bk3).keep bl3
  have q1' := (pa1.1)
  obtain ⟨_, _, _, y1, _⟩ := pa1.1
  obtain ⟨_, _, _, y2, _⟩ := pa2.1
  obtain ⟨_, _, _, _, y3⟩ := pa3.1
  obtain ⟨_, _, _, _, y4⟩ := pa4.1
  obtain ⟨_, _, _, _, y5⟩ := pa5.1
  obtain ⟨_, y6, y7, _, _⟩ := pa6.1
  obtain ⟨⟨z0, z1, z2, z3, z4⟩, g0', g1', g2', g3', g4'⟩ := id pr6
  have HR1 := hide R1
  have HR2 := hide R2
  have HR3 := hide R3
  have HR4 := hide R4
  have HR5 := hide R5
  have HR6 := hide R6
  have HPQ := hide hpqe
  have BF := bthen (bthen bb0 bk3) bl3
  have HKF := hide rkf
  have HLF := hide rlf
  have HES := hide hes
  have HES' := hide hes'
  have HBL := hide bl3
  have HBK := hide bk3
  clear R1 R2 R3 R4 R5 R6 rk0 rk1 rk3 rl0 rl1 rl' rl3 rkf rlf pa0 pa1 pa2 pa3 pa4 pa5 pa6 pr0 q1' bk1 bk2 bl1 bl2 bb0 hm hes hes' hpqe h h2 h8 hk' hl' hks hks' bl3 bk3
  go_enter Try.func59, Try.ntmps59
  go_wp2_with (first
    | (at_builtin; refine Lib.wpList_append_run _ rfl (.tmp 21) (.tmp 25) 22 22 rfl _ _ (by simp [Act.eval, Act.put]) (by simp [Act.eval, Act.put]) _ _ HR1.out ?_)
    | (at_builtin; refine Lib.wpList_append_run _ rfl (.tmp 27) (.tmp 28) 22 22 rfl _ _ (by simp [Act.eval, Act.put]) (by simp [Act.eval, Act.put]) _ _ HR2.out ?_)
    | (at_builtin; refine Lib.wpList_append_run _ rfl (.tmp 30) (.tmp 37) 22 22 rfl _ _ (by simp [Act.eval, Act.put]) (by simp [Act.eval, Act.put]) _ _ HR3.out ?_)
    | (at_builtin; refine Lib.wpList_append_run _ rfl (.tmp 39) (.tmp 43) 23 23 rfl _ _ (by simp [Act.eval, Act.put]) (by simp [Act.eval, Act.put]) _ _ HR4.out ?_)
    | (at_builtin; refine Lib.wpList_append_run _ rfl (.tmp 45) (.tmp 46) 23 23 rfl _ _ (by simp [Act.eval, Act.put]) (by simp [Act.eval, Act.put]) _ _ HR5.out ?_)
    | (at_builtin; refine Lib.wpList_append_run _ rfl (.tmp 48) (.tmp 55) 23 23 rfl _ _ (by simp [Act.eval, Act.put]) (by simp [Act.eval, Act.put]) _ _ HR6.out ?_))
  obtain ⟨u0, u1, u2, u3, u4⟩ := Box5.all pr6.1 (.int .i64 5) (.int .i64 n) (.string t) (.slice e3 f3 g3) (.slice e6 f6 g6)
  refine bodyPost_ret (v := .agg #[.int .i64 5, .int .i64 n, .string t, .slice e3 f3 g3, .slice e6 f6 g6]) (by simp [results, Try.results59, go_sem, u0, u1, u2, u3, u4]) rfl ?_
  refine ⟨5, n, t, e3, f3, g3, e6, f6, g6, rfl, ?_, ?_⟩
  · have kp : Keeps (fun b => b ≠ w.heap.size + 1) W6 _ := keeps_set5 (S := fun b => b ≠ w.heap.size + 1) (w := W6) (g := w.heap.size + 1) (o := 0) (.int .i64 5) (.int .i64 n) (.string t) (.slice e3 f3 g3) (.slice e6 f6 g6) (by simp)
    have sz3 := HBK.out.size
    rw [sz0] at sz3
    refine Is.shut (x := V.laid ⟨5, n, t, ks, l⟩ p (p + q) mk ml) ?_ ?_ ht
    · simp only [V.laid, HM.out]
      have hr := (HKF.out.below HBL.out).weak (S' := fun b => b ≠ w.heap.size + 1 ∧ w.heap.size ≤ b) (fun b _ hb => by rw [sz0] at hb; omega)
      rw [← HPQ.out, ← List.map_append, ← List.map_append, show List.take p ks = List.take p (List.take m ks) by rw [List.take_take, Nat.min_eq_left (by omega)]] at hr
      have e1 : List.take p (List.take m ks) ++ mk ++ List.drop (p + q) (List.take m ks) = V.splice (ks.take m) p (p + q) mk := rfl
      rw [e1] at hr
      refine strs_of_raw ((hr.keep (fun b hb hl => kp b hb.1 hl)).weak (fun b _ hb => .inr hb.2)) ?_
      intro u hu
      simp only [V.splice, List.mem_append] at hu
      rcases hu with (hu | hu) | hu
      · exact HK.out u (List.mem_of_mem_take (List.mem_of_mem_take hu))
      · exact HK'.out u hu
      · exact HK.out u (List.mem_of_mem_take (List.mem_of_mem_drop hu))
    · simp only [V.laid, HM.out]
      have hr := HLF.out.weak (S' := fun b => b ≠ w.heap.size + 1 ∧ (S b ∨ w.heap.size ≤ b)) (fun b _ hb => ⟨by omega, .inr (by omega)⟩)
      rw [← HPQ.out, ← cellsQ_append, ← cellsQ_append, show List.take p es = List.take p (List.take m es) by rw [List.take_take, Nat.min_eq_left (by omega)]] at hr
      have k0 : Els W6 (fun b => b ≠ w.heap.size + 1 ∧ (S b ∨ w.heap.size ≤ b)) es l := (HES.out.keep (Keeps.of_below HBL.out)).weak (fun b _ hb => ⟨by omega, .inl hb.1⟩)
      have k0' : Els W6 (fun b => b ≠ w.heap.size + 1 ∧ (S b ∨ w.heap.size ≤ b)) es' ml := (HES'.out.keep (Keeps.of_below HBL.out)).weak (fun b _ hb => ⟨by omega, .inl hb.1⟩)
      have k3 := (((k0.take m).take p).append k0').append ((k0.take m).drop (p + q))
      exact (isL_of_raw (hr.keep (fun b hb hl => kp b hb.1 hl)) (k3.keep (fun b hb hl => kp b hb.1 hl))).weak (fun b _ hb => hb.2)
  · have le2 : w.heap.size ≤ w.heap.size + 1 := by omega
    exact ((((BF.setCell le2 _).setCell le2 _).setCell le2 _).setCell le2 _).setCell le2 _

end Go.Proofs.Ytpfbiklbecdmiaa
