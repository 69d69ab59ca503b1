/-
  THE WALKS of the document's turn, keys and Tail (layer 4).
-/
import Derived.Test.YtfcbooagedjkfaaDoorDApp
import Derived.Test.YtfcbooagedjkfaaDoorDTailsM
import Derived.Lib.AppendZeros
set_option linter.unusedVariables false
set_option linter.unusedSimpArgs false
namespace Go.Proofs.YtfcbooagedjkfaaDoor
open Go.RowKit

theorem refTurn_any (x n : Int) (w : World) (h0 : 0 ≤ n) (h1 : n ≤ 32) :
    Calls Tryd.prog 51 #[.int .u32 x, .int .u64 n] w fun e w' => e = .returned (.int .u32 (Dg.rotr x n)) ∧ ∃ k, w' = w.drewN k := by
  go_enter Tryd.func51, Tryd.ntmps51
  go_wp2
  go_ret
  exact ⟨rfl, 0, rfl⟩

theorem refTurn_same (x n : Int) (w : World) (h0 : 0 ≤ n) (h1 : n ≤ 32) :
    Calls Tryd.prog 51 #[.int .u32 x, .int .u64 n] w fun e w' => e = .returned (.int .u32 (Dg.rotr x n)) ∧ w' = w := by
  go_enter Tryd.func51, Tryd.ntmps51
  go_wp2
  go_ret
  exact ⟨rfl, rfl⟩

theorem infoWord : (Tryd.prog.info? 49).map (fun i => (i.zero, i.size, i.bytes)) = some (some (.int .u32 0), 1, 4) := by kernel_rfl

set_option maxRecDepth 100000 in
theorem keys_any (w : World) : Calls Tryd.prog 50 #[] w fun e w' => e = .returned (.slice (some ⟨w.heap.size, 0, none⟩) 64 64) ∧ w' = w.alloc (.cells (wds Dg.K) 49) := by
  go_enter Tryd.func50, Tryd.ntmps50
  go_wp2
  go_ret
  exact ⟨rfl, rfl⟩

theorem own_block {w : World} {base : Nat} {e : TypeId} {sz : Nat} {v : Value} {n : Nat} {xs : List Value} (h : w.ownsRow base e sz v n xs) : ∀ k, v.ownBlock = some k → base ≤ k := fun k hk => (h.lt k hk).1
theorem own_below {w w' : World} {base : Nat} {e : TypeId} {sz : Nat} {v : Value} {n : Nat} {xs : List Value} (h : w.ownsRow base e sz v n xs) (b : Below w.heap.size w w') : w'.ownsRow base e sz v n xs := by
  obtain ⟨h1, h2⟩ := h
  refine ⟨h1, ?_⟩
  rcases h2 with h2 | ⟨g, cap, cur, hv, hg, hh, r⟩
  · exact .inl h2
  · exact .inr ⟨g, cap, cur, hv, hg, (b.block g (Array.getElem?_eq_some_iff.1 hh).1).trans hh, r⟩

/-- one value more on a row of the call's own -/
theorem append_one {w : World} (T E : TypeId) (z : Value) (bytes : Nat) (ht : Tryd.prog.underlying T = some (.slice E)) (hinfo : (Tryd.prog.info? E).map (fun i => (i.zero, i.size, i.bytes)) = some (some z, 1, bytes)) (hzs : z.cells.size = 1)
    (base : Nat) (v : Value) (n : Nat) (xs : List Value) (hown : w.ownsRow base E 1 v n xs) {lo : Nat} {m c : Nat} {news : List Value} (hn : news.length = m) (hc : ∀ j u, news[j]? = some u → w.cell? ⟨lo, j, none⟩ = some u) (hone : ∀ u ∈ news, u.oneCell' = true) (hnm : (n + m) * bytes ≤ 100000000) (hnm2 : n + m ≤ 100000000) (hbase : base ≤ w.heap.size) :
    ∃ a' c' w', (Builtin.append_ #[T, T] T #[v, .slice (some ⟨lo, 0, none⟩) m c]).run Tryd.prog w = .ok (.slice a' (n + m) c') w' ∧ w'.ownsRow base E 1 (.slice a' (n + m) c') (n + m) (xs ++ news) ∧ w.grownBy w' v.ownBlock := by
  obtain ⟨i0, hi, hz0, hz1, hz2⟩ := info_parts hinfo
  obtain ⟨v', w', q1, q2, q3, _⟩ := run_append_own w base T T E i0 z 1 bytes ht hi hz0 hz1 hz2 hzs (by decide) v n _ hown ⟨lo, 0, none⟩ m c news (by omega) (fun j u hu => by
      have e1 : (⟨lo, 0, none⟩ : Addr).add j = ⟨lo, j, none⟩ := by unfold Addr.add; split <;> simp_all
      exact Eq.trans (congrArg _ e1) (hc j u hu)) hone (by simp [maxLen]; omega) (by omega) hbase
  obtain ⟨a', c', rfl⟩ := own_shape q2
  exact ⟨a', c', w', q1, q2, q3⟩
theorem one_cell (w : World) (x : Value) (t : TypeId) : ∀ j u, [x][j]? = some u → (w.alloc (.cells #[x] t)).cell? ⟨w.heap.size, j, none⟩ = some u := by
  intro j u hu
  rw [(blk_new w t #[x]).cell j]
  simpa using hu

set_option maxRecDepth 100000 in
set_option maxHeartbeats 1000000 in
theorem refTail_any (n : Int) (w : World) (h0 : 0 ≤ n) (h1 : n < 18446744073709551616) :
    Calls Tryd.prog 38 #[.int .u64 n] w fun e w' => ∃ a m c, Hid (m = (Dg.tail n).length) ∧ e = .returned (.slice a m c) ∧ IsB w' a m c (Dg.tail n) ∧ Below w.heap.size w w' := by
  obtain ⟨q, hq⟩ : ∃ q, Dg.noughts n = q := ⟨_, rfl⟩
  have hq63 : q ≤ 63 := by rw [← hq]; exact Dg.noughts_le n
  have hqe : (q : Int) = (55 - n) % 64 := by rw [← hq]; unfold Dg.noughts; omega
  have HQ := hide hq
  have HQE := hide hqe
  clear hq hqe
  go_enter Tryd.func38, Tryd.ntmps38
  go_wp2_with fail
  go_loopw [3] (fun v wr => ∃ (k : Nat) (a : Option Addr) (c : Nat), Hid (k ≤ q) ∧ v = .slice a (1 + k) c ∧ Hid (wr.ownsRow w.heap.size 5 1 (.slice a (1 + k) c) (1 + k) ((128 :: List.replicate k 0).map b8)) ∧ Hid (Below w.heap.size w wr)) (fun v _ => match v with | .slice _ m _ => 100 - m | _ => 0)
  case atStart =>
    refine ⟨0, _, _, Nat.zero_le _, rfl, ?_, (Below.refl _ _).alloc (Nat.le_refl _) _⟩
    exact ⟨by simp, .inr ⟨w.heap.size, 1, _, rfl, Nat.le_refl _, blk_new w 5 _, Nat.le_refl _, by simp [maxLen], rfl, rfl⟩⟩
  case round =>
    obtain ⟨k, a, c, Hk, rfl, HO, HB⟩ := hrel
    have hk63 : k ≤ 63 := Nat.le_trans Hk.out hq63
    by_cases hlt : k < q
    · have hne : ¬ (n % 64 + (1 + (k : Int))) % 64 = 56 := by have := HQE.out; omega
      obtain ⟨a2, c2, w2, hrun, hown2, hgr⟩ := append_one (w := wr.alloc (.cells #[b8 0] 5)) 22 5 (.int .u8 0) 1 Tryd.underlying22 infoByte rfl w.heap.size _ (1 + k) _ (HO.out.alloc _) (lo := wr.heap.size) (m := 1) (c := 1) (news := [b8 0]) rfl (one_cell wr (b8 0) 5) (by simp [Value.oneCell']) (by omega) (by omega) (by have := HB.out.size; simp; omega)
      go_wp2_with (at_builtin; refine wpList_append_run rfl _ _ 22 rfl _ _ rfl rfl hrun ?_)
      go_roundw
      case rel =>
        refine ⟨k + 1, a2, c2, hlt, by rw [← Nat.add_assoc], ?_, (HB.out.alloc HB.out.size _).grown hgr (by have := HB.out.size; simp; omega) (own_block HO.out)⟩
        unfold Hid
        rw [← Nat.add_assoc]
        have e : (128 :: List.replicate (k + 1) (0 : Int)).map b8 = (128 :: List.replicate k (0 : Int)).map b8 ++ [b8 0] := by
          rw [List.replicate_succ', List.map_cons, List.map_append]
          rfl
        rw [e]
        exact hown2
      case measure => simp; omega
    · have hkq : k = q := by have := Hk.out; omega
      have hne : (n % 64 + (1 + (k : Int))) % 64 = 56 := by have := HQE.out; omega
      have HKQ := hide hkq
      clear hkq
      go_upto_region 5 with fail
      clear hne
      have e8 := IntKind.wrap_u64 (n * 8)
      obtain ⟨x, hx⟩ : ∃ x, x = n * 8 % 18446744073709551616 := ⟨_, rfl⟩
      rw [e8, ← hx]
      have x0 : 0 ≤ x := by omega
      have HX := hide hx
      have HO2 : Hid (wr.ownsRow w.heap.size 5 1 (.slice a (1 + k) c) (1 + k + 0) ((128 :: List.replicate k (0 : Int) ++ []).map b8)) := by
        unfold Hid
        rw [List.append_nil]
        exact HO.out
      clear hx e8 HO hlt
      generalize (n % 64 + (1 + (k : Int))) % 64 = z1
      generalize n % 64 + (1 + (k : Int)) = z2
      go_wp2_with fail
      go_loopw [3, 5] (fun v i wq => ∃ (m j : Nat) (iv : Int) (pre : List Int) (a : Option Addr) (c : Nat), Hid (m + j = 8) ∧ v = .slice a (1 + k + j) c ∧ i = .int .i64 iv ∧ Hid (iv = (m : Int) - 1) ∧ Hid (pre ++ Dg.be x m = Dg.be x 8) ∧ Hid (wq.ownsRow w.heap.size 5 1 (.slice a (1 + k + j) c) (1 + k + j) ((128 :: List.replicate k (0 : Int) ++ pre).map b8)) ∧ Hid (Below w.heap.size w wq)) (fun _ i _ => (intOf i + 1).toNat)
      case atStart => exact ⟨8, 0, _, [], a, c, rfl, rfl, rfl, rfl, rfl, HO2, HB⟩
      case round =>
        rename_i wr0 _
        clear HO2 HB
        obtain ⟨m, j, iv, pre, a, c, Hm, rfl, rfl, Hi, Hp, HO, HB⟩ := hrel
        have h7 : iv ≤ 7 := by have := Hi.out; have := Hm.out; omega
        by_cases h0i : 0 ≤ iv
        · have hj8 : j ≤ 8 := by have := Hm.out; omega
          obtain ⟨a2, c2, w2, hrun, hown2, hgr⟩ := append_one (w := wr.alloc (.cells #[b8 (x / 2 ^ (8 * iv).toNat % 256)] 5)) 22 5 (.int .u8 0) 1 Tryd.underlying22 infoByte rfl w.heap.size _ (1 + k + j) _ (HO.out.alloc _) (lo := wr.heap.size) (m := 1) (c := 1) (news := [b8 (x / 2 ^ (8 * iv).toNat % 256)]) rfl (one_cell wr _ 5) (by simp [Value.oneCell']) (by omega) (by omega) (by have := HB.out.size; simp; omega)
          go_wp2_with (at_builtin; refine wpList_append_run rfl _ _ 22 rfl _ _ rfl rfl hrun ?_)
          go_roundw
          case rel =>
            obtain ⟨m', rfl⟩ : ∃ m', m = m' + 1 := ⟨m - 1, by have := Hi.out; omega⟩
            have hiv : iv = (m' : Int) := by have := Hi.out; omega
            refine ⟨m', j + 1, _, pre ++ [x / 2 ^ (8 * m') % 256], a2, c2, by have := Hm.out; show m' + (j + 1) = 8; omega, by rw [← Nat.add_assoc], rfl, by show iv - 1 = (m' : Int) - 1; omega, ?_, ?_, (HB.out.alloc HB.out.size _).grown hgr (by have := HB.out.size; simp; omega) (own_block HO.out)⟩
            · show pre ++ [x / 2 ^ (8 * m') % 256] ++ Dg.be x m' = Dg.be x 8
              rw [← Hp.out]
              simp [Dg.be]
            · have e8 : (8 * iv).toNat = 8 * m' := by omega
              rw [e8] at hown2
              unfold Hid
              rw [← Nat.add_assoc, ← List.append_assoc, List.map_append]
              exact hown2
          case measure => simp [intOf]; omega
        · have hm0 : m = 0 := by have := Hi.out; omega
          have hj8 : j = 8 := by have := Hm.out; omega
          have HJ := hide hj8
          have HM0 := hide hm0
          clear hj8 hm0
          go_wp2_with fail
          go_ret
          have hp := Hp.out
          rw [HM0.out] at hp
          simp only [Dg.be, List.append_nil] at hp
          have ht : 128 :: List.replicate k (0 : Int) ++ pre = Dg.tail n := by
            unfold Dg.tail
            rw [HQ.out, HKQ.out, ← HX.out, hp]
            simp [Dg.be]
          have hown := HO.out
          rw [ht] at hown
          refine ⟨a, 1 + k + j, ?_, c, rfl, (own_isB' hown (Dg.b8_of_mem (Dg.tail_mem _))).1, HB.out⟩
          show 1 + k + j = _
          rw [Dg.tail_length, HQ.out, HKQ.out, HJ.out]
          omega
end Go.Proofs.YtfcbooagedjkfaaDoor
