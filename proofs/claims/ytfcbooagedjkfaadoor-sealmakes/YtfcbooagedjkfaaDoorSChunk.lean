/-
  THE WALKS of slices.Chunk, groups of three and of four.
-/
import Derived.Test.YtfcbooagedjkfaaDoorDChunk
set_option linter.unusedVariables false
set_option linter.unusedSimpArgs false
namespace Go.Proofs.YtfcbooagedjkfaaDoor
open Go.RowKit Go.Shelf
attribute [local go_sem] Oper.semAt_some

/-- how many groups -/
def nch3 (len : Nat) : Nat := (len + 2) / 3
/-- group k of a slice of bytes -/
def chV3 (b o len k : Nat) : Value := .slice (some ⟨b, o + 3 * k, none⟩) (min 3 (len - 3 * k)) (min 3 (len - 3 * k))

set_option maxRecDepth 100000 in
set_option maxHeartbeats 2000000 in
theorem chunk1_in3 (n : Nat) (hn : 1 ≤ n) (l Bs Bn b o len cap : Nat) (hlc : len ≤ cap) (hcap : len ≤ 1152921504606846976) (J Jx : List (Fin (nch3 len)) → World → Prop) (hJ : ∀ s W m, J s W → J s (W.drewN m))
    (hY : ∀ pre x W, J pre W → pre.length < nch3 len → YieldAt Fence.wide (n - 1) Tryd.prog l #[chV3 b o len x.val] W fun e W' => (e = .returned (.bool true) ∧ J (pre ++ [x]) W' ∧ Kp2 Bs Bn W W') ∨ (e = .returned (.bool false) ∧ Jx (pre ++ [x]) W'))
    (W : World) (hBs : W.cell? ⟨Bs, 0, none⟩ = some (.slice (some ⟨b, o, none⟩) len cap)) (hBn : W.cell? ⟨Bn, 0, none⟩ = some (.int .i64 3)) (h0 : J [] W) :
    CallsIn Fence.wide n Tryd.prog 45 #[.func (.yield l) #[] #[], .pointer (some ⟨Bs, 0, none⟩), .pointer (some ⟨Bn, 0, none⟩)] W fun e W' => (∃ v, e = .returned v) ∧
      ((∃ ys, ys = upto (nch3 len) (nch3 len) ∧ J ys W') ∨ (∃ pre, (∃ k, k ≤ nch3 len ∧ pre = upto (nch3 len) k) ∧ Jx pre W')) := by
  refine callsIn_of_wp Tryd.func45 rfl trivial ?_ rfl
  simp only [Tryd.ntmps45, List.size_toArray, List.length_cons, List.length_nil, Nat.reduceAdd, Nat.reduceSub, Array.replicate_succ, Array.replicate_zero, List.push_toArray, List.append_toArray, List.nil_append, List.cons_append]
  gi_wp2
  gi_loopw [4] (fun i wr => ∃ k q : Nat, k ≤ nch3 len ∧ Hid (q = 3 * k) ∧ i = .int .i64 q ∧ J (upto (nch3 len) k) wr ∧ Kp2 Bs Bn W wr) (fun i _ => len + 3 - (intOf i).toNat)
  case atStart => exact ⟨0, 0, Nat.zero_le _, rfl, rfl, h0, rfl, rfl⟩
  case round =>
    obtain ⟨k, q, hk, Hq, rfl, hJs, hnx⟩ := hrel
    have hB1 : wr.cell? ⟨Bs, 0, none⟩ = some (.slice (some ⟨b, o, none⟩) len cap) := (World.cell?_of_block (w := W) hnx.1).trans hBs
    have hB2 : wr.cell? ⟨Bn, 0, none⟩ = some (.int .i64 3) := (World.cell?_of_block (w := W) hnx.2).trans hBn
    by_cases hlt : q < len
    · have hkn : k < nch3 len := by have := Hq.out; unfold nch3; omega
      have hct : ∀ w, (Instr.sliceAt 22 (.slice (some ⟨b, o, none⟩) len cap) (some (.int .i64 q)) none none).run Tryd.prog w = .ok (.slice (cutA (some ⟨b, o, none⟩) q cap) (len - q) (cap - q)) w := fun w => run_slice_cut w _ len cap q (by omega) hlc
      gi_wp2
      gi_quiet (fail)
      obtain ⟨m, hm⟩ : ∃ m, m = min 3 (len - q) := ⟨_, rfl⟩
      have hmn : (if ((len - q : Nat) : Int) < 3 then ((len - q : Nat) : Int) else 3) = (m : Int) := by rw [hm]; split <;> omega
      simp only [hmn]
      have hm0 : 0 < m := by omega
      have hqm : q + m ≤ len := by omega
      have hm3 : m ≤ 3 := by omega
      have HCV : Hid (chV3 b o len k = .slice (some ⟨b, o + q, none⟩) m m) := by
        have := Hq.out
        show chV3 b o len k = _
        unfold chV3
        rw [← this, ← hm]
      have HM := hide hm
      have hJ2 := hJ _ _ nq hJs
      have hK2 : Kp2 Bs Bn W (wr.drewN nq) := hnx
      replace hB1 : (wr.drewN nq).cell? ⟨Bs, 0, none⟩ = some (.slice (some ⟨b, o, none⟩) len cap) := hB1
      replace hB2 : (wr.drewN nq).cell? ⟨Bn, 0, none⟩ = some (.int .i64 3) := hB2
      clear hmn hm hct hJs hnx
      generalize wr.drewN nq = w2 at hJ2 hK2 hB1 hB2 ⊢
      have hs3 := run_slice_three w2 b o len cap q m hlt hlc hqm hm0
      obtain ⟨fn, tmps, assign, body, hy, hR⟩ := hY _ ⟨k, hkn⟩ w2 hJ2 (by rw [upto_length hk]; exact hkn)
      rw [HCV.out] at hy
      gi_wp2
      refine hR.mono ?_
      rintro e W3 (⟨rfl, hJ3, hk3⟩ | ⟨rfl, hJx3⟩)
      · have hB2' : W3.cell? ⟨Bn, 0, none⟩ = some (.int .i64 3) := (World.cell?_of_block (w := w2) hk3.2).trans hB2
        gi_wp2
        go_roundw
        case rel => exact ⟨k + 1, q + 3, hkn, by have := Hq.out; show q + 3 = 3 * (k + 1); omega, by go_num, by rw [upto_succ hkn]; exact hJ3, hk3.1.trans hK2.1, hk3.2.trans hK2.2⟩
        case measure => simp [intOf]; omega
      · gi_wp2
        refine bodyPost_ret (results_none rfl _ _ _) rfl ?_
        exact ⟨⟨_, rfl⟩, .inr ⟨_, ⟨k + 1, hkn, (upto_succ hkn).symm⟩, hJx3⟩⟩
    · have hkn : k = nch3 len := by have := Hq.out; unfold nch3 at hk ⊢; omega
      gi_wp2
      go_end0
      exact ⟨⟨_, rfl⟩, .inl ⟨_, rfl, hkn ▸ hJs⟩⟩

set_option maxHeartbeats 1000000 in
theorem chunk1_none3 (n : Nat) (hn : 1 ≤ n) (l Bs Bn : Nat) (a : Option Addr) (cap : Nat) (P : World → Prop) (W : World) (hBs : W.cell? ⟨Bs, 0, none⟩ = some (.slice a 0 cap)) (h0 : P W) :
    CallsIn Fence.wide n Tryd.prog 45 #[.func (.yield l) #[] #[], .pointer (some ⟨Bs, 0, none⟩), .pointer (some ⟨Bn, 0, none⟩)] W fun e W' => (∃ v, e = .returned v) ∧ P W' := by
  refine callsIn_of_wp Tryd.func45 rfl trivial ?_ rfl
  simp only [Tryd.ntmps45, List.size_toArray, List.length_cons, List.length_nil, Nat.reduceAdd, Nat.reduceSub, Array.replicate_succ, Array.replicate_zero, List.push_toArray, List.append_toArray, List.nil_append, List.cons_append]
  gi_wp2
  gi_loopw [4] (fun i wr => i = .int .i64 0 ∧ wr = W) (fun _ _ => 0)
  case atStart => exact ⟨rfl, rfl⟩
  case round =>
    obtain ⟨rfl, rfl⟩ := hrel
    gi_wp2
    go_end0
    exact ⟨⟨_, rfl⟩, h0⟩

set_option maxHeartbeats 1000000 in
theorem chunk_any3 (n : Nat) (a : Option Addr) (len cap : Nat) (w : World) :
    CallsIn Fence.wide n Tryd.prog 29 #[.slice a len cap, .int .i64 3] w fun e w' => e = .returned (.func (.func 45) #[] #[.pointer (some ⟨w.heap.size, 0, none⟩), .pointer (some ⟨w.heap.size + 1, 0, none⟩)]) ∧
      w' = (w.alloc (.cells #[.slice a len cap] 22)).alloc (.cells #[.int .i64 3] 3) := by
  refine callsIn_of_wp Tryd.func29 rfl trivial ?_ rfl
  simp only [Tryd.ntmps29, List.size_toArray, List.length_cons, List.length_nil, Nat.reduceAdd, Nat.reduceSub, Array.replicate_succ, Array.replicate_zero, List.push_toArray, List.append_toArray, List.nil_append, List.cons_append]
  gi_wp2
  go_ret
  exact ⟨rfl, rfl⟩

theorem chunk_stops3 (n : Nat) (hn : 1 ≤ n) (Bs Bn cb co : Nat) (a : Option Addr) (len cap : Nat) (hlc : len ≤ cap) (hcap : len ≤ 1152921504606846976) (w : World) (ha : 0 < len → a = some ⟨cb, co, none⟩)
    (hBs : w.cell? ⟨Bs, 0, none⟩ = some (.slice a len cap)) (hBn : w.cell? ⟨Bn, 0, none⟩ = some (.int .i64 3)) :
    SeqStopsK Fence.wide n Tryd.prog 45 #[.pointer (some ⟨Bs, 0, none⟩), .pointer (some ⟨Bn, 0, none⟩)] (fun x : Fin (nch3 len) => #[chV3 cb co len x.val]) (Kp2 Bs Bn) (fun ys => ys = upto (nch3 len) (nch3 len)) (fun pre => ∃ k, k ≤ nch3 len ∧ pre = upto (nch3 len) k) (nch3 len) w := fun l J Jx W hW hJ hJx hY h0 => by
  have h1 := (hW.cell (p := ⟨Bs, 0, none⟩) (block_lt_of_cell hBs)).trans hBs
  have h2 := (hW.cell (p := ⟨Bn, 0, none⟩) (block_lt_of_cell hBn)).trans hBn
  rcases Nat.eq_zero_or_pos len with hl | hl
  · subst hl
    refine (chunk1_none3 n hn l Bs Bn a cap (J []) W h1 h0).mono ?_
    rintro e W' ⟨he, hj⟩
    exact ⟨he, .inl ⟨[], rfl, hj⟩⟩
  · rw [ha hl] at h1
    refine (chunk1_in3 n hn l Bs Bn cb co len cap hlc hcap J Jx (fun s W m hs => hJ s W _ none hs ⟨rfl, rfl, rfl, Nat.le_refl _, fun _ _ _ => rfl⟩ (fun r e => by cases e)) hY W h1 h2 h0).mono ?_
    rintro e W' ⟨he, ⟨ys, hy, hj⟩ | ⟨pre, hk, hj⟩⟩
    · exact ⟨he, .inl ⟨ys, hy, hj⟩⟩
    · exact ⟨he, .inr ⟨pre, hk, hj⟩⟩

/-- how many groups -/
def nch4 (len : Nat) : Nat := (len + 3) / 4
/-- group k of a slice of bytes -/
def chV4 (b o len k : Nat) : Value := .slice (some ⟨b, o + 4 * k, none⟩) (min 4 (len - 4 * k)) (min 4 (len - 4 * k))

set_option maxRecDepth 100000 in
set_option maxHeartbeats 2000000 in
theorem chunk1_in4 (n : Nat) (hn : 1 ≤ n) (l Bs Bn b o len cap : Nat) (hlc : len ≤ cap) (hcap : len ≤ 1152921504606846976) (J Jx : List (Fin (nch4 len)) → World → Prop) (hJ : ∀ s W m, J s W → J s (W.drewN m))
    (hY : ∀ pre x W, J pre W → pre.length < nch4 len → YieldAt Fence.wide (n - 1) Tryd.prog l #[chV4 b o len x.val] W fun e W' => (e = .returned (.bool true) ∧ J (pre ++ [x]) W' ∧ Kp2 Bs Bn W W') ∨ (e = .returned (.bool false) ∧ Jx (pre ++ [x]) W'))
    (W : World) (hBs : W.cell? ⟨Bs, 0, none⟩ = some (.slice (some ⟨b, o, none⟩) len cap)) (hBn : W.cell? ⟨Bn, 0, none⟩ = some (.int .i64 4)) (h0 : J [] W) :
    CallsIn Fence.wide n Tryd.prog 45 #[.func (.yield l) #[] #[], .pointer (some ⟨Bs, 0, none⟩), .pointer (some ⟨Bn, 0, none⟩)] W fun e W' => (∃ v, e = .returned v) ∧
      ((∃ ys, ys = upto (nch4 len) (nch4 len) ∧ J ys W') ∨ (∃ pre, (∃ k, k ≤ nch4 len ∧ pre = upto (nch4 len) k) ∧ Jx pre W')) := by
  refine callsIn_of_wp Tryd.func45 rfl trivial ?_ rfl
  simp only [Tryd.ntmps45, List.size_toArray, List.length_cons, List.length_nil, Nat.reduceAdd, Nat.reduceSub, Array.replicate_succ, Array.replicate_zero, List.push_toArray, List.append_toArray, List.nil_append, List.cons_append]
  gi_wp2
  gi_loopw [4] (fun i wr => ∃ k q : Nat, k ≤ nch4 len ∧ Hid (q = 4 * k) ∧ i = .int .i64 q ∧ J (upto (nch4 len) k) wr ∧ Kp2 Bs Bn W wr) (fun i _ => len + 4 - (intOf i).toNat)
  case atStart => exact ⟨0, 0, Nat.zero_le _, rfl, rfl, h0, rfl, rfl⟩
  case round =>
    obtain ⟨k, q, hk, Hq, rfl, hJs, hnx⟩ := hrel
    have hB1 : wr.cell? ⟨Bs, 0, none⟩ = some (.slice (some ⟨b, o, none⟩) len cap) := (World.cell?_of_block (w := W) hnx.1).trans hBs
    have hB2 : wr.cell? ⟨Bn, 0, none⟩ = some (.int .i64 4) := (World.cell?_of_block (w := W) hnx.2).trans hBn
    by_cases hlt : q < len
    · have hkn : k < nch4 len := by have := Hq.out; unfold nch4; omega
      have hct : ∀ w, (Instr.sliceAt 22 (.slice (some ⟨b, o, none⟩) len cap) (some (.int .i64 q)) none none).run Tryd.prog w = .ok (.slice (cutA (some ⟨b, o, none⟩) q cap) (len - q) (cap - q)) w := fun w => run_slice_cut w _ len cap q (by omega) hlc
      gi_wp2
      gi_quiet (fail)
      obtain ⟨m, hm⟩ : ∃ m, m = min 4 (len - q) := ⟨_, rfl⟩
      have hmn : (if ((len - q : Nat) : Int) < 4 then ((len - q : Nat) : Int) else 4) = (m : Int) := by rw [hm]; split <;> omega
      simp only [hmn]
      have hm0 : 0 < m := by omega
      have hqm : q + m ≤ len := by omega
      have hm4 : m ≤ 4 := by omega
      have HCV : Hid (chV4 b o len k = .slice (some ⟨b, o + q, none⟩) m m) := by
        have := Hq.out
        show chV4 b o len k = _
        unfold chV4
        rw [← this, ← hm]
      have HM := hide hm
      have hJ2 := hJ _ _ nq hJs
      have hK2 : Kp2 Bs Bn W (wr.drewN nq) := hnx
      replace hB1 : (wr.drewN nq).cell? ⟨Bs, 0, none⟩ = some (.slice (some ⟨b, o, none⟩) len cap) := hB1
      replace hB2 : (wr.drewN nq).cell? ⟨Bn, 0, none⟩ = some (.int .i64 4) := hB2
      clear hmn hm hct hJs hnx
      generalize wr.drewN nq = w2 at hJ2 hK2 hB1 hB2 ⊢
      have hs3 := run_slice_three w2 b o len cap q m hlt hlc hqm hm0
      obtain ⟨fn, tmps, assign, body, hy, hR⟩ := hY _ ⟨k, hkn⟩ w2 hJ2 (by rw [upto_length hk]; exact hkn)
      rw [HCV.out] at hy
      gi_wp2
      refine hR.mono ?_
      rintro e W3 (⟨rfl, hJ3, hk3⟩ | ⟨rfl, hJx3⟩)
      · have hB2' : W3.cell? ⟨Bn, 0, none⟩ = some (.int .i64 4) := (World.cell?_of_block (w := w2) hk3.2).trans hB2
        gi_wp2
        go_roundw
        case rel => exact ⟨k + 1, q + 4, hkn, by have := Hq.out; show q + 4 = 4 * (k + 1); omega, by go_num, by rw [upto_succ hkn]; exact hJ3, hk3.1.trans hK2.1, hk3.2.trans hK2.2⟩
        case measure => simp [intOf]; omega
      · gi_wp2
        refine bodyPost_ret (results_none rfl _ _ _) rfl ?_
        exact ⟨⟨_, rfl⟩, .inr ⟨_, ⟨k + 1, hkn, (upto_succ hkn).symm⟩, hJx3⟩⟩
    · have hkn : k = nch4 len := by have := Hq.out; unfold nch4 at hk ⊢; omega
      gi_wp2
      go_end0
      exact ⟨⟨_, rfl⟩, .inl ⟨_, rfl, hkn ▸ hJs⟩⟩

set_option maxHeartbeats 1000000 in
theorem chunk1_none4 (n : Nat) (hn : 1 ≤ n) (l Bs Bn : Nat) (a : Option Addr) (cap : Nat) (P : World → Prop) (W : World) (hBs : W.cell? ⟨Bs, 0, none⟩ = some (.slice a 0 cap)) (h0 : P W) :
    CallsIn Fence.wide n Tryd.prog 45 #[.func (.yield l) #[] #[], .pointer (some ⟨Bs, 0, none⟩), .pointer (some ⟨Bn, 0, none⟩)] W fun e W' => (∃ v, e = .returned v) ∧ P W' := by
  refine callsIn_of_wp Tryd.func45 rfl trivial ?_ rfl
  simp only [Tryd.ntmps45, List.size_toArray, List.length_cons, List.length_nil, Nat.reduceAdd, Nat.reduceSub, Array.replicate_succ, Array.replicate_zero, List.push_toArray, List.append_toArray, List.nil_append, List.cons_append]
  gi_wp2
  gi_loopw [4] (fun i wr => i = .int .i64 0 ∧ wr = W) (fun _ _ => 0)
  case atStart => exact ⟨rfl, rfl⟩
  case round =>
    obtain ⟨rfl, rfl⟩ := hrel
    gi_wp2
    go_end0
    exact ⟨⟨_, rfl⟩, h0⟩

set_option maxHeartbeats 1000000 in
theorem chunk_any4 (n : Nat) (a : Option Addr) (len cap : Nat) (w : World) :
    CallsIn Fence.wide n Tryd.prog 29 #[.slice a len cap, .int .i64 4] w fun e w' => e = .returned (.func (.func 45) #[] #[.pointer (some ⟨w.heap.size, 0, none⟩), .pointer (some ⟨w.heap.size + 1, 0, none⟩)]) ∧
      w' = (w.alloc (.cells #[.slice a len cap] 22)).alloc (.cells #[.int .i64 4] 3) := by
  refine callsIn_of_wp Tryd.func29 rfl trivial ?_ rfl
  simp only [Tryd.ntmps29, List.size_toArray, List.length_cons, List.length_nil, Nat.reduceAdd, Nat.reduceSub, Array.replicate_succ, Array.replicate_zero, List.push_toArray, List.append_toArray, List.nil_append, List.cons_append]
  gi_wp2
  go_ret
  exact ⟨rfl, rfl⟩

theorem chunk_stops4 (n : Nat) (hn : 1 ≤ n) (Bs Bn cb co : Nat) (a : Option Addr) (len cap : Nat) (hlc : len ≤ cap) (hcap : len ≤ 1152921504606846976) (w : World) (ha : 0 < len → a = some ⟨cb, co, none⟩)
    (hBs : w.cell? ⟨Bs, 0, none⟩ = some (.slice a len cap)) (hBn : w.cell? ⟨Bn, 0, none⟩ = some (.int .i64 4)) :
    SeqStopsK Fence.wide n Tryd.prog 45 #[.pointer (some ⟨Bs, 0, none⟩), .pointer (some ⟨Bn, 0, none⟩)] (fun x : Fin (nch4 len) => #[chV4 cb co len x.val]) (Kp2 Bs Bn) (fun ys => ys = upto (nch4 len) (nch4 len)) (fun pre => ∃ k, k ≤ nch4 len ∧ pre = upto (nch4 len) k) (nch4 len) w := fun l J Jx W hW hJ hJx hY h0 => by
  have h1 := (hW.cell (p := ⟨Bs, 0, none⟩) (block_lt_of_cell hBs)).trans hBs
  have h2 := (hW.cell (p := ⟨Bn, 0, none⟩) (block_lt_of_cell hBn)).trans hBn
  rcases Nat.eq_zero_or_pos len with hl | hl
  · subst hl
    refine (chunk1_none4 n hn l Bs Bn a cap (J []) W h1 h0).mono ?_
    rintro e W' ⟨he, hj⟩
    exact ⟨he, .inl ⟨[], rfl, hj⟩⟩
  · rw [ha hl] at h1
    refine (chunk1_in4 n hn l Bs Bn cb co len cap hlc hcap J Jx (fun s W m hs => hJ s W _ none hs ⟨rfl, rfl, rfl, Nat.le_refl _, fun _ _ _ => rfl⟩ (fun r e => by cases e)) hY W h1 h2 h0).mono ?_
    rintro e W' ⟨he, ⟨ys, hy, hj⟩ | ⟨pre, hk, hj⟩⟩
    · exact ⟨he, .inl ⟨ys, hy, hj⟩⟩
    · exact ⟨he, .inr ⟨pre, hk, hj⟩⟩

end Go.Proofs.YtfcbooagedjkfaaDoor
