/-
  THE WALKS of slices.Chunk (blocks of 64 bytes).
-/
import Derived.RangeFuncNested
import Derived.RangeFuncBound
import Derived.RangeFuncCalls
import Derived.RangeFuncLeaves
import Derived.Shelf.Abstract
import Derived.Shelf.RegionOpen
import Derived.OwnWalkIn
import Derived.TacticsInMore
import Derived.LoopNIn
import Derived.LoopIn
import Derived.Sort.QuietIn
import Derived.Test.YtfcbooagedjkfaaDoorDFill
set_option linter.unusedVariables false
set_option linter.unusedSimpArgs false
namespace Go.Proofs.YtfcbooagedjkfaaDoor
open Go.RowKit Go.Shelf
attribute [local go_sem] Oper.semAt_some

/-- how many blocks -/
def nch (len : Nat) : Nat := (len + 63) / 64
/-- block k of a slice of bytes -/
def chV (b o len k : Nat) : Value := .slice (some ⟨b, o + 64 * k, none⟩) (min 64 (len - 64 * k)) (min 64 (len - 64 * k))
def upto (N k : Nat) : List (Fin N) := (List.finRange N).take k
theorem upto_succ {N k : Nat} (h : k < N) : upto N (k + 1) = upto N k ++ [⟨k, h⟩] := by
  unfold upto
  rw [List.take_succ_eq_append_getElem (by simpa using h)]
  simp
theorem upto_length {N k : Nat} (h : k ≤ N) : (upto N k).length = k := by simp [upto]; omega

/-- what a round keeps for the iterator -/
def Kp2 (x y : Nat) (W W' : World) : Prop := W'.heap[x]? = W.heap[x]? ∧ W'.heap[y]? = W.heap[y]?

theorem run_slice_three (w : World) (b o len cap q m : Nat) (hq : q < len) (hl : len ≤ cap) (hm : q + m ≤ len) (hm0 : 0 < m) : (Instr.sliceAt 22 (.slice (some ⟨b, o, none⟩) len cap) (some (.int .i64 q)) (some (.int .i64 ((q : Int) + m))) (some (.int .i64 ((q : Int) + m)))).run Tryd.prog w = .ok (.slice (some ⟨b, o + q, none⟩) m m) w := by
  have hu : (Tryd.prog.underlying 22) = some (.slice 5) := Tryd.underlying22
  have hs : (sizeOf 5).run Tryd.prog w = .ok 1 w := by
    cases hq : Tryd.prog.info? 5 with
    | none => have := infoByte; simp [hq] at this
    | some j =>
      have hj : j.size = 1 := by have := infoByte; simp [hq] at this; exact this.2.1
      simp [sizeOf, typeInfo, hq, hj]
  have h1 : (q : Int) + m ≤ cap := by omega
  have h2 : (q : Int) ≤ (q : Int) + m := by omega
  have h3 : (0 : Int) ≤ (q : Int) + m := by omega
  have h4 : ((q : Int) + m).toNat = q + m := by omega
  have h5 : ¬ m = 0 := by omega
  simp [Instr.sliceAt, Instr.slice, run_underlying hu, Instr.sliceBounds, run_sliceBound, hs, h1, h2, h3, h4, h5, Addr.add]

set_option maxRecDepth 100000 in
set_option maxHeartbeats 2000000 in
theorem chunk1_in (n : Nat) (hn : 1 ≤ n) (l Bs Bn b o len cap : Nat) (hlc : len ≤ cap) (hcap : len ≤ 1152921504606846976) (J Jx : List (Fin (nch len)) → World → Prop) (hJ : ∀ s W m, J s W → J s (W.drewN m))
    (hY : ∀ pre x W, J pre W → pre.length < nch len → YieldAt Fence.wide (n - 1) Tryd.prog l #[chV b o len x.val] W fun e W' => (e = .returned (.bool true) ∧ J (pre ++ [x]) W' ∧ Kp2 Bs Bn W W') ∨ (e = .returned (.bool false) ∧ Jx (pre ++ [x]) W'))
    (W : World) (hBs : W.cell? ⟨Bs, 0, none⟩ = some (.slice (some ⟨b, o, none⟩) len cap)) (hBn : W.cell? ⟨Bn, 0, none⟩ = some (.int .i64 64)) (h0 : J [] W) :
    CallsIn Fence.wide n Tryd.prog 45 #[.func (.yield l) #[] #[], .pointer (some ⟨Bs, 0, none⟩), .pointer (some ⟨Bn, 0, none⟩)] W fun e W' => (∃ v, e = .returned v) ∧
      ((∃ ys, ys = upto (nch len) (nch len) ∧ J ys W') ∨ (∃ pre, (∃ k, k ≤ nch len ∧ pre = upto (nch len) k) ∧ Jx pre W')) := by
  refine callsIn_of_wp Tryd.func45 rfl trivial ?_ rfl
  simp only [Tryd.ntmps45, List.size_toArray, List.length_cons, List.length_nil, Nat.reduceAdd, Nat.reduceSub, Array.replicate_succ, Array.replicate_zero, List.push_toArray, List.append_toArray, List.nil_append, List.cons_append]
  gi_wp2
  gi_loopw [4] (fun i wr => ∃ k q : Nat, k ≤ nch len ∧ Hid (q = 64 * k) ∧ i = .int .i64 q ∧ J (upto (nch len) k) wr ∧ Kp2 Bs Bn W wr) (fun i _ => len + 64 - (intOf i).toNat)
  case atStart => exact ⟨0, 0, Nat.zero_le _, rfl, rfl, h0, rfl, rfl⟩
  case round =>
    obtain ⟨k, q, hk, Hq, rfl, hJs, hnx⟩ := hrel
    have hB1 : wr.cell? ⟨Bs, 0, none⟩ = some (.slice (some ⟨b, o, none⟩) len cap) := (World.cell?_of_block (w := W) hnx.1).trans hBs
    have hB2 : wr.cell? ⟨Bn, 0, none⟩ = some (.int .i64 64) := (World.cell?_of_block (w := W) hnx.2).trans hBn
    by_cases hlt : q < len
    · have hkn : k < nch len := by have := Hq.out; unfold nch; omega
      have hct : ∀ w, (Instr.sliceAt 22 (.slice (some ⟨b, o, none⟩) len cap) (some (.int .i64 q)) none none).run Tryd.prog w = .ok (.slice (cutA (some ⟨b, o, none⟩) q cap) (len - q) (cap - q)) w := fun w => run_slice_cut w _ len cap q (by omega) hlc
      gi_wp2
      gi_quiet (fail)
      obtain ⟨m, hm⟩ : ∃ m, m = min 64 (len - q) := ⟨_, rfl⟩
      have hmn : (if ((len - q : Nat) : Int) < 64 then ((len - q : Nat) : Int) else 64) = (m : Int) := by rw [hm]; split <;> omega
      simp only [hmn]
      have hm0 : 0 < m := by omega
      have hqm : q + m ≤ len := by omega
      have hm64 : m ≤ 64 := by omega
      have HCV : Hid (chV b o len k = .slice (some ⟨b, o + q, none⟩) m m) := by
        have := Hq.out
        show chV b o len k = _
        unfold chV
        rw [← this, ← hm]
      have HM := hide hm
      have hJ2 := hJ _ _ nq hJs
      have hK2 : Kp2 Bs Bn W (wr.drewN nq) := hnx
      replace hB1 : (wr.drewN nq).cell? ⟨Bs, 0, none⟩ = some (.slice (some ⟨b, o, none⟩) len cap) := hB1
      replace hB2 : (wr.drewN nq).cell? ⟨Bn, 0, none⟩ = some (.int .i64 64) := hB2
      clear hmn hm hct hJs hnx
      generalize wr.drewN nq = w2 at hJ2 hK2 hB1 hB2 ⊢
      have hs3 := run_slice_three w2 b o len cap q m hlt hlc hqm hm0
      obtain ⟨fn, tmps, assign, body, hy, hR⟩ := hY _ ⟨k, hkn⟩ w2 hJ2 (by rw [upto_length hk]; exact hkn)
      rw [HCV.out] at hy
      gi_wp2
      refine hR.mono ?_
      rintro e W3 (⟨rfl, hJ3, hk3⟩ | ⟨rfl, hJx3⟩)
      · have hB2' : W3.cell? ⟨Bn, 0, none⟩ = some (.int .i64 64) := (World.cell?_of_block (w := w2) hk3.2).trans hB2
        gi_wp2
        go_roundw
        case rel => exact ⟨k + 1, q + 64, hkn, by have := Hq.out; show q + 64 = 64 * (k + 1); omega, by go_num, by rw [upto_succ hkn]; exact hJ3, hk3.1.trans hK2.1, hk3.2.trans hK2.2⟩
        case measure => simp [intOf]; omega
      · gi_wp2
        refine bodyPost_ret (results_none rfl _ _ _) rfl ?_
        exact ⟨⟨_, rfl⟩, .inr ⟨_, ⟨k + 1, hkn, (upto_succ hkn).symm⟩, hJx3⟩⟩
    · have hkn : k = nch len := by have := Hq.out; unfold nch at hk ⊢; omega
      gi_wp2
      go_end0
      exact ⟨⟨_, rfl⟩, .inl ⟨_, rfl, hkn ▸ hJs⟩⟩

set_option maxHeartbeats 1000000 in
theorem chunk1_none (n : Nat) (hn : 1 ≤ n) (l Bs Bn : Nat) (a : Option Addr) (cap : Nat) (P : World → Prop) (W : World) (hBs : W.cell? ⟨Bs, 0, none⟩ = some (.slice a 0 cap)) (h0 : P W) :
    CallsIn Fence.wide n Tryd.prog 45 #[.func (.yield l) #[] #[], .pointer (some ⟨Bs, 0, none⟩), .pointer (some ⟨Bn, 0, none⟩)] W fun e W' => (∃ v, e = .returned v) ∧ P W' := by
  refine callsIn_of_wp Tryd.func45 rfl trivial ?_ rfl
  simp only [Tryd.ntmps45, List.size_toArray, List.length_cons, List.length_nil, Nat.reduceAdd, Nat.reduceSub, Array.replicate_succ, Array.replicate_zero, List.push_toArray, List.append_toArray, List.nil_append, List.cons_append]
  gi_wp2
  gi_loopw [4] (fun i wr => i = .int .i64 0 ∧ wr = W) (fun _ _ => 0)
  case atStart => exact ⟨rfl, rfl⟩
  case round =>
    obtain ⟨rfl, rfl⟩ := hrel
    gi_wp2
    go_end0
    exact ⟨⟨_, rfl⟩, h0⟩

set_option maxHeartbeats 1000000 in
theorem chunk_any (n : Nat) (a : Option Addr) (len cap : Nat) (w : World) :
    CallsIn Fence.wide n Tryd.prog 29 #[.slice a len cap, .int .i64 64] w fun e w' => e = .returned (.func (.func 45) #[] #[.pointer (some ⟨w.heap.size, 0, none⟩), .pointer (some ⟨w.heap.size + 1, 0, none⟩)]) ∧
      w' = (w.alloc (.cells #[.slice a len cap] 22)).alloc (.cells #[.int .i64 64] 3) := by
  refine callsIn_of_wp Tryd.func29 rfl trivial ?_ rfl
  simp only [Tryd.ntmps29, List.size_toArray, List.length_cons, List.length_nil, Nat.reduceAdd, Nat.reduceSub, Array.replicate_succ, Array.replicate_zero, List.push_toArray, List.append_toArray, List.nil_append, List.cons_append]
  gi_wp2
  go_ret
  exact ⟨rfl, rfl⟩

theorem chunk_stops (n : Nat) (hn : 1 ≤ n) (Bs Bn cb co : Nat) (a : Option Addr) (len cap : Nat) (hlc : len ≤ cap) (hcap : len ≤ 1152921504606846976) (w : World) (ha : 0 < len → a = some ⟨cb, co, none⟩)
    (hBs : w.cell? ⟨Bs, 0, none⟩ = some (.slice a len cap)) (hBn : w.cell? ⟨Bn, 0, none⟩ = some (.int .i64 64)) :
    SeqStopsK Fence.wide n Tryd.prog 45 #[.pointer (some ⟨Bs, 0, none⟩), .pointer (some ⟨Bn, 0, none⟩)] (fun x : Fin (nch len) => #[chV cb co len x.val]) (Kp2 Bs Bn) (fun ys => ys = upto (nch len) (nch len)) (fun pre => ∃ k, k ≤ nch len ∧ pre = upto (nch len) k) (nch len) w := fun l J Jx W hW hJ hJx hY h0 => by
  have h1 := (hW.cell (p := ⟨Bs, 0, none⟩) (block_lt_of_cell hBs)).trans hBs
  have h2 := (hW.cell (p := ⟨Bn, 0, none⟩) (block_lt_of_cell hBn)).trans hBn
  rcases Nat.eq_zero_or_pos len with hl | hl
  · subst hl
    refine (chunk1_none n hn l Bs Bn a cap (J []) W h1 h0).mono ?_
    rintro e W' ⟨he, hj⟩
    exact ⟨he, .inl ⟨[], rfl, hj⟩⟩
  · rw [ha hl] at h1
    refine (chunk1_in n hn l Bs Bn cb co len cap hlc hcap J Jx (fun s W m hs => hJ s W _ none hs ⟨rfl, rfl, rfl, Nat.le_refl _, fun _ _ _ => rfl⟩ (fun r e => by cases e)) hY W h1 h2 h0).mono ?_
    rintro e W' ⟨he, ⟨ys, hy, hj⟩ | ⟨pre, hk, hj⟩⟩
    · exact ⟨he, .inl ⟨ys, hy, hj⟩⟩
    · exact ⟨he, .inr ⟨pre, hk, hj⟩⟩

theorem Blk.grown {W W' : World} {g t : Nat} {cs : Array Value} {row : Option Nat} (h : Blk W g t cs) (hg : W.grownBy W' row) (hr : ∀ r, row = some r → ∃ o : Obj, W.heap[r]? = some o ∧ o.isCells = false) : Blk W' g t cs := by
  refine (hg.block g h.lt (fun e => ?_)).trans h
  obtain ⟨o, ho, hc⟩ := hr g e.symm
  rw [h] at ho
  cases ho
  cases hc
theorem But.grown {g : Nat} {w W W' : World} {row : Option Nat} (h : But g w W) (hg : W.grownBy W' row) (hr : ∀ r, row = some r → w.heap.size ≤ r) : But g w W' :=
  ⟨hg.os.trans h.os, hg.tape.trans h.tape, hg.output.trans h.output, Nat.le_trans h.size hg.size, fun k hk hne => (hg.block k (Nat.lt_of_lt_of_le hk h.size) (fun e => by have := hr k e.symm; omega)).trans (h.block k hk hne)⟩
theorem But.keepsFrom {g t : Nat} {cs : Array Value} {W W' : World} (h : But g W W') (hb : Blk W g t cs) (B : Nat) : KeepsFrom B W W' :=
  ⟨h.size, fun k o _ hk ho => (h.block k (Array.getElem?_eq_some_iff.1 hk).1 (fun e => by subst e; rw [hb] at hk; cases hk; cases ho)).trans hk⟩

theorem upto_fold (q S : List Int) (N : Nat) : ∀ k, k ≤ N → (upto N k).foldl (fun s x => Dg.block s ((q.drop (64 * x.val)).take 64)) S = Dg.sums S q k
  | 0, _ => by simp [upto, Dg.sums]
  | k + 1, h => by rw [upto_succ (show k < N by omega), List.foldl_append, upto_fold q S N k (by omega)]; rfl

end Go.Proofs.YtfcbooagedjkfaaDoor
