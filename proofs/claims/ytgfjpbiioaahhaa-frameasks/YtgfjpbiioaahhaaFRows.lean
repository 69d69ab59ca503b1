/-
  THE WALKS of strings.Clone, rows (frame): the range over a function.
-/
import Derived.RangeFuncNested
import Derived.RangeFuncBound
import Derived.RangeFuncCalls
import Derived.RangeFuncLeaves
import Derived.Shelf.Abstract
import Derived.Shelf.RegionOpen
import Derived.OwnWalkIn
import Derived.TacticsInMore
import Derived.LoopNIn
import Derived.LoopIn
import Derived.Sort.QuietIn
import Derived.Test.YtgfjpbiioaahhaaFStr
import Derived.Test.YtgfjpbiioaahhaaFFactsIn
set_option linter.unusedVariables false
set_option linter.unusedSimpArgs false
set_option maxRecDepth 100000
namespace Go.Proofs.Ytgfjpbiioaahhaa
open Go.RowKit Go.Shelf Fr
attribute [local go_sem] Oper.semAt_some

theorem clone_any (w : World) (s : ByteArray) (hs : s.size ≤ 281474976710656) : Calls Try.prog 30 #[.string s] w fun e w' => e = .returned (.string s) ∧ Below w.heap.size w w' := by
  go_enter Try.func30, Try.ntmps30
  go_wp2_with (go_at_call 37; refine (Try.stringslite_Clone s _ hs).mono ?_; rintro e w1 ⟨rfl, b1⟩)
  go_ret
  exact ⟨rfl, b1⟩

/-- a row that a frame may have -/
abbrev Rb := { b : Bs // b.length ≤ most }
/-- what a round keeps: the tables -/
def KT (W W' : World) : Prop := ∀ g cs, Blk W g cs 61 → Blk W' g cs 61
theorem KT.tab {W W' : World} (h : KT W W') {g : Nat} (hT : Tab W g) : Tab W' g := by
  obtain ⟨L, h1, h2⟩ := hT
  exact ⟨L, h1, h _ _ h2⟩
theorem bs_tail (R : ByteArray) (k : Nat) : bs (R.extract k R.size) = (bs R).drop k := by
  have h : (bs R).take R.size = bs R := List.take_of_length_le (by rw [bs_length]; exact Nat.le_refl _)
  rw [bs_extract, h]
theorem tail_size (R : ByteArray) (k : Nat) : (R.extract k R.size).size = R.size - k := by rw [← bs_length, bs_tail, List.length_drop, bs_length]
def strSize : Value → Nat
  | .string s => s.size
  | _ => 0
def rbs (l : List Rb) : List Bs := l.map (·.1)
theorem rbs_snoc (l : List Rb) (x : Rb) : rbs (l ++ [x]) = rbs l ++ [x.1] := by simp [rbs]

set_option maxRecDepth 100000 in
set_option maxHeartbeats 1000000 in
theorem rows1_in (n : Nat) (hn : 2 ≤ n) (l Bb : Nat) (s : ByteArray) (hs : s.size ≤ 1000000000) (J Jx : List Rb → World → Prop) (hJ : ∀ p W W', J p W → Below W.heap.size W W' → J p W')
    (hY : ∀ pre x W, J pre W → pre.length < (all (bs s)).length → YieldAt Fence.wide (n - 1) Try.prog l #[.string (strOf x.1)] W fun e W' => (e = .returned (.bool true) ∧ J (pre ++ [x]) W' ∧ KT W W') ∨ (e = .returned (.bool false) ∧ Jx (pre ++ [x]) W'))
    (W : World) (hB : W.cell? ⟨Bb, 0, none⟩ = some (.string s)) (h0 : J [] W) :
    CallsIn Fence.wide n Try.prog 35 #[.func (.yield l) #[] #[], .pointer (some ⟨Bb, 0, none⟩)] W fun e W' => (∃ v, e = .returned v) ∧
      ((∃ ys, rbs ys = all (bs s) ∧ J ys W') ∨ (∃ pre, (∃ r, rbs pre ++ r = all (bs s)) ∧ Jx pre W')) := by
  refine callsIn_of_wp Try.func35 rfl trivial ?_ rfl
  simp only [Try.ntmps35, List.size_toArray, List.length_cons, List.length_nil, Nat.reduceAdd, Nat.reduceSub, Array.replicate_succ, Array.replicate_zero, List.push_toArray, List.append_toArray, List.nil_append, List.cons_append]
  gi_wp2_with fail
  refine ⟨trivial, ?_⟩
  refine ⟨fun _ => by omega, ?_⟩
  refine (callsIn_wide.2 (newTable_any W)).mono ?_
  rintro e w1 ⟨rfl, hT, b1⟩
  have hB1 : w1.cell? ⟨Bb, 0, none⟩ = some (.string s) := (b1.cell (p := ⟨Bb, 0, none⟩) (block_lt_of_cell hB)).trans hB
  have HJ1 := hide (hJ _ _ _ h0 b1)
  generalize W.heap.size = g at hT b1 ⊢
  have HT := hide hT
  clear hT b1 hB h0
  have HA0 : Hid (all (bs s) = rbs [] ++ all (bs s)) := rfl
  gi_wp2_with fail
  gi_loopw [4] (fun p wr => ∃ (pre : List Rb) (R : ByteArray), p = .string R ∧ R.size ≤ 1000000000 ∧ Hid (all (bs s) = rbs pre ++ all (bs R)) ∧ Hid (J pre wr) ∧ Hid (Tab wr g)) (fun p _ => strSize p)
  case atStart => exact ⟨[], s, rfl, hs, HA0, HJ1, HT⟩
  case round =>
    clear HA0 HJ1 HT hB1
    obtain ⟨pre, R, rfl, hR, HA, HJ, HT⟩ := hrel
    gi_wp2_with fail
    refine ⟨trivial, ?_⟩
    refine ⟨fun _ => by omega, ?_⟩
    refine (callsIn_wide.2 (first_any wr g R HT.out (by omega))).mono ?_
    rintro e w2 ⟨⟨b, hnx, rfl⟩ | ⟨hnx, rfl⟩, b2⟩
    · obtain ⟨hbm, hbl0, _⟩ := nx_some hnx
      have hal := all_some hnx
      have HJ2 := hide (hJ _ _ _ HJ.out b2)
      have HT2 := hide (tab_later HT.out b2)
      have hlen : pre.length < (all (bs s)).length := by
        rw [HA.out, hal, List.length_append, List.length_cons]
        simp [rbs]
      obtain ⟨fn, tmps, assign, body, hy, hR⟩ := hY pre ⟨b, hbm⟩ w2 HJ2.out hlen
      have hbl : b.length + 8 ≤ R.size := by rw [bs_length] at hbl0; exact hbl0
      have hbi : (8 : Int) + (b.length : Int) ≤ (R.size : Int) := by omega
      have HA2 : Hid (all (bs s) = rbs (pre ++ [⟨b, hbm⟩]) ++ all (bs (R.extract (8 + b.length) R.size))) := by
        show all (bs s) = _
        rw [HA.out, hal, rbs_snoc, bs_tail, List.append_assoc]
        rfl
      have hxs : (R.extract (8 + b.length) R.size).size = R.size - (8 + b.length) := tail_size _ _
      have HXS := hide hxs
      dsimp only at hy
      have hxb : Hid (b.length ≤ most) := hbm
      clear hlen hal hxs HA hnx hbl0
      generalize hSS : strOf b = SS at hy ⊢
      have hsz : SS.size = b.length := by rw [← hSS]; rfl
      rw [← hsz] at hbl hbi HXS HA2
      clear hSS hsz
      gi_wp2_with fail
      refine ⟨fun _ => by omega, ?_⟩
      refine hR.mono ?_
      rintro e W3 (⟨rfl, hJ3, hk3⟩ | ⟨rfl, hJx3⟩)
      · have HT3 := hide (hk3.tab HT2.out)
        clear hR hk3 hy
        gi_wp2_with fail
        go_roundw
        case rel => exact ⟨pre ++ [(⟨b, hbm⟩ : Rb)], R.extract (8 + SS.size) R.size, rfl, by have := HXS.out; omega, HA2, hJ3, HT3⟩
        case measure => simp [strSize]; have := HXS.out; omega
      · gi_wp2
        refine bodyPost_ret (results_none rfl _ _ _) rfl ?_
        exact ⟨⟨_, rfl⟩, .inr ⟨pre ++ [⟨b, hbm⟩], ⟨_, HA2.out.symm⟩, hJx3⟩⟩
    · have hal := all_none hnx
      have HE : Hid (rbs pre = all (bs s)) := by show rbs pre = _; rw [HA.out, hal, List.append_nil]
      have HJ2 := hide (hJ _ _ _ HJ.out b2)
      clear hal hnx HA
      gi_wp2_with fail
      refine ⟨fun _ h => (by cases h), ?_⟩
      gi_wp2_with fail
      refine bodyPost_ret (results_none rfl _ _ _) rfl ?_
      exact ⟨⟨_, rfl⟩, .inl ⟨pre, HE.out, HJ2.out⟩⟩

theorem rows_any (w : World) (s : ByteArray) (n : Nat) :
    CallsIn Fence.wide n Try.prog 29 #[.string s] w fun e w' => e = .returned (.func (.func 35) #[] #[.pointer (some ⟨w.heap.size, 0, none⟩)]) ∧ w' = w.alloc (.cells #[.string s] 9) := by
  refine callsIn_of_wp Try.func29 rfl trivial ?_ rfl
  simp only [Try.ntmps29, List.size_toArray, List.length_cons, List.length_nil, Nat.reduceAdd, Nat.reduceSub, Array.replicate_succ, Array.replicate_zero, List.push_toArray, List.append_toArray, List.nil_append, List.cons_append]
  gi_wp2
  go_ret
  exact ⟨rfl, rfl⟩

theorem rows_stops (n : Nat) (hn : 2 ≤ n) (Bb : Nat) (s : ByteArray) (hs : s.size ≤ 1000000000) (w : World) (hB : w.cell? ⟨Bb, 0, none⟩ = some (.string s)) :
    SeqStopsK Fence.wide n Try.prog 35 #[.pointer (some ⟨Bb, 0, none⟩)] (fun x : Rb => #[.string (strOf x.1)]) KT (fun ys => rbs ys = all (bs s)) (fun pre => ∃ r, rbs pre ++ r = all (bs s)) (all (bs s)).length w := fun l J Jx W hW hJ hJx hY h0 => by
  have h1 := (hW.cell (p := ⟨Bb, 0, none⟩) (block_lt_of_cell hB)).trans hB
  refine (rows1_in n hn l Bb s hs J Jx (fun p W W' hs b => hJ p W _ none hs ⟨b.os, b.tape, b.output, b.size, fun k hk _ => b.block k hk⟩ (fun r e => by cases e)) hY W h1 h0).mono ?_
  rintro e W' ⟨he, ⟨ys, hy, hj⟩ | ⟨pre, hk, hj⟩⟩
  · exact ⟨he, .inl ⟨ys, hy, hj⟩⟩
  · exact ⟨he, .inr ⟨pre, hk, hj⟩⟩
end Go.Proofs.Ytgfjpbiioaahhaa
