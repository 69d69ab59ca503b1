/-
  THE WALKS of package names: patterns.
-/
import Derived.RangeFuncNested
import Derived.RangeFuncBound
import Derived.RangeFuncCalls
import Derived.RangeFuncLeaves
import Derived.Shelf.Abstract
import Derived.Shelf.RegionOpen
import Derived.OwnWalkIn
import Derived.TacticsInMore
import Derived.LoopNIn
import Derived.LoopIn
import Derived.Sort.QuietIn
import Derived.Sort.CutIn
import Derived.Test.YtpfbiklbecdmiaaNMarks
import Derived.Test.YtpfbiklbecdmiaaVWalksE
import Derived.Test.YtpfbiklbecdmiaaVMathB
set_option linter.unusedVariables false
set_option linter.unusedSimpArgs false
namespace Go.Proofs.Ytpfbiklbecdmiaa
open Go.RowKit Go.Shelf
attribute [local go_sem] Oper.semAt_some

theorem get_eqN (x : V) (key : ByteArray) : V.get x key = if V.place x key < 0 then none else x.list[(V.place x key).toNat]? := by
  rfl
/-- Get, either way -/
theorem getN_all {v : Value} {x : V} {w : World} {S : Nat → Prop} (h : Is w S v x) (key : ByteArray) (hwt : V.wt x ≤ 4294967296) :
    Calls Try.prog 65 #[v, .string key] w fun e w' => ∃ k n t a1 n1 c1 a2 n2 c2 is, e = .returned (.tuple #[.agg #[.int .i64 k, .int .i64 n, .string t, .slice a1 n1 c1, .slice a2 n2 c2], .bool is]) ∧ is = (V.get x key).isSome ∧ Is w' (fun _ => True) (.agg #[.int .i64 k, .int .i64 n, .string t, .slice a1 n1 c1, .slice a2 n2 c2]) ((V.get x key).getD V.nul) ∧ Below w.heap.size w w' := by
  by_cases hp : V.place x key < 0
  · refine (get_none h key hp).mono ?_
    rintro e w' ⟨rfl, b⟩
    have e1 : V.get x key = none := by rw [get_eqN, if_pos hp]
    refine ⟨_, _, _, _, _, _, _, _, _, _, rfl, by rw [e1]; rfl, ?_, b⟩
    rw [e1]
    exact is_plain w' _ 0 0 ⟨#[]⟩ (by decide)
  · have hpl := (V.place_lt x key (by omega)).2
    have hpl2 : (V.place x key).toNat < x.list.length := by omega
    refine (get_some h key (V.place x key).toNat (by omega) hpl2 hwt).mono ?_
    rintro e w' ⟨k, n, t, a1, n1, c1, a2, n2, c2, rfl, his, b⟩
    have e1 : V.get x key = some x.list[(V.place x key).toNat] := by rw [get_eqN, if_neg hp, List.getElem?_eq_getElem hpl2]
    exact ⟨k, n, t, a1, n1, c1, a2, n2, c2, true, rfl, by rw [e1]; rfl, by rw [e1]; exact his.weak (fun _ _ _ => trivial), b⟩

/-- the texts of a list -/
def textsIn (l : List V) : List ByteArray := (l.filter fun y => decide (y.kind = 3)).map fun y => y.text
theorem textsIn_app (a b : List V) : textsIn (a ++ b) = textsIn a ++ textsIn b := by simp [textsIn]
theorem textsIn_yes (z : V) (h : z.kind = 3) : textsIn [z] = [z.text] := by simp [textsIn, h]
theorem textsIn_no (z : V) (h : ¬ z.kind = 3) : textsIn [z] = [] := by simp [textsIn, h]
theorem textsIn_step (l : List V) (j : Nat) (h : j < l.length) : textsIn (l.take (j + 1)) = textsIn (l.take j) ++ textsIn [l[j]] := by
  rw [List.take_succ_eq_append_getElem h, textsIn_app]
theorem textsIn_at (l : List V) (j : Nat) (h : j < l.length) (hk : l[j].kind = 3) : ∃ hi : (textsIn (l.take j)).length < (textsIn l).length, (textsIn l)[(textsIn (l.take j)).length]'hi = l[j].text := by
  have e : textsIn l = textsIn (l.take j) ++ (l[j].text :: textsIn (l.drop (j + 1))) := by
    conv => lhs; rw [← List.take_append_drop j l, List.drop_eq_getElem_cons h]
    rw [textsIn_app, show l[j] :: l.drop (j + 1) = [l[j]] ++ l.drop (j + 1) from rfl, textsIn_app, textsIn_yes _ hk]
    rfl
  have hlt : (textsIn (l.take j)).length < (textsIn l).length := by rw [e]; simp
  refine ⟨hlt, ?_⟩
  have : (textsIn l)[(textsIn (l.take j)).length]? = some l[j].text := by rw [e]; simp
  rw [List.getElem?_eq_getElem hlt] at this
  exact Option.some.inj this
def patsOf (y : V) : List ByteArray := if y.kind = 4 then textsIn y.list else []
/-- all cells stay -/
def KpC (W W' : World) : Prop := W.heap.size ≤ W'.heap.size ∧ ∀ (k : Nat) (o : Obj), W.heap[k]? = some o → o.isCells = true → W'.heap[k]? = some o
theorem KpC.trans {A B C : World} (h : KpC A B) (k : KpC B C) : KpC A C := ⟨Nat.le_trans h.1 k.1, fun i o hi ho => k.2 i o (h.2 i o hi ho) ho⟩
theorem kpC_put (W : World) (l : Nat) (o o' : Obj) (h : W.heap[l]? = some o) (hc : o.isCells = false) : KpC W (W.putObj l o') := by
  have hg := grownBy_putObj' W l o'
  refine ⟨hg.size, fun k p hk hp => ?_⟩
  refine (hg.block k (Array.getElem?_eq_some_iff.1 hk).1 (fun e => ?_)).trans hk
  cases e
  rw [h] at hk
  cases hk
  rw [hc] at hp
  cases hp
theorem KpC.of_below {W W' : World} (h : Below W.heap.size W W') : KpC W W' := ⟨h.size, fun k o hk _ => (h.block k (Array.getElem?_eq_some_iff.1 hk).1).trans hk⟩
theorem isCells_of_cell {w : World} {b o : Nat} {v : Value} (h : w.cell? ⟨b, o, none⟩ = some v) : ∃ ob, w.heap[b]? = some ob ∧ ob.isCells = true := by
  cases e : w.heap[b]? with
  | none => simp [World.cell?, e] at h
  | some ob =>
    refine ⟨ob, rfl, ?_⟩
    cases ob <;> simp [World.cell?, e] at h ⊢ <;> rfl
theorem KpC.cell {W W' : World} (h : KpC W W') {b o : Nat} {v : Value} (hc : W.cell? ⟨b, o, none⟩ = some v) : W'.cell? ⟨b, o, none⟩ = some v := by
  obtain ⟨ob, h1, h2⟩ := isCells_of_cell hc
  rw [← hc]
  exact World.cell?_of_block (w := W) ((h.2 b ob h1 h2).trans h1.symm)

theorem isL_openK {w w' : World} {S : Nat → Prop} {a : Option Addr} {m cap : Nat} {l : List V} (h : IsL w S (.slice a m cap) l) (k : KpC w w') {i : Nat} (hi : i < l.length) :
    ∃ b off a1 n1 c1 a2 n2 c2, a = some ⟨b, off, none⟩ ∧ w'.cell? ⟨b, off + i * 5, none⟩ = some (.int .i64 l[i].kind) ∧ w'.cell? ⟨b, off + i * 5 + 1, none⟩ = some (.int .i64 l[i].num) ∧ w'.cell? ⟨b, off + i * 5 + 2, none⟩ = some (.string l[i].text) ∧ w'.cell? ⟨b, off + i * 5 + 3, none⟩ = some (.slice a1 n1 c1) ∧ w'.cell? ⟨b, off + i * 5 + 4, none⟩ = some (.slice a2 n2 c2) ∧ l[i].text.size ≤ maxLen := by
  obtain ⟨b, off, k', n', t', a1, n1, c1, a2, n2, c2, rfl, his, e0, e1, e2, e3, e4⟩ := isL_open h (Below.refl _ _) hi
  obtain ⟨kv, lv, hv, _, _, h8⟩ := his.open
  simp only [Value.agg.injEq, Array.mk.injEq, List.cons.injEq, Value.int.injEq, Value.string.injEq, and_true, true_and] at hv
  obtain ⟨h1, h2, h3, rfl, rfl⟩ := hv
  rw [← h1, ← h2, ← h3]
  rw [← h3] at h8
  exact ⟨b, off, a1, n1, c1, a2, n2, c2, rfl, k.cell e0, k.cell e1, k.cell e2, k.cell e3, k.cell e4, h8⟩

theorem grown_of_below {W W' : World} (h : Below W.heap.size W W') : W.grownBy W' none := ⟨h.os, h.tape, h.output, h.size, fun k hk _ => h.block k hk⟩

theorem patterns_any (v0 v1 v2 v3 v4 : Value) (key : ByteArray) (n : Nat) (w : World) :
    CallsIn Fence.wide n Try.prog 54 #[.agg #[v0, v1, v2, v3, v4], .string key] w fun e w' => e = .returned (.func (.func 64) #[] #[.pointer (some ⟨w.heap.size, 0, none⟩), .pointer (some ⟨w.heap.size + 1, 0, none⟩)]) ∧
      w' = (w.alloc (.cells #[v0, v1, v2, v3, v4] 25)).alloc (.cells #[.string key] 9) := by
  refine callsIn_of_wp Try.func54 rfl trivial ?_ rfl
  simp only [Try.ntmps54, List.size_toArray, List.length_cons, List.length_nil, Nat.reduceAdd, Nat.reduceSub, Array.replicate_succ, Array.replicate_zero, List.push_toArray, List.append_toArray, List.nil_append, List.cons_append]
  gi_wp2
  go_ret
  exact ⟨rfl, rfl⟩

def uptoN (N k : Nat) : List (Fin N) := (List.finRange N).take k
theorem uptoN_succ {N k : Nat} (h : k < N) : uptoN N (k + 1) = uptoN N k ++ [⟨k, h⟩] := by
  unfold uptoN
  rw [List.take_succ_eq_append_getElem (by simpa using h)]
  simp
theorem uptoN_length {N k : Nat} (h : k ≤ N) : (uptoN N k).length = k := by simp [uptoN]; omega

set_option maxRecDepth 100000 in
set_option maxHeartbeats 1000000 in
theorem patterns1_in (n : Nat) (hn : 1 ≤ n) (l Ba Bk : Nat) (key : ByteArray) (v : Value) (v0 v1 v2 v3 v4 : Value) (x : V) (S : Nat → Prop) (hv : v = .agg #[v0, v1, v2, v3, v4]) (hwt : V.wt x ≤ 4294967295)
    (ts : List ByteArray) (hts : ts = patsOf ((V.get x key).getD V.nul))
    (W : World) (J Jx : List (Fin ts.length) → World → Prop) (hJ : AbidesFrom W.heap.size J)
    (hY : ∀ pre x W1, J pre W1 → pre.length < ts.length → YieldAt Fence.wide (n - 1) Try.prog l #[.string (ts[x.val]'x.isLt)] W1 fun e W' => (e = .returned (.bool true) ∧ J (pre ++ [x]) W' ∧ KpC W1 W') ∨ (e = .returned (.bool false) ∧ Jx (pre ++ [x]) W'))
    (hI : Is W S v x) (hBa : Box5 W Ba v0 v1 v2 v3 v4) (hBk : W.cell? ⟨Bk, 0, none⟩ = some (.string key)) (h0 : J [] W) :
    CallsIn Fence.wide n Try.prog 64 #[.func (.yield l) #[] #[], .pointer (some ⟨Ba, 0, none⟩), .pointer (some ⟨Bk, 0, none⟩)] W fun e W' => (∃ v, e = .returned v) ∧
      ((∃ ys, ys = uptoN ts.length ts.length ∧ J ys W') ∨ (∃ pre, (∃ k, k ≤ ts.length ∧ pre = uptoN ts.length k) ∧ Jx pre W')) := by
  obtain ⟨x0, x1, x2, x3, x4⟩ := hBa
  have HI := nhide hI
  have HT := nhide hts
  have HJ := nhide hJ
  have HY := nhide hY
  have HV := nhide hv
  clear hI hts hJ hY hv
  refine callsIn_of_wp Try.func64 rfl trivial ?_ rfl
  simp only [Try.ntmps64, List.size_toArray, List.length_cons, List.length_nil, Nat.reduceAdd, Nat.reduceSub, Array.replicate_succ, Array.replicate_zero, List.push_toArray, List.append_toArray, List.nil_append, List.cons_append]
  gi_wp2_with fail
  refine ⟨trivial, ?_⟩
  refine (callsIn_wide.2 (getN_all (HV.out ▸ HI.out) key (by omega))).mono ?_
  rintro e w1 ⟨k, m, t, a1, n1, c1, a2, n2, c2, is, rfl, _, his, b1⟩
  obtain ⟨y, hy⟩ : ∃ y, y = (V.get x key).getD V.nul := ⟨_, rfl⟩
  rw [← hy] at his HT
  obtain ⟨kv, lv, hv, _, hL, _⟩ := his.open
  simp only [Value.agg.injEq, Array.mk.injEq, List.cons.injEq, Value.int.injEq, Value.string.injEq, and_true, true_and] at hv
  obtain ⟨hk, _, _, rfl, rfl⟩ := hv
  obtain ⟨hn2, hc2, hc3⟩ := isL_len hL
  have HL := nhide hL
  have HK := nhide hk
  have HB1 := nhide b1
  have HN2 := nhide hn2
  unfold maxLen at hc3
  have q : BoxF (w1.alloc (.cells #[.int .i64 0, .int .i64 0, .string ⟨#[]⟩, .slice none 0 0, .slice none 0 0] 25)) w1.heap.size _ _ _ _ _ := boxF_at _ _ _ _ _ _ 25 _ rfl
  obtain ⟨⟨y0, y1, y2, y3, y4⟩, g0, g1, g2, g3, g4⟩ := id q
  have HQ := nhide q
  clear his hL hk hy b1 hn2 q
  gi_upto_region 1 with fail
  clear y0 y1 y2 y3 y4 g0 g1 g2 g3 g4
  obtain ⟨u0, u1, u2, u3, u4⟩ := box5_new w1 (.int .i64 k) (.int .i64 y.num) (.string y.text) (.slice a1 n1 c1) (.slice a2 n2 c2) 25
  have hb2 : Below W.heap.size W (w1.alloc (.cells #[.int .i64 k, .int .i64 y.num, .string y.text, .slice a1 n1 c1, .slice a2 n2 c2] 25)) := HB1.out.alloc HB1.out.size _
  have hb3 : Below w1.heap.size w1 (w1.alloc (.cells #[.int .i64 k, .int .i64 y.num, .string y.text, .slice a1 n1 c1, .slice a2 n2 c2] 25)) := below_alloc _ _
  generalize w1.alloc (.cells #[.int .i64 k, .int .i64 y.num, .string y.text, .slice a1 n1 c1, .slice a2 n2 c2] 25) = W2 at u0 u1 u2 u3 u4 hb2 hb3 ⊢
  have HB2 := nhide hb2
  have HB3 := nhide hb3
  clear hb2 hb3 HQ
  by_cases hk4 : k = 4
  · subst hk4
    have hts : ts = textsIn y.list := by
      rw [HT.out, patsOf, if_pos HK.out.symm]
    have HTs := nhide hts
    clear hts HT
    gi_wp2_with fail
    gi_loopw [20] (fun i wr => ∃ j : Nat, j ≤ n2 ∧ i = .int .i64 j ∧ Hid (J (uptoN ts.length (textsIn (y.list.take j)).length) wr) ∧ Hid (KpC w1 wr)) (fun i _ => n2 - (intOf i).toNat)
    case atStart =>
      refine ⟨0, Nat.zero_le _, rfl, ?_, KpC.of_below HB3.out⟩
      show J (uptoN ts.length (textsIn (y.list.take 0)).length) W2
      rw [show uptoN ts.length (textsIn (y.list.take 0)).length = [] by rfl]
      exact HJ.out [] W _ none h0 (grown_of_below HB2.out) (fun r e => by cases e)
    case round =>
      obtain ⟨j, hj, rfl, HJr, HKr⟩ := hrel
      by_cases hlt : j < n2
      · have hjl : j < y.list.length := by rw [← HN2.out]; exact hlt
        obtain ⟨b, off, a1', n1', c1', a2', n2', c2', ha, e0, e1, e2, e3, e4, hsz⟩ := isL_openK HL.out HKr.out hjl
        have hst := textsIn_step y.list j hjl
        have hat := textsIn_at y.list j hjl
        have hno := textsIn_no y.list[j]
        have hyes := textsIn_yes y.list[j]
        subst ha
        obtain ⟨z, hz⟩ : ∃ z, z = y.list[j] := ⟨_, rfl⟩
        rw [← hz] at e0 e1 e2 hsz hst hat hno hyes
        have HSt := nhide hst
        have HAt := nhide hat
        have HNo := nhide hno
        have HYes := nhide hyes
        have HZ := nhide hz
        clear hst hat hno hyes hz hsz
        obtain ⟨q0, q1, q2, q3, q4⟩ := box5_new wr (.int .i64 z.kind) (.int .i64 z.num) (.string z.text) (.slice a1' n1' c1') (.slice a2' n2' c2') 25
        have b3 : Below wr.heap.size wr (wr.alloc (.cells #[.int .i64 z.kind, .int .i64 z.num, .string z.text, .slice a1' n1' c1', .slice a2' n2' c2'] 25)) := below_alloc _ _
        have hJ3 := HJ.out _ wr _ none HJr.out (grown_of_below b3) (fun r e => by cases e)
        have HK3 := nhide (HKr.out.trans (KpC.of_below b3))
        gi_upto_region 5 with fail
        clear e0 e1 e2 e3 e4
        generalize wr.alloc (.cells #[.int .i64 z.kind, .int .i64 z.num, .string z.text, .slice a1' n1' c1', .slice a2' n2' c2'] 25) = W3 at q0 q1 q2 q3 q4 hJ3 HK3 ⊢
        by_cases hz3 : z.kind = 3
        · have hzb : (z.kind == 3) = true := by simp [hz3]
          obtain ⟨hi, hti⟩ := HAt.out hz3
          obtain ⟨id0, hid⟩ : ∃ i, i = (textsIn (y.list.take j)).length := ⟨_, rfl⟩
          have hi2 : id0 < ts.length := by rw [hid, HTs.out]; exact hi
          have htx : ts[id0]'hi2 = z.text := by
            rw [← hti]
            congr 1
          rw [← hid] at hJ3
          obtain ⟨fn, tmps, assign, body, hy, hR⟩ := HY.out _ ⟨id0, hi2⟩ W3 hJ3 (by rw [uptoN_length (Nat.le_of_lt hi2)]; exact hi2)
          rw [htx] at hy
          have hnx : (textsIn (y.list.take (j + 1))).length = id0 + 1 := by rw [HSt.out, HYes.out hz3, List.length_append, ← hid]; rfl
          have HNx := nhide hnx
          have HID := nhide hid
          clear hti htx hi hid hnx hJ3 hz3
          gi_wp2_with fail
          refine hR.mono ?_
          rintro e W4 (⟨rfl, hJ4, hk4⟩ | ⟨rfl, hJx⟩)
          · have HJ4 := nhide hJ4
            have HK4 := nhide (HK3.out.trans hk4)
            clear hJ4 hk4 q0 q1 q2 q3 q4 hR hy
            gi_wp2_with fail
            go_roundw
            case rel =>
              refine ⟨j + 1, by omega, by go_num, ?_, HK4⟩
              show J (uptoN ts.length (textsIn (y.list.take (j + 1))).length) W4
              rw [HNx.out, uptoN_succ hi2]
              exact HJ4.out
            case measure => simp [intOf]; omega
          · gi_wp2_with fail
            refine bodyPost_ret (results_none rfl _ _ _) rfl ?_
            exact ⟨⟨_, rfl⟩, .inr ⟨_, ⟨id0 + 1, hi2, (uptoN_succ hi2).symm⟩, hJx⟩⟩
        · have hzb : (z.kind == 3) = false := by simp [hz3]
          have hnx : (textsIn (y.list.take (j + 1))).length = (textsIn (y.list.take j)).length := by rw [HSt.out, HNo.out hz3, List.append_nil]
          have HNx := nhide hnx
          have HJ3 := nhide hJ3
          clear hnx hJ3 hz3
          gi_wp2_with fail
          refine ⟨(fun f h => absurd h (by simp)), ?_⟩
          gi_wp2_with fail
          go_roundw
          case rel =>
            refine ⟨j + 1, by omega, by go_num, ?_, HK3⟩
            show J (uptoN ts.length (textsIn (y.list.take (j + 1))).length) W3
            rw [HNx.out]
            exact HJ3.out
          case measure => simp [intOf]; omega
      · have hjn : j = n2 := by omega
        have hend : (textsIn (y.list.take j)).length = ts.length := by
          rw [HTs.out, hjn, HN2.out, List.take_length]
        have HEnd := nhide hend
        clear hend hjn
        gi_wp2_with fail
        go_end0
        refine ⟨⟨_, rfl⟩, .inl ⟨_, rfl, ?_⟩⟩
        have := HJr.out
        rw [HEnd.out] at this
        exact this
  · have hkb : (k == 4) = false := by simp [hk4]
    have htn : ts = [] := by
      rw [HT.out, patsOf, if_neg (by rw [← HK.out]; exact hk4)]
    have HTn := nhide htn
    clear htn hk4
    gi_wp2_with fail
    refine bodyPost_ret (results_none rfl _ _ _) rfl ?_
    refine ⟨⟨_, rfl⟩, .inl ⟨_, rfl, ?_⟩⟩
    have e : uptoN ts.length ts.length = [] := List.length_eq_zero_iff.1 (by rw [uptoN_length (Nat.le_refl _), HTn.out]; rfl)
    rw [e]
    exact HJ.out [] W _ none h0 (grown_of_below HB2.out) (fun r e => by cases e)
end Go.Proofs.Ytpfbiklbecdmiaa
