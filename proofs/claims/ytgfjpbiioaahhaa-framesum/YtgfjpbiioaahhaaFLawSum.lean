/-
  THE WALK of FrameSum (layer 10).
-/
import Derived.Test.YtgfjpbiioaahhaaFLaw
import Derived.Test.YtgfjpbiioaahhaaFPivot
set_option linter.unusedVariables false
set_option linter.unusedSimpArgs false
set_option maxRecDepth 100000
namespace Go.Proofs.Ytgfjpbiioaahhaa
open Go.RowKit Fr

/-- a row of one byte just made -/
def OneB (x : Int) : Fact := fun lo hi v w => v = .slice (some ⟨lo, 0, none⟩) 1 1 ∧ Hid (w.cell? ⟨lo, 0, none⟩ = some (.int .u8 x))
theorem mono_oneB (x : Int) : Mono (OneB x) := by
  rintro lo hi v w w' ⟨rfl, h⟩ k
  exact ⟨rfl, (k.cell (p := ⟨lo, 0, none⟩) (block_lt_of_cell h.out)).trans h.out⟩
theorem oneB_fact (x : Int) (w : World) : OneB x w.heap.size (w.alloc (.cells #[.int .u8 x] 5)).heap.size (.slice (some ⟨w.heap.size, 0, none⟩) 1 1) (w.alloc (.cells #[.int .u8 x] 5)) :=
  ⟨rfl, (Blk.new w #[.int .u8 x] 5).cell 0⟩
/-- a row of bytes of the call's own -/
abbrev Brow (base : Nat) (w : World) (v : Value) (l : Bs) : Prop := w.ownsRow base 5 1 v l.length (u8s l)
theorem Brow.later {base : Nat} {w w' : World} {v : Value} {l : Bs} (h : Brow base w v l) (k : Below w.heap.size w w') : Brow base w' v l := own_later h k
theorem Brow.shape {base : Nat} {w : World} {v : Value} {l : Bs} (h : Brow base w v l) : ∃ a c, v = .slice a l.length c := by
  rcases h.2 with ⟨rfl, h2⟩ | ⟨g, cap, cur, rfl, _⟩
  · rw [List.eq_nil_of_length_eq_zero h2]; exact ⟨_, _, rfl⟩
  · exact ⟨_, _, rfl⟩
theorem append_byte {w : World} {base lo : Nat} {v : Value} {l : Bs} (h : Brow base w v l) (c : UInt8) (hc : w.cell? ⟨lo, 0, none⟩ = some (.int .u8 (c.toNat : Int))) (hl : l.length ≤ 1000000) (hbase : base ≤ w.heap.size) :
    ∃ v' w', (Builtin.append_ #[26, 26] 26 #[v, .slice (some ⟨lo, 0, none⟩) 1 1]).run Try.prog w = .ok v' w' ∧ Brow base w' v' (l ++ [c]) ∧ w.grownBy w' v.ownBlock := by
  obtain ⟨v', w', h1, h2, h3, _⟩ := append_bytes (x := .slice (some ⟨lo, 0, none⟩) 1 1) (b := [c]) h ⟨some ⟨lo, 0, none⟩, 1, rfl, by simp, by unfold maxLen; omega, fun _ => ⟨lo, rfl, fun j hj => by
    have : j = 0 := by simpa using hj
    subst this
    exact hc⟩⟩ (by simp; omega) hbase
  exact ⟨v', w', h1, h2, h3⟩
theorem conv_own (w : World) (base : Nat) (v : Value) (l : Bs) (C : ByteArray) (h : Brow base w v l) (hC : C = strOf l) : (convert 26 9 v).run Try.prog w = .ok (.string C) w := by
  subst hC
  rcases h.2 with ⟨rfl, h2⟩ | ⟨g, cap, cur, rfl, _, hh, hc, _, _, ht⟩
  · rw [List.eq_nil_of_length_eq_zero h2]
    exact run_convert_bytes_nil w 26 5 Try.underlying26 Try.underlying5 0 0 9 Try.underlying9
  · have hb : Blk w g cur 5 := hh
    have hx := run_convert_bytes_arg (P := Try.prog) w 26 5 Try.underlying26 Try.underlying5 g 0 l.length cap (l.map fun b => (b.toNat : Int)) (List.length_map _)
      (fun i hi => by
        rw [hb.cell, Nat.zero_add]
        have e : (cur.toList.take (l.length * 1))[i]? = (u8s l)[i]? := by rw [ht]
        rw [List.getElem?_take_of_lt (by omega)] at e
        simp only [Array.getElem?_toList] at e
        rw [e]
        simp [hi]) 9 Try.underlying9
    rw [hx]
    congr 2
    apply str_ext
    show (List.map _ (l.map fun b => (b.toNat : Int))) = l
    rw [List.map_map]
    conv => rhs; rw [← List.map_id l]
    apply List.map_congr_left
    intro b _
    simp

set_option maxHeartbeats 400000 in
theorem run_min4 (w : World) (x y z n : Nat) (hn : n = min (min x y) (min z 100)) : (Builtin.min_ #[3, 3, 3, 3] 3 #[.int .i64 (x : Int), .int .i64 (y : Int), .int .i64 (z : Int), .int .i64 100]).run Try.prog w = .ok (.int .i64 (n : Int)) w := by
  have e : (n : Int) = min (min (x : Int) (y : Int)) (min (z : Int) 100) := by omega
  rw [e]
  simp [Builtin.min_, Builtin.min2]
  omega
theorem zip3 (a b c : Bs) (k : Nat) (ha : k < a.length) (hb : k < b.length) (hc : k < c.length) : (List.zipWith (· ^^^ ·) (List.zipWith (· ^^^ ·) a b) c).take (k + 1) = (List.zipWith (· ^^^ ·) (List.zipWith (· ^^^ ·) a b) c).take k ++ [a[k] ^^^ b[k] ^^^ c[k]] := by
  rw [List.take_succ_eq_append_getElem (by simp; omega)]
  simp

set_option maxHeartbeats 1000000 in
theorem frameSum_walk (a0 : ByteArray) (a1 : ByteArray) (a2 : ByteArray) (w0 : a0.size ≤ 140737488355328) (w1 : a1.size ≤ 140737488355328) (w2 : a2.size ≤ 140737488355328) (w : World) :
    Calls Try.prog 7 #[.string a0, .string a1, .string a2] w fun e w' => e = .returned (.bool true) ∧ Below w.heap.size w w' := by
  obtain ⟨n, hn⟩ : ∃ n, n = min (min a0.size a1.size) (min a2.size 100) := ⟨_, rfl⟩
  have hmin := fun w' => run_min4 w' a0.size a1.size a2.size n hn
  have n0 : n ≤ a0.size := by omega
  have n1 : n ≤ a1.size := by omega
  have n2 : n ≤ a2.size := by omega
  have nl : n ≤ 100 := by omega
  obtain ⟨LL, hLL⟩ : ∃ L, L = List.zipWith (· ^^^ ·) (List.zipWith (· ^^^ ·) ((bs a0).take n) ((bs a1).take n)) ((bs a2).take n) := ⟨_, rfl⟩
  have hl0 : ((bs a0).take n).length = n := by rw [List.length_take, bs_length]; omega
  have hl1 : ((bs a1).take n).length = n := by rw [List.length_take, bs_length]; omega
  have hl2 : ((bs a2).take n).length = n := by rw [List.length_take, bs_length]; omega
  have hLlen : LL.length = n := by rw [hLL, List.length_zipWith, List.length_zipWith, hl0, hl1, hl2]; omega
  have HLL := hide hLL
  have HLlen := hide hLlen
  have Hl0 := hide hl0
  have Hl1 := hide hl1
  have Hl2 := hide hl2
  clear hn hLL hLlen hl0 hl1 hl2
  go_enter Try.func7, Try.ntmps7
  go_wp2_with fail
  go_loopw [8, 9] (fun V i wr => ∃ (k : Nat) (l : Bs) (va : Option Addr) (vc : Nat), k ≤ n ∧ i = .int .i64 k ∧ V = .slice va k vc ∧ Hid (l.length = k) ∧ Hid (l = LL.take k) ∧ Hid (Brow w.heap.size wr (.slice va k vc) l) ∧ Hid (Below w.heap.size w wr)) (fun V i _ => n - (intOf i).toNat)
  case atStart => exact ⟨0, [], none, 0, by omega, rfl, rfl, rfl, rfl, World.ownsRow_nil .., Below.refl _ _⟩
  case round =>
    obtain ⟨k, l, va, vc, hk, rfl, rfl, HLk, HL, HOV, HBw⟩ := hrel
    by_cases hlt : k < n
    · have k0 : k < a0.size := by omega
      have k1 : k < a1.size := by omega
      have k2 : k < a2.size := by omega
      have i0 : (k : Int) < (a0.size : Int) := by omega
      have i1 : (k : Int) < (a1.size : Int) := by omega
      have i2 : (k : Int) < (a2.size : Int) := by omega
      obtain ⟨z, hz⟩ : ∃ z : UInt8, z = a0[k] ^^^ a1[k] ^^^ a2[k] := ⟨_, rfl⟩
      obtain ⟨x0, hx0⟩ : ∃ x, x = a0[k].toNat := ⟨_, rfl⟩
      obtain ⟨x1, hx1⟩ : ∃ x, x = a1[k].toNat := ⟨_, rfl⟩
      obtain ⟨x2, hx2⟩ : ∃ x, x = a2[k].toNat := ⟨_, rfl⟩
      have l0 : x0 < 256 := by rw [hx0]; exact a0[k].toNat_lt
      have l1 : x1 < 256 := by rw [hx1]; exact a1[k].toNat_lt
      have l2 : x2 < 256 := by rw [hx2]; exact a2[k].toNat_lt
      obtain ⟨y1, hy1⟩ : ∃ y, y = x0 ^^^ x1 := ⟨_, rfl⟩
      have ly1 : y1 < 256 := by rw [hy1]; exact xor_lt8 l0 l1
      obtain ⟨y2, hy2⟩ : ∃ y, y = y1 ^^^ x2 := ⟨_, rfl⟩
      have e1 : bits .xor .u8 (x0 : Int) (x1 : Int) = (y1 : Int) := by rw [hy1]; exact xor8 l0 l1
      have e2 : bits .xor .u8 (y1 : Int) (x2 : Int) = (y2 : Int) := by rw [hy2]; exact xor8 ly1 l2
      have HY2 : Hid (y2 = z.toNat) := by show y2 = _; rw [hy2, hy1, hz, hx0, hx1, hx2, UInt8.toNat_xor, UInt8.toNat_xor]
      have HNX : Hid (l ++ [z] = LL.take (k + 1)) := by
        show _ = _
        rw [HLL.out, zip3 _ _ _ k (by rw [Hl0.out]; exact hlt) (by rw [Hl1.out]; exact hlt) (by rw [Hl2.out]; exact hlt), ← HLL.out, ← HL.out, hz]
        simp only [List.getElem_take]
        rfl
      have HX0 : Hid (a0[k].toNat = x0) := hx0.symm
      have HX1 : Hid (a1[k].toNat = x1) := hx1.symm
      have HX2 : Hid (a2[k].toNat = x2) := hx2.symm
      clear hz hx0 hx1 hx2 hy1 hy2 HL
      go_upto_region 6 with fail
      generalize decide ((k : Int) < (n : Int)) = bz
      refine wp_region_any (by kernel_rfl) ?_
      change wpAny _ _ _ _ _ _ _ wr.drew
      have hb0 : Below wr.heap.size wr wr.drew := (Below.refl _ _).drew
      replace HOV := hide (HOV.out.later hb0)
      replace HBw := hide (bthen HBw.out hb0)
      clear hb0
      generalize wr.drew = wq at HOV HBw ⊢
      refine' wpAny_pivot_at 13 [false] [(fun _ _ v _ => v = (.slice va k vc)), (fun _ _ v _ => v = (.string a0)), (fun _ _ v _ => v = (.int .i64 (k : Int))), (fun _ _ v _ => v = (.int .u8 (x0 : Int))), (fun _ _ v _ => v = (.string a1)), (fun _ _ v _ => v = (.int .i64 (k : Int))), (fun _ _ v _ => v = (.int .u8 (x1 : Int))), (fun _ _ v _ => v = (.int .u8 (y1 : Int))), (fun _ _ v _ => v = (.string a2)), (fun _ _ v _ => v = (.int .i64 (k : Int))), (fun _ _ v _ => v = (.int .u8 (x2 : Int))), (fun _ _ v _ => v = (.int .u8 (y2 : Int))), (OneB (y2 : Int))] rfl (by kernel_rfl) ?hA (by kernel_rfl) (by kernel_rfl) (by kernel_rfl) rfl rfl (by kernel_rfl) (by decide) ?mono ?steps ?last
      case hA =>
        intro vs
        simp only [List.take_succ_cons, List.take_zero, puts, Act.put, List.setIfInBounds_toArray, List.set_cons_zero, List.set_cons_succ, Nat.zero_add, Nat.reduceAdd]
        rfl
      case mono => exact ⟨mono_eq _, mono_eq _, mono_eq _, mono_eq _, mono_eq _, mono_eq _, mono_eq _, mono_eq _, mono_eq _, mono_eq _, mono_eq _, mono_eq _, mono_oneB _, trivial⟩
      case steps =>
        intro Q'
        refine And.intro ?_ ?_
        · intro vs lo hi w' hM hd K' hK
          dsimp only at hK ⊢
          simp only [Act.put, List.setIfInBounds_toArray, List.set_cons_zero, List.set_cons_succ] at hK
          go_simp
          exact hK.out _ _ rfl (Below.refl _ _)
        refine And.intro ?_ ?_
        · intro vs lo hi w' hM hd K' hK
          dsimp only at hK ⊢
          simp only [Act.put, List.setIfInBounds_toArray, List.set_cons_zero, List.set_cons_succ] at hK
          go_simp
          exact hK.out _ _ rfl (Below.refl _ _)
        refine And.intro ?_ ?_
        · intro vs lo hi w' hM hd K' hK
          dsimp only at hK ⊢
          simp only [Act.put, List.setIfInBounds_toArray, List.set_cons_zero, List.set_cons_succ] at hK
          go_simp
          exact hK.out _ _ rfl (Below.refl _ _)
        refine And.intro ?_ ?_
        · intro vs lo hi w' hM hd K' hK
          dsimp only at hK ⊢
          simp only [Act.put, List.setIfInBounds_toArray, List.set_cons_zero, List.set_cons_succ] at hK
          have e1 : vs 1 = (.string a0) := hd 1 (by kernel_rfl)
          have e2 : vs 2 = (.int .i64 (k : Int)) := hd 2 (by kernel_rfl)
          simp only [e1, e2] at hK ⊢
          clear e1 e2
          go_simp
          exact hK.out _ _ (show Value.int .u8 (a0[k].toNat : Int) = Value.int .u8 (x0 : Int) by rw [HX0.out]) (Below.refl _ _)
        refine And.intro ?_ ?_
        · intro vs lo hi w' hM hd K' hK
          dsimp only at hK ⊢
          simp only [Act.put, List.setIfInBounds_toArray, List.set_cons_zero, List.set_cons_succ] at hK
          go_simp
          exact hK.out _ _ rfl (Below.refl _ _)
        refine And.intro ?_ ?_
        · intro vs lo hi w' hM hd K' hK
          dsimp only at hK ⊢
          simp only [Act.put, List.setIfInBounds_toArray, List.set_cons_zero, List.set_cons_succ] at hK
          go_simp
          exact hK.out _ _ rfl (Below.refl _ _)
        refine And.intro ?_ ?_
        · intro vs lo hi w' hM hd K' hK
          dsimp only at hK ⊢
          simp only [Act.put, List.setIfInBounds_toArray, List.set_cons_zero, List.set_cons_succ] at hK
          have e4 : vs 4 = (.string a1) := hd 4 (by kernel_rfl)
          have e5 : vs 5 = (.int .i64 (k : Int)) := hd 5 (by kernel_rfl)
          simp only [e4, e5] at hK ⊢
          clear e4 e5
          go_simp
          exact hK.out _ _ (show Value.int .u8 (a1[k].toNat : Int) = Value.int .u8 (x1 : Int) by rw [HX1.out]) (Below.refl _ _)
        refine And.intro ?_ ?_
        · intro vs lo hi w' hM hd K' hK
          dsimp only at hK ⊢
          simp only [Act.put, List.setIfInBounds_toArray, List.set_cons_zero, List.set_cons_succ] at hK
          have e3 : vs 3 = (.int .u8 (x0 : Int)) := hd 3 (by kernel_rfl)
          have e6 : vs 6 = (.int .u8 (x1 : Int)) := hd 6 (by kernel_rfl)
          simp only [e3, e6] at hK ⊢
          clear e3 e6
          go_simp
          exact hK.out _ _ rfl (Below.refl _ _)
        refine And.intro ?_ ?_
        · intro vs lo hi w' hM hd K' hK
          dsimp only at hK ⊢
          simp only [Act.put, List.setIfInBounds_toArray, List.set_cons_zero, List.set_cons_succ] at hK
          go_simp
          exact hK.out _ _ rfl (Below.refl _ _)
        refine And.intro ?_ ?_
        · intro vs lo hi w' hM hd K' hK
          dsimp only at hK ⊢
          simp only [Act.put, List.setIfInBounds_toArray, List.set_cons_zero, List.set_cons_succ] at hK
          go_simp
          exact hK.out _ _ rfl (Below.refl _ _)
        refine And.intro ?_ ?_
        · intro vs lo hi w' hM hd K' hK
          dsimp only at hK ⊢
          simp only [Act.put, List.setIfInBounds_toArray, List.set_cons_zero, List.set_cons_succ] at hK
          have e8 : vs 8 = (.string a2) := hd 8 (by kernel_rfl)
          have e9 : vs 9 = (.int .i64 (k : Int)) := hd 9 (by kernel_rfl)
          simp only [e8, e9] at hK ⊢
          clear e8 e9
          go_simp
          exact hK.out _ _ (show Value.int .u8 (a2[k].toNat : Int) = Value.int .u8 (x2 : Int) by rw [HX2.out]) (Below.refl _ _)
        refine And.intro ?_ ?_
        · intro vs lo hi w' hM hd K' hK
          dsimp only at hK ⊢
          simp only [Act.put, List.setIfInBounds_toArray, List.set_cons_zero, List.set_cons_succ] at hK
          have e7 : vs 7 = (.int .u8 (y1 : Int)) := hd 7 (by kernel_rfl)
          have e10 : vs 10 = (.int .u8 (x2 : Int)) := hd 10 (by kernel_rfl)
          simp only [e7, e10] at hK ⊢
          clear e7 e10
          go_simp
          exact hK.out _ _ rfl (Below.refl _ _)
        refine And.intro ?_ ?_
        · intro vs lo hi w' hM hd K' hK
          dsimp only at hK ⊢
          simp only [Act.put, List.setIfInBounds_toArray, List.set_cons_zero, List.set_cons_succ] at hK
          have e11 : vs 11 = (.int .u8 (y2 : Int)) := hd 11 (by kernel_rfl)
          simp only [e11] at hK ⊢
          clear e11
          go_simp
          exact hK.out _ _ (oneB_fact _ w') (below_alloc _ _)
        exact trivial
      case last =>
        intro vs lo hi w' hM hlo hap hall K' Q' hK
        have h0 : vs 0 = (.slice va k vc) := hall.1
        obtain ⟨e1, H1⟩ := hall.2.2.2.2.2.2.2.2.2.2.2.2.1
        dsimp only
        simp only [h0, e1]
        clear h0 e1 hap
        have c12' := H1.out
        rw [HY2.out] at c12'
        have hov := HOV.out.later hM
        have hsz := hM.size
        obtain ⟨V2, W2, hrun, hown, hg⟩ := append_byte hov z c12' (by rw [HLk.out]; omega) (by have := HBw.out.size; omega)
        have HB9 : Hid (Below w.heap.size w W2) := (HBw.out.trans (hM.mono HBw.out.size)).grown hg (by have := HBw.out.size; omega) (fun q hq => (hov.lt q hq).1)
        obtain ⟨va2, vc2, rfl⟩ := hown.shape
        rw [show (l ++ [z]).length = k + 1 by rw [List.length_append, HLk.out]; rfl] at hrun
        have HOWN : Hid (Brow w.heap.size W2 (.slice va2 (k + 1) vc2) (l ++ [z])) := by show Brow _ _ _ _; rw [show k + 1 = (l ++ [z]).length by rw [List.length_append, HLk.out]; rfl]; exact hown
        rw [if_pos (by rfl)]
        refine Lib.wp_append_run _ (.tmp 22) (.tmp 34) 26 26 rfl _ _ (by simp [Act.eval]) (by simp [Act.eval]) _ _ hrun ?_
        clear hrun hown hg hov c12'
        refine hK.out _ _ (fun fuel hfuel => ?_)
        obtain ⟨f, rfl⟩ : ∃ f, fuel = f + 1 := ⟨fuel - 1, by have : 1 ≤ fuel := hfuel; omega⟩
        clear hK hM hlo H1 hall
        simp only [Act.put, List.setIfInBounds_toArray, List.set_cons_zero, List.set_cons_succ]
        refine wpAny_ready (rs := [14]) (by kernel_rfl) (by simp) ?_
        refine AllReady.cons rfl (fun K2 hK2 => ?_) AllReady.nil
        have HK2 := hide hK2
        clear hK2
        go_simp
        refine HK2.out _ _ ?_
        clear HK2
        refine wpAny_done (by kernel_rfl) ?_ _
        go_wp2_with fail
        go_roundw
        case rel => exact ⟨k + 1, l ++ [z], va2, vc2, by omega, by go_num, rfl, by show _ = _; rw [List.length_append, HLk.out]; rfl, HNX, HOWN, HB9⟩
        case measure => simp [intOf]; omega
    · have hkn : k = n := by omega
      subst hkn
      have hkk : ¬ (k : Int) < (k : Int) := by omega
      have HLe : Hid (l = LL) := by show l = LL; rw [HL.out, List.take_of_length_le (by rw [HLlen.out]; exact Nat.le_refl _)]
      obtain ⟨A, hA⟩ : ∃ A, A = a0.extract 0 k := ⟨_, rfl⟩
      obtain ⟨B, hB⟩ : ∃ A, A = a1.extract 0 k := ⟨_, rfl⟩
      obtain ⟨C, hC⟩ : ∃ A, A = a2.extract 0 k := ⟨_, rfl⟩
      obtain ⟨D, hD⟩ : ∃ A, A = strOf l := ⟨_, rfl⟩
      have bA : bs A = (bs a0).take k := by rw [hA, bs_extract, List.drop_zero]
      have bB : bs B = (bs a1).take k := by rw [hB, bs_extract, List.drop_zero]
      have bC : bs C = (bs a2).take k := by rw [hC, bs_extract, List.drop_zero]
      have bD : bs D = l := by rw [hD]
      have zA : A.size ≤ 1152921504606846976 := by rw [← bs_length, bA, Hl0.out]; omega
      have zB : B.size ≤ 1152921504606846976 := by rw [← bs_length, bB, Hl1.out]; omega
      have zC : C.size ≤ 1152921504606846976 := by rw [← bs_length, bC, Hl2.out]; omega
      have zD : D.size ≤ 1152921504606846976 := by rw [← bs_length, bD, HLk.out]; omega
      obtain ⟨qa, ha⟩ : ∃ q, q = sum (bs A) := ⟨_, rfl⟩
      obtain ⟨qb, hb⟩ : ∃ q, q = sum (bs B) := ⟨_, rfl⟩
      obtain ⟨qc, hc⟩ : ∃ q, q = sum (bs C) := ⟨_, rfl⟩
      obtain ⟨qab, hab⟩ : ∃ q, q = qa ^^^ qb := ⟨_, rfl⟩
      obtain ⟨qd, hd⟩ : ∃ q, q = qab ^^^ qc := ⟨_, rfl⟩
      have la : qa < 4294967296 := by rw [ha]; exact sum_lt _
      have lb : qb < 4294967296 := by rw [hb]; exact sum_lt _
      have lc : qc < 4294967296 := by rw [hc]; exact sum_lt _
      have lab : qab < 4294967296 := by rw [hab]; exact xor_lt la lb
      have e1 : bits .xor .u32 (qa : Int) (qb : Int) = (qab : Int) := by rw [hab]; exact xor32 la lb
      have e2 : bits .xor .u32 (qab : Int) (qc : Int) = (qd : Int) := by rw [hd]; exact xor32 lab lc
      have HQD : Hid (qd = sum (bs D)) := by
        show qd = _
        rw [hd, hab, ha, hb, hc, sum_xor _ _ _ (by rw [bA, bB, Hl0.out, Hl1.out]) (by rw [bB, bC, Hl1.out, Hl2.out]), bD, HLe.out, HLL.out, bA, bB, bC]
      have HQA := hide ha
      have HQB := hide hb
      have HQC := hide hc
      have HQ0 : Hid (0 = sum (bs ⟨#[]⟩)) := sum_nil.symm
      have HA := hide hA
      have HB' := hide hB
      have HC := hide hC
      have HD := hide hD
      have HzA := hide zA
      have HzB := hide zB
      have HzC := hide zC
      have HzD := hide zD
      have i0 : (k : Int) ≤ (a0.size : Int) := by omega
      have i1 : (k : Int) ≤ (a1.size : Int) := by omega
      have i2 : (k : Int) ≤ (a2.size : Int) := by omega
      clear hA hB hC hD bA bB bC bD zA zB zC zD ha hb hc hab hd la lb lc lab HL
      go_upto_region 7 with fail
      refine' wp_region_facts [(fun _ _ v _ => v = (.bool true)), (fun _ _ v _ => v = (.bool true)), (fun _ _ v _ => v = (.string a0)), (fun _ _ v _ => v = (.int .i64 (k : Int))), (fun _ _ v _ => v = (.string A)), (fun _ _ v _ => v = (u32v qa)), (fun _ _ v _ => v = (.string a1)), (fun _ _ v _ => v = (.int .i64 (k : Int))), (fun _ _ v _ => v = (.string B)), (fun _ _ v _ => v = (u32v qb)), (fun _ _ v _ => v = (u32v qab)), (fun _ _ v _ => v = (.string a2)), (fun _ _ v _ => v = (.int .i64 (k : Int))), (fun _ _ v _ => v = (.string C)), (fun _ _ v _ => v = (u32v qc)), (fun _ _ v _ => v = (u32v qd)), (fun _ _ v _ => v = (.slice va k vc)), (fun _ _ v _ => v = (.string D)), (fun _ _ v _ => v = (u32v qd)), (fun _ _ v _ => v = (.bool true)), (fun _ _ v _ => v = (.bool true)), (fun _ _ v _ => v = (.bool true)), (fun _ _ v _ => v = (u32v 0)), (fun _ _ v _ => v = (.bool true)), (fun _ _ v _ => v = (.bool true))] (by kernel_rfl) rfl ?hA (by kernel_rfl) (by kernel_rfl) (by kernel_rfl) rfl ?mono ?steps ?last
      case hA =>
        intro vs
        simp only [puts, Act.put, List.setIfInBounds_toArray, List.set_cons_zero, List.set_cons_succ, Nat.zero_add, Nat.reduceAdd]
        rfl
      case mono => exact ⟨mono_eq _, mono_eq _, mono_eq _, mono_eq _, mono_eq _, mono_eq _, mono_eq _, mono_eq _, mono_eq _, mono_eq _, mono_eq _, mono_eq _, mono_eq _, mono_eq _, mono_eq _, mono_eq _, mono_eq _, mono_eq _, mono_eq _, mono_eq _, mono_eq _, mono_eq _, mono_eq _, mono_eq _, mono_eq _, trivial⟩
      case steps =>
        intro Q'
        refine And.intro ?_ ?_
        · intro vs lo hi w' hM hd K' hK
          dsimp only at hK ⊢
          simp only [Act.put, List.setIfInBounds_toArray, List.set_cons_zero, List.set_cons_succ] at hK
          go_simp
          refine (known_any w').mono ?_
          rintro r w7 ⟨rfl, b7⟩
          exact hK.out _ _ rfl b7
        refine And.intro ?_ ?_
        · intro vs lo hi w' hM hd K' hK
          dsimp only at hK ⊢
          simp only [Act.put, List.setIfInBounds_toArray, List.set_cons_zero, List.set_cons_succ] at hK
          have e0 : vs 0 = (.bool true) := hd 0 (by kernel_rfl)
          simp only [e0] at hK ⊢
          clear e0
          go_simp
          exact hK.out _ _ rfl (Below.refl _ _)
        refine And.intro ?_ ?_
        · intro vs lo hi w' hM hd K' hK
          dsimp only at hK ⊢
          simp only [Act.put, List.setIfInBounds_toArray, List.set_cons_zero, List.set_cons_succ] at hK
          have e1 : vs 1 = (.bool true) := hd 1 (by kernel_rfl)
          simp only [e1] at hK ⊢
          clear e1
          go_simp
          exact hK.out _ _ rfl (Below.refl _ _)
        refine And.intro ?_ ?_
        · intro vs lo hi w' hM hd K' hK
          dsimp only at hK ⊢
          simp only [Act.put, List.setIfInBounds_toArray, List.set_cons_zero, List.set_cons_succ] at hK
          have e1 : vs 1 = (.bool true) := hd 1 (by kernel_rfl)
          simp only [e1] at hK ⊢
          clear e1
          go_simp
          exact hK.out _ _ rfl (Below.refl _ _)
        refine And.intro ?_ ?_
        · intro vs lo hi w' hM hd K' hK
          dsimp only at hK ⊢
          simp only [Act.put, List.setIfInBounds_toArray, List.set_cons_zero, List.set_cons_succ] at hK
          have e2 : vs 2 = (.string a0) := hd 2 (by kernel_rfl)
          have e3 : vs 3 = (.int .i64 (k : Int)) := hd 3 (by kernel_rfl)
          have e1 : vs 1 = (.bool true) := hd 1 (by kernel_rfl)
          simp only [e2, e3, e1] at hK ⊢
          clear e2 e3 e1
          go_simp
          exact hK.out _ _ (show Value.string (a0.extract 0 k) = Value.string A by rw [HA.out]) (Below.refl _ _)
        refine And.intro ?_ ?_
        · intro vs lo hi w' hM hd K' hK
          dsimp only at hK ⊢
          simp only [Act.put, List.setIfInBounds_toArray, List.set_cons_zero, List.set_cons_succ] at hK
          have e4 : vs 4 = (.string A) := hd 4 (by kernel_rfl)
          have e1 : vs 1 = (.bool true) := hd 1 (by kernel_rfl)
          simp only [e4, e1] at hK ⊢
          clear e4 e1
          go_simp
          refine (sum_is w' A qa HzA.out HQA.out).mono ?_
          rintro r w7 ⟨rfl, b7⟩
          exact hK.out _ _ rfl b7
        refine And.intro ?_ ?_
        · intro vs lo hi w' hM hd K' hK
          dsimp only at hK ⊢
          simp only [Act.put, List.setIfInBounds_toArray, List.set_cons_zero, List.set_cons_succ] at hK
          have e1 : vs 1 = (.bool true) := hd 1 (by kernel_rfl)
          simp only [e1] at hK ⊢
          clear e1
          go_simp
          exact hK.out _ _ rfl (Below.refl _ _)
        refine And.intro ?_ ?_
        · intro vs lo hi w' hM hd K' hK
          dsimp only at hK ⊢
          simp only [Act.put, List.setIfInBounds_toArray, List.set_cons_zero, List.set_cons_succ] at hK
          have e1 : vs 1 = (.bool true) := hd 1 (by kernel_rfl)
          simp only [e1] at hK ⊢
          clear e1
          go_simp
          exact hK.out _ _ rfl (Below.refl _ _)
        refine And.intro ?_ ?_
        · intro vs lo hi w' hM hd K' hK
          dsimp only at hK ⊢
          simp only [Act.put, List.setIfInBounds_toArray, List.set_cons_zero, List.set_cons_succ] at hK
          have e6 : vs 6 = (.string a1) := hd 6 (by kernel_rfl)
          have e7 : vs 7 = (.int .i64 (k : Int)) := hd 7 (by kernel_rfl)
          have e1 : vs 1 = (.bool true) := hd 1 (by kernel_rfl)
          simp only [e6, e7, e1] at hK ⊢
          clear e6 e7 e1
          go_simp
          exact hK.out _ _ (show Value.string (a1.extract 0 k) = Value.string B by rw [HB'.out]) (Below.refl _ _)
        refine And.intro ?_ ?_
        · intro vs lo hi w' hM hd K' hK
          dsimp only at hK ⊢
          simp only [Act.put, List.setIfInBounds_toArray, List.set_cons_zero, List.set_cons_succ] at hK
          have e8 : vs 8 = (.string B) := hd 8 (by kernel_rfl)
          have e1 : vs 1 = (.bool true) := hd 1 (by kernel_rfl)
          simp only [e8, e1] at hK ⊢
          clear e8 e1
          go_simp
          refine (sum_is w' B qb HzB.out HQB.out).mono ?_
          rintro r w7 ⟨rfl, b7⟩
          exact hK.out _ _ rfl b7
        refine And.intro ?_ ?_
        · intro vs lo hi w' hM hd K' hK
          dsimp only at hK ⊢
          simp only [Act.put, List.setIfInBounds_toArray, List.set_cons_zero, List.set_cons_succ] at hK
          have e5 : vs 5 = (u32v qa) := hd 5 (by kernel_rfl)
          have e9 : vs 9 = (u32v qb) := hd 9 (by kernel_rfl)
          have e1 : vs 1 = (.bool true) := hd 1 (by kernel_rfl)
          simp only [e5, e9, e1] at hK ⊢
          clear e5 e9 e1
          go_simp
          exact hK.out _ _ rfl (Below.refl _ _)
        refine And.intro ?_ ?_
        · intro vs lo hi w' hM hd K' hK
          dsimp only at hK ⊢
          simp only [Act.put, List.setIfInBounds_toArray, List.set_cons_zero, List.set_cons_succ] at hK
          have e1 : vs 1 = (.bool true) := hd 1 (by kernel_rfl)
          simp only [e1] at hK ⊢
          clear e1
          go_simp
          exact hK.out _ _ rfl (Below.refl _ _)
        refine And.intro ?_ ?_
        · intro vs lo hi w' hM hd K' hK
          dsimp only at hK ⊢
          simp only [Act.put, List.setIfInBounds_toArray, List.set_cons_zero, List.set_cons_succ] at hK
          have e1 : vs 1 = (.bool true) := hd 1 (by kernel_rfl)
          simp only [e1] at hK ⊢
          clear e1
          go_simp
          exact hK.out _ _ rfl (Below.refl _ _)
        refine And.intro ?_ ?_
        · intro vs lo hi w' hM hd K' hK
          dsimp only at hK ⊢
          simp only [Act.put, List.setIfInBounds_toArray, List.set_cons_zero, List.set_cons_succ] at hK
          have e11 : vs 11 = (.string a2) := hd 11 (by kernel_rfl)
          have e12 : vs 12 = (.int .i64 (k : Int)) := hd 12 (by kernel_rfl)
          have e1 : vs 1 = (.bool true) := hd 1 (by kernel_rfl)
          simp only [e11, e12, e1] at hK ⊢
          clear e11 e12 e1
          go_simp
          exact hK.out _ _ (show Value.string (a2.extract 0 k) = Value.string C by rw [HC.out]) (Below.refl _ _)
        refine And.intro ?_ ?_
        · intro vs lo hi w' hM hd K' hK
          dsimp only at hK ⊢
          simp only [Act.put, List.setIfInBounds_toArray, List.set_cons_zero, List.set_cons_succ] at hK
          have e13 : vs 13 = (.string C) := hd 13 (by kernel_rfl)
          have e1 : vs 1 = (.bool true) := hd 1 (by kernel_rfl)
          simp only [e13, e1] at hK ⊢
          clear e13 e1
          go_simp
          refine (sum_is w' C qc HzC.out HQC.out).mono ?_
          rintro r w7 ⟨rfl, b7⟩
          exact hK.out _ _ rfl b7
        refine And.intro ?_ ?_
        · intro vs lo hi w' hM hd K' hK
          dsimp only at hK ⊢
          simp only [Act.put, List.setIfInBounds_toArray, List.set_cons_zero, List.set_cons_succ] at hK
          have e10 : vs 10 = (u32v qab) := hd 10 (by kernel_rfl)
          have e14 : vs 14 = (u32v qc) := hd 14 (by kernel_rfl)
          have e1 : vs 1 = (.bool true) := hd 1 (by kernel_rfl)
          simp only [e10, e14, e1] at hK ⊢
          clear e10 e14 e1
          go_simp
          exact hK.out _ _ rfl (Below.refl _ _)
        refine And.intro ?_ ?_
        · intro vs lo hi w' hM hd K' hK
          dsimp only at hK ⊢
          simp only [Act.put, List.setIfInBounds_toArray, List.set_cons_zero, List.set_cons_succ] at hK
          have e1 : vs 1 = (.bool true) := hd 1 (by kernel_rfl)
          simp only [e1] at hK ⊢
          clear e1
          go_simp
          exact hK.out _ _ rfl (Below.refl _ _)
        refine And.intro ?_ ?_
        · intro vs lo hi w' hM hd K' hK
          dsimp only at hK ⊢
          simp only [Act.put, List.setIfInBounds_toArray, List.set_cons_zero, List.set_cons_succ] at hK
          have e16 : vs 16 = (.slice va k vc) := hd 16 (by kernel_rfl)
          have e1 : vs 1 = (.bool true) := hd 1 (by kernel_rfl)
          simp only [e16, e1] at hK ⊢
          clear e16 e1
          have hcv := conv_own w' w.heap.size (.slice va k vc) l D (HOV.out.later hM) HD.out
          go_simp
          exact hK.out _ _ rfl (Below.refl _ _)
        refine And.intro ?_ ?_
        · intro vs lo hi w' hM hd K' hK
          dsimp only at hK ⊢
          simp only [Act.put, List.setIfInBounds_toArray, List.set_cons_zero, List.set_cons_succ] at hK
          have e17 : vs 17 = (.string D) := hd 17 (by kernel_rfl)
          have e1 : vs 1 = (.bool true) := hd 1 (by kernel_rfl)
          simp only [e17, e1] at hK ⊢
          clear e17 e1
          go_simp
          refine (sum_is w' D qd HzD.out HQD.out).mono ?_
          rintro r w7 ⟨rfl, b7⟩
          exact hK.out _ _ rfl b7
        refine And.intro ?_ ?_
        · intro vs lo hi w' hM hd K' hK
          dsimp only at hK ⊢
          simp only [Act.put, List.setIfInBounds_toArray, List.set_cons_zero, List.set_cons_succ] at hK
          have e15 : vs 15 = (u32v qd) := hd 15 (by kernel_rfl)
          have e18 : vs 18 = (u32v qd) := hd 18 (by kernel_rfl)
          have e1 : vs 1 = (.bool true) := hd 1 (by kernel_rfl)
          simp only [e15, e18, e1] at hK ⊢
          clear e15 e18 e1
          go_simp
          exact hK.out _ _ rfl (Below.refl _ _)
        refine And.intro ?_ ?_
        · intro vs lo hi w' hM hd K' hK
          dsimp only at hK ⊢
          simp only [Act.put, List.setIfInBounds_toArray, List.set_cons_zero, List.set_cons_succ] at hK
          have e1 : vs 1 = (.bool true) := hd 1 (by kernel_rfl)
          have e19 : vs 19 = (.bool true) := hd 19 (by kernel_rfl)
          simp only [e1, e19] at hK ⊢
          clear e1 e19
          go_simp
          exact hK.out _ _ rfl (Below.refl _ _)
        refine And.intro ?_ ?_
        · intro vs lo hi w' hM hd K' hK
          dsimp only at hK ⊢
          simp only [Act.put, List.setIfInBounds_toArray, List.set_cons_zero, List.set_cons_succ] at hK
          have e20 : vs 20 = (.bool true) := hd 20 (by kernel_rfl)
          simp only [e20] at hK ⊢
          clear e20
          go_simp
          exact hK.out _ _ rfl (Below.refl _ _)
        refine And.intro ?_ ?_
        · intro vs lo hi w' hM hd K' hK
          dsimp only at hK ⊢
          simp only [Act.put, List.setIfInBounds_toArray, List.set_cons_zero, List.set_cons_succ] at hK
          have e21 : vs 21 = (.bool true) := hd 21 (by kernel_rfl)
          simp only [e21] at hK ⊢
          clear e21
          go_simp
          refine (sum_is w' ⟨#[]⟩ 0 (by decide) HQ0.out).mono ?_
          rintro r w7 ⟨rfl, b7⟩
          exact hK.out _ _ rfl b7
        refine And.intro ?_ ?_
        · intro vs lo hi w' hM hd K' hK
          dsimp only at hK ⊢
          simp only [Act.put, List.setIfInBounds_toArray, List.set_cons_zero, List.set_cons_succ] at hK
          have e22 : vs 22 = (u32v 0) := hd 22 (by kernel_rfl)
          have e21 : vs 21 = (.bool true) := hd 21 (by kernel_rfl)
          simp only [e22, e21] at hK ⊢
          clear e22 e21
          go_simp
          exact hK.out _ _ rfl (Below.refl _ _)
        refine And.intro ?_ ?_
        · intro vs lo hi w' hM hd K' hK
          dsimp only at hK ⊢
          simp only [Act.put, List.setIfInBounds_toArray, List.set_cons_zero, List.set_cons_succ] at hK
          have e21 : vs 21 = (.bool true) := hd 21 (by kernel_rfl)
          have e23 : vs 23 = (.bool true) := hd 23 (by kernel_rfl)
          simp only [e21, e23] at hK ⊢
          clear e21 e23
          go_simp
          exact hK.out _ _ rfl (Below.refl _ _)
        exact trivial
      case last =>
        intro vs lo hi w' hM hlo hap hall K' Q' hK
        obtain ⟨_, _, _, _, _, _, _, _, _, _, _, _, _, _, _, _, _, _, _, _, _, _, _, _, e24, _⟩ := hall
        dsimp only
        simp only [e24]
        clear e24 hap hlo
        go_simp
        refine hK.out _ _ ?_
        clear hK
        have HB9 := hide (HBw.out.trans (hM.mono HBw.out.size))
        clear hM
        go_wp2_with fail
        go_ret
        exact ⟨rfl, HB9.out⟩
end Go.Proofs.Ytgfjpbiioaahhaa
