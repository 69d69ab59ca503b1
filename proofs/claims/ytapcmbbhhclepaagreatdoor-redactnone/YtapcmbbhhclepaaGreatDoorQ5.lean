/-
  What this claim takes of the earlier layers' texts: SText SRune DRefA SNums SBytes SId SSigns SRef DRefM DRefC SRefB SNamed SBack SRefC.
-/
import Derived.Test.YtapcmbbhhclepaaGreatDoorQ4
import Derived.Lib.OthersKept
import Derived.Laws.Runes
import Derived.WalkMore
import Derived.BigQuiet
import Derived.Lib.Bytealg
import Derived.Lib.AppendZeros
import Derived.OrdersIn
import Derived.OwnWalkIn
import Derived.Lib.ConvBytes
import Derived.Deep.DeepCutAuto
import Derived.Deep.CutBlock
import Derived.Laws.BytesArg
set_option linter.unusedVariables false
set_option linter.unusedSimpArgs false
set_option maxRecDepth 100000
namespace Go.Proofs.YtapcmbbhhclepaaGreatDoor.Dig
open Go.RowKit Go.Shelf
attribute [local go_sem] Oper.semAt_some
abbrev Bf (B b : Nat) (l : List UInt8) (W : World) : Prop := Lib.IsBuilderF 82 5 B b (Lib.byteCells l) W
theorem bf_grown {B b : Nat} {l : List UInt8} {W W' : World} {row : Option Nat} (h : Bf B b l W) (hg : W.grownBy W' row) (hr : ∀ r, row = some r → ∃ o : Obj, W.heap[r]? = some o ∧ o.isCells = false) : Bf B b l W' := by
  have key : ∀ p, Lib.BuilderAtF 82 5 B b p (Lib.byteCells l) W → Lib.BuilderAtF 82 5 B b p (Lib.byteCells l) W' := by
    rintro p ⟨hB, v, hb, hown, hne⟩
    refine ⟨hB, v, (hg.block b (Array.getElem?_eq_some_iff.1 hb).1 (fun e => ?_)).trans hb, hown.kept hg ?_, hne⟩
    · obtain ⟨o, ho, hc⟩ := hr b e.symm
      rw [hb] at ho
      cases ho
      cases hc
    · cases hv : v.ownBlock with
      | none => exact .inl rfl
      | some g =>
        refine .inr fun e => ?_
        obtain ⟨o, ho, hc⟩ := hr g e.symm
        obtain ⟨c, fz, h1⟩ := Lib.ownsRowF_kind hown g hv
        rw [h1] at ho
        cases ho
        cases hc
  exact h.imp (key _) (key _)
theorem grownBy_alloc (w : World) (o : Obj) : w.grownBy (w.alloc o) none := ⟨rfl, rfl, rfl, by simp, fun k hk _ => Lib.alloc_old w o k hk⟩
theorem bf_alloc {B b : Nat} {l : List UInt8} {W : World} (h : Bf B b l W) (o : Obj) : Bf B b l (W.alloc o) := bf_grown h (grownBy_alloc W o) (fun r e => by cases e)
theorem bf_lt {B b : Nat} {l : List UInt8} {W : World} (h : Bf B b l W) : b < W.heap.size := by
  rcases h with ⟨_, v, hb, _⟩ | ⟨_, v, hb, _⟩
  · exact (Array.getElem?_eq_some_iff.1 hb).1
  · exact (Array.getElem?_eq_some_iff.1 hb).1
theorem bf_block {B b : Nat} {l : List UInt8} {W : World} (h : Bf B b l W) : ∃ p v, W.heap[b]? = some (.cells #[p, v] 82 (0, 0)) := by
  rcases h with ⟨_, v, hb, _⟩ | ⟨_, v, hb, _⟩
  · exact ⟨_, _, hb⟩
  · exact ⟨_, _, hb⟩
theorem kept_from {B b : Nat} {l : List UInt8} {W W' : World} (h : Bf B b l W) (hk : Lib.OthersKept 5 (some b) W W') (hs : W.heap.size ≤ W'.heap.size) (D : Nat) : KeepsFrom D W W' := by
  refine ⟨hs, fun k o _ hko ho => ?_⟩
  refine (hk k o hko ?_ ?_).trans rfl
  · intro e
    cases e
    obtain ⟨p, v, hb⟩ := bf_block h
    rw [hb] at hko
    cases hko
    cases ho
  · rintro c fz rfl
    cases ho
theorem byteCells_snoc (l : List UInt8) (c : UInt8) : Lib.byteCells l ++ [.int .u8 (c.toNat : Int)] = Lib.byteCells (l ++ [c]) := by simp [Lib.byteCells]
def chL (q : List Int) (j : Nat) : List Int := (q.drop (3 * j)).take 3
theorem upto_text (q : List Int) : ∀ k, k ≤ nch3 q.length → (upto (nch3 q.length) k).flatMap (fun x => Sl.text (chL q x.val)) = Sl.text (q.take (3 * k))
  | 0, _ => rfl
  | k + 1, h => by
    have h3 : 3 * k ≤ q.length := by unfold nch3 at h; omega
    rw [upto_succ (show k < nch3 q.length by omega), List.flatMap_append, upto_text q k (by omega), List.flatMap_singleton, ← Sl.text_append (by rw [List.length_take]; omega)]
    congr 1
    unfold chL
    rw [show 3 * (k + 1) = 3 * k + 3 by omega, List.take_add]
theorem chL_length (q : List Int) (j : Nat) : (chL q j).length = min 3 (q.length - 3 * j) := by simp [chL]
theorem flat_length (q : List Int) {N : Nat} (pre : List (Fin N)) : (pre.flatMap (fun x => Sl.text (chL q x.val))).length ≤ 4 * pre.length := by
  induction pre with
  | nil => simp
  | cons x p ih =>
    rw [List.flatMap_cons, List.length_append, Sl.text_length, chL_length, List.length_cons]
    omega
theorem signs_at (p : Nat) (h : p < ({ data := #[65, 66, 67, 68, 69, 70, 71, 72, 73, 74, 75, 76, 77, 78, 79, 80, 81, 82, 83, 84, 85, 86, 87, 88, 89, 90, 97, 98, 99, 100, 101, 102, 103, 104, 105, 106, 107, 108, 109, 110, 111, 112, 113, 114, 115, 116, 117, 118, 119, 120, 121, 122, 48, 49, 50, 51, 52, 53, 54, 55, 56, 57, 45, 95] } : ByteArray).size) : ({ data := #[65, 66, 67, 68, 69, 70, 71, 72, 73, 74, 75, 76, 77, 78, 79, 80, 81, 82, 83, 84, 85, 86, 87, 88, 89, 90, 97, 98, 99, 100, 101, 102, 103, 104, 105, 106, 107, 108, 109, 110, 111, 112, 113, 114, 115, 116, 117, 118, 119, 120, 121, 122, 48, 49, 50, 51, 52, 53, 54, 55, 56, 57, 45, 95] } : ByteArray)[p]'h = Sl.signs[p]?.getD 0 := by
  have hp : p < 64 := h
  have h1 : ({ data := #[65, 66, 67, 68, 69, 70, 71, 72, 73, 74, 75, 76, 77, 78, 79, 80, 81, 82, 83, 84, 85, 86, 87, 88, 89, 90, 97, 98, 99, 100, 101, 102, 103, 104, 105, 106, 107, 108, 109, 110, 111, 112, 113, 114, 115, 116, 117, 118, 119, 120, 121, 122, 48, 49, 50, 51, 52, 53, 54, 55, 56, 57, 45, 95] } : ByteArray)[p]'h = Sl.signs[p]'(by exact hp) := rfl
  rw [h1, List.getElem?_eq_getElem (by exact hp)]
  rfl
theorem y8_of {l : List Int} (h : Dg.B8 l) : Sl.Y8 l := by
  intro n hn
  obtain ⟨i, hi, rfl⟩ := List.getElem_of_mem hn
  have := h i
  rw [List.getElem?_eq_getElem hi] at this
  exact this
theorem tog8_lt (g : List Int) (h8 : Dg.B8 g) (h3 : g.length ≤ 3) : 0 ≤ Sl.tog 8 g 0 ∧ Sl.tog 8 g 0 < 16777216 := by
  match g, h3 with
  | [], _ => simp [Sl.tog]
  | [a], _ =>
    have := h8 0
    simp [Sl.tog] at this ⊢
    omega
  | [a, b], _ =>
    have := h8 0
    have := h8 1
    simp [Sl.tog] at *
    omega
  | [a, b, c], _ =>
    have := h8 0
    have := h8 1
    have := h8 2
    simp [Sl.tog] at *
    omega
set_option maxRecDepth 100000 in
set_option maxHeartbeats 2000000 in
theorem sealText_any (bs : List Int) (a : Option Addr) (len cap : Nat) (w : World) (hB : IsB w a len cap bs) (hl : len ≤ 1000000) :
    Calls Tryz.prog 58 #[.slice a len cap] w fun e w' => e = .returned (.string ⟨(Sl.text bs).toArray⟩) ∧ Below w.heap.size w w' := by
  have HB := hide hB
  have hlc := hB.2.1
  clear hB
  refine (callsIn_wide (n := 3)).1 (callsIn_of_wp_marks Tryz.func58 rfl trivial ?_ rfl)
  refine wpIn_wide.2 ?_
  simp only [Tryz.ntmps58, List.size_toArray, List.length_cons, List.length_nil, Nat.reduceAdd, Nat.reduceSub, Array.replicate_succ, Array.replicate_zero, List.push_toArray, List.append_toArray, List.nil_append, List.cons_append]
  go_wp2_with fail
  have hgr : ((len : Int) * 4 + 3 - 1) / 3 = (((len * 4 + 2) / 3 : Nat) : Int) := by omega
  rw [hgr]
  have b0 : Below w.heap.size w (w.alloc (.cells #[.pointer none, .slice none 0 0] 82)) := (Below.refl _ _).alloc (Nat.le_refl _) _
  refine (Tryz.Builder_Grow_fresh w.heap.size w.heap.size ((len * 4 + 2) / 3) _ (Nat.le_refl _) (heap_alloc_new w _) b0.size (by omega)).mono ?_
  rintro e w1 ⟨rfl, hbu, b1⟩
  have HBF : Hid (Bf w.heap.size w.heap.size [] w1) := .inr (Lib.BuilderAtF.of hbu)
  have HB1 := hide (b0.trans b1)
  clear hbu b1 b0 hgr
  go_wp2_with (go_at_call 87; refine (callsIn_wide.1 (chunk_any3 3 _ _ _ _)).mono ?_; rintro e w' ⟨rfl, rfl⟩)
  have b5 : Below w1.heap.size w1 ((w1.alloc (.cells #[.slice a len cap] 22)).alloc (.cells #[.int .i64 3] 3)) := ((Below.refl _ _).alloc (Nat.le_refl _) _).alloc (by simp) _
  have hs5 : ((w1.alloc (.cells #[.slice a len cap] 22)).alloc (.cells #[.int .i64 3] 3)).heap.size = w1.heap.size + 2 := by simp
  have hk1 := (blk_new w1 22 #[.slice a len cap]).below' ((Below.refl _ _).alloc (Nat.le_refl _) (.cells #[.int .i64 3] 3))
  have hk2 := blk_new (w1.alloc (.cells #[.slice a len cap] 22)) 3 #[.int .i64 3]
  rw [World.size_alloc] at hk2
  have HF5 := hide (bf_alloc (bf_alloc HBF.out (.cells #[.slice a len cap] 22)) (.cells #[.int .i64 3] 3))
  have HB5 := hide (HB1.out.trans (b5.mono HB1.out.size))
  have hN1 := bf_lt HBF.out
  generalize (w1.alloc (.cells #[.slice a len cap] 22)).alloc (.cells #[.int .i64 3] 3) = w5 at hs5 hk1 hk2 HF5 HB5 ⊢
  clear b5 HBF HB1
  obtain ⟨Bs, hBs⟩ : ∃ Bs, Bs = w1.heap.size := ⟨_, rfl⟩
  rw [← hBs] at hs5 hk1 hk2 hN1 ⊢
  clear hBs
  obtain ⟨N, hN⟩ : ∃ N, N = w.heap.size := ⟨_, rfl⟩
  rw [← hN] at HF5 HB5 hN1 ⊢
  have HN := hide hN
  clear hN
  obtain ⟨cb, co, hcc⟩ : ∃ cb co, 0 < len → a = some ⟨cb, co, none⟩ ∧ Rd w cb co bs := by
    rcases Nat.eq_zero_or_pos len with h | h
    · exact ⟨0, 0, fun h' => by omega⟩
    · obtain ⟨_, h2, _, _, ⟨_, h3⟩ | ⟨x, hx, hR⟩⟩ := HB.out
      · omega
      · obtain ⟨cb, co, rfl, hR2⟩ := hR h
        exact ⟨cb, co, fun _ => ⟨hx, hR2⟩⟩
  have HCC := hide hcc
  clear hcc
  have HK1 := hide hk1
  have HK2 := hide hk2
  have hbl := HB.out.1
  refine (wpIn_wide (n := 3)).1 ?_
  refine' wpIn_rangeFunc_ownG rfl (by omega) (gf := 118) (lb := #[.pointer (some ⟨Bs, 0, none⟩), .pointer (some ⟨Bs + 1, 0, none⟩)]) rfl trivial (enters_of Tryz.func118 (by kernel_rfl) rfl)
    (chunk_stops3 2 (by omega) Bs (Bs + 1) cb co a len cap hlc (by omega) w5 (fun h => (HCC.out h).1) (hk1.cell 0) (hk2.cell 0))
    (fun h k => ⟨k.1.trans h.1, k.2.trans h.2⟩) (fun W l o o' hl ho hc hw => ⟨World.putObj_heap_other (by omega), World.putObj_heap_other (by omega)⟩) (Below.refl _ _) (fun _ => rfl)
    (fun pre W => Bf N N (pre.flatMap (fun x => Sl.text (chL bs x.val))) W ∧ Below N w5 W ∧ Blk W Bs 22 #[.slice a len cap] ∧ Blk W (Bs + 1) 3 #[.int .i64 3])
    (fun c pre W => False)
    (fun s W W' row hs hg' hr => ⟨bf_grown hs.1 hg' (fun r e => (hr r e).2), hs.2.1.trans ⟨hg'.os, hg'.tape, hg'.output, hg'.size, fun k hk => hg'.block k (by have := hs.2.1.size; omega) (fun e => by have := (hr k e.symm).1; omega)⟩, hs.2.2.1.grown hg' (fun r e => (hr r e).2), hs.2.2.2.grown hg' (fun r e => (hr r e).2)⟩)
    (fun c s W W' row hs hg' hr => hs)
    ⟨HF5.out, Below.refl _ _, hk1, hk2⟩ _ ?assign ?body ?done ?stop
  case assign =>
    intro l x W K hK
    gi_wp2
    exact hK
  case stop =>
    rintro D c pre W hD _ h
    exact h.elim
  case body =>
    rintro l pre x W ⟨hF, hbW, hq1, hq2⟩ hlen
    have hx3 : 3 * x.val < len := by have := x.isLt; unfold nch3 at this; omega
    obtain ⟨ha', hRd⟩ := HCC.out (by omega)
    obtain ⟨j, hj⟩ : ∃ j, j = x.val := ⟨_, rfl⟩
    rw [← hj] at hx3
    obtain ⟨m, hm⟩ : ∃ m, m = min 3 (len - 3 * j) := ⟨_, rfl⟩
    have hcv : chV3 cb co len x.val = .slice (some ⟨cb, co + 3 * j, none⟩) m m := by rw [← hj, hm]; rfl
    have hcl : (chL bs j).length = m := by rw [chL_length, hm, hbl]
    have hbw : Below N w W := HB5.out.trans hbW
    have hIc : IsB W (some ⟨cb, co + 3 * j, none⟩) m m (chL bs j) := by
      refine ⟨hcl, Nat.le_refl _, by omega, fun i => take_bytes (fun i => by rw [List.getElem?_drop]; exact HB.out.2.2.2.1 _) 3 i, .inr ⟨_, rfl, fun _ => ⟨_, _, rfl, fun i hi => ?_⟩⟩⟩
      rw [hcl] at hi
      have h1 := (hRd.below (HN.out ▸ hbw)) (3 * j + i) (by omega)
      unfold chL
      rw [List.getElem?_take, if_pos (by omega), List.getElem?_drop, Nat.add_assoc]
      exact h1
    have HF := hide hF
    have HbW := hide hbW
    have HQ1 := hide hq1
    have HQ2 := hide hq2
    have HI := hide hIc
    have HJ := hide hj
    have HM := hide hm
    have HCl := hide hcl
    have HP := hide hlen
    have hm3 : m ≤ 3 := by omega
    have hm0 : 0 < m := by omega
    simp only [hcv]
    clear hcv hF hbW hq1 hq2 hIc hj hm hcl hlen ha' hRd hbw
    gi_wp2_with fail
    refine ⟨trivial, ?_⟩
    refine (CallsIn.inRound l (callsIn_wide.2 (together8 (chL bs j) (some ⟨cb, co + 3 * j, none⟩) m m W HI.out hm3))).mono ?_
    rintro e W ⟨rfl, rfl⟩
    obtain ⟨T, hT⟩ : ∃ T, T = Sl.tog 8 (chL bs j) 0 := ⟨_, rfl⟩
    rw [← hT]
    have HT := hide hT
    clear hT
    gi_wp2_with fail
    have h24 : 0 ≤ T ∧ T < 16777216 := by
      rw [HT.out]
      exact tog8_lt _ HI.out.2.2.2.1 (by rw [HCl.out]; exact hm3)
    gi_loopw [22] (fun i wr => ∃ k : Nat, k ≤ m + 1 ∧ i = .int .i64 k ∧ Hid (Bf N N (pre.flatMap (fun x => Sl.text (chL bs x.val)) ++ (Sl.pieces T 6 k).map Sl.sgn) wr) ∧ Hid (Below N w5 wr) ∧ Hid (Blk wr Bs 22 #[.slice a len cap]) ∧ Hid (Blk wr (Bs + 1) 3 #[.int .i64 3]) ∧ Hid (KeepsFrom w5.heap.size W wr)) (fun i _ => m + 1 - (intOf i).toNat)
    case atStart => exact ⟨0, by omega, rfl, by show Bf N N (_ ++ []) W; rw [List.append_nil]; exact HF.out, HbW.out, HQ1.out, HQ2.out, KeepsFrom.refl _ _⟩
    case round =>
      obtain ⟨k, hk, rfl, HFr, HBr, HR1, HR2, HKr⟩ := hrel
      by_cases hlt : k < m + 1
      · gi_wp2_with fail
        refine ⟨trivial, ?_⟩
        refine (CallsIn.inRound l (callsIn_wide.2 (piece6 T k wr h24.1 h24.2 (by omega)))).mono ?_
        rintro e w8 ⟨rfl, nd, rfl⟩
        obtain ⟨p, hp⟩ : ∃ p, p = Sl.piece T k 6 := ⟨_, rfl⟩
        have hp0 : 0 ≤ p := by rw [hp]; unfold Sl.piece; omega
        have hp1 : p < 64 := by rw [hp]; unfold Sl.piece; simp; omega
        rw [← hp]
        have HPp := hide hp
        clear hp
        gi_wp2_with fail
        simp only [signs_at]
        have hfl := flat_length bs pre
        have hsz := HBr.out.size
        have hN5 := HB5.out.size
        have hFd : Bf N N (pre.flatMap (fun x => Sl.text (chL bs x.val)) ++ (Sl.pieces T 6 k).map Sl.sgn) (wr.drewN nd) := bf_grown HFr.out (row := none) ⟨rfl, rfl, rfl, Nat.le_refl _, fun _ _ _ => rfl⟩ (fun r e => by cases e)
        refine ⟨trivial, ?_⟩
        refine (CallsIn.inRound l (callsIn_wide.2 (Tryz.Builder_WriteByte_k N N _ _ _ hFd ?_ ?_))).mono ?_
        · rw [Lib.byteCells_length, List.length_append, List.length_map, show (Sl.pieces T 6 k).length = k by simp [Sl.pieces]]
          have := HP.out
          have hn3 : nch3 len ≤ 1000000 := by unfold nch3; omega
          omega
        · have : (wr.drewN nd).heap.size = wr.heap.size := rfl
          have := HN.out
          omega
        · rintro e w9 ⟨rfl, hF9, b9, k9⟩
          have e9 : Bf N N (pre.flatMap (fun x => Sl.text (chL bs x.val)) ++ (Sl.pieces T 6 (k + 1)).map Sl.sgn) w9 := by
            rw [Sl.pieces_succ, List.map_append, ← List.append_assoc]
            have := hF9
            rw [byteCells_snoc] at this
            rw [← HPp.out]
            exact .inr this
          have hB9 : Below N w5 w9 := (below_drewN HBr.out nd).trans b9
          have hR19 : Blk w9 Bs 22 #[.slice a len cap] := k9 Bs _ HR1.out (by intro e; cases e; omega) (by intro c fz e; cases e)
          have hR29 : Blk w9 (Bs + 1) 3 #[.int .i64 3] := k9 (Bs + 1) _ HR2.out (by intro e; cases e; omega) (by intro c fz e; cases e)
          have hK9 : KeepsFrom w5.heap.size W w9 := HKr.out.trans (show KeepsFrom w5.heap.size wr w9 from ⟨(kept_from hFd k9 b9.size w5.heap.size).1, (kept_from hFd k9 b9.size w5.heap.size).2⟩)
          have H1 := hide e9
          have H2 := hide hB9
          have H3 := hide hR19
          have H4 := hide hR29
          have H5 := hide hK9
          clear hF9 b9 k9 e9 hB9 hR19 hR29 hK9
          gi_wp2_with fail
          go_roundw
          case rel => exact ⟨k + 1, by omega, by go_num, H1, H2, H3, H4, H5⟩
          case measure => simp [intOf]; omega
      · gi_wp2_with fail
        have hkm : k = m + 1 := by omega
        refine ⟨HKr.out, ⟨HR1.out.trans HQ1.out.symm, HR2.out.trans HQ2.out.symm⟩, ?_, HBr.out, HR1.out, HR2.out⟩
        have := HFr.out
        rw [hkm] at this
        rw [List.flatMap_append, List.flatMap_singleton, ← HJ.out]
        have e6 : Sl.text (chL bs j) = (Sl.pieces T 6 (m + 1)).map Sl.sgn := by
          unfold Sl.text
          rw [Sl.nums_group _ (y8_of HI.out.2.2.2.1) (by rw [HCl.out]; exact hm0) (by rw [HCl.out]; exact hm3), HCl.out, HT.out]
        rw [e6]
        exact this
  case done =>
    rintro D xs W hD hxs ⟨hF, hbW, hq1, hq2⟩ hK
    rw [hxs] at hF
    have ht := upto_text bs (nch3 len) (by rw [hbl]; exact Nat.le_refl _)
    rw [hbl] at ht
    rw [ht, List.take_of_length_le (by unfold nch3; omega)] at hF
    have hN5 := HB5.out.size
    have hsz := hbW.size
    have HNo := HN.out
    go_wp2_with fail
    refine (Tryz.Builder_String_any_k w.heap.size w.heap.size (Sl.text bs) W (HNo ▸ hF) (by omega)).mono ?_
    rintro e w9 ⟨rfl, hF9, b9, k9⟩
    have hD9 : w9.heap[D]? = some (.deferred (some [])) := (kept_from (HNo ▸ hF) k9 b9.size 0).same D _ (Nat.zero_le _) hK rfl
    have HB9 : Hid (Below w.heap.size w w9) := (HNo ▸ HB5.out.trans hbW : Below w.heap.size w W).trans b9
    go_wp2_with fail
    refine ⟨by simp, .inl ⟨_, _, rfl, run_takeDeferred hD9, ?_⟩⟩
    refine ⟨_, results_tmp rfl _ _ _, rfl, HB9.out.trans ?_⟩
    exact ⟨rfl, rfl, rfl, (grownBy_putObj' w9 D (.deferred none)).size, fun k hk => (grownBy_putObj' w9 D (.deferred none)).block k (by have := HB9.out.size; omega) (fun e => by cases e; omega)⟩
end Go.Proofs.YtapcmbbhhclepaaGreatDoor.Dig
namespace Go.Proofs.YtapcmbbhhclepaaGreatDoor.Dig
open Go.RowKit Go.Shelf
def signsB : ByteArray := { data := #[65, 66, 67, 68, 69, 70, 71, 72, 73, 74, 75, 76, 77, 78, 79, 80, 81, 82, 83, 84, 85, 86, 87, 88, 89, 90, 97, 98, 99, 100, 101, 102, 103, 104, 105, 106, 107, 108, 109, 110, 111, 112, 113, 114, 115, 116, 117, 118, 119, 120, 121, 122, 48, 49, 50, 51, 52, 53, 54, 55, 56, 57, 45, 95] }
theorem slice_str (s : ByteArray) (q : Nat) (h : q + 1 ≤ s.size) (w : World) : (Instr.sliceAt 9 (.string s) (some (.int .i64 ((q : Int) + 1))) none none).run Tryz.prog w = .ok (.string (s.extract (q + 1) s.size)) w := by
  have hu : (Tryz.prog.underlying 9) = some .string := Tryz.underlying9
  have h1 : (q : Int) + 1 ≤ s.size := by omega
  have h3 : (0 : Int) ≤ (q : Int) + 1 := by omega
  have h4 : ((q : Int) + 1).toNat = q + 1 := by omega
  simp [Instr.sliceAt, Instr.slice, run_underlying hu, Instr.sliceBounds, run_sliceBound, h1, h3, h4]
end Go.Proofs.YtapcmbbhhclepaaGreatDoor.Dig
namespace Go.Proofs.YtapcmbbhhclepaaGreatDoor.Dig
open Go.RowKit
theorem own_block {w : World} {base : Nat} {e : TypeId} {sz : Nat} {v : Value} {n : Nat} {xs : List Value} (h : w.ownsRow base e sz v n xs) : ∀ k, v.ownBlock = some k → base ≤ k := fun k hk => (h.lt k hk).1
theorem own_below {w w' : World} {base : Nat} {e : TypeId} {sz : Nat} {v : Value} {n : Nat} {xs : List Value} (h : w.ownsRow base e sz v n xs) (b : Below w.heap.size w w') : w'.ownsRow base e sz v n xs := by
  obtain ⟨h1, h2⟩ := h
  refine ⟨h1, ?_⟩
  rcases h2 with h2 | ⟨g, cap, cur, hv, hg, hh, r⟩
  · exact .inl h2
  · exact .inr ⟨g, cap, cur, hv, hg, (b.block g (Array.getElem?_eq_some_iff.1 hh).1).trans hh, r⟩
theorem append_one {w : World} (T E : TypeId) (z : Value) (bytes : Nat) (ht : Tryz.prog.underlying T = some (.slice E)) (hinfo : (Tryz.prog.info? E).map (fun i => (i.zero, i.size, i.bytes)) = some (some z, 1, bytes)) (hzs : z.cells.size = 1)
    (base : Nat) (v : Value) (n : Nat) (xs : List Value) (hown : w.ownsRow base E 1 v n xs) {lo : Nat} {m c : Nat} {news : List Value} (hn : news.length = m) (hc : ∀ j u, news[j]? = some u → w.cell? ⟨lo, j, none⟩ = some u) (hone : ∀ u ∈ news, u.oneCell' = true) (hnm : (n + m) * bytes ≤ 100000000) (hnm2 : n + m ≤ 100000000) (hbase : base ≤ w.heap.size) :
    ∃ a' c' w', (Builtin.append_ #[T, T] T #[v, .slice (some ⟨lo, 0, none⟩) m c]).run Tryz.prog w = .ok (.slice a' (n + m) c') w' ∧ w'.ownsRow base E 1 (.slice a' (n + m) c') (n + m) (xs ++ news) ∧ w.grownBy w' v.ownBlock := by
  obtain ⟨i0, hi, hz0, hz1, hz2⟩ := info_parts hinfo
  obtain ⟨v', w', q1, q2, q3, _⟩ := run_append_own w base T T E i0 z 1 bytes ht hi hz0 hz1 hz2 hzs (by decide) v n _ hown ⟨lo, 0, none⟩ m c news (by omega) (fun j u hu => by
      have e1 : (⟨lo, 0, none⟩ : Addr).add j = ⟨lo, j, none⟩ := by unfold Addr.add; split <;> simp_all
      exact Eq.trans (congrArg _ e1) (hc j u hu)) hone (by simp [maxLen]; omega) (by omega) hbase
  obtain ⟨a', c', rfl⟩ := own_shape q2
  exact ⟨a', c', w', q1, q2, q3⟩
theorem one_cell (w : World) (x : Value) (t : TypeId) : ∀ j u, [x][j]? = some u → (w.alloc (.cells #[x] t)).cell? ⟨w.heap.size, j, none⟩ = some u := by
  intro j u hu
  rw [(blk_new w t #[x]).cell j]
  simpa using hu
end Go.Proofs.YtapcmbbhhclepaaGreatDoor.Dig
namespace Go.Proofs.YtapcmbbhhclepaaGreatDoor.Dig
open Go.RowKit Go.Shelf
theorem numsOf_snoc (l : List UInt8) (c : UInt8) : Sl.numsOf (l ++ [c]) = (Sl.numsOf l).bind fun a => (Sl.num c).map fun n => a ++ [n] := by
  rw [Sl.numsOf_append]
  cases Sl.numsOf l with
  | none => rfl
  | some a => cases h : Sl.num c <;> simp [Sl.numsOf, h]
theorem numsOf_bad {l t : List UInt8} (h : Sl.numsOf l = none) : Sl.numsOf (l ++ t) = none := by rw [Sl.numsOf_append, h]; rfl
end Go.Proofs.YtapcmbbhhclepaaGreatDoor.Dig
namespace Go.Proofs.YtapcmbbhhclepaaGreatDoor.Dig
open Go.RowKit Go.Shelf
attribute [local go_sem] Oper.semAt_some
def ch4 (q : List Int) (j : Nat) : List Int := (q.drop (4 * j)).take 4
theorem ch4_length (q : List Int) (j : Nat) : (ch4 q j).length = min 4 (q.length - 4 * j) := by simp [ch4]
theorem back_four {g : List Int} (h : g.length = 4) : (Sl.back g).isSome = true := by
  rw [Sl.back_isSome]
  unfold Sl.ends
  simp [h]
theorem back_bad (q : List Int) (j : Nat) (hj : 4 * j < q.length) (h : Sl.back (ch4 q j) = none) : Sl.back q = none := by
  by_cases hl : (ch4 q j).length = 4
  · have := back_four hl
    rw [h] at this
    cases this
  · rw [ch4_length] at hl
    have e : q = q.take (4 * j) ++ ch4 q j := by
      have e1 : ch4 q j = q.drop (4 * j) := List.take_of_length_le (by rw [List.length_drop]; omega)
      rw [e1, List.take_append_drop]
    rw [e, Sl.back_append _ _ (by rw [List.length_take]; omega), h]
    cases Sl.back (q.take (4 * j)) <;> rfl
def BytesAre (s : List UInt8) (w w' : World) (e : Ending) : Prop :=
  (∃ bs a c, e = .returned (.tuple #[.slice a bs.length c, .bool true]) ∧ Sl.bytes s = some bs ∧ w'.ownsRow w.heap.size 5 1 (.slice a bs.length c) bs.length (bs.map b8)) ∨
  (e = .returned (.tuple #[.slice none 0 0, .bool false]) ∧ Sl.bytes s = none)
end Go.Proofs.YtapcmbbhhclepaaGreatDoor.Dig
namespace Go.Proofs.YtapcmbbhhclepaaGreatDoor.Dig
open Go.RowKit
theorem bytes_isB (w : World) (s : ByteArray) (hs : s.size ≤ 1000000) : IsB (Lib.bytesWorld w 5 s) (some ⟨w.heap.size, 0, none⟩) s.size (grownCap w s.size 0 5) (Sl.ints s.data.toList) := by
  refine ⟨by simp [Sl.ints, ← Lib.size_eq], grownCap_ge _ _ _ _, Nat.le_trans (grownCap_le_maxLen w s.size 0 5 (by simp [maxLen]; omega)) (by simp [maxLen]), Dg.b8_of_mem fun x hx => ?_, .inr ⟨_, rfl, fun _ => ⟨_, 0, rfl, fun i hi => ?_⟩⟩⟩
  · unfold Sl.ints at hx
    obtain ⟨c, _, rfl⟩ := List.mem_map.1 hx
    have := c.toNat_lt
    omega
  · have hi' : i < s.size := by simpa [Sl.ints, ← Lib.size_eq] using hi
    have hil : i < s.data.toList.length := by rw [← Lib.size_eq]; exact hi'
    rw [Nat.zero_add, Lib.bytesWorld_cell w 5 s i hi']
    simp [Sl.ints, List.getD, List.getElem?_eq_getElem hil]
theorem below_bytes (w : World) (s : ByteArray) : Below w.heap.size w (Lib.bytesWorld w 5 s) :=
  ⟨rfl, rfl, rfl, by rw [Lib.bytesWorld_size]; omega, fun k hk => Lib.bytesWorld_at_old w 5 s k hk⟩
theorem str_of (l : List UInt8) : (⟨l.toArray⟩ : ByteArray).data.toList = l := by simp
theorem str_size (l : List UInt8) : (⟨l.toArray⟩ : ByteArray).size = l.length := by rw [Lib.size_eq, str_of]
theorem str_app (a b : List UInt8) : (⟨a.toArray⟩ : ByteArray) ++ ⟨b.toArray⟩ = ⟨(a ++ b).toArray⟩ := by
  apply ByteArray.ext
  rw [ByteArray.data_append]
  simp
set_option maxHeartbeats 1000000 in
theorem ident_any (s : ByteArray) (w : World) (hs : s.size ≤ 1000000) (hC : Cubes w) :
    Calls Tryz.prog 49 #[.string s] w fun e w' => e = .returned (.string ⟨(Sl.ident s.data.toList).toArray⟩) ∧ Below w.heap.size w w' := by
  have HC := hide hC
  have hcv := Lib.run_convert_string_bytes (P := Tryz.prog) w 9 22 5 s Tryz.underlying9 Tryz.underlying22 Tryz.underlying5
  have HI := hide (bytes_isB w s hs)
  have b0 := below_bytes w s
  have HB0 := hide b0
  have HC0 := hide (HC.out.below' b0)
  clear hC b0
  generalize Lib.bytesWorld w 5 s = w1 at hcv HI HB0 HC0
  generalize grownCap w s.size 0 5 = c1 at hcv HI
  go_enter Tryz.func49, Tryz.ntmps49
  go_wp2_with fail
  refine (digestI _ _ _ _ _ HI.out HC0.out (by omega)).mono ?_
  rintro e w2 ⟨g2, rfl, hI2, _, b2⟩
  have HI2 := hide hI2
  have HB2 := hide (bthen HB0.out b2)
  clear hI2 b2 hcv
  go_wp2_with fail
  refine (sealText_any _ _ _ _ _ HI2.out (by omega)).mono ?_
  rintro e w3 ⟨rfl, b3⟩
  have HB3 := hide (bthen HB2.out b3)
  clear b3
  have hl : (Sl.text (Dg.sha (Sl.ints s.data.toList))).length ≤ 43 := by rw [Sl.text_length, Dg.sha_length]; omega
  have hz := str_size (Sl.text (Dg.sha (Sl.ints s.data.toList)))
  have happ := str_app [36] (Sl.text (Dg.sha (Sl.ints s.data.toList)))
  have HApp := hide happ
  clear happ
  generalize hT : (⟨(Sl.text (Dg.sha (Sl.ints s.data.toList))).toArray⟩ : ByteArray) = T at hz HApp ⊢
  go_wp2_with fail
  go_ret
  refine ⟨?_, HB3.out⟩
  have := HApp.out
  show Ending.returned (.string (({ data := #[36] } : ByteArray) ++ T)) = _
  rw [show (({ data := #[36] } : ByteArray) ++ T) = _ from this]
  rfl
def is32 : Option (List Int) → Bool
  | none => false
  | some b => decide (b.length = 32)
theorem named_ident (s : List UInt8) : Sl.named (Sl.ident s) = true := by
  unfold Sl.named Sl.ident
  simp only [if_true]
  rw [Sl.bytes_text (Dg.sha_mem _)]
  simp [Dg.sha_length]
end Go.Proofs.YtapcmbbhhclepaaGreatDoor.Dig
namespace Go.Proofs.YtapcmbbhhclepaaGreatDoor.Dig
open Go.RowKit
theorem signs_one' : ∀ p : Fin 64, (signsB.extract p.val (p.val + 1)).data.toList = [Sl.sgn (p.val : Int)] := by decide +kernel
theorem signs_one {p : Int} (h0 : 0 ≤ p) (h1 : p < 64) : signsB.extract p.toNat (p + 1).toNat = ⟨[Sl.sgn p].toArray⟩ := by
  have h := signs_one' ⟨p.toNat, by omega⟩
  simp only at h
  rw [show (p + 1).toNat = p.toNat + 1 by omega]
  have e : ((p.toNat : Nat) : Int) = p := by omega
  rw [e] at h
  generalize signsB.extract p.toNat (p.toNat + 1) = X at h ⊢
  cases X
  simp at h
  simp
  rw [← h]
end Go.Proofs.YtapcmbbhhclepaaGreatDoor.Dig
namespace Go.Proofs.YtapcmbbhhclepaaGreatDoor.Dig
open Go.RowKit
def na (g : List Int) : Nat → Int
  | 0 => 0
  | k + 1 => 256 * na g k + g[k]?.getD 0
theorem na_le (g : List Int) (h : Dg.B8 g) : ∀ k, 0 ≤ na g k ∧ na g k < 256 ^ k
  | 0 => by simp [na]
  | k + 1 => by
    have h1 := na_le g h k
    have h2 := h k
    simp only [na, Int.pow_succ]
    omega
theorem na_three (g : List Int) (h3 : g.length ≤ 3) : na g 3 = Sl.tog 8 g 0 := by
  match g, h3 with
  | [], _ => simp [na, Sl.tog]
  | [a], _ => simp [na, Sl.tog]; omega
  | [a, b], _ => simp [na, Sl.tog]; omega
  | [a, b, c], _ => simp [na, Sl.tog]; omega
set_option maxRecDepth 100000 in
set_option maxHeartbeats 2000000 in
theorem refText_any (bs : List Int) (a : Option Addr) (len cap : Nat) (w : World) (hB : IsB w a len cap bs) (hl : len ≤ 1000000) :
    Calls Tryz.prog 67 #[.slice a len cap] w fun e w' => e = .returned (.string ⟨(Sl.text bs).toArray⟩) ∧ w' = w := by
  have HB := hide hB
  have hlc := hB.2.1
  have hcx := hB.2.2.1
  clear hB
  go_enter Tryz.func67, Tryz.ntmps67
  go_wp2_with fail
  go_loop [3, 4] (fun s i => ∃ (q e : Nat) (S : ByteArray), Hid (e = 3 * q) ∧ e ≤ len + 2 ∧ i = .int .i64 e ∧ s = .string S ∧ Hid (S = ⟨(Sl.text (bs.take e)).toArray⟩) ∧ S.size ≤ 2 * e) (fun _ i => len + 3 - (intOf i).toNat)
  case atStart => exact ⟨0, 0, ByteArray.empty, rfl, by omega, rfl, rfl, rfl, by decide⟩
  case round =>
    obtain ⟨q, e, S, HQ, he, rfl, rfl, HS, hsz⟩ := hrel
    by_cases hlt : e < len
    · obtain ⟨m, hm⟩ : ∃ m, m = min (len - e) 3 := ⟨_, rfl⟩
      have hmn : min ((len : Int) - (e : Int)) 3 = (m : Int) := by omega
      have hm3 : m ≤ 3 := by omega
      have hem : e + m ≤ len := by omega
      have hm0 : 0 < m := by omega
      obtain ⟨g, hg⟩ : ∃ g, g = (bs.drop e).take 3 := ⟨_, rfl⟩
      have hgl : g.length = m := by rw [hg, List.length_take, List.length_drop, HB.out.1, hm]; omega
      have hg8 : Dg.B8 g := by rw [hg]; exact fun i => take_bytes (fun i => by rw [List.getElem?_drop]; exact HB.out.2.2.2.1 _) 3 i
      have HG := hide hg
      have HGl := hide hgl
      have HG8 := hide hg8
      have HM := hide hm
      clear hg hgl hg8 hm
      go_upto_region 7 with fail
      try simp only [hmn]
      clear hmn
      go_wp2_with fail
      go_loop [5, 7] (fun n k => ∃ (j : Nat) (x : Int), j ≤ 3 ∧ k = .int .i64 j ∧ n = .int .i64 x ∧ Hid (x = na g j) ∧ 0 ≤ x ∧ x < 16777216) (fun _ k => 3 - (intOf k).toNat)
      case atStart => exact ⟨0, 0, by omega, rfl, rfl, rfl, by omega, by omega⟩
      case round =>
        obtain ⟨j, x, hj, rfl, rfl, HX, hx0, hx1⟩ := hrel
        by_cases hj3 : j < 3
        · have hna := na_le g HG8.out (j + 1)
          have hnx := na_le g HG8.out j
          rw [← HX.out] at hnx
          have hxb : x < 65536 := by
            have : j = 0 ∨ j = 1 ∨ j = 2 := by omega
            rcases this with rfl | rfl | rfl <;> simp at hnx <;> omega
          have hnb : na g (j + 1) < 16777216 := by
            have : j = 0 ∨ j = 1 ∨ j = 2 := by omega
            rcases this with rfl | rfl | rfl <;> simp at hna ⊢ <;> omega
          have HNa := hide hna
          clear hnx hna
          by_cases hjm : j < m
          · obtain ⟨h1, h2, h3, h4, h5⟩ := HB.out
            rcases h5 with ⟨_, h5⟩ | ⟨xa, rfl, h6⟩
            · omega
            · obtain ⟨b, o, rfl, hR⟩ := h6 (by omega)
              have hc := hR (e + j) (by omega)
              have h8 := h4 (e + j)
              obtain ⟨v, hv⟩ : ∃ v, v = bs[e + j]?.getD 0 := ⟨_, rfl⟩
              rw [← hv] at hc h8
              have hgv : g[j]?.getD 0 = v := by rw [HG.out, List.getElem?_take, if_pos (by omega), List.getElem?_drop, hv]
              have HGv := hide hgv
              have hidx : (e : Int) + (j : Int) = ((e + j : Nat) : Int) := by omega
              obtain ⟨ej, hej⟩ : ∃ ej, ej = e + j := ⟨_, rfl⟩
              rw [← hej] at hc hidx
              have hejl : ej < len := by omega
              clear hv h1 h4 h6 hR hgv hej
              go_wp2_with fail
              go_round
              case rel =>
                refine ⟨j + 1, 256 * x + v, by omega, by go_num, rfl, ?_, by omega, ?_⟩
                · show 256 * x + v = na g (j + 1)
                  rw [na, ← HX.out, HGv.out]
                · have : 256 * x + v = na g (j + 1) := by rw [na, ← HX.out, HGv.out]
                  rw [this]
                  exact hnb
              case measure => simp [intOf]; omega
          · have hg0 : g[j]?.getD 0 = 0 := by rw [List.getElem?_eq_none (by rw [HGl.out]; omega)]; rfl
            have HG0 := hide hg0
            clear hg0
            go_wp2_with fail
            go_round
            case rel =>
              have : 256 * x = na g (j + 1) := by rw [na, ← HX.out, HG0.out]; omega
              exact ⟨j + 1, 256 * x, by omega, by go_num, rfl, this, by omega, by rw [this]; exact hnb⟩
            case measure => simp [intOf]; omega
        · have hj3e : j = 3 := by omega
          have hxT : x = Sl.tog 8 g 0 := by rw [HX.out, hj3e]; exact na_three g (by rw [HGl.out]; exact hm3)
          have HXT := hide hxT
          clear hxT hj3e
          go_wp2_with fail
          go_loop [3, 8] (fun s k => ∃ (j : Nat) (S' : ByteArray), j ≤ m + 1 ∧ k = .int .i64 j ∧ s = .string S' ∧ Hid (S' = ⟨(Sl.text (bs.take e) ++ (Sl.pieces x 6 j).map Sl.sgn).toArray⟩) ∧ S'.size ≤ 2 * e + j) (fun _ k => 5 - (intOf k).toNat)
          case atStart => exact ⟨0, S, by omega, rfl, rfl, by show S = _; rw [HS.out]; simp [Sl.pieces], by omega⟩
          case round =>
            obtain ⟨j2, S', hj2, rfl, rfl, HS', hsz'⟩ := hrel
            by_cases hjl : j2 ≤ m
            · have hp : 0 ≤ Sl.piece x j2 6 ∧ Sl.piece x j2 6 < 64 := by unfold Sl.piece; simp; omega
              obtain ⟨p, hpe⟩ : ∃ p, p = Sl.piece x j2 6 := ⟨_, rfl⟩
              rw [← hpe] at hp
              have HPe := hide hpe
              have hgo : S' ++ signsB.extract p.toNat (p + 1).toNat = ⟨(Sl.text (bs.take e) ++ (Sl.pieces x 6 (j2 + 1)).map Sl.sgn).toArray⟩ := by
                rw [signs_one hp.1 hp.2, HS'.out, str_app, Sl.pieces_succ, List.map_append, ← List.append_assoc, hpe]
                rfl
              have HGo := hide hgo
              have hgs : (S' ++ signsB.extract p.toNat (p + 1).toNat).size ≤ 2 * e + (j2 + 1) := by
                rw [ByteArray.size_append, ByteArray.size_extract]
                show S'.size + (min (p + 1).toNat 64 - p.toNat) ≤ _
                omega
              have hjc : j2 = 0 ∨ j2 = 1 ∨ j2 = 2 ∨ j2 = 3 := by omega
              clear hgo
              have hpx : p = x / 2 ^ (24 - 6 * (j2 + 1)) % 64 := by rw [hpe]; rfl
              clear hpe
              rcases hjc with rfl | rfl | rfl | rfl
              · have hd : x / 262144 % 64 = p := by rw [hpx]; simp
                clear hpx
                go_wp2_with fail
                go_round
                case rel => exact ⟨1, S' ++ signsB.extract p.toNat (p + 1).toNat, by omega, rfl, rfl, HGo, hgs⟩
                case measure => simp [intOf]
              · have hd : x / 4096 % 64 = p := by rw [hpx]; simp
                clear hpx
                go_wp2_with fail
                go_round
                case rel => exact ⟨2, S' ++ signsB.extract p.toNat (p + 1).toNat, by omega, rfl, rfl, HGo, hgs⟩
                case measure => simp [intOf]
              · have hd : x / 64 % 64 = p := by rw [hpx]; simp
                clear hpx
                go_wp2_with fail
                go_round
                case rel => exact ⟨3, S' ++ signsB.extract p.toNat (p + 1).toNat, by omega, rfl, rfl, HGo, hgs⟩
                case measure => simp [intOf]
              · have hd : x % 64 = p := by rw [hpx]; simp
                clear hpx
                go_wp2_with fail
                go_round
                case rel => exact ⟨4, S' ++ signsB.extract p.toNat (p + 1).toNat, by omega, rfl, rfl, HGo, hgs⟩
                case measure => simp [intOf]
            · have hj2e : j2 = m + 1 := by omega
              have HJ2 := hide hj2e
              clear hj2e
              go_wp2_with fail
              go_round
              case rel =>
                refine ⟨q + 1, e + 3, S', by have := HQ.out; show e + 3 = 3 * (q + 1); omega, by omega, by go_num, rfl, ?_, by omega⟩
                show S' = _
                rw [HS'.out, HJ2.out]
                have et : bs.take (e + 3) = bs.take e ++ g := by rw [HG.out, List.take_add]
                have ebl := HB.out.1
                rw [et, Sl.text_append (by rw [List.length_take, ebl, HQ.out]; have := HQ.out; omega)]
                have eg : Sl.text g = (Sl.pieces x 6 (m + 1)).map Sl.sgn := by
                  unfold Sl.text
                  rw [Sl.nums_group g (y8_of HG8.out) (by rw [HGl.out]; exact hm0) (by rw [HGl.out]; exact hm3), HGl.out, HXT.out]
                rw [eg]
              case measure => simp [intOf]; omega
    · go_wp2_with fail
      go_ret
      refine ⟨?_, rfl⟩
      have := HS.out
      rw [List.take_of_length_le (by rw [HB.out.1]; omega)] at this
      rw [← this]
      rfl
end Go.Proofs.YtapcmbbhhclepaaGreatDoor.Dig
namespace Go.Proofs.YtapcmbbhhclepaaGreatDoor.Dig
open Go.RowKit
namespace Dg
def wd (bs : List Int) (i : Nat) : Int := bits .or .u32 (bits .or .u32 (bits .or .u32 (bs[4 * i]?.getD 0 * 16777216) (bs[4 * i + 1]?.getD 0 * 65536)) (bs[4 * i + 2]?.getD 0 * 256)) (bs[4 * i + 3]?.getD 0)
end Dg
end Go.Proofs.YtapcmbbhhclepaaGreatDoor.Dig
namespace Go.Proofs.YtapcmbbhhclepaaGreatDoor.Dig
open Go.RowKit
def RowW (w : World) (g : Nat) (l : List Int) : Prop := g < w.heap.size ∧ ∀ i, i < 8 → w.cell? ⟨g, i, none⟩ = some (w32 (l[i]?.getD 0)) ∧ w.frozen? ⟨g, i, none⟩ = false
theorem RowW.below {w w' : World} {g : Nat} {l : List Int} (h : RowW w g l) (b : Below w.heap.size w w') : RowW w' g l :=
  ⟨Nat.lt_of_lt_of_le h.1 b.size, fun i hi => ⟨(b.cell (p := ⟨g, i, none⟩) h.1).trans (h.2 i hi).1, (b.frozen (p := ⟨g, i, none⟩) h.1).trans (h.2 i hi).2⟩⟩
theorem RowW.set {w : World} {g : Nat} {l : List Int} (h : RowW w g l) (hl : l.length = 8) (j : Nat) (hj : j < 8) (x : Int) : RowW (w.setCell ⟨g, j, none⟩ (w32 x)) g (l.set j x) := by
  refine ⟨by simpa [World.setCell] using h.1, fun i hi => ⟨?_, by rw [World.frozen?_setCell]; exact (h.2 i hi).2⟩⟩
  by_cases e : j = i
  · subst e
    rw [World.cell?_setCell_same _ _ _ (h.2 j hj).1, List.getElem?_set, if_pos rfl, if_pos (by omega)]
    rfl
  · rw [World.cell?_setCell_other _ _ _ _ (fun hh => e (by injection hh)), List.getElem?_set, if_neg e]
    exact (h.2 i hi).1
theorem RowW.drewN {w : World} {g : Nat} {l : List Int} (h : RowW w g l) (n : Nat) : RowW (w.drewN n) g l := h
end Go.Proofs.YtapcmbbhhclepaaGreatDoor.Dig
namespace Go.Proofs.YtapcmbbhhclepaaGreatDoor.Dig
open Go.RowKit
def numZ (c : UInt8) : Int := match Sl.num c with | none => -1 | some n => n
theorem numZ_some {c : UInt8} {n : Int} (h : Sl.num c = some n) : numZ c = n := by unfold numZ; rw [h]
theorem numZ_none {c : UInt8} (h : Sl.num c = none) : numZ c = -1 := by unfold numZ; rw [h]
theorem sign_eq (k : Nat) (c : UInt8) (h : k < ({ data := #[65, 66, 67, 68, 69, 70, 71, 72, 73, 74, 75, 76, 77, 78, 79, 80, 81, 82, 83, 84, 85, 86, 87, 88, 89, 90, 97, 98, 99, 100, 101, 102, 103, 104, 105, 106, 107, 108, 109, 110, 111, 112, 113, 114, 115, 116, 117, 118, 119, 120, 121, 122, 48, 49, 50, 51, 52, 53, 54, 55, 56, 57, 45, 95] } : ByteArray).size) (b : Bool) (hb : decide (Sl.sgn (k : Int) = c) = b) : ((((({ data := #[65, 66, 67, 68, 69, 70, 71, 72, 73, 74, 75, 76, 77, 78, 79, 80, 81, 82, 83, 84, 85, 86, 87, 88, 89, 90, 97, 98, 99, 100, 101, 102, 103, 104, 105, 106, 107, 108, 109, 110, 111, 112, 113, 114, 115, 116, 117, 118, 119, 120, 121, 122, 48, 49, 50, 51, 52, 53, 54, 55, 56, 57, 45, 95] } : ByteArray)[k]'h).toNat : Nat) : Int) == ((c.toNat : Nat) : Int)) = b := by
  rw [signs_at k h, ← hb, Bool.eq_iff_iff]
  simp only [beq_iff_eq, decide_eq_true_eq]
  have e : Sl.sgn (k : Int) = Sl.signs[k]?.getD 0 := rfl
  rw [e]
  constructor
  · intro h1
    exact UInt8.toNat_inj.1 (by omega)
  · intro h1
    rw [h1]
set_option maxHeartbeats 1000000 in
theorem sign_any (c : UInt8) (w : World) :
    Calls Tryz.prog 85 #[.int .u8 (c.toNat : Int)] w fun e w' => e = .returned (.int .i64 (numZ c)) ∧ w' = w := by
  go_enter Tryz.func85, Tryz.ntmps85
  go_wp2_with fail
  go_loop [3] (fun i => ∃ k : Nat, k ≤ 64 ∧ i = .int .i64 k ∧ Hid (∀ j : Nat, j < k → ¬ Sl.sgn (j : Int) = c)) (fun i => 64 - (intOf i).toNat)
  case atStart => exact ⟨0, by omega, rfl, fun j hj => by omega⟩
  case round =>
    obtain ⟨k, hk, rfl, HN⟩ := hrel
    by_cases hk64 : k < 64
    · by_cases hs : Sl.sgn (k : Int) = c
      · have hb := fun h => sign_eq k c h true (by simp [hs])
        have hnum : Sl.num c = some (k : Int) := by rw [← hs]; exact Sl.num_sgn (by omega) (by omega)
        have HNum := hide hnum
        clear hs hnum
        go_wp2_with fail
        go_ret
        exact ⟨by rw [numZ_some HNum.out]; rfl, rfl⟩
      · have hb := fun h => sign_eq k c h false (by simp [hs])
        have HS := hide hs
        clear hs
        go_wp2_with fail
        go_round
        case rel =>
          refine ⟨k + 1, by omega, by go_num, fun j hj => ?_⟩
          by_cases hjk : j = k
          · subst hjk; exact HS.out
          · exact HN.out j (by omega)
        case measure => simp [intOf]; omega
    · have hnone : Sl.num c = none := by
        cases hn : Sl.num c with
        | none => rfl
        | some n =>
          obtain ⟨h1, h2, h3⟩ := Sl.sgn_num hn
          exfalso
          refine HN.out n.toNat (by omega) ?_
          rw [show ((n.toNat : Nat) : Int) = n by omega]
          exact h1
      have HNone := hide hnone
      clear hnone
      go_wp2_with fail
      go_ret
      exact ⟨by rw [numZ_none HNone.out]; rfl, rfl⟩
end Go.Proofs.YtapcmbbhhclepaaGreatDoor.Dig
namespace Go.Proofs.YtapcmbbhhclepaaGreatDoor.Dig
open Go.RowKit
theorem named_cons (l : List UInt8) : Sl.named (36 :: l) = is32 (Sl.bytes l) := by
  simp only [Sl.named, if_true]
  cases Sl.bytes l <;> rfl
def ch (cs : List Int) (k : Nat) : List Int := (List.range k).map fun i => cs[i]?.getD 0 % 64
theorem drop_one (S : ByteArray) (c : UInt8) (l : List UInt8) (h : S = ⟨(c :: l).toArray⟩) : S.extract 1 S.size = ⟨l.toArray⟩ := by
  have h1 : (S.extract 1 S.size).data.toList = l := by
    rw [Lib.extract_data, List.take_of_length_le]
    · rw [h]
      simp
    · rw [List.length_drop, ← Lib.size_eq]
      exact Nat.le_refl _
  generalize S.extract 1 S.size = X at h1 ⊢
  cases X
  simp at h1
  subst h1
  simp
end Go.Proofs.YtapcmbbhhclepaaGreatDoor.Dig
namespace Go.Proofs.YtapcmbbhhclepaaGreatDoor.Dig
open Go.RowKit
theorem ba_ext {a b : ByteArray} (h : a.toList = b.toList) : a = b := by
  rw [ByteArray.toList_eq, ByteArray.toList_eq] at h
  cases a
  cases b
  simp at h
  rw [h]
theorem str_eq {S : ByteArray} {l : List UInt8} (h : S.data.toList = l) : S = ⟨l.toArray⟩ := by
  cases S
  simp at h
  subst h
  simp
end Go.Proofs.YtapcmbbhhclepaaGreatDoor.Dig
namespace Go.Proofs.YtapcmbbhhclepaaGreatDoor.Dig
open Go.RowKit
def og (q : List Int) (j : Nat) : List Int := Sl.pieces (Sl.tog 6 (ch4 q j) 0) 8 ((ch4 q j).length - 1)
def ob (q : List Int) (k : Nat) : List Int := (List.range k).flatMap (og q)
theorem ob_succ (q : List Int) (k : Nat) : ob q (k + 1) = ob q k ++ og q k := by simp [ob, List.range_succ]
theorem ch4_more (q m : List Int) (j : Nat) (h : 4 * (j + 1) ≤ q.length) : ch4 (q ++ m) j = ch4 q j := by
  unfold ch4
  rw [List.drop_append_of_le_length (by omega), List.take_append_of_le_length (by rw [List.length_drop]; omega)]
theorem ob_more (q m : List Int) : ∀ k, 4 * k ≤ q.length → ob (q ++ m) k = ob q k
  | 0, _ => rfl
  | k + 1, h => by
    rw [ob_succ, ob_succ, ob_more q m k (by omega)]
    unfold og
    rw [ch4_more q m k h]
theorem ch4_end (q g : List Int) (k : Nat) (h : q.length = 4 * k) (hg : g.length ≤ 4) : ch4 (q ++ g) k = g := by
  unfold ch4
  rw [← h, List.drop_left, List.take_of_length_le hg]
theorem ob_back (q : List Int) (h6 : Sl.S6 q) (bs : List Int) (hb : Sl.back q = some bs) : ob q (nch4 q.length) = bs := by
  have hall : ∀ j, j < nch4 q.length → Sl.back (ch4 q j) = some (og q j) := fun j hj => by
    have hj4 : 4 * j < q.length := by unfold nch4 at hj; omega
    have h66 : Sl.S6 (ch4 q j) := fun y hy => h6 y (List.mem_of_mem_drop (List.mem_of_mem_take hy))
    have hcl := ch4_length q j
    have hg := Sl.back_group (ch4 q j) h66 (by omega) (by omega)
    cases hc : Sl.back (ch4 q j) with
    | none =>
      rw [back_bad q j hj4 hc] at hb
      cases hb
    | some y =>
      rw [hc] at hg
      split at hg
      · cases hg
      · exact hg
  have hk : ∀ k, k ≤ nch4 q.length → Sl.back (q.take (4 * k)) = some (ob q k) := by
    intro k
    induction k with
    | zero => intro _; rfl
    | succ k ih =>
      intro hk
      have h3 : 4 * k ≤ q.length := by unfold nch4 at hk; omega
      have hl := hall k (by omega)
      have hl' : Sl.back ((q.drop (4 * k)).take 4) = some (og q k) := hl
      rw [show 4 * (k + 1) = 4 * k + 4 by omega, List.take_add, Sl.back_append _ _ (by rw [List.length_take]; omega), ih (by omega), ob_succ, hl']
      rfl
  have := hk _ (Nat.le_refl _)
  rw [List.take_of_length_le (by unfold nch4; omega), hb] at this
  exact (Option.some.inj this).symm
theorem og_y8 (q : List Int) (j : Nat) : Sl.Y8 (og q j) := by
  intro n hn
  unfold og Sl.pieces at hn
  obtain ⟨i, _, rfl⟩ := List.mem_map.1 hn
  unfold Sl.piece
  constructor
  · exact Int.emod_nonneg _ (by simp)
  · have := Int.emod_lt_of_pos (Sl.tog 6 (ch4 q j) 0 / 2 ^ (24 - 8 * (i + 1))) (show (0 : Int) < 2 ^ 8 by decide)
    have e : (2 : Int) ^ 8 = 256 := by decide
    omega
theorem ob_y8 (q : List Int) (k : Nat) : Sl.Y8 (ob q k) := by
  intro n hn
  unfold ob at hn
  obtain ⟨j, _, h⟩ := List.mem_flatMap.1 hn
  exact og_y8 q j n h
def nb (g : List Int) : Nat → Int
  | 0 => 0
  | k + 1 => 64 * nb g k + g[k]?.getD 0
theorem nb_le (g : List Int) (h : Sl.S6 g) : ∀ k, 0 ≤ nb g k ∧ nb g k < 64 ^ k
  | 0 => by simp [nb]
  | k + 1 => by
    have h1 := nb_le g h k
    have h2 : 0 ≤ g[k]?.getD 0 ∧ g[k]?.getD 0 < 64 := by
      cases hi : g[k]? with
      | none => simp
      | some y => exact h y (List.mem_of_getElem? hi)
    simp only [nb, Int.pow_succ]
    omega
theorem nb_four (g : List Int) (h : g.length ≤ 4) : nb g 4 = Sl.tog 6 g 0 := by
  match g, h with
  | [], _ => simp [nb, Sl.tog]
  | [a], _ => simp [nb, Sl.tog]; omega
  | [a, b], _ => simp [nb, Sl.tog]; omega
  | [a, b, c], _ => simp [nb, Sl.tog]; omega
  | [a, b, c, d], _ => simp [nb, Sl.tog]; omega
theorem nb_more (g : List Int) (d : Int) : ∀ k, k ≤ g.length → nb (g ++ [d]) k = nb g k
  | 0, _ => rfl
  | k + 1, h => by rw [nb, nb, nb_more g d k (by omega), List.getElem?_append_left (by omega)]
theorem nb_snoc (g : List Int) (d : Int) (k : Nat) (h : g.length = k) : nb (g ++ [d]) (k + 1) = 64 * nb g k + d := by
  rw [nb, nb_more g d k (by omega), List.getElem?_append_right (by omega), h]
  simp
theorem snoc_take (s : ByteArray) (e j : Nat) (h : e + j < s.size) : (s.data.toList.drop e).take (j + 1) = (s.data.toList.drop e).take j ++ [s[e + j]'h] := by
  have hl : e + j < s.data.toList.length := by rw [← Lib.size_eq]; exact h
  rw [List.take_succ_eq_append_getElem (by rw [List.length_drop]; omega), List.getElem_drop]
  rfl
set_option maxRecDepth 100000 in
set_option maxHeartbeats 2000000 in
theorem refBytes_any (s : ByteArray) (w : World) (hs : s.size ≤ 10000) :
    Calls Tryz.prog 53 #[.string s] w fun e w' => BytesAre s.data.toList w w' e ∧ Below w.heap.size w w' := by
  go_enter Tryz.func53, Tryz.ntmps53
  go_wp2_with fail
  go_loopw [4, 5] (fun v i wr => ∃ (q e n : Nat) (ns : List Int) (a : Option Addr) (c : Nat), Hid (e = 4 * q) ∧ e ≤ s.size + 3 ∧ i = .int .i64 e ∧ v = .slice a n c ∧ n ≤ 3 * q ∧ Hid (Sl.numsOf (s.data.toList.take e) = some ns) ∧ Hid (n = (ob ns q).length) ∧ Hid (wr.ownsRow w.heap.size 5 1 (.slice a n c) n ((ob ns q).map b8)) ∧ Hid (Below w.heap.size w wr)) (fun _ i _ => s.size + 4 - (intOf i).toNat)
  case atStart => exact ⟨0, 0, 0, [], none, 0, rfl, by omega, rfl, rfl, by omega, rfl, rfl, World.ownsRow_nil _ _ _ _, Below.refl _ _⟩
  case round =>
    obtain ⟨q, e, n, ns, a, c, HQ, he, rfl, rfl, hn3, HN, HNn, HO, HB⟩ := hrel
    by_cases hlt : e < s.size
    · obtain ⟨m, hm⟩ : ∃ m, m = min (s.size - e) 4 := ⟨_, rfl⟩
      have hmn : min ((s.size : Int) - (e : Int)) 4 = (m : Int) := by omega
      have hm4 : m ≤ 4 := by omega
      have hem : e + m ≤ s.size := by omega
      have hm0 : 0 < m := by omega
      have hq1 : q ≤ 2500 := by have := HQ.out; omega
      have HM := hide hm
      clear hm
      go_upto_region 6 with fail
      try simp only [hmn]
      clear hmn
      go_wp2_with fail
      go_loop [7, 8] (fun x k => ∃ (j : Nat) (y : Int) (g : List Int), j ≤ 4 ∧ k = .int .i64 j ∧ x = .int .i64 y ∧ Hid (Sl.numsOf ((s.data.toList.drop e).take (min j m)) = some g) ∧ Hid (y = nb g j) ∧ 0 ≤ y ∧ y < 16777216) (fun _ k => 4 - (intOf k).toNat)
      case atStart => exact ⟨0, 0, [], by omega, rfl, rfl, by show Sl.numsOf ((s.data.toList.drop e).take (min 0 m)) = _; rw [Nat.zero_min]; rfl, rfl, by omega, by omega⟩
      case round =>
        obtain ⟨j, y, g, hj, rfl, rfl, HG, HY, hy0, hy1⟩ := hrel
        by_cases hj4 : j < 4
        · have hg6 := (Sl.map_numsOf _ _ HG.out).2
          have hgl : g.length = min j m := by rw [Sl.numsOf_length HG.out, List.length_take, List.length_drop, ← Lib.size_eq]; omega
          have hny := nb_le g hg6 j
          rw [← HY.out] at hny
          have hyb : y < 262144 := by
            have : j = 0 ∨ j = 1 ∨ j = 2 ∨ j = 3 := by omega
            rcases this with rfl | rfl | rfl | rfl <;> simp at hny <;> omega
          have HG6 := hide hg6
          have HGl := hide hgl
          clear hny hg6 hgl
          by_cases hjm : j < m
          · have hix : e + j < s.size := by omega
            have hsn := snoc_take s e j hix
            obtain ⟨ej, hej⟩ : ∃ ej, ej = e + j := ⟨_, rfl⟩
            have hejz : (e : Int) + (j : Int) = (ej : Int) := by omega
            have hejs : ej < s.size := by omega
            obtain ⟨ch', hch⟩ : ∃ ch', ch' = s[ej]'hejs := ⟨_, rfl⟩
            have hsn2 : (s.data.toList.drop e).take (j + 1) = (s.data.toList.drop e).take j ++ [ch'] := by rw [hsn, hch]; simp only [hej]
            have hmin1 : min (j + 1) m = j + 1 := by omega
            have hmin0 : min j m = j := by omega
            have hG2 := HG.out
            rw [hmin0] at hG2
            have HG2 := hide hG2
            have HSn := hide hsn2
            have HGl2 : Hid (g.length = j) := by rw [← hmin0]; exact HGl
            have HMin := hide hmin1
            have HEj := hide hej
            have HCh := hide hch
            clear hsn hsn2 hmin1 hmin0 hG2 hej hix
            cases hnum : Sl.num ch' with
            | none =>
              have hz : numZ ch' = -1 := numZ_none hnum
              have HNum := hide hnum
              have HZ := hide hz
              clear hnum hz
              go_wp2_with fail
              rw [← HCh.out]
              refine (sign_any ch' _).mono ?_
              rintro e9 w9 ⟨rfl, rfl⟩
              rw [HZ.out]
              go_wp2_with fail
              go_ret2
              refine ⟨.inr ⟨rfl, ?_⟩, HB.out⟩
              have hnone : Sl.numsOf s.data.toList = none := by
                have h1 : s.data.toList = s.data.toList.take e ++ ((s.data.toList.drop e).take (j + 1) ++ (s.data.toList.drop e).drop (j + 1)) := by rw [List.take_append_drop, List.take_append_drop]
                rw [h1, Sl.numsOf_append, HN.out]
                have h2 : Sl.numsOf ((s.data.toList.drop e).take (j + 1) ++ (s.data.toList.drop e).drop (j + 1)) = none := by
                  apply numsOf_bad
                  rw [HSn.out, numsOf_snoc, HG2.out, HNum.out]
                  rfl
                rw [h2]
                rfl
              unfold Sl.bytes
              rw [hnone]
              rfl
            | some d =>
              obtain ⟨_, hd0, hd1⟩ := Sl.sgn_num hnum
              have hz : numZ ch' = d := numZ_some hnum
              have HNum := hide hnum
              have HZ := hide hz
              clear hnum hz
              go_wp2_with fail
              rw [← HCh.out]
              refine (sign_any ch' _).mono ?_
              rintro e9 w9 ⟨rfl, rfl⟩
              rw [HZ.out]
              go_wp2_with fail
              go_round
              case rel =>
                refine ⟨j + 1, 64 * y + d, g ++ [d], by omega, by go_num, rfl, ?_, ?_, by omega, by omega⟩
                · show Sl.numsOf _ = _
                  rw [HMin.out, HSn.out, numsOf_snoc, HG2.out, HNum.out]
                  rfl
                · show 64 * y + d = _
                  rw [nb_snoc g d j HGl2.out, ← HY.out]
              case measure => simp [intOf]; omega
          · have hg0 : g[j]?.getD 0 = 0 := by rw [List.getElem?_eq_none (by rw [HGl.out]; omega)]; rfl
            have HG0 := hide hg0
            clear hg0
            go_wp2_with fail
            go_round
            case rel =>
              refine ⟨j + 1, 64 * y, g, by omega, by go_num, rfl, ?_, ?_, by omega, by omega⟩
              · show Sl.numsOf _ = _
                rw [show min (j + 1) m = min j m by omega]
                exact HG.out
              · show 64 * y = _
                rw [nb, ← HY.out, HG0.out]
                omega
            case measure => simp [intOf]; omega
        · have hj4e : j = 4 := by omega
          have hg6 := (Sl.map_numsOf _ _ HG.out).2
          have hgl : g.length = m := by rw [Sl.numsOf_length HG.out, List.length_take, List.length_drop, ← Lib.size_eq]; omega
          have hyT : y = Sl.tog 6 g 0 := by rw [HY.out, hj4e]; exact nb_four g (by omega)
          have hG4 := HG.out
          rw [show min j m = m by omega] at hG4
          have HG4 := hide hG4
          have HYT := hide hyT
          have HGl := hide hgl
          have HG6 := hide hg6
          obtain ⟨x, hx⟩ : ∃ x, x = y := ⟨_, rfl⟩
          clear hj4e hg6 hgl hyT hG4 hx
          obtain ⟨m1, hm1⟩ : ∃ m1, m = m1 + 1 := ⟨m - 1, by omega⟩
          have hm1z : (m : Int) - 1 = (m1 : Int) := by omega
          have hm13 : m1 ≤ 3 := by omega
          have HM1 := hide hm1
          clear hm1
          go_wp2_with fail
          go_loopw [4, 10] (fun v k wq => ∃ (j2 : Nat) (a2 : Option Addr) (c2 : Nat), j2 ≤ m1 ∧ k = .int .i64 j2 ∧ v = .slice a2 (n + j2) c2 ∧ Hid (wq.ownsRow w.heap.size 5 1 (.slice a2 (n + j2) c2) (n + j2) ((ob ns q ++ Sl.pieces y 8 j2).map b8)) ∧ Hid (Below w.heap.size w wq)) (fun _ k _ => 4 - (intOf k).toNat)
          case atStart => exact ⟨0, a, c, by omega, rfl, rfl, by show World.ownsRow _ _ _ _ _ _ ((ob ns q ++ []).map b8); rw [List.append_nil]; exact HO.out, HB⟩
          case round =>
            obtain ⟨j2, a2, c2, hj2, rfl, rfl, HO2, HB2⟩ := hrel
            by_cases hj2l : j2 < m1
            · have hp : 0 ≤ Sl.piece y j2 8 ∧ Sl.piece y j2 8 < 256 := by unfold Sl.piece; simp; omega
              obtain ⟨p, hpe⟩ : ∃ p, p = Sl.piece y j2 8 := ⟨_, rfl⟩
              rw [← hpe] at hp
              obtain ⟨a3, c3, W3, hrun, hown3, hgr3⟩ := append_one (w := wr.alloc (.cells #[.int .u8 p] 5)) 22 5 (.int .u8 0) 1 Tryz.underlying22 infoByte rfl w.heap.size _ (n + j2) _ (HO2.out.alloc _) (lo := wr.heap.size) (m := 1) (c := 1) (news := [.int .u8 p]) rfl (one_cell wr (.int .u8 p) 5) (by simp [Value.oneCell']) (by omega) (by omega) (by have := HB2.out.size; simp; omega)
              have HO3 : Hid (W3.ownsRow w.heap.size 5 1 (.slice a3 (n + (j2 + 1)) c3) (n + (j2 + 1)) ((ob ns q ++ Sl.pieces y 8 (j2 + 1)).map b8)) := by
                show W3.ownsRow _ _ _ _ _ _
                rw [Sl.pieces_succ, ← List.append_assoc, List.map_append, ← hpe, ← Nat.add_assoc]
                exact hown3
              have HB3 : Hid (Below w.heap.size w W3) := (HB2.out.alloc HB2.out.size _).grown hgr3 (by have := HB2.out.size; simp; omega) (own_block HO2.out)
              have hpx : p = y / 2 ^ (24 - 8 * (j2 + 1)) % 256 := by rw [hpe]; rfl
              have hjc : j2 = 0 ∨ j2 = 1 ∨ j2 = 2 := by omega
              clear hown3 hgr3 hpe
              rcases hjc with rfl | rfl | rfl
              · have hw8 : IntKind.u8.wrap (y / 65536) = p := by rw [IntKind.wrap_u8, hpx]; simp
                clear hpx
                go_wp2_with (at_builtin; refine wpList_append_run rfl _ _ 22 rfl _ _ rfl rfl hrun ?_)
                go_roundw
                case rel => exact ⟨1, a3, c3, by omega, rfl, by first | rfl | rw [Nat.add_assoc], HO3, HB3⟩
                case measure => simp [intOf]
              · have hw8 : IntKind.u8.wrap (y / 256) = p := by rw [IntKind.wrap_u8, hpx]; simp
                clear hpx
                go_wp2_with (at_builtin; refine wpList_append_run rfl _ _ 22 rfl _ _ rfl rfl hrun ?_)
                go_roundw
                case rel => exact ⟨2, a3, c3, by omega, rfl, by first | rfl | rw [Nat.add_assoc], HO3, HB3⟩
                case measure => simp [intOf]
              · have hw8 : IntKind.u8.wrap (y) = p := by rw [IntKind.wrap_u8, hpx]; simp
                clear hpx
                go_wp2_with (at_builtin; refine wpList_append_run rfl _ _ 22 rfl _ _ rfl rfl hrun ?_)
                go_roundw
                case rel => exact ⟨3, a3, c3, by omega, rfl, by first | rfl | rw [Nat.add_assoc], HO3, HB3⟩
                case measure => simp [intOf]
            · have hj2e : j2 = m1 := by omega
              have HJ2 := hide hj2e
              clear hj2e
              go_wp2_with fail
              go_roundw
              case rel =>
                have hnl : ns.length = 4 * q := by rw [Sl.numsOf_length HN.out, List.length_take, ← Lib.size_eq, ← HQ.out]; omega
                have hgl := HGl.out
                have hoe : ob (ns ++ g) (q + 1) = ob ns q ++ Sl.pieces y 8 m1 := by
                  rw [ob_succ, ob_more ns g q (by omega)]
                  unfold og
                  rw [ch4_end ns g q hnl (by omega), ← HYT.out, hgl, HM1.out, Nat.add_sub_cancel]
                have hpl : (Sl.pieces y 8 m1).length = m1 := by simp [Sl.pieces]
                refine ⟨q + 1, e + 4, n + j2, ns ++ g, a2, c2, by have := HQ.out; show e + 4 = 4 * (q + 1); omega, by omega, by go_num, rfl, by omega, ?_, ?_, ?_, HB2⟩
                · show Sl.numsOf (s.data.toList.take (e + 4)) = some (ns ++ g)
                  have ht : (s.data.toList.drop e).take 4 = (s.data.toList.drop e).take m := by
                    by_cases h4 : m = 4
                    · rw [h4]
                    · have hm := HM.out
                      rw [List.take_of_length_le (by rw [List.length_drop, ← Lib.size_eq]; omega), List.take_of_length_le (by rw [List.length_drop, ← Lib.size_eq]; omega)]
                  rw [List.take_add, ht, Sl.numsOf_append, HN.out, HG4.out]
                  rfl
                · show n + j2 = _
                  rw [hoe, List.length_append, hpl, ← HNn.out, HJ2.out]
                · show World.ownsRow _ _ _ _ _ _ _
                  rw [hoe, ← HJ2.out]
                  exact HO2.out
              case measure => simp [intOf]; omega
    · have hte : s.data.toList.take e = s.data.toList := List.take_of_length_le (by rw [← Lib.size_eq]; omega)
      have hN := HN.out
      rw [hte] at hN
      have hq4 : q = nch4 ns.length ∨ True := .inr trivial
      have hnl : ns.length = s.size := by rw [Sl.numsOf_length hN, ← Lib.size_eq]
      have hqn : q = nch4 ns.length := by
        have := HQ.out
        rw [hnl]
        unfold nch4
        omega
      have HNN := hide hN
      have HI := hide (own_isB' HO.out (Dg.b8_of_mem (ob_y8 ns q))).1
      clear hte hN hq4 hnl
      go_wp2_with fail
      refine (refText_any (ob ns q) _ _ _ _ HI.out (by have := HNn.out; have := HQ.out; omega)).mono ?_
      rintro e9 w9 ⟨rfl, rfl⟩
      have hby : Sl.bytes s.data.toList = Sl.back ns := by unfold Sl.bytes; rw [HNN.out]; rfl
      obtain ⟨T, hT⟩ : ∃ T : ByteArray, T = ⟨(Sl.text (ob ns q)).toArray⟩ := ⟨_, rfl⟩
      rw [← hT]
      cases hbk : Sl.back ns with
      | none =>
        rw [hbk] at hby
        have hne : ¬ T.toList = s.toList := fun e1 => by
          have e2 : T = s := ba_ext e1
          have e3 : s.data.toList = Sl.text (ob ns q) := by rw [← e2, hT]
          rw [e3, Sl.bytes_text (ob_y8 ns q)] at hby
          cases hby
        have HBy := hide hby
        clear hby hbk hT hqn
        go_wp2_with fail
        · go_ret2
          exact ⟨.inr ⟨rfl, HBy.out⟩, HB.out⟩
        · rename_i hbad
          exact (hne (by simpa using hbad)).elim
      | some bs =>
        rw [hbk] at hby
        have hob : ob ns q = bs := by rw [hqn]; exact ob_back ns (Sl.map_numsOf _ _ HNN.out).2 bs hbk
        have htx := (Sl.text_bytes hby).1
        have hTs : T = s := by
          rw [hT, hob, htx]
        have ho := HO.out
        have hnn := HNn.out
        rw [hob] at ho hnn
        have HBy := hide hby
        have HO9 := hide ho
        have HN9 := hide hnn
        clear hby hbk hT hqn hob htx ho hnn
        subst hTs
        go_wp2_with fail
        go_ret2
        refine ⟨.inl ⟨bs, a, c, ?_, HBy.out, ?_⟩, HB.out⟩
        · rw [← HN9.out]
          rfl
        · rw [← HN9.out]
          exact HO9.out
end Go.Proofs.YtapcmbbhhclepaaGreatDoor.Dig
