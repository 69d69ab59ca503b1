/-
  THE WALK of Text (layer 5).
-/
import Derived.Test.YtfcbooagedjkfaaDoorShelf
import Derived.Test.YtfcbooagedjkfaaDoorSWalks
import Derived.Test.YtfcbooagedjkfaaDoorSChunk
import Derived.Lib.OthersKept
set_option linter.unusedVariables false
set_option linter.unusedSimpArgs false
namespace Go.Proofs.YtfcbooagedjkfaaDoor
open Go.RowKit Go.Shelf
attribute [local go_sem] Oper.semAt_some

/-- a builder that lies in block b and holds a text -/
abbrev Bf (B b : Nat) (l : List UInt8) (W : World) : Prop := Lib.IsBuilderF 44 5 B b (Lib.byteCells l) W
theorem bf_grown {B b : Nat} {l : List UInt8} {W W' : World} {row : Option Nat} (h : Bf B b l W) (hg : W.grownBy W' row) (hr : ∀ r, row = some r → ∃ o : Obj, W.heap[r]? = some o ∧ o.isCells = false) : Bf B b l W' := by
  have key : ∀ p, Lib.BuilderAtF 44 5 B b p (Lib.byteCells l) W → Lib.BuilderAtF 44 5 B b p (Lib.byteCells l) W' := by
    rintro p ⟨hB, v, hb, hown, hne⟩
    refine ⟨hB, v, (hg.block b (Array.getElem?_eq_some_iff.1 hb).1 (fun e => ?_)).trans hb, hown.kept hg ?_, hne⟩
    · obtain ⟨o, ho, hc⟩ := hr b e.symm
      rw [hb] at ho
      cases ho
      cases hc
    · cases hv : v.ownBlock with
      | none => exact .inl rfl
      | some g =>
        refine .inr fun e => ?_
        obtain ⟨o, ho, hc⟩ := hr g e.symm
        obtain ⟨c, fz, h1⟩ := Lib.ownsRowF_kind hown g hv
        rw [h1] at ho
        cases ho
        cases hc
  exact h.imp (key _) (key _)
theorem grownBy_alloc (w : World) (o : Obj) : w.grownBy (w.alloc o) none := ⟨rfl, rfl, rfl, by simp, fun k hk _ => Lib.alloc_old w o k hk⟩
theorem bf_alloc {B b : Nat} {l : List UInt8} {W : World} (h : Bf B b l W) (o : Obj) : Bf B b l (W.alloc o) := bf_grown h (grownBy_alloc W o) (fun r e => by cases e)
theorem bf_lt {B b : Nat} {l : List UInt8} {W : World} (h : Bf B b l W) : b < W.heap.size := by
  rcases h with ⟨_, v, hb, _⟩ | ⟨_, v, hb, _⟩
  · exact (Array.getElem?_eq_some_iff.1 hb).1
  · exact (Array.getElem?_eq_some_iff.1 hb).1
theorem bf_block {B b : Nat} {l : List UInt8} {W : World} (h : Bf B b l W) : ∃ p v, W.heap[b]? = some (.cells #[p, v] 44 (0, 0)) := by
  rcases h with ⟨_, v, hb, _⟩ | ⟨_, v, hb, _⟩
  · exact ⟨_, _, hb⟩
  · exact ⟨_, _, hb⟩
/-- what is no cells stays, where a builder is written -/
theorem kept_from {B b : Nat} {l : List UInt8} {W W' : World} (h : Bf B b l W) (hk : Lib.OthersKept 5 (some b) W W') (hs : W.heap.size ≤ W'.heap.size) (D : Nat) : KeepsFrom D W W' := by
  refine ⟨hs, fun k o _ hko ho => ?_⟩
  refine (hk k o hko ?_ ?_).trans rfl
  · intro e
    cases e
    obtain ⟨p, v, hb⟩ := bf_block h
    rw [hb] at hko
    cases hko
    cases ho
  · rintro c fz rfl
    cases ho
theorem byteCells_snoc (l : List UInt8) (c : UInt8) : Lib.byteCells l ++ [.int .u8 (c.toNat : Int)] = Lib.byteCells (l ++ [c]) := by simp [Lib.byteCells]

def chL (q : List Int) (j : Nat) : List Int := (q.drop (3 * j)).take 3
theorem upto_text (q : List Int) : ∀ k, k ≤ nch3 q.length → (upto (nch3 q.length) k).flatMap (fun x => Sl.text (chL q x.val)) = Sl.text (q.take (3 * k))
  | 0, _ => rfl
  | k + 1, h => by
    have h3 : 3 * k ≤ q.length := by unfold nch3 at h; omega
    rw [upto_succ (show k < nch3 q.length by omega), List.flatMap_append, upto_text q k (by omega), List.flatMap_singleton, ← Sl.text_append (by rw [List.length_take]; omega)]
    congr 1
    unfold chL
    rw [show 3 * (k + 1) = 3 * k + 3 by omega, List.take_add]
theorem chL_length (q : List Int) (j : Nat) : (chL q j).length = min 3 (q.length - 3 * j) := by simp [chL]
theorem flat_length (q : List Int) {N : Nat} (pre : List (Fin N)) : (pre.flatMap (fun x => Sl.text (chL q x.val))).length ≤ 4 * pre.length := by
  induction pre with
  | nil => simp
  | cons x p ih =>
    rw [List.flatMap_cons, List.length_append, Sl.text_length, chL_length, List.length_cons]
    omega

theorem signs_at (p : Nat) (h : p < ({ data := #[65, 66, 67, 68, 69, 70, 71, 72, 73, 74, 75, 76, 77, 78, 79, 80, 81, 82, 83, 84, 85, 86, 87, 88, 89, 90, 97, 98, 99, 100, 101, 102, 103, 104, 105, 106, 107, 108, 109, 110, 111, 112, 113, 114, 115, 116, 117, 118, 119, 120, 121, 122, 48, 49, 50, 51, 52, 53, 54, 55, 56, 57, 45, 95] } : ByteArray).size) : ({ data := #[65, 66, 67, 68, 69, 70, 71, 72, 73, 74, 75, 76, 77, 78, 79, 80, 81, 82, 83, 84, 85, 86, 87, 88, 89, 90, 97, 98, 99, 100, 101, 102, 103, 104, 105, 106, 107, 108, 109, 110, 111, 112, 113, 114, 115, 116, 117, 118, 119, 120, 121, 122, 48, 49, 50, 51, 52, 53, 54, 55, 56, 57, 45, 95] } : ByteArray)[p]'h = Sl.signs[p]?.getD 0 := by
  have hp : p < 64 := h
  have h1 : ({ data := #[65, 66, 67, 68, 69, 70, 71, 72, 73, 74, 75, 76, 77, 78, 79, 80, 81, 82, 83, 84, 85, 86, 87, 88, 89, 90, 97, 98, 99, 100, 101, 102, 103, 104, 105, 106, 107, 108, 109, 110, 111, 112, 113, 114, 115, 116, 117, 118, 119, 120, 121, 122, 48, 49, 50, 51, 52, 53, 54, 55, 56, 57, 45, 95] } : ByteArray)[p]'h = Sl.signs[p]'(by exact hp) := rfl
  rw [h1, List.getElem?_eq_getElem (by exact hp)]
  rfl
theorem y8_of {l : List Int} (h : Dg.B8 l) : Sl.Y8 l := by
  intro n hn
  obtain ⟨i, hi, rfl⟩ := List.getElem_of_mem hn
  have := h i
  rw [List.getElem?_eq_getElem hi] at this
  exact this
theorem tog8_lt (g : List Int) (h8 : Dg.B8 g) (h3 : g.length ≤ 3) : 0 ≤ Sl.tog 8 g 0 ∧ Sl.tog 8 g 0 < 16777216 := by
  match g, h3 with
  | [], _ => simp [Sl.tog]
  | [a], _ =>
    have := h8 0
    simp [Sl.tog] at this ⊢
    omega
  | [a, b], _ =>
    have := h8 0
    have := h8 1
    simp [Sl.tog] at *
    omega
  | [a, b, c], _ =>
    have := h8 0
    have := h8 1
    have := h8 2
    simp [Sl.tog] at *
    omega

set_option maxRecDepth 100000 in
set_option maxHeartbeats 2000000 in
theorem sealText_any (bs : List Int) (a : Option Addr) (len cap : Nat) (w : World) (hB : IsB w a len cap bs) (hl : len ≤ 1000000) :
    Calls Tryd.prog 16 #[.slice a len cap] w fun e w' => e = .returned (.string ⟨(Sl.text bs).toArray⟩) ∧ Below w.heap.size w w' := by
  have HB := hide hB
  have hlc := hB.2.1
  clear hB
  refine (callsIn_wide (n := 3)).1 (callsIn_of_wp_marks Tryd.func16 rfl trivial ?_ rfl)
  refine wpIn_wide.2 ?_
  simp only [Tryd.ntmps16, List.size_toArray, List.length_cons, List.length_nil, Nat.reduceAdd, Nat.reduceSub, Array.replicate_succ, Array.replicate_zero, List.push_toArray, List.append_toArray, List.nil_append, List.cons_append]
  go_wp2_with fail
  have hgr : ((len : Int) * 4 + 3 - 1) / 3 = (((len * 4 + 2) / 3 : Nat) : Int) := by omega
  rw [hgr]
  have b0 : Below w.heap.size w (w.alloc (.cells #[.pointer none, .slice none 0 0] 44)) := (Below.refl _ _).alloc (Nat.le_refl _) _
  refine (Tryd.Builder_Grow_fresh w.heap.size w.heap.size ((len * 4 + 2) / 3) _ (Nat.le_refl _) (heap_alloc_new w _) b0.size (by omega)).mono ?_
  rintro e w1 ⟨rfl, hbu, b1⟩
  have HBF : Hid (Bf w.heap.size w.heap.size [] w1) := .inr (Lib.BuilderAtF.of hbu)
  have HB1 := hide (b0.trans b1)
  clear hbu b1 b0 hgr
  go_wp2_with (go_at_call 29; refine (callsIn_wide.1 (chunk_any3 3 _ _ _ _)).mono ?_; rintro e w' ⟨rfl, rfl⟩)
  have b5 : Below w1.heap.size w1 ((w1.alloc (.cells #[.slice a len cap] 22)).alloc (.cells #[.int .i64 3] 3)) := ((Below.refl _ _).alloc (Nat.le_refl _) _).alloc (by simp) _
  have hs5 : ((w1.alloc (.cells #[.slice a len cap] 22)).alloc (.cells #[.int .i64 3] 3)).heap.size = w1.heap.size + 2 := by simp
  have hk1 := (blk_new w1 22 #[.slice a len cap]).below' ((Below.refl _ _).alloc (Nat.le_refl _) (.cells #[.int .i64 3] 3))
  have hk2 := blk_new (w1.alloc (.cells #[.slice a len cap] 22)) 3 #[.int .i64 3]
  rw [World.size_alloc] at hk2
  have HF5 := hide (bf_alloc (bf_alloc HBF.out (.cells #[.slice a len cap] 22)) (.cells #[.int .i64 3] 3))
  have HB5 := hide (HB1.out.trans (b5.mono HB1.out.size))
  have hN1 := bf_lt HBF.out
  generalize (w1.alloc (.cells #[.slice a len cap] 22)).alloc (.cells #[.int .i64 3] 3) = w5 at hs5 hk1 hk2 HF5 HB5 ⊢
  clear b5 HBF HB1
  obtain ⟨Bs, hBs⟩ : ∃ Bs, Bs = w1.heap.size := ⟨_, rfl⟩
  rw [← hBs] at hs5 hk1 hk2 hN1 ⊢
  clear hBs
  obtain ⟨N, hN⟩ : ∃ N, N = w.heap.size := ⟨_, rfl⟩
  rw [← hN] at HF5 HB5 hN1 ⊢
  have HN := hide hN
  clear hN
  obtain ⟨cb, co, hcc⟩ : ∃ cb co, 0 < len → a = some ⟨cb, co, none⟩ ∧ Rd w cb co bs := by
    rcases Nat.eq_zero_or_pos len with h | h
    · exact ⟨0, 0, fun h' => by omega⟩
    · obtain ⟨_, h2, _, _, ⟨_, h3⟩ | ⟨x, hx, hR⟩⟩ := HB.out
      · omega
      · obtain ⟨cb, co, rfl, hR2⟩ := hR h
        exact ⟨cb, co, fun _ => ⟨hx, hR2⟩⟩
  have HCC := hide hcc
  clear hcc
  have HK1 := hide hk1
  have HK2 := hide hk2
  have hbl := HB.out.1
  refine (wpIn_wide (n := 3)).1 ?_
  refine' wpIn_rangeFunc_ownG rfl (by omega) (gf := 45) (lb := #[.pointer (some ⟨Bs, 0, none⟩), .pointer (some ⟨Bs + 1, 0, none⟩)]) rfl trivial (enters_of Tryd.func45 (by kernel_rfl) rfl)
    (chunk_stops3 2 (by omega) Bs (Bs + 1) cb co a len cap hlc (by omega) w5 (fun h => (HCC.out h).1) (hk1.cell 0) (hk2.cell 0))
    (fun h k => ⟨k.1.trans h.1, k.2.trans h.2⟩) (fun W l o o' hl ho hc hw => ⟨World.putObj_heap_other (by omega), World.putObj_heap_other (by omega)⟩) (Below.refl _ _) (fun _ => rfl)
    (fun pre W => Bf N N (pre.flatMap (fun x => Sl.text (chL bs x.val))) W ∧ Below N w5 W ∧ Blk W Bs 22 #[.slice a len cap] ∧ Blk W (Bs + 1) 3 #[.int .i64 3])
    (fun c pre W => False)
    (fun s W W' row hs hg' hr => ⟨bf_grown hs.1 hg' (fun r e => (hr r e).2), hs.2.1.trans ⟨hg'.os, hg'.tape, hg'.output, hg'.size, fun k hk => hg'.block k (by have := hs.2.1.size; omega) (fun e => by have := (hr k e.symm).1; omega)⟩, hs.2.2.1.grown hg' (fun r e => (hr r e).2), hs.2.2.2.grown hg' (fun r e => (hr r e).2)⟩)
    (fun c s W W' row hs hg' hr => hs)
    ⟨HF5.out, Below.refl _ _, hk1, hk2⟩ _ ?assign ?body ?done ?stop
  case assign =>
    intro l x W K hK
    gi_wp2
    exact hK
  case stop =>
    rintro D c pre W hD _ h
    exact h.elim
  case body =>
    rintro l pre x W ⟨hF, hbW, hq1, hq2⟩ hlen
    have hx3 : 3 * x.val < len := by have := x.isLt; unfold nch3 at this; omega
    obtain ⟨ha', hRd⟩ := HCC.out (by omega)
    obtain ⟨j, hj⟩ : ∃ j, j = x.val := ⟨_, rfl⟩
    rw [← hj] at hx3
    obtain ⟨m, hm⟩ : ∃ m, m = min 3 (len - 3 * j) := ⟨_, rfl⟩
    have hcv : chV3 cb co len x.val = .slice (some ⟨cb, co + 3 * j, none⟩) m m := by rw [← hj, hm]; rfl
    have hcl : (chL bs j).length = m := by rw [chL_length, hm, hbl]
    have hbw : Below N w W := HB5.out.trans hbW
    have hIc : IsB W (some ⟨cb, co + 3 * j, none⟩) m m (chL bs j) := by
      refine ⟨hcl, Nat.le_refl _, by omega, fun i => take_bytes (fun i => by rw [List.getElem?_drop]; exact HB.out.2.2.2.1 _) 3 i, .inr ⟨_, rfl, fun _ => ⟨_, _, rfl, fun i hi => ?_⟩⟩⟩
      rw [hcl] at hi
      have h1 := (hRd.below (HN.out ▸ hbw)) (3 * j + i) (by omega)
      unfold chL
      rw [List.getElem?_take, if_pos (by omega), List.getElem?_drop, Nat.add_assoc]
      exact h1
    have HF := hide hF
    have HbW := hide hbW
    have HQ1 := hide hq1
    have HQ2 := hide hq2
    have HI := hide hIc
    have HJ := hide hj
    have HM := hide hm
    have HCl := hide hcl
    have HP := hide hlen
    have hm3 : m ≤ 3 := by omega
    have hm0 : 0 < m := by omega
    simp only [hcv]
    clear hcv hF hbW hq1 hq2 hIc hj hm hcl hlen ha' hRd hbw
    gi_wp2_with fail
    refine ⟨trivial, ?_⟩
    refine (CallsIn.inRound l (callsIn_wide.2 (together8 (chL bs j) (some ⟨cb, co + 3 * j, none⟩) m m W HI.out hm3))).mono ?_
    rintro e W ⟨rfl, rfl⟩
    obtain ⟨T, hT⟩ : ∃ T, T = Sl.tog 8 (chL bs j) 0 := ⟨_, rfl⟩
    rw [← hT]
    have HT := hide hT
    clear hT
    gi_wp2_with fail
    have h24 : 0 ≤ T ∧ T < 16777216 := by
      rw [HT.out]
      exact tog8_lt _ HI.out.2.2.2.1 (by rw [HCl.out]; exact hm3)
    gi_loopw [22] (fun i wr => ∃ k : Nat, k ≤ m + 1 ∧ i = .int .i64 k ∧ Hid (Bf N N (pre.flatMap (fun x => Sl.text (chL bs x.val)) ++ (Sl.pieces T 6 k).map Sl.sgn) wr) ∧ Hid (Below N w5 wr) ∧ Hid (Blk wr Bs 22 #[.slice a len cap]) ∧ Hid (Blk wr (Bs + 1) 3 #[.int .i64 3]) ∧ Hid (KeepsFrom w5.heap.size W wr)) (fun i _ => m + 1 - (intOf i).toNat)
    case atStart => exact ⟨0, by omega, rfl, by show Bf N N (_ ++ []) W; rw [List.append_nil]; exact HF.out, HbW.out, HQ1.out, HQ2.out, KeepsFrom.refl _ _⟩
    case round =>
      obtain ⟨k, hk, rfl, HFr, HBr, HR1, HR2, HKr⟩ := hrel
      by_cases hlt : k < m + 1
      · gi_wp2_with fail
        refine ⟨trivial, ?_⟩
        refine (CallsIn.inRound l (callsIn_wide.2 (piece6 T k wr h24.1 h24.2 (by omega)))).mono ?_
        rintro e w8 ⟨rfl, nd, rfl⟩
        obtain ⟨p, hp⟩ : ∃ p, p = Sl.piece T k 6 := ⟨_, rfl⟩
        have hp0 : 0 ≤ p := by rw [hp]; unfold Sl.piece; omega
        have hp1 : p < 64 := by rw [hp]; unfold Sl.piece; simp; omega
        rw [← hp]
        have HPp := hide hp
        clear hp
        gi_wp2_with fail
        simp only [signs_at]
        have hfl := flat_length bs pre
        have hsz := HBr.out.size
        have hN5 := HB5.out.size
        have hFd : Bf N N (pre.flatMap (fun x => Sl.text (chL bs x.val)) ++ (Sl.pieces T 6 k).map Sl.sgn) (wr.drewN nd) := bf_grown HFr.out (row := none) ⟨rfl, rfl, rfl, Nat.le_refl _, fun _ _ _ => rfl⟩ (fun r e => by cases e)
        refine ⟨trivial, ?_⟩
        refine (CallsIn.inRound l (callsIn_wide.2 (Tryd.Builder_WriteByte_k N N _ _ _ hFd ?_ ?_))).mono ?_
        · rw [Lib.byteCells_length, List.length_append, List.length_map, show (Sl.pieces T 6 k).length = k by simp [Sl.pieces]]
          have := HP.out
          have hn3 : nch3 len ≤ 1000000 := by unfold nch3; omega
          omega
        · have : (wr.drewN nd).heap.size = wr.heap.size := rfl
          have := HN.out
          omega
        · rintro e w9 ⟨rfl, hF9, b9, k9⟩
          have e9 : Bf N N (pre.flatMap (fun x => Sl.text (chL bs x.val)) ++ (Sl.pieces T 6 (k + 1)).map Sl.sgn) w9 := by
            rw [Sl.pieces_succ, List.map_append, ← List.append_assoc]
            have := hF9
            rw [byteCells_snoc] at this
            rw [← HPp.out]
            exact .inr this
          have hB9 : Below N w5 w9 := (below_drewN HBr.out nd).trans b9
          have hR19 : Blk w9 Bs 22 #[.slice a len cap] := k9 Bs _ HR1.out (by intro e; cases e; omega) (by intro c fz e; cases e)
          have hR29 : Blk w9 (Bs + 1) 3 #[.int .i64 3] := k9 (Bs + 1) _ HR2.out (by intro e; cases e; omega) (by intro c fz e; cases e)
          have hK9 : KeepsFrom w5.heap.size W w9 := HKr.out.trans (show KeepsFrom w5.heap.size wr w9 from ⟨(kept_from hFd k9 b9.size w5.heap.size).1, (kept_from hFd k9 b9.size w5.heap.size).2⟩)
          have H1 := hide e9
          have H2 := hide hB9
          have H3 := hide hR19
          have H4 := hide hR29
          have H5 := hide hK9
          clear hF9 b9 k9 e9 hB9 hR19 hR29 hK9
          gi_wp2_with fail
          go_roundw
          case rel => exact ⟨k + 1, by omega, by go_num, H1, H2, H3, H4, H5⟩
          case measure => simp [intOf]; omega
      · gi_wp2_with fail
        have hkm : k = m + 1 := by omega
        refine ⟨HKr.out, ⟨HR1.out.trans HQ1.out.symm, HR2.out.trans HQ2.out.symm⟩, ?_, HBr.out, HR1.out, HR2.out⟩
        have := HFr.out
        rw [hkm] at this
        rw [List.flatMap_append, List.flatMap_singleton, ← HJ.out]
        have e6 : Sl.text (chL bs j) = (Sl.pieces T 6 (m + 1)).map Sl.sgn := by
          unfold Sl.text
          rw [Sl.nums_group _ (y8_of HI.out.2.2.2.1) (by rw [HCl.out]; exact hm0) (by rw [HCl.out]; exact hm3), HCl.out, HT.out]
        rw [e6]
        exact this
  case done =>
    rintro D xs W hD hxs ⟨hF, hbW, hq1, hq2⟩ hK
    rw [hxs] at hF
    have ht := upto_text bs (nch3 len) (by rw [hbl]; exact Nat.le_refl _)
    rw [hbl] at ht
    rw [ht, List.take_of_length_le (by unfold nch3; omega)] at hF
    have hN5 := HB5.out.size
    have hsz := hbW.size
    have HNo := HN.out
    go_wp2_with fail
    refine (Tryd.Builder_String_any_k w.heap.size w.heap.size (Sl.text bs) W (HNo ▸ hF) (by omega)).mono ?_
    rintro e w9 ⟨rfl, hF9, b9, k9⟩
    have hD9 : w9.heap[D]? = some (.deferred (some [])) := (kept_from (HNo ▸ hF) k9 b9.size 0).same D _ (Nat.zero_le _) hK rfl
    have HB9 : Hid (Below w.heap.size w w9) := (HNo ▸ HB5.out.trans hbW : Below w.heap.size w W).trans b9
    go_wp2_with fail
    refine ⟨by simp, .inl ⟨_, _, rfl, run_takeDeferred hD9, ?_⟩⟩
    refine ⟨_, results_tmp rfl _ _ _, rfl, HB9.out.trans ?_⟩
    exact ⟨rfl, rfl, rfl, (grownBy_putObj' w9 D (.deferred none)).size, fun k hk => (grownBy_putObj' w9 D (.deferred none)).block k (by have := HB9.out.size; omega) (fun e => by cases e; omega)⟩
end Go.Proofs.YtfcbooagedjkfaaDoor
