/-
  THE WALK of Frame.
-/
import Derived.Test.YtgfjpbiioaahhaaFParts
import Derived.Test.YtgfjpbiioaahhaaShelf
set_option linter.unusedVariables false
set_option linter.unusedSimpArgs false
set_option maxRecDepth 100000
namespace Go.Proofs.Ytgfjpbiioaahhaa
open Go.RowKit Fr

abbrev Bu (b : Nat) (l : Bs) (w : World) : Prop := Lib.IsBuilder 50 5 b b (Lib.byteCells l) w
theorem own_later {w w' : World} {B : Nat} {e : TypeId} {v : Value} {n : Nat} {xs : List Value} (h : w.ownsRow B e 1 v n xs) (k : Below w.heap.size w w') : w'.ownsRow B e 1 v n xs := by
  refine ⟨h.1, ?_⟩
  rcases h.2 with h0 | ⟨g, cap, cur, h1, h2, h3, h4⟩
  · exact .inl h0
  · refine .inr ⟨g, cap, cur, h1, h2, ?_, h4⟩
    rw [k.block g (Array.getElem?_eq_some_iff.1 h3).1]
    exact h3
theorem buAt_later {b : Nat} {p : Value} {bs : List Value} {w w' : World} (h : Lib.BuilderAt 50 5 b b p bs w) (k : Below w.heap.size w w') : Lib.BuilderAt 50 5 b b p bs w' := by
  obtain ⟨hB, v, hbk, hown, hne⟩ := h
  refine ⟨hB, v, ?_, own_later hown k, hne⟩
  rw [k.block b (Array.getElem?_eq_some_iff.1 hbk).1]
  exact hbk
theorem bu_later {b : Nat} {l : Bs} {w w' : World} (h : Bu b l w) (k : Below w.heap.size w w') : Bu b l w' := by
  rcases h with h | h
  · exact .inl (buAt_later h k)
  · exact .inr (buAt_later h k)
theorem bu_grown {b : Nat} {w : World} (hbk : w.heap[b]? = some (.cells #[.pointer none, .slice none 0 0] 50 (0, 0))) (n : Nat) (hn : n ≤ 281474976710656) :
    Calls Try.prog 24 #[.pointer (some ⟨b, 0, none⟩), .int .i64 n] w fun e w' => e = .returned (.tuple #[]) ∧ Bu b [] w' ∧ Below b w w' := by
  refine (Try.Builder_Grow_fresh b b n w (Nat.le_refl _) hbk (Nat.le_of_lt (Array.getElem?_eq_some_iff.1 hbk).1) hn).mono ?_
  rintro e w' ⟨rfl, h, k⟩
  exact ⟨rfl, .inr h, k⟩
theorem bu_write {b : Nat} {l : Bs} {w : World} (h : Bu b l w) (hb : b ≤ w.heap.size) (s : ByteArray) (hl : l.length + s.size ≤ 140737488355328) :
    Calls Try.prog 25 #[.pointer (some ⟨b, 0, none⟩), .string s] w fun e w' => e = .returned (.tuple #[.int .i64 s.size, .nilIface]) ∧ Bu b (l ++ bs s) w' ∧ Below b w w' := by
  refine (Try.Builder_WriteString b b _ s w h (by simpa [Lib.byteCells] using hl) hb).mono ?_
  rintro e w' ⟨rfl, h, k⟩
  refine ⟨rfl, .inr ?_, k⟩
  have e : Lib.byteCells (l ++ bs s) = Lib.byteCells l ++ Lib.strCells s := by simp [Lib.byteCells, Lib.strCells]
  rw [e]
  exact h
theorem tab_later {w w' : World} {g : Nat} (h : Tab w g) (k : Below w.heap.size w w') : Tab w' g := by
  obtain ⟨L, h1, h2⟩ := h
  exact ⟨L, h1, (k.block g h2.lt).trans h2⟩
theorem cat_one (a : ByteArray) : cat [a] = bs a := by simp [cat]
theorem cat_two (a b : ByteArray) : cat [a, b] = bs a ++ bs b := by simp [cat]
theorem two_rows (w : World) (a b : ByteArray) : ∀ j (h : j < [a, b].length), (w.alloc (.cells #[.string a, .string b] 9)).cell? ⟨w.heap.size, 0 + j, none⟩ = some (.string [a, b][j]) := fun j h => by
  have hb := Blk.new w #[.string a, .string b] 9
  have : j = 0 ∨ j = 1 := by simp at h; omega
  rcases this with rfl | rfl
  · exact hb.cell 0
  · exact hb.cell 1

set_option maxHeartbeats 1000000 in
theorem frame_any (w : World) (s : ByteArray) (hs : s.size ≤ 1152921504606846976) : Calls Try.prog 14 #[.string s] w fun e w' => e = .returned (.string (strOf (fr (bs s)))) ∧ Below w.heap.size w w' := by
  obtain ⟨V, hV⟩ : ∃ V, V = strOf (fr (bs s)) := ⟨_, rfl⟩
  rw [← hV]
  by_cases hm : s.size ≤ 131072
  · have hn : s.size < 4294967296 := by omega
    have hwr : IntKind.u32.wrap (s.size : Int) = (s.size : Int) := by rw [IntKind.wrap_u32]; omega
    have HV : Hid (V = strOf (four s.size ++ (four (sum (four s.size ++ bs s)) ++ bs s))) := by
      show V = _
      rw [hV]
      unfold fr
      rw [if_neg (by rw [bs_length]; unfold most; omega), bs_length]
    clear hV
    go_enter Try.func14, Try.ntmps14
    go_wp2_with (go_at_call 23; refine (written_any _ _ hn).mono ?_; rintro e w1 ⟨rfl, b1⟩)
    have hbk : (w1.alloc (.cells #[.pointer none, .slice none 0 0] 50)).heap[w1.heap.size]? = some (.cells #[.pointer none, .slice none 0 0] 50 (0, 0)) := Blk.new _ _ _
    have hk : (8 + (s.size : Int)) = ((8 + s.size : Nat) : Int) := by omega
    rw [hk]
    have b2 := b1.alloc b1.size (.cells #[.pointer none, .slice none 0 0] 50)
    refine (bu_grown hbk (8 + s.size) (by omega)).mono ?_
    rintro e w2 ⟨rfl, hu2, k2⟩
    have b3 := b2.trans (k2.mono b1.size)
    have hs1 := b1.size
    have hs2 : w1.heap.size ≤ w2.heap.size := Nat.le_trans (by simp) k2.size
    generalize w1.heap.size = b at hu2 k2 hs1 hs2 ⊢
    have HU := hide hu2
    have HB := hide b3
    clear hbk hk b1 b2 b3 hu2 k2
    have hf4 : (strOf (four s.size)).size = 4 := rfl
    go_wp2_with (go_at_call 25; refine (bu_write HU.out hs2 (strOf (four s.size)) (by rw [hf4]; simp)).mono ?_; rintro e w3 ⟨rfl, hu3, k3⟩)
    have hs3 : b ≤ w3.heap.size := Nat.le_trans hs2 k3.size
    replace HB : Hid (Below w.heap.size w w3) := HB.out.trans (k3.mono hs1)
    replace HU : Hid (Bu b (four s.size) w3) := hu3
    clear hu3 k3 hs2
    go_wp2_with (go_at_call 20; refine (newTable_any _).mono ?_; rintro e w4 ⟨rfl, hT4, k4⟩)
    have hs4 : b ≤ w4.heap.size := Nat.le_trans hs3 k4.size
    replace HB : Hid (Below w.heap.size w w4) := HB.out.trans (k4.mono (Nat.le_trans hs1 hs3))
    replace HU : Hid (Bu b (four s.size) w4) := bu_later HU.out k4
    generalize w3.heap.size = g at hT4 ⊢
    have HT := hide hT4
    clear hT4 k4
    go_wp2_with fail
    have hal := below_alloc w4 (.cells #[.string (strOf (four s.size)), .string s] 9)
    have hT5 := tab_later HT.out hal
    have hu5 := bu_later HU.out hal
    have hR := two_rows w4 (strOf (four s.size)) s
    have hz2 : ∀ r ∈ [strOf (four s.size), s], r.size ≤ 1152921504606846976 := fun r hr => by
      simp at hr
      rcases hr with rfl | rfl
      · rw [hf4]; decide
      · exact hs
    refine (tsum_any _ g w4.heap.size 0 2 [strOf (four s.size), s] hT5 hR (by simp) hz2).mono ?_
    rintro e w5 ⟨rfl, n5, rfl⟩
    rw [cat_two, bs_strOf]
    have hsl := sum_lt (four s.size ++ bs s)
    have hs5 : b ≤ ((w4.alloc (.cells #[.string (strOf (four s.size)), .string s] 9)).drewN n5).heap.size := Nat.le_trans hs4 hal.size
    replace HB : Hid (Below w.heap.size w ((w4.alloc (.cells #[.string (strOf (four s.size)), .string s] 9)).drewN n5)) := below_drewN (HB.out.trans (hal.mono (Nat.le_trans hs1 hs4))) n5
    replace HU : Hid (Bu b (four s.size) ((w4.alloc (.cells #[.string (strOf (four s.size)), .string s] 9)).drewN n5)) := bu_later hu5 (below_drewN (Below.refl _ _) n5)
    clear hal hT5 hu5 hR HT hz2
    generalize (w4.alloc (.cells #[.string (strOf (four s.size)), .string s] 9)).drewN n5 = w6 at HB HU hs5 ⊢
    generalize sum (four s.size ++ bs s) = q at HV hsl ⊢
    go_wp2_with (go_at_call 23; refine (written_any _ _ hsl).mono ?_; rintro e w7 ⟨rfl, k7⟩)
    have hs7 : b ≤ w7.heap.size := Nat.le_trans hs5 k7.size
    replace HB : Hid (Below w.heap.size w w7) := HB.out.trans (k7.mono (Nat.le_trans hs1 hs5))
    replace HU : Hid (Bu b (four s.size) w7) := bu_later HU.out k7
    clear k7 hs5 hs4 hs3
    have hl8 : Hid ((four s.size).length + (strOf (four q)).size ≤ 140737488355328) := by show (four s.size).length + (four q).length ≤ 140737488355328; rw [four_length, four_length]; omega
    have hl9 : Hid ((four s.size ++ four q).length + s.size ≤ 140737488355328) := by show _ + _ ≤ _; rw [List.length_append, four_length, four_length]; omega
    generalize hf1 : four s.size = F1 at HU HV hl8 hl9 ⊢
    generalize hf2 : four q = F2 at HV hl8 hl9 ⊢
    clear hf1 hf2 hf4
    go_wp2_with fail
    refine (bu_write HU.out hs7 (strOf F2) hl8.out).mono ?_
    rintro e w8 ⟨rfl, hu8, k8⟩
    have hs8 : b ≤ w8.heap.size := Nat.le_trans hs7 k8.size
    replace HB : Hid (Below w.heap.size w w8) := HB.out.trans (k8.mono hs1)
    replace HU : Hid (Bu b (F1 ++ F2) w8) := hu8
    clear hu8 k8 hs7
    go_wp2_with fail
    refine (bu_write HU.out hs8 s hl9.out).mono ?_
    rintro e w9 ⟨rfl, hu9, k9⟩
    have hs9 : b ≤ w9.heap.size := Nat.le_trans hs8 k9.size
    replace HB : Hid (Below w.heap.size w w9) := HB.out.trans (k9.mono hs1)
    replace HU : Hid (Bu b (F1 ++ F2 ++ bs s) w9) := hu9
    clear hu9 k9 hs8
    go_wp2_with (go_at_call 26; refine (Try.Builder_String_any b b _ _ HU.out hs9).mono ?_; rintro e w10 ⟨rfl, k10⟩)
    go_ret
    refine ⟨?_, HB.out.trans (k10.mono hs1)⟩
    rw [HV.out]; rfl
  · have HV : Hid (V = strOf []) := by
      show V = _
      rw [hV]
      unfold fr
      rw [if_pos (by rw [bs_length]; unfold most; omega)]
    clear hV
    go_enter Try.func14, Try.ntmps14
    go_wp2
    go_ret
    exact ⟨by rw [HV.out]; rfl, Below.refl _ _⟩
end Go.Proofs.Ytgfjpbiioaahhaa
