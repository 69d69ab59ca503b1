/-
  THE WALK of DigestNone.
-/
import Derived.Test.YtckpcebifdhpeaaDoorDLaw
set_option linter.unusedVariables false
set_option linter.unusedSimpArgs false
namespace Go.Proofs.YtckpcebifdhpeaaDoor
open Go.RowKit

theorem append_zero {P : Program} {w : World} (t ty e : TypeId) (i : TypeInfo) (ht : P.underlying t = some (.slice e)) (hi : P.info? e = some i) (base size : Nat)
    (v : Value) (n : Nat) (xs : List Value) (hown : w.ownsRow base e size v n xs) (a : Option Addr) (c : Nat) :
    (Builtin.append_ #[t, t] ty #[v, .slice a 0 c]).run P w = .ok v w := by
  rcases hown.2 with ⟨rfl, rfl⟩ | ⟨g, cap, cur, rfl, _, _, hnc, _⟩
  · cases a <;> simp [Builtin.append_, run_underlying ht, sizeOf, typeInfo, hi, Builtin.lenOf, Builtin.firstCells, loadCells, loadCellsFrom]
  · cases a <;> simp [Builtin.append_, run_underlying ht, sizeOf, typeInfo, hi, Builtin.lenOf, Builtin.firstCells, hnc, storeCells, loadCells, loadCellsFrom]
theorem own_shape {w : World} {base : Nat} {e : TypeId} {sz : Nat} {v : Value} {n : Nat} {xs : List Value} (h : w.ownsRow base e sz v n xs) : ∃ a c, v = .slice a n c := by
  rcases h.2 with ⟨rfl, rfl⟩ | ⟨g, cap, cur, rfl, _⟩
  · exact ⟨_, _, rfl⟩
  · exact ⟨_, _, rfl⟩

/-- append(v, part...) of bytes on a row of the call's own -/
theorem append_isB {w : World} (base : Nat) (v : Value) (n : Nat) (l : List Int) (hown : w.ownsRow base 5 1 v n (l.map b8)) {a : Option Addr} {m cap : Nat} {bs : List Int} (hB : IsB w a m cap bs) (hnm : n + m ≤ 1000000) (hbase : base ≤ w.heap.size) :
    ∃ a' c' w', (Builtin.append_ #[24, 24] 24 #[v, .slice a m cap]).run Tryd.prog w = .ok (.slice a' (n + m) c') w' ∧ w'.ownsRow base 5 1 (.slice a' (n + m) c') (n + m) ((l ++ bs).map b8) ∧ w.grownBy w' v.ownBlock := by
  obtain ⟨i0, hi, hz0, hz1, hz2⟩ := info_parts infoByte
  obtain ⟨h1, h2, h3, h4, h5⟩ := hB
  by_cases hm : m = 0
  · subst hm
    have : bs = [] := List.eq_nil_of_length_eq_zero h1
    subst this
    obtain ⟨a', c', rfl⟩ := own_shape hown
    refine ⟨a', c', w, append_zero 24 24 5 i0 Tryd.underlying24 hi base 1 _ n _ hown a cap, ?_, ⟨rfl, rfl, rfl, Nat.le_refl _, fun _ _ _ => rfl⟩⟩
    rw [List.append_nil]
    exact hown
  · rcases h5 with ⟨_, h5⟩ | ⟨x, rfl, h6⟩
    · omega
    obtain ⟨b, o, rfl, hR⟩ := h6 (by omega)
    obtain ⟨v', w', q1, q2, q3, _⟩ := run_append_own w base 24 24 5 i0 (.int .u8 0) 1 1 Tryd.underlying24 hi hz0 hz1 hz2 rfl (by decide) v n _ hown ⟨b, o, none⟩ m cap (bs.map b8) (by simp [h1]) (fun j u hu => by
      have hj : j < bs.length := by have := (List.getElem?_eq_some_iff.1 hu).1; simpa using this
      have e1 : (⟨b, o, none⟩ : Addr).add j = ⟨b, o + j, none⟩ := by unfold Addr.add; split <;> simp_all
      refine Eq.trans (congrArg _ e1) ((hR j hj).trans ?_)
      rw [List.getElem?_map, List.getElem?_eq_getElem hj] at hu
      rw [← hu, List.getElem?_eq_getElem hj]
      rfl) (fun u hu => by simp only [List.mem_map] at hu; obtain ⟨y, _, rfl⟩ := hu; rfl) (by simp [maxLen]; omega) (by omega) hbase
    obtain ⟨a', c', rfl⟩ := own_shape q2
    rw [← List.map_append] at q2
    exact ⟨a', c', w', q1, q2, q3⟩

theorem wpList_append_run {P : Program} {w : World} {ops : Array Oper} {rest : List Oper} {o : Oper} {a : Act} {Q : Exit → Act → World → Prop} (hgd : o.guard = none) (s x : Operand) (t : TypeId)
    (ho : o.op = .call { callee := .builtin .append, args := #[s, x], argTypes := #[t, t] }) (v y : Value) (hs : a.eval s = v) (hx : a.eval x = y) {v' : Value} {w' : World} (hrun : (Builtin.append_ #[t, t] o.type #[v, y]).run P w = .ok v' w')
    (h : wpList P ops Q rest (a.put o.dst v') w') : wpList P ops Q (o :: rest) a w := by
  refine wpList_plain hgd fun K hK' => ?_
  unfold Oper.wp
  simp [execOp, ho, resolve, invoke, builtin, hs, hx, hrun, Result.andThen]
  exact hK' _ _ h

/-- what a call built, as a slice of bytes -/
theorem own_isB' {w : World} {base m : Nat} {a : Option Addr} {c : Nat} {l : List Int} (h : w.ownsRow base 5 1 (.slice a m c) m (l.map b8)) (hl : Dg.B8 l) : IsB w a m c l ∧ (∀ x, a = some x → base ≤ x.block) := by
  obtain ⟨h1, h2⟩ := h
  have hlen : l.length = m := by simpa using h1
  rcases h2 with ⟨h2, h3⟩ | ⟨g', cap, cur, hv, hg, hh, hn, hm, hs, ht⟩
  · simp only [Value.slice.injEq] at h2
    obtain ⟨rfl, rfl, rfl⟩ := h2
    exact ⟨⟨hlen, Nat.le_refl _, by omega, hl, .inl ⟨rfl, rfl⟩⟩, fun x hx => by cases hx⟩
  · simp only [Value.slice.injEq] at hv
    obtain ⟨rfl, _, rfl⟩ := hv
    refine ⟨⟨hlen, hn, by simpa [maxLen] using hm, hl, .inr ⟨_, rfl, fun _ => ⟨g', 0, rfl, fun i hi => ?_⟩⟩⟩, fun x hx => by cases hx; exact hg⟩
    rw [Nat.zero_add, cell_of_row w g' i cur 5 _ hh]
    have e : (cur.toList.take (m * 1))[i]? = (l.map b8)[i]? := by rw [ht]
    rw [List.getElem?_take, if_pos (by omega), Array.getElem?_toList, List.getElem?_map, List.getElem?_eq_getElem hi] at e
    rw [e, List.getElem?_eq_getElem hi]
    rfl

/-- a row of bytes that may be written -/
def Wr (w : World) (g n : Nat) : Prop := ∃ cur, Blk w g 5 cur ∧ n ≤ cur.size ∧ ∀ i, i < n → ∃ y, cur[i]? = some (.int .u8 y)
theorem Wr.at {w : World} {g n : Nat} (h : Wr w g n) {i : Nat} (hi : i < n) : ∃ y, w.cell? ⟨g, i, none⟩ = some (.int .u8 y) ∧ w.frozen? ⟨g, i, none⟩ = false := by
  obtain ⟨cur, h1, h2, h3⟩ := h
  obtain ⟨y, hy⟩ := h3 i hi
  exact ⟨y, (h1.cell i).trans hy, h1.frozen i⟩
theorem Wr.set {w : World} {g n : Nat} (h : Wr w g n) (j : Nat) (y : Int) : Wr (w.setCell ⟨g, j, none⟩ (.int .u8 y)) g n := by
  obtain ⟨cur, h1, h2, h3⟩ := h
  refine ⟨_, h1.set j _, by simpa using h2, fun i hi => ?_⟩
  rw [Array.getElem?_setIfInBounds]
  split
  · rename_i e
    subst e
    exact ⟨y, by rw [if_pos (by omega)]⟩
  · exact h3 i hi
theorem Wr.below {w w' : World} {g n : Nat} (h : Wr w g n) (b : Below w.heap.size w w') : Wr w' g n := by
  obtain ⟨cur, h1, h2, h3⟩ := h
  exact ⟨cur, h1.below' b, h2, h3⟩
theorem Wr.but {w w' : World} {g g' n : Nat} (h : Wr w g n) (b : But g' w w') (hg : g ≠ g') : Wr w' g n := by
  obtain ⟨cur, h1, h2, h3⟩ := h
  exact ⟨cur, b.other h1 hg, h2, h3⟩
theorem own_wr {w : World} {base g m c : Nat} {l : List Int} (h : w.ownsRow base 5 1 (.slice (some ⟨g, 0, none⟩) m c) m (l.map b8)) : Wr w g m := by
  obtain ⟨h1, h2⟩ := h
  have hlen : l.length = m := by simpa using h1
  rcases h2 with ⟨h2, h3⟩ | ⟨g', cap, cur, hv, hg, hh, hn, hm, hs, ht⟩
  · cases h2
  · simp only [Value.slice.injEq, Option.some.injEq, Addr.mk.injEq] at hv
    obtain ⟨⟨rfl, _, _⟩, _, rfl⟩ := hv
    refine ⟨cur, hh, by omega, fun i hi => ?_⟩
    have e : (cur.toList.take (m * 1))[i]? = (l.map b8)[i]? := by rw [ht]
    rw [List.getElem?_take, if_pos (by omega), Array.getElem?_toList, List.getElem?_map, List.getElem?_eq_getElem (by omega)] at e
    exact ⟨_, e⟩

theorem Hs.but {w w' : World} {g g' : Nat} {bs : List Int} (h : Hs w g bs) (b : But g' w w') (hg : g ≠ g') : Hs w' g bs := by
  obtain ⟨s, r, h1, h2⟩ := h
  exact ⟨s, r, b.other h1 hg, h2⟩

set_option maxRecDepth 100000 in
set_option maxHeartbeats 2000000 in
theorem digestNone_walk (a : Option Addr) (len cap : Nat) (zs : List Int) (c : Int) (w : World) (h0 : IsRow .u8 w a len cap zs) (h1 : (Lit.int .u8 c).wf = true) (hC : Cubes w) :
    Calls Tryd.prog 6 #[.slice a len cap, .int .u8 c] w fun e w' => e = .returned (.bool true) ∧ Below w.heap.size w w' := by
  obtain ⟨bs, hbs⟩ : ∃ bs, bs = zs.take len := ⟨_, rfl⟩
  have hB := h0.isB
  rw [← hbs] at hB
  have hlc := hB.2.1
  have hcx := hB.2.2.1
  have HB := hide hB
  have HC := hide hC
  have HL : Hid (bs.length = len) := hB.1
  clear hbs h0 h1 hC hB
  by_cases h500 : 200 < len
  · go_enter Tryd.func6, Tryd.ntmps6
    go_wp2_with fail
    refine (known_any _ HC.out).mono ?_
    rintro e w1 ⟨rfl, b1⟩
    go_wp2_with fail
    go_ret
    exact ⟨rfl, b1⟩
  · obtain ⟨a1, c1, w1, hrun, hown, hgrow⟩ := append_isB w.heap.size (.slice none 0 0) 0 [] (World.ownsRow_nil ..) HB.out (by omega) (Nat.le_refl _)
    rw [Nat.zero_add, List.nil_append] at hown
    rw [Nat.zero_add] at hrun
    have HB1 : Hid (Below w.heap.size w w1) := (Below.refl _ _).grown hgrow (Nat.le_refl _) (fun q hq => by cases hq)
    have HOw := hide hown
    obtain ⟨hI1, hge⟩ := own_isB' hown HB.out.2.2.2.1
    have HI1 := hide hI1
    have HGe := hide hge
    clear hown hgrow hI1 hge
    go_enter Tryd.func6, Tryd.ntmps6
    go_wp2_with (at_builtin; refine wpList_append_run rfl _ _ 24 rfl _ _ rfl rfl hrun ?_)
    clear hrun
    refine (digestSum_any bs a1 len c1 _ HI1.out (HC.out.below' HB1.out) (by omega)).mono ?_
    rintro e w2 ⟨g2, rfl, hown2, b2⟩
    have HW2 := hide (own_wr hown2)
    have hg2 : w1.heap.size ≤ g2 ∧ g2 < w2.heap.size := (own_isB hown2 (Dg.b8_of_mem (Dg.sha_mem _)) (by omega)).2
    have HB2 := hide (bthen HB1.out b2)
    have HI2 := hide (HI1.out.below b2)
    have hs12 := HB1.out.size
    have HB12 := hide b2
    clear hown2 b2
    go_wp2_with fail
    refine (digestI bs a1 len c1 _ HI2.out (HC.out.below' HB2.out) (by omega)).mono ?_
    rintro e w3 ⟨g3, rfl, hI3, hg3, b3⟩
    have HB3 := hide (bthen HB2.out b3)
    have HI3 := hide (HI2.out.below b3)
    have HJ3 := hide hI3
    have HW3 := hide (HW2.out.below b3)
    have hs23 := b3.size
    have HB13 := hide (bthen HB12.out b3)
    clear b3 hI3
    go_wp2_with fail
    go_loopw [9] (fun i wr => ∃ k : Nat, k ≤ 32 ∧ i = .int .i64 k ∧ Hid (Wr wr g2 32) ∧ Hid (But g2 w3 wr)) (fun i _ => 32 - (intOf i).toNat)
    case atStart => exact ⟨0, by omega, rfl, HW3, But.refl _ _⟩
    case round =>
      obtain ⟨k, hk, rfl, HWk, HBk⟩ := hrel
      by_cases hlt : k < 32
      · obtain ⟨y, hc, hf⟩ := HWk.out.at hlt
        go_wp2_with fail
        go_roundw
        case rel => exact ⟨k + 1, by omega, by go_num, HWk.out.set k c, HBk.out.set k _⟩
        case measure => simp [intOf]; omega
      · have HB4 : Hid (Below w.heap.size w wr) := HB3.out.trans (HBk.out.to_below HB3.out.size (by omega))
        have HI4 : Hid (IsB wr a1 len c1 bs) := HI3.out.but HBk.out (fun hl x hx => by have := HI1.out.off (g := g2) hg2.1 hl x hx; exact this)
        have HJ4 : Hid (IsB wr (some ⟨g3, 0, none⟩) 32 32 (Dg.sha bs)) := HJ3.out.but HBk.out (fun _ x hx => by cases hx; show g3 ≠ g2; omega)
        have HA4 : Hid (0 < len → ∃ ga, a1 = some ⟨ga, 0, none⟩ ∧ w.heap.size ≤ ga ∧ ga < w1.heap.size ∧ Wr wr ga len) := fun hl => by
          obtain ⟨_, h2⟩ := id HOw.out
          rcases h2 with ⟨h2, h3⟩ | ⟨ga, cap', cur, hv, hg, hh, _⟩
          · omega
          · simp only [Value.slice.injEq] at hv
            obtain ⟨rfl, _, rfl⟩ := hv
            have hlt : ga < w1.heap.size := (Array.getElem?_eq_some_iff.1 hh).1
            refine ⟨ga, rfl, hg, hlt, ?_⟩
            have hw1 := own_wr HOw.out
            exact (hw1.below HB13.out).but HBk.out (by omega)
        have hs34 := HBk.out.size
        clear HBk HWk
        go_wp2_with fail
        clear hlt hk
        refine (new_any _).mono ?_
        rintro e w5 ⟨rfl, b5, hn⟩
        obtain ⟨N, hN⟩ : ∃ N, N = wr.heap.size := ⟨_, rfl⟩
        rw [← hN] at hn ⊢
        have HH5 := hide (hs_new hn)
        have HB5 := hide (bthen HB4.out b5)
        have HI5 := hide (HI4.out.below b5)
        have HJ5 := hide (HJ4.out.below b5)
        have HA5 : Hid (0 < len → ∃ ga, a1 = some ⟨ga, 0, none⟩ ∧ w.heap.size ≤ ga ∧ ga < w1.heap.size ∧ Wr w5 ga len) := fun hl => by
          obtain ⟨ga, h1, h2, h3, h4⟩ := HA4.out hl
          exact ⟨ga, h1, h2, h3, h4.below b5⟩
        have hN1 : w.heap.size ≤ N ∧ w1.heap.size ≤ N ∧ g3 < N := by
          have := HB4.out.size
          obtain ⟨_, _, _, _, ⟨hb, _⟩ | ⟨x, hx, hR⟩⟩ := id HJ4.out
          · cases hb
          · cases hx
            obtain ⟨_, _, hx, hR⟩ := hR (by omega)
            cases hx
            have := hR.lt (by rw [Dg.sha_length]; omega)
            omega
        have HN := hide hN
        have HN1 := hide hN1
        have hcN : 0 ≠ N := by have := HC.out.lt; omega
        have HOff : Hid (Off N a1 len) := HI4.out.off (by omega)
        clear hn b5 hN hN1 HB4 HI4 HJ4 HA4
        go_wp2_with fail
        refine (write_any N [] bs a1 len c1 _ HH5.out HI5.out HOff.out hcN (HC.out.below' HB5.out) (by simp; omega)).mono ?_
        rintro e w6 ⟨rfl, b6, hH6⟩
        rw [List.nil_append] at hH6
        have HH6 := hide hH6
        have HB6 : Hid (Below w.heap.size w w6) := HB5.out.trans (b6.to_below HB5.out.size HN1.out.1)
        have HJ6 : Hid (IsB w6 (some ⟨g3, 0, none⟩) 32 32 (Dg.sha bs)) := HJ5.out.but b6 (fun _ x hx => by cases hx; show g3 ≠ N; have := HN1.out; omega)
        have HA6 : Hid (0 < len → ∃ ga, a1 = some ⟨ga, 0, none⟩ ∧ w.heap.size ≤ ga ∧ ga < w1.heap.size ∧ Wr w6 ga len) := fun hl => by
          obtain ⟨ga, h1, h2, h3, h4⟩ := HA5.out hl
          exact ⟨ga, h1, h2, h3, h4.but b6 (by have := HN1.out; omega)⟩
        clear hH6 b6 HH5 HB5 HI5 HJ5 HA5
        go_wp2_with fail
        go_loopw [11] (fun i wq => ∃ k : Nat, k ≤ len ∧ i = .int .i64 k ∧ Hid (Below w.heap.size w wq) ∧ Hid (Hs wq N bs) ∧ Hid (IsB wq (some ⟨g3, 0, none⟩) 32 32 (Dg.sha bs)) ∧ Hid (0 < len → ∃ ga, a1 = some ⟨ga, 0, none⟩ ∧ w.heap.size ≤ ga ∧ ga < w1.heap.size ∧ Wr wq ga len)) (fun i _ => len - (intOf i).toNat)
        case atStart => exact ⟨0, by omega, rfl, HB6, HH6, HJ6, HA6⟩
        case round =>
          rename_i wr0 _
          clear HB6 HH6 HJ6 HA6
          obtain ⟨k, hk, rfl, HBq, HHq, HJq, HAq⟩ := hrel
          by_cases hlt : k < len
          · obtain ⟨ga, rfl, hga, hga2, hWq⟩ := HAq.out (by omega)
            obtain ⟨y, hc, hf⟩ := hWq.at hlt
            have HWq := hide hWq
            clear hWq
            go_wp2_with fail
            go_roundw
            case rel =>
              have hn1 := HN1.out
              refine ⟨k + 1, by omega, by go_num, HBq.out.trans (((But.refl ga _).set k _).to_below HBq.out.size hga), HHq.out.but ((But.refl ga _).set k _) (by omega), HJq.out.but ((But.refl ga _).set k _) (fun _ x hx => by cases hx; show g3 ≠ ga; omega), fun _ => ⟨ga, rfl, hga, hga2, HWq.out.set k _⟩⟩
            case measure => simp [intOf]; omega
          · clear HAq
            go_wp2_with fail
            clear hlt hk
            refine (known_any _ (HC.out.below' HBq.out)).mono ?_
            rintro e w7 ⟨rfl, b7⟩
            have HB7 := hide (bthen HBq.out b7)
            have HH7 := hide (HHq.out.below b7)
            have HJ7 := hide (HJq.out.below b7)
            clear b7
            go_wp2_with fail
            refine (write_nil _ _).mono ?_
            rintro e w8 ⟨rfl, b8'⟩
            have HB8 := hide (bthen HB7.out b8')
            have HH8 := hide (HH7.out.below b8')
            have HJ8 := hide (HJ7.out.below b8')
            clear b8'
            go_wp2_with fail
            refine (long_nil _).mono ?_
            rintro e w8 ⟨rfl, rfl⟩
            go_wp2_with fail
            refine (sumNilI _ (HC.out.below' HB8.out)).mono ?_
            rintro e w9 ⟨g9, rfl, hI9, hg9, b9⟩
            have HB9 := hide (bthen HB8.out b9)
            have HH9 := hide (HH8.out.below b9)
            have HJ9 := hide (HJ8.out.below b9)
            have HI9 := hide hI9
            clear b9 hI9 hg9
            go_wp2_with fail
            refine (digestI [] none 0 0 _ (isB_nil _) (HC.out.below' HB9.out) (by omega)).mono ?_
            rintro e w10 ⟨g10, rfl, hI10, hg10, b10⟩
            have HB10 := hide (bthen HB9.out b10)
            have HH10 := hide (HH9.out.below b10)
            have HJ10 := hide (HJ9.out.below b10)
            have HI10 := hide (HI9.out.below b10)
            have HK10 := hide hI10
            clear b10 hI10 hg10
            go_wp2_with fail
            refine (same_true (Dg.sha []) _ _ 32 32 32 _ HI10.out HK10.out).mono ?_
            rintro e w11 ⟨rfl, b11⟩
            have HB11 := hide (bthen HB10.out b11)
            have HH11 := hide (HH10.out.below b11)
            have HJ11 := hide (HJ10.out.below b11)
            clear b11
            go_wp2_with fail
            refine (digestI bs _ len cap _ (HB.out.below HB11.out) (HC.out.below' HB11.out) (by omega)).mono ?_
            rintro e w12 ⟨g12, rfl, hI12, hg12, b12⟩
            have HB12' := hide (bthen HB11.out b12)
            have HH12 := hide (HH11.out.below b12)
            have HJ12 := hide (HJ11.out.below b12)
            have HI12 := hide hI12
            clear b12 hI12 hg12
            go_wp2_with fail
            refine (same_true (Dg.sha bs) _ _ 32 32 32 _ HJ12.out HI12.out).mono ?_
            rintro e w13 ⟨rfl, b13⟩
            have HB13' := hide (bthen HB12'.out b13)
            have HH13 := hide (HH12.out.below b13)
            clear b13
            go_wp2_with fail
            refine (sumI N bs _ HH13.out (HC.out.below' HB13'.out) (by rw [HL.out]; omega)).mono ?_
            rintro e w14 ⟨g14, rfl, hI14, hg14, b14⟩
            have HB14 := hide (bthen HB13'.out b14)
            have HI14 := hide hI14
            clear b14 hI14 hg14
            go_wp2_with fail
            refine (digestI bs _ len cap _ (HB.out.below HB14.out) (HC.out.below' HB14.out) (by omega)).mono ?_
            rintro e w15 ⟨g15, rfl, hI15, hg15, b15⟩
            have HB15 := hide (bthen HB14.out b15)
            have HI15 := hide (HI14.out.below b15)
            have HJ15 := hide hI15
            clear b15 hI15 hg15
            go_wp2_with fail
            refine (same_true (Dg.sha bs) _ _ 32 32 32 _ HI15.out HJ15.out).mono ?_
            rintro e w16 ⟨rfl, b16⟩
            go_wp2_with fail
            go_ret
            exact ⟨rfl, bthen HB15.out b16⟩
end Go.Proofs.YtckpcebifdhpeaaDoor
