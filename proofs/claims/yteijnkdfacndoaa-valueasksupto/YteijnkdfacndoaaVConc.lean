/-
  THE WALKS over slices.Grow, slices.Concat and value.put, at texts and at values.
-/
import Derived.Test.YteijnkdfacndoaaVWalksE
import Derived.Lib.AppendZeros
import Derived.Laws.AppendOwnNone
set_option linter.unusedVariables false
set_option linter.unusedSimpArgs false
namespace Go.Proofs.Yteijnkdfacndoaa
open Go.RowKit

theorem hide {p : Prop} (h : p) : Hid p := h

/-- a slice of m elements of sz cells each, told by its cells -/
def Raw (w : World) (S : Nat → Prop) (v : Value) (sz m : Nat) (cs : List Value) : Prop :=
  ∃ a cap, v = .slice a m cap ∧ m ≤ cap ∧ cap ≤ maxLen ∧ cs.length = m * sz ∧ (∀ u ∈ cs, u.oneCell' = true) ∧ Cells w S a (m * sz) (fun i => cs.getD i undef)

theorem Raw.keep {w w' : World} {S : Nat → Prop} {v : Value} {sz m : Nat} {cs : List Value} (h : Raw w S v sz m cs) (k : Keeps S w w') : Raw w' S v sz m cs := by
  obtain ⟨a, cap, h1, h2, h3, h4, h5, h6⟩ := h
  exact ⟨a, cap, h1, h2, h3, h4, h5, h6.keep k⟩
theorem Raw.below {w w' : World} {S : Nat → Prop} {v : Value} {sz m : Nat} {cs : List Value} (h : Raw w S v sz m cs) (k : Below w.heap.size w w') : Raw w' S v sz m cs := h.keep (Keeps.of_below k)

/-- what a call built by append, as a slice -/
theorem Raw.of_own {w : World} {base : Nat} {e : TypeId} {sz : Nat} {v : Value} {n : Nat} {xs : List Value} (h : w.ownsRow base e sz v n xs) (h1 : ∀ u ∈ xs, u.oneCell' = true) : Raw w (fun b => base ≤ b) v sz n xs := by
  have hl := h.1
  rcases id h.2 with ⟨rfl, rfl⟩ | ⟨g, cap, cur, rfl, hb, hg, hnc, hcm, hcs, ht⟩
  · exact ⟨none, 0, rfl, Nat.le_refl _, by decide, hl, h1, fun hh => absurd hh (by simp)⟩
  · refine ⟨_, cap, rfl, hnc, hcm, hl, h1, fun _ => ⟨g, 0, rfl, hb, fun i hi => ?_⟩⟩
    have hx : xs[i]? = some (xs.getD i undef) := by
      rw [List.getElem?_eq_getElem (by omega)]; simp [List.getD, List.getElem?_eq_getElem (show i < xs.length by omega)]
    have := h.cells (g := g) rfl i _ hx
    rw [← this]
    congr 1
    unfold Addr.add
    split <;> simp_all

theorem append_zero {P : Program} {w : World} (t ty e : TypeId) (i : TypeInfo) (ht : P.underlying t = some (.slice e)) (hi : P.info? e = some i) (base size : Nat)
    (v : Value) (n : Nat) (xs : List Value) (hown : w.ownsRow base e size v n xs) (a : Option Addr) (c : Nat) :
    (Builtin.append_ #[t, t] ty #[v, .slice a 0 c]).run P w = .ok v w := by
  rcases hown.2 with ⟨rfl, rfl⟩ | ⟨g, cap, cur, rfl, _, _, hnc, _⟩
  · cases a <;> simp [Builtin.append_, run_underlying ht, sizeOf, typeInfo, hi, Builtin.lenOf, Builtin.firstCells, loadCells, loadCellsFrom]
  · cases a <;> simp [Builtin.append_, run_underlying ht, sizeOf, typeInfo, hi, Builtin.lenOf, Builtin.firstCells, hnc, storeCells, loadCells, loadCellsFrom]

theorem own_shape {w : World} {base : Nat} {e : TypeId} {sz : Nat} {v : Value} {n : Nat} {xs : List Value} (h : w.ownsRow base e sz v n xs) : ∃ a c, v = .slice a n c := by
  rcases h.2 with ⟨rfl, rfl⟩ | ⟨g, cap, cur, rfl, _⟩
  · exact ⟨_, _, rfl⟩
  · exact ⟨_, _, rfl⟩

theorem own_block {w : World} {base : Nat} {e : TypeId} {sz : Nat} {v : Value} {n : Nat} {xs : List Value} (h : w.ownsRow base e sz v n xs) : ∀ k, v.ownBlock = some k → base ≤ k := fun k hk => (h.lt k hk).1

def total (ms : List (Nat × List Value)) : Nat := (ms.map (·.1)).sum
def flat (ms : List (Nat × List Value)) : List Value := ms.flatMap (·.2)
theorem total_take (ms : List (Nat × List Value)) (j : Nat) (h : j < ms.length) : total (ms.take (j + 1)) = total (ms.take j) + ms[j].1 := by
  unfold total; rw [List.take_succ_eq_append_getElem h, List.map_append, List.map_cons, List.map_nil, List.sum_append, List.sum_cons, List.sum_nil, Nat.add_zero]
theorem flat_take (ms : List (Nat × List Value)) (j : Nat) (h : j < ms.length) : flat (ms.take (j + 1)) = flat (ms.take j) ++ ms[j].2 := by
  unfold flat; rw [List.take_succ_eq_append_getElem h, List.flatMap_append, List.flatMap_cons, List.flatMap_nil, List.append_nil]
theorem total_le (ms : List (Nat × List Value)) (j : Nat) : total (ms.take j) ≤ total ms := by
  have : total ms = total (ms.take j) + total (ms.drop j) := by
    unfold total; rw [← List.sum_append, ← List.map_append, List.take_append_drop]
  omega

/-- append(v, part...) on a row of the call's own -/
theorem append_part {P : Program} {w : World} (t ty e : TypeId) (z : Value) (size bytes : Nat) (ht : P.underlying t = some (.slice e)) (hinfo : (P.info? e).map (fun i => (i.zero, i.size, i.bytes)) = some (some z, size, bytes)) (hzs : z.cells.size = size) (hsz : 0 < size)
    (base : Nat) (v : Value) (n : Nat) (xs : List Value) (hown : w.ownsRow base e size v n xs) {S : Nat → Prop} {x : Value} {m : Nat} {cs : List Value} (hx : Raw w S x size m cs)
    (h63 : n + m ≤ maxLen) (hbytes : (n + m) * bytes ≤ 140737488355328) (hbase : base ≤ w.heap.size) :
    ∃ v' w', (Builtin.append_ #[t, t] ty #[v, x]).run P w = .ok v' w' ∧ w'.ownsRow base e size v' (n + m) (xs ++ cs) ∧ w.grownBy w' v.ownBlock := by
  obtain ⟨i0, hi, hz0, hz1, hz2⟩ := info_parts hinfo
  obtain ⟨a, cap, rfl, h1, h2, h3, h4, h5⟩ := hx
  by_cases hm : m = 0
  · subst hm
    have : cs = [] := List.eq_nil_of_length_eq_zero (by omega)
    subst this
    refine ⟨v, w, append_zero t ty e i0 ht hi base size v n xs hown a cap, ?_, ⟨rfl, rfl, rfl, Nat.le_refl _, fun _ _ _ => rfl⟩⟩
    rw [List.append_nil]; exact hown
  · obtain ⟨b, off, rfl, _, hc⟩ := h5 (Nat.mul_pos (by omega) hsz)
    obtain ⟨v', w', q1, q2, q3, _⟩ := run_append_own w base t ty e i0 z size bytes ht hi hz0 hz1 hz2 hzs hsz v n xs hown ⟨b, off, none⟩ m cap cs h3 (fun j u hu => by
      obtain ⟨hj, hju⟩ := List.getElem?_eq_some_iff.1 hu
      have e1 : (⟨b, off, none⟩ : Addr).add j = ⟨b, off + j, none⟩ := by unfold Addr.add; split <;> simp_all
      rw [e1, hc j (by omega)]
      simp [List.getD, hu]) h4 h63 hbytes hbase
    exact ⟨v', w', q1, q2, q3⟩


theorem growS_any (n : Nat) (w : World) (hn : n ≤ 17179869184) :
    Calls Try.prog 75 #[.slice none 0 0, .int .i64 n] w fun e w' => ∃ a m c, e = .returned (.slice a m c) ∧ w'.ownsRow w.heap.size 9 1 (.slice a m c) 0 [] ∧ Below w.heap.size w w' := by
  by_cases h0 : n = 0
  · subst h0
    go_enter Try.func75, Try.ntmps75
    go_wp2
    go_ret
    exact ⟨_, _, _, rfl, World.ownsRow_nil _ _ _ _, Below.refl _ _⟩
  · obtain ⟨i0, hi, hz0, hz1, hz2⟩ := info_parts info_str
    have hr := Lib.run_append_nil_zeros (P := Try.prog) w 22 3 22 9 i0 _ .i64 .i64 Try.underlying22 Try.underlying3 hi hz0 n (by omega) (by omega) (by omega) (by rw [hz2]; omega)
    have hc := grownCap_ge w n 0 9
    have hm := grownCap_le_maxLen w n 0 9 (Nat.le_trans hn (by decide))
    obtain ⟨cap, hcap⟩ : ∃ c, grownCap w n 0 9 = c := ⟨_, rfl⟩
    rw [hcap] at hr hc hm
    obtain ⟨cur, hcur⟩ : ∃ c, Builtin.zeroCells (Value.string ⟨#[]⟩).cells n ++ Builtin.zeroCells (Value.string ⟨#[]⟩).cells (cap - n) = c := ⟨_, rfl⟩
    have hcs : cur.size = cap * 1 := by
      rw [← hcur, Array.size_append, size_zeroCells, size_zeroCells, ← Nat.add_mul]
      have e1 : (Value.string ⟨#[]⟩).cells.size = 1 := rfl
      rw [e1]; congr 1; omega
    rw [hcur] at hr
    have HR : Hid _ := hr
    clear hr hcur hcap
    have hpos : 0 < n := by omega
    have s0 := slice_front_str none 0 0 0 (Nat.le_refl _)
    have s1 := slice_front_str (some ⟨w.heap.size, 0, none⟩) n cap 0 (Nat.zero_le _)
    go_enter Try.func75, Try.ntmps75
    go_wp2_with (at_builtin; refine Lib.wpList_append_run _ rfl (.tmp 20) (.tmp 21) 22 3 rfl _ _ (by simp [Act.eval, Act.put]) (by simp [Act.eval, Act.put]) _ _ HR.out ?_)
    go_ret
    refine ⟨_, _, _, rfl, ?_, ?_⟩
    · exact World.ownsRow_made w.drew cur cap (Nat.le_refl _) hm hcs
    · exact ((Below.refl _ _).drew).alloc (Nat.le_refl _) _

set_option maxHeartbeats 4000000 in
theorem concatS_any (a : Option Addr) (cap : Nat) (vs : Nat → Value) (ms : List (Nat × List Value)) (w : World) (S : Nat → Prop)
    (hc : Cells w S a ms.length vs) (hp : ∀ i (h : i < ms.length), Raw w S (vs i) 1 ms[i].1 ms[i].2) (hlen : ms.length ≤ 4294967296) (hsum : total ms ≤ 17179869184) :
    Calls Try.prog 71 #[.slice a ms.length cap] w fun e w' => ∃ a' m' c', e = .returned (.slice a' m' c') ∧ Raw w' (fun b => w.heap.size ≤ b) (.slice a' m' c') 1 (total ms) (flat ms) ∧ Below w.heap.size w w' := by
  have HC := hide hc
  have HP := hide hp
  clear hc hp
  go_enter Try.func71, Try.ntmps71
  go_wp2_with fail
  go_loopg [3, 11] ms.length (fun g s i wr => ∃ j : Nat, j + g = ms.length ∧ i = .int .i64 j ∧ s = .int .i64 (total (ms.take j) : Nat) ∧ w = wr)
  case atStart => exact ⟨0, by omega, rfl, rfl, rfl⟩
  case round =>
    obtain ⟨j, hj, rfl, rfl, rfl⟩ := hrel
    by_cases hlt : j < ms.length
    · obtain ⟨b, off, rfl, _, hcell⟩ := HC.out (by omega)
      obtain ⟨aj, cj, hvs, hm1, hm2, _⟩ := HP.out j hlt
      have ej := hcell j hlt
      rw [hvs] at ej
      have ht1 := total_take ms j hlt
      have ht2 := total_le ms (j + 1)
      obtain ⟨mj, hmj⟩ : ∃ m, ms[j].1 = m := ⟨_, rfl⟩
      rw [hmj] at ej ht1 hm1
      obtain ⟨T, hT⟩ : ∃ T, total (ms.take j) = T := ⟨_, rfl⟩
      rw [hT] at ht1
      have hTm : T + mj ≤ 17179869184 := by omega
      have H1 : Hid _ := ht1
      have H2 : Hid _ := ht2
      clear hcell hvs hm2 hmj ht1 ht2
      rw [hT]
      clear hT
      go_wp2_with fail
      go_roundg (gk - 1)
      case measure => omega
      case rel =>
        refine ⟨j + 1, by omega, rfl, ?_, rfl⟩
        rw [H1.out]
        rfl
    · have hje : j = ms.length := by omega
      subst hje
      rw [List.take_length]
      clear hj hlt
      go_wp2_with fail
      refine (growS_any _ _ hsum).mono ?_
      rintro e w1 ⟨ga, gm, gc, rfl, hown, b1⟩
      have HO := hide hown
      clear hown
      go_wp2_with fail
      go_loopg [6, 27] ms.length (fun g nv i wr => ∃ (j : Nat) (na : Option Addr) (nm nc : Nat), j + g = ms.length ∧ i = .int .i64 j ∧ nv = .slice na nm nc ∧ Hid (wr.ownsRow w.heap.size 9 1 (.slice na nm nc) (total (ms.take j)) (flat (ms.take j))) ∧ Below w.heap.size w wr)
      case atStart =>
        refine ⟨0, ga, gm, gc, by omega, rfl, rfl, ?_, b1⟩
        unfold Hid
        simp only [List.take_zero, total, flat, List.map_nil, List.sum_nil, List.flatMap_nil]
        exact HO.out
      case round =>
        obtain ⟨j, na, nm, nc, hj, rfl, rfl, HN, bj⟩ := hrel
        by_cases hlt : j < ms.length
        · obtain ⟨b, off, rfl, _, hcell⟩ := Cells.keep HC.out (Keeps.of_below bj) (by omega)
          have hpj := (HP.out j hlt).below bj
          obtain ⟨aj, cj, hvs, _⟩ := id hpj
          have ej := hcell j hlt
          rw [hvs] at ej hpj
          have ht1 := total_take ms j hlt
          have ht2 := total_le ms (j + 1)
          obtain ⟨v', w', hr, hown', hg⟩ := append_part 22 22 9 _ 1 16 Try.underlying22 info_str rfl (by decide) w.heap.size _ _ _ HN.out hpj (by unfold maxLen; omega) (by omega) bj.size
          obtain ⟨na', nc', rfl⟩ := own_shape hown'
          have HR := hide hr
          have HO' := hide hown'
          have HG := hide hg
          have H1 : Hid _ := ht1
          have H2 : Hid _ := ht2
          clear hr hown' hg ht1 ht2 hcell hvs hpj
          go_wp2_with (at_builtin; refine Lib.wpList_append_run _ rfl (.tmp 31) (.tmp 32) 22 22 rfl _ _ (by simp [Act.eval, Act.put]) (by simp [Act.eval, Act.put]) _ _ HR.out ?_)
          go_roundg (gk - 1)
          case measure => omega
          case rel =>
            refine ⟨j + 1, _, _, _, by omega, rfl, rfl, ?_, bj.grown HG.out bj.size (own_block HN.out)⟩
            unfold Hid
            rw [H1.out, flat_take ms j hlt]
            exact HO'.out
        · have hje : j = ms.length := by omega
          subst hje
          rw [List.take_length] at HN
          go_wp2
          go_ret
          refine ⟨_, _, _, rfl, Raw.of_own HN.out ?_, bj⟩
          intro u hu
          obtain ⟨p, hp1, hp2⟩ := List.mem_flatMap.1 hu
          obtain ⟨i, hi, rfl⟩ := List.getElem_of_mem hp1
          obtain ⟨_, _, _, _, _, _, h1, _⟩ := HP.out i hi
          exact h1 u hp2

theorem growV_any (n : Nat) (w : World) (hn : n ≤ 17179869184) :
    Calls Try.prog 76 #[.slice none 0 0, .int .i64 n] w fun e w' => ∃ a m c, e = .returned (.slice a m c) ∧ w'.ownsRow w.heap.size 25 5 (.slice a m c) 0 [] ∧ Below w.heap.size w w' := by
  by_cases h0 : n = 0
  · subst h0
    go_enter Try.func76, Try.ntmps76
    go_wp2
    go_ret
    exact ⟨_, _, _, rfl, World.ownsRow_nil _ _ _ _, Below.refl _ _⟩
  · obtain ⟨i0, hi, hz0, hz1, hz2⟩ := info_parts info_val
    have hr := Lib.run_append_nil_zeros (P := Try.prog) w 23 3 23 25 i0 _ .i64 .i64 Try.underlying23 Try.underlying3 hi hz0 n (by omega) (by omega) (by omega) (by rw [hz2]; omega)
    have hc := grownCap_ge w n 0 25
    have hm := grownCap_le_maxLen w n 0 25 (Nat.le_trans hn (by decide))
    obtain ⟨cap, hcap⟩ : ∃ c, grownCap w n 0 25 = c := ⟨_, rfl⟩
    rw [hcap] at hr hc hm
    obtain ⟨cur, hcur⟩ : ∃ c, Builtin.zeroCells (Value.agg #[.int .i64 0, .int .i64 0, .string ⟨#[]⟩, .slice none 0 0, .slice none 0 0]).cells n ++ Builtin.zeroCells (Value.agg #[.int .i64 0, .int .i64 0, .string ⟨#[]⟩, .slice none 0 0, .slice none 0 0]).cells (cap - n) = c := ⟨_, rfl⟩
    have hcs : cur.size = cap * 5 := by
      rw [← hcur, Array.size_append, size_zeroCells, size_zeroCells, ← Nat.add_mul]
      have e1 : (Value.agg #[.int .i64 0, .int .i64 0, .string ⟨#[]⟩, .slice none 0 0, .slice none 0 0]).cells.size = 5 := rfl
      rw [e1]; congr 1; omega
    rw [hcur] at hr
    have HR : Hid _ := hr
    clear hr hcur hcap
    have hpos : 0 < n := by omega
    have s0 := slice_front_val none 0 0 0 (Nat.le_refl _)
    have s1 := slice_front_val (some ⟨w.heap.size, 0, none⟩) n cap 0 (Nat.zero_le _)
    go_enter Try.func76, Try.ntmps76
    go_wp2_with (at_builtin; refine Lib.wpList_append_run _ rfl (.tmp 20) (.tmp 21) 23 3 rfl _ _ (by simp [Act.eval, Act.put]) (by simp [Act.eval, Act.put]) _ _ HR.out ?_)
    go_ret
    refine ⟨_, _, _, rfl, ?_, ?_⟩
    · exact World.ownsRow_made w.drew cur cap (Nat.le_refl _) hm hcs
    · exact ((Below.refl _ _).drew).alloc (Nat.le_refl _) _

set_option maxHeartbeats 4000000 in
theorem concatV_any (a : Option Addr) (cap : Nat) (vs : Nat → Value) (ms : List (Nat × List Value)) (w : World) (S : Nat → Prop)
    (hc : Cells w S a ms.length vs) (hp : ∀ i (h : i < ms.length), Raw w S (vs i) 5 ms[i].1 ms[i].2) (hlen : ms.length ≤ 4294967296) (hsum : total ms ≤ 17179869184) :
    Calls Try.prog 72 #[.slice a ms.length cap] w fun e w' => ∃ a' m' c', e = .returned (.slice a' m' c') ∧ Raw w' (fun b => w.heap.size ≤ b) (.slice a' m' c') 5 (total ms) (flat ms) ∧ Below w.heap.size w w' := by
  have HC := hide hc
  have HP := hide hp
  clear hc hp
  go_enter Try.func72, Try.ntmps72
  go_wp2_with fail
  go_loopg [3, 11] ms.length (fun g s i wr => ∃ j : Nat, j + g = ms.length ∧ i = .int .i64 j ∧ s = .int .i64 (total (ms.take j) : Nat) ∧ w = wr)
  case atStart => exact ⟨0, by omega, rfl, rfl, rfl⟩
  case round =>
    obtain ⟨j, hj, rfl, rfl, rfl⟩ := hrel
    by_cases hlt : j < ms.length
    · obtain ⟨b, off, rfl, _, hcell⟩ := HC.out (by omega)
      obtain ⟨aj, cj, hvs, hm1, hm2, _⟩ := HP.out j hlt
      have ej := hcell j hlt
      rw [hvs] at ej
      have ht1 := total_take ms j hlt
      have ht2 := total_le ms (j + 1)
      obtain ⟨mj, hmj⟩ : ∃ m, ms[j].1 = m := ⟨_, rfl⟩
      rw [hmj] at ej ht1 hm1
      obtain ⟨T, hT⟩ : ∃ T, total (ms.take j) = T := ⟨_, rfl⟩
      rw [hT] at ht1
      have hTm : T + mj ≤ 17179869184 := by omega
      have H1 : Hid _ := ht1
      have H2 : Hid _ := ht2
      clear hcell hvs hm2 hmj ht1 ht2
      rw [hT]
      clear hT
      go_wp2_with fail
      go_roundg (gk - 1)
      case measure => omega
      case rel =>
        refine ⟨j + 1, by omega, rfl, ?_, rfl⟩
        rw [H1.out]
        rfl
    · have hje : j = ms.length := by omega
      subst hje
      rw [List.take_length]
      clear hj hlt
      go_wp2_with fail
      refine (growV_any _ _ hsum).mono ?_
      rintro e w1 ⟨ga, gm, gc, rfl, hown, b1⟩
      have HO := hide hown
      clear hown
      go_wp2_with fail
      go_loopg [6, 27] ms.length (fun g nv i wr => ∃ (j : Nat) (na : Option Addr) (nm nc : Nat), j + g = ms.length ∧ i = .int .i64 j ∧ nv = .slice na nm nc ∧ Hid (wr.ownsRow w.heap.size 25 5 (.slice na nm nc) (total (ms.take j)) (flat (ms.take j))) ∧ Below w.heap.size w wr)
      case atStart =>
        refine ⟨0, ga, gm, gc, by omega, rfl, rfl, ?_, b1⟩
        unfold Hid
        simp only [List.take_zero, total, flat, List.map_nil, List.sum_nil, List.flatMap_nil]
        exact HO.out
      case round =>
        obtain ⟨j, na, nm, nc, hj, rfl, rfl, HN, bj⟩ := hrel
        by_cases hlt : j < ms.length
        · obtain ⟨b, off, rfl, _, hcell⟩ := Cells.keep HC.out (Keeps.of_below bj) (by omega)
          have hpj := (HP.out j hlt).below bj
          obtain ⟨aj, cj, hvs, _⟩ := id hpj
          have ej := hcell j hlt
          rw [hvs] at ej hpj
          have ht1 := total_take ms j hlt
          have ht2 := total_le ms (j + 1)
          obtain ⟨v', w', hr, hown', hg⟩ := append_part 23 23 25 _ 5 80 Try.underlying23 info_val rfl (by decide) w.heap.size _ _ _ HN.out hpj (by unfold maxLen; omega) (by omega) bj.size
          obtain ⟨na', nc', rfl⟩ := own_shape hown'
          have HR := hide hr
          have HO' := hide hown'
          have HG := hide hg
          have H1 : Hid _ := ht1
          have H2 : Hid _ := ht2
          clear hr hown' hg ht1 ht2 hcell hvs hpj
          go_wp2_with (at_builtin; refine Lib.wpList_append_run _ rfl (.tmp 31) (.tmp 32) 23 23 rfl _ _ (by simp [Act.eval, Act.put]) (by simp [Act.eval, Act.put]) _ _ HR.out ?_)
          go_roundg (gk - 1)
          case measure => omega
          case rel =>
            refine ⟨j + 1, _, _, _, by omega, rfl, rfl, ?_, bj.grown HG.out bj.size (own_block HN.out)⟩
            unfold Hid
            rw [H1.out, flat_take ms j hlt]
            exact HO'.out
        · have hje : j = ms.length := by omega
          subst hje
          rw [List.take_length] at HN
          go_wp2
          go_ret
          refine ⟨_, _, _, rfl, Raw.of_own HN.out ?_, bj⟩
          intro u hu
          obtain ⟨p, hp1, hp2⟩ := List.mem_flatMap.1 hu
          obtain ⟨i, hi, rfl⟩ := List.getElem_of_mem hp1
          obtain ⟨_, _, _, _, _, _, h1, _⟩ := HP.out i hi
          exact h1 u hp2

end Go.Proofs.Yteijnkdfacndoaa
