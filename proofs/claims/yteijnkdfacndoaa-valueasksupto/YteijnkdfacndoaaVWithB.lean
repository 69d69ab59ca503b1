/-
  THE WALKS over package value: With, Without.
-/
import Derived.Test.YteijnkdfacndoaaVWith
set_option linter.unusedVariables false
set_option linter.unusedSimpArgs false
namespace Go.Proofs.Yteijnkdfacndoaa
open Go.RowKit

theorem room1_any (K key : ByteArray) (r : Nat) (w : World) (q : Bool) (hq : V.less K key = q) (hr : w.cell? ⟨r, 0, none⟩ = some (.string key)) :
    Calls Try.prog 69 #[.string K, .pointer (some ⟨r, 0, none⟩)] w fun e w' => e = .returned (.bool (!q)) ∧ w' = w := by
  go_enter Try.func69, Try.ntmps69
  go_wp2_with fail
  refine (less_is _ _ q _ hq).mono ?_
  rintro e w ⟨rfl, rfl⟩
  go_wp2
  go_ret
  exact ⟨rfl, rfl⟩

set_option maxHeartbeats 2000000 in
theorem indexFunc_any {w : World} {S : Nat → Prop} {a : Option Addr} {n cap : Nat} {ks : List ByteArray} (hn : n ≤ ks.length) (hl : n ≤ 4294967296) (h : Cells w S a ks.length (fun i => .string (ks.getD i ByteArray.empty))) (key : ByteArray) (r : Nat) (hr : w.cell? ⟨r, 0, none⟩ = some (.string key)) (z : Int)
    (hz : z = if V.room (ks.take n) key < n then (V.room (ks.take n) key : Int) else -1) :
    Calls Try.prog 68 #[.slice a n cap, .func (.func 69) #[] #[.pointer (some ⟨r, 0, none⟩)]] w fun e w' => e = .returned (.int .i64 z) ∧ w' = w := by
  have HC := hide h
  have HZ := hide hz
  clear h hz
  go_enter Try.func68, Try.ntmps68
  go_wp2_with fail
  go_loopg [8] n (fun g i wr => ∃ j : Nat, j + g = n ∧ i = .int .i64 j ∧ Hid (∀ i, i < j → V.less (ks.getD i ByteArray.empty) key = true) ∧ w = wr)
  case atStart => exact ⟨0, by omega, rfl, fun i hi => absurd hi (Nat.not_lt_zero _), rfl⟩
  case round =>
    obtain ⟨j, hj, rfl, HA, rfl⟩ := hrel
    by_cases hlt : j < n
    · obtain ⟨b, off, K, rfl, hK, ej⟩ := str_at' HC.out (Below.refl _ _) (Nat.lt_of_lt_of_le hlt hn)
      cases hle : V.less K key with
      | true =>
        have HL := hide hle
        clear hle
        go_wp2_with fail
        refine (room1_any K key r w true HL.out hr).mono ?_
        rintro e w ⟨rfl, rfl⟩
        go_wp2
        go_roundg (gk - 1)
        case measure => omega
        case rel =>
          refine ⟨j + 1, by omega, rfl, ?_, rfl⟩
          intro i hi
          by_cases e : i = j
          · subst e; rw [← hK.out]; exact HL.out
          · exact HA.out i (by omega)
      | false =>
        have HL := hide hle
        clear hle
        go_wp2_with fail
        refine (room1_any K key r w false HL.out hr).mono ?_
        rintro e w ⟨rfl, rfl⟩
        go_wp2
        go_ret
        refine ⟨ret_int ?_, rfl⟩
        have e := V.room_hit (ks.take n) key j (by rw [List.length_take]; omega) (by rw [V.getD_take _ _ _ hlt, ← hK.out]; exact HL.out) (fun i hi => by rw [V.getD_take _ _ _ (by omega)]; exact HA.out i hi)
        rw [HZ.out, e, if_pos hlt]
    · have hje : j = n := by omega
      subst hje
      go_wp2
      go_ret
      refine ⟨ret_int ?_, rfl⟩
      have hlen : (ks.take j).length = j := by rw [List.length_take]; omega
      have e := V.room_miss (ks.take j) key (fun i hi => by rw [hlen] at hi; rw [V.getD_take _ _ _ hi]; exact HA.out i hi)
      rw [HZ.out, e, hlen, if_neg (Nat.lt_irrefl _)]

set_option maxHeartbeats 2000000 in
theorem roomFor_any {v : Value} {x : V} {w : World} {S : Nat → Prop} (h : Is w S v x) (hwt : V.wt x ≤ 4294967296) (key : ByteArray) (p : Nat) (hp : V.room (x.keys.take (min x.keys.length x.list.length)) key = p) :
    Calls Try.prog 44 #[v, .string key] w fun e w' => e = .returned (.int .i64 p) ∧ Below w.heap.size w w' := by
  obtain ⟨kv, lv, rfl, h2, h8, _⟩ := h.open
  have hk := V.klen_wt x
  have hl := V.len_wt x
  obtain ⟨k, n, t, ks, l⟩ := x
  simp only at *
  obtain ⟨a1, c1, rfl, h3, h4, _, h5⟩ := id h2
  obtain ⟨a, cap, c, rfl, h6, h7, _⟩ := id h8
  obtain ⟨m, hm⟩ : ∃ m, min ks.length l.length = m := ⟨_, rfl⟩
  rw [hm] at hp
  have hml : m ≤ ks.length := by omega
  have hm32 : m ≤ 4294967296 := by omega
  have hpl := V.room_le (ks.take m) key
  rw [List.length_take] at hpl
  have HM := hide hm
  have H5 := hide h5
  have HP := hide hp
  have HPL := hide hpl
  clear hm h5 h4 hp hpl h h2 h8 hk hl hwt
  by_cases hlt : p < m
  · go_enter Try.func44, Try.ntmps44
    go_wp2_with fail
    refine (pairs_any _ _ _ _ _ _ _ _ _ _ h3 h6 m HM.out).mono ?_
    rintro e w1 ⟨rfl, b1⟩
    go_wp2_with fail
    have bb := bthen (bthen (below_alloc w _) (below_alloc _ _)) b1
    have hcell := cell_keep (cell_new _ (.string key) 9 (w.heap.size + 1) (by simp)) b1
    refine (indexFunc_any hml hm32 (Cells.keep H5.out (Keeps.of_below bb)) key _ hcell (p : Int) (by rw [HP.out, if_pos hlt])).mono ?_
    rintro e w1 ⟨rfl, rfl⟩
    go_wp2
    go_ret
    exact ⟨rfl, bb⟩
  · have hpe : m = p := by have := HPL.out; rw [HP.out] at this; omega
    subst hpe
    go_enter Try.func44, Try.ntmps44
    go_wp2_with fail
    refine (pairs_any _ _ _ _ _ _ _ _ _ _ h3 h6 m HM.out).mono ?_
    rintro e w1 ⟨rfl, b1⟩
    go_wp2_with fail
    have bb := bthen (bthen (below_alloc w _) (below_alloc _ _)) b1
    have hcell := cell_keep (cell_new _ (.string key) 9 (w.heap.size + 1) (by simp)) b1
    refine (indexFunc_any hml hm32 (Cells.keep H5.out (Keeps.of_below bb)) key _ hcell (-1) (by rw [HP.out, if_neg hlt])).mono ?_
    rintro e w1 ⟨rfl, rfl⟩
    go_wp2
    go_ret
    exact ⟨rfl, bb⟩

end Go.Proofs.Yteijnkdfacndoaa
