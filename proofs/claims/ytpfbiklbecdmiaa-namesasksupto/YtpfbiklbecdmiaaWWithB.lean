/-
  THE WALKS over the document's own answer for layer 2: With.
-/
import Derived.Test.YtpfbiklbecdmiaaWWith
set_option linter.unusedVariables false
set_option linter.unusedSimpArgs false
namespace Go.Proofs.Ytpfbiklbecdmiaa
open Go.RowKit

set_option maxHeartbeats 1000000 in
set_option maxRecDepth 100000 in
theorem refWith_hit {v vy : Value} {x y : V} {w : World} {S : Nat → Prop} (h : Is w S v x) (h' : Is w S vy y) (hwx : V.wt x ≤ 1000000000) (key : ByteArray) (hkey : key.size ≤ 1000000000) (h5 : x.kind = 5) (p : Nat) (hp : V.place x key = p) :
    Calls Try.prog 47 #[v, .string key, vy] w fun e w' => ∃ k n t a1 n1 c1 a2 n2 c2, e = .returned (.agg #[.int .i64 k, .int .i64 n, .string t, .slice a1 n1 c1, .slice a2 n2 c2]) ∧ Is w' (fun b => S b ∨ w.heap.size ≤ b) (.agg #[.int .i64 k, .int .i64 n, .string t, .slice a1 n1 c1, .slice a2 n2 c2]) (V.laid x p (p + 1) [key] [y]) ∧ Below w.heap.size w w' := by
  have hpl := (V.place_lt x key (by omega)).2
  rw [hp] at hpl
  have hpl' : p + 1 ≤ min x.keys.length x.list.length := by rw [Int.toNat_natCast] at hpl; omega
  have HP := hide hp
  clear hp hpl
  obtain ⟨kv, lv, rfl, h2, h8, ht⟩ := id h.open
  obtain ⟨kvy, lvy, rfl, hy2, hy8, _⟩ := id h'.open
  obtain ⟨a1, c1, rfl, q1, _, _, hcell⟩ := id h2
  have HC := hide hcell
  clear hcell
  obtain ⟨a2, c2, _, rfl, q2, _⟩ := id h8
  obtain ⟨b1, d1, rfl, _⟩ := id hy2
  obtain ⟨b2, d2, _, rfl, _⟩ := id hy8
  have h5' : (x.kind != 5) = false := by simp [h5]
  have H5 := hide h5
  have HH := hide h
  have HH' := hide h'
  have HWX := hide hwx
  have HKEY := hide hkey
  have HPL := hide hpl'
  clear h5 h h' h2 h8 hy2 hy8 hwx ht hkey hpl'
  go_enter Try.func47, Try.ntmps47
  go_wp2_with fail
  refine (refPlace_any (HH.out.below (bthen (below_alloc w _) (bthen (below_alloc _ _) (below_alloc _ _)))) (Nat.le_trans HWX.out (by decide)) key p HP.out).mono ?_
  rintro e w1 ⟨rfl, bw1⟩
  have pa : BoxF w1 w.heap.size _ _ _ _ _ := ((boxF_at w _ _ _ _ _ 25 _ rfl).keep (bthen (below_alloc _ _) (below_alloc _ _))).keep bw1
  have pb : BoxF w1 (w.heap.size + 1) _ _ _ _ _ := ((boxF_at _ _ _ _ _ _ 25 _ (by simp)).keep (below_alloc _ _)).keep bw1
  have pr : BoxF w1 (w.heap.size + 2) _ _ _ _ _ := (boxF_at _ _ _ _ _ _ 25 _ (by simp)).keep bw1
  have bb := bthen (bthen (below_alloc w _) (bthen (below_alloc _ _) (below_alloc _ _))) bw1
  have sz : w.heap.size + 3 ≤ w1.heap.size := by have := bw1.size; simpa using this
  clear bw1
  obtain ⟨⟨x0, x1, x2, x3, x4⟩, _⟩ := id pa
  obtain ⟨⟨y0, y1, y2, y3, y4⟩, _⟩ := id pb
  have g0 : ∀ o, (w1.alloc o).cell? _ = _ := fun o => cell_keep y0 (below_alloc w1 o)
  have g1 : ∀ o, (w1.alloc o).cell? _ = _ := fun o => cell_keep y1 (below_alloc w1 o)
  have g2 : ∀ o, (w1.alloc o).cell? _ = _ := fun o => cell_keep y2 (below_alloc w1 o)
  have g3 : ∀ o, (w1.alloc o).cell? _ = _ := fun o => cell_keep y3 (below_alloc w1 o)
  have g4 : ∀ o, (w1.alloc o).cell? _ = _ := fun o => cell_keep y4 (below_alloc w1 o)
  go_wp2_with fail
  clear g0 g1 g2 g3 g4
  clear x0 x1 x2 x3 x4 y0 y1 y2 y3 y4
  have hS : ∀ b, b < w.heap.size → S b → (S b ∧ b < w.heap.size) ∨ w.heap.size + 3 ≤ b := fun b hb hs => .inl ⟨hs, hb⟩
  have bk := below_alloc w1 (.cells #[.string key] 9)
  have rkey := raw_one_str w1 key (fun b => (S b ∧ b < w.heap.size) ∨ w.heap.size + 3 ≤ b) _ rfl (.inr sz)
  have bk2 := below_alloc (w1.alloc (.cells #[.string key] 9)) (.cells #[.int .i64 y.kind, .int .i64 y.num, .string y.text, .slice b1 y.keys.length d1, .slice b2 y.list.length d2] 25)
  have rval := raw_one_val (w1.alloc (.cells #[.string key] 9)) y.kind y.num y.text b1 y.keys.length d1 b2 y.list.length d2 (fun b => (S b ∧ b < w.heap.size) ∨ w.heap.size + 3 ≤ b) (w1.heap.size + 1) (by simp) (.inr (by omega))
  have hkk : Strs _ _ _ [key] := strs_of_raw (ks := [key]) (rkey.below bk2) (fun k hk => by rw [List.mem_singleton.1 hk]; exact Nat.le_trans HKEY.out (by decide))
  have hll := isL_of_raw rval (Els.one (x := y) ((HH'.out.weak hS).below (bthen bb (bthen bk bk2))))
  refine (refWith_core ((HH.out.weak hS).below (bthen bb (bthen bk bk2))) HWX.out H5.out p 1 _ _ [key] [y] hkk hll HPL.out (by simp) (by simp)).mono ?_
  rintro e w3 ⟨k5, n5, t5, a5, m5, c5, a6, m6, c6, rfl, his, bw3⟩
  replace pr := pr.keep (bthen (bthen bk bk2) bw3)
  replace bb := bthen bb (bthen (bthen bk bk2) bw3)
  clear rkey rval hkk hll
  obtain ⟨⟨y0, y1, y2, y3, y4⟩, g0, g1, g2, g3, g4⟩ := id pr
  go_wp2_with fail
  obtain ⟨u0, u1, u2, u3, u4⟩ := Box5.all pr.1 (.int .i64 k5) (.int .i64 n5) (.string t5) (.slice a5 m5 c5) (.slice a6 m6 c6)
  refine bodyPost_ret (v := .agg #[.int .i64 k5, .int .i64 n5, .string t5, .slice a5 m5 c5, .slice a6 m6 c6]) (by simp [results, Try.results47, go_sem, u0, u1, u2, u3, u4]) rfl ?_
  refine ⟨k5, n5, t5, a5, m5, c5, a6, m6, c6, rfl, ?_, ?_⟩
  · have kp := keeps_set5 (S := fun b => b ≠ w.heap.size + 2) (w := w3) (g := w.heap.size + 2) (o := 0) (.int .i64 k5) (.int .i64 n5) (.string t5) (.slice a5 m5 c5) (.slice a6 m6 c6) (by simp)
    have hi2 := his.weak (S' := fun b => b ≠ w.heap.size + 2 ∧ (S b ∨ w.heap.size ≤ b)) (fun b hb2 hb => by
      rcases hb with (hb | hb) | hb
      · exact ⟨by omega, .inl hb.1⟩
      · exact ⟨by omega, .inr (by omega)⟩
      · have := bk.size; have := bk2.size; exact ⟨by omega, .inr (by omega)⟩)
    exact (hi2.keep (fun b hb hl => kp b hb.1 hl)).weak (fun b _ hb => hb.2)
  · have le2 : w.heap.size ≤ w.heap.size + 2 := by omega
    exact ((((bb.setCell le2 _).setCell le2 _).setCell le2 _).setCell le2 _).setCell le2 _

set_option maxHeartbeats 1000000 in
set_option maxRecDepth 100000 in
theorem refWith_miss {v vy : Value} {x y : V} {w : World} {S : Nat → Prop} (h : Is w S v x) (h' : Is w S vy y) (hwx : V.wt x ≤ 1000000000) (key : ByteArray) (hkey : key.size ≤ 1000000000) (h5 : x.kind = 5) (pz : Int) (hp : V.place x key = pz) (hneg : pz < 0) :
    Calls Try.prog 47 #[v, .string key, vy] w fun e w' => ∃ k n t a1 n1 c1 a2 n2 c2, e = .returned (.agg #[.int .i64 k, .int .i64 n, .string t, .slice a1 n1 c1, .slice a2 n2 c2]) ∧ Is w' (fun b => S b ∨ w.heap.size ≤ b) (.agg #[.int .i64 k, .int .i64 n, .string t, .slice a1 n1 c1, .slice a2 n2 c2]) (V.laid x (V.room (x.keys.take (min x.keys.length x.list.length)) key) (V.room (x.keys.take (min x.keys.length x.list.length)) key) [key] [y]) ∧ Below w.heap.size w w' := by
  obtain ⟨m, hm⟩ : ∃ m, min x.keys.length x.list.length = m := ⟨_, rfl⟩
  rw [hm]
  obtain ⟨p, hroom⟩ : ∃ p, V.room (x.keys.take m) key = p := ⟨_, rfl⟩
  rw [hroom]
  have hpl' := V.room_le (x.keys.take m) key
  rw [hroom, List.length_take] at hpl'
  have hkl := V.klen_wt x
  have HP := hide hp
  have HM := hide hm
  have HRO := hide hroom
  have hmI : min (x.keys.length : Int) (x.list.length : Int) = (m : Int) := by omega
  have hm32 : m ≤ 4294967296 := by omega
  have hmk : m ≤ x.keys.length := by omega
  clear hp hm hroom hkl
  obtain ⟨kv, lv, rfl, h2, h8, ht⟩ := id h.open
  obtain ⟨kvy, lvy, rfl, hy2, hy8, _⟩ := id h'.open
  obtain ⟨a1, c1, rfl, q1, _, _, hcell⟩ := id h2
  have HC := hide hcell
  clear hcell
  obtain ⟨a2, c2, _, rfl, q2, _⟩ := id h8
  obtain ⟨b1, d1, rfl, _⟩ := id hy2
  obtain ⟨b2, d2, _, rfl, _⟩ := id hy8
  have h5' : (x.kind != 5) = false := by simp [h5]
  have HS0 : Hid (∀ k ∈ x.keys, k.size ≤ maxLen) := by obtain ⟨_, _, _, _, _, q, _⟩ := h2; exact q
  have H5 := hide h5
  have HH := hide h
  have HH' := hide h'
  have HWX := hide hwx
  have HKEY := hide hkey
  have HPL := hide hpl'
  clear h5 h h' h2 h8 hy2 hy8 hwx ht hkey hpl'
  go_enter Try.func47, Try.ntmps47
  go_wp2_with fail
  refine (refPlace_any (HH.out.below (bthen (below_alloc w _) (bthen (below_alloc _ _) (below_alloc _ _)))) (Nat.le_trans HWX.out (by decide)) key pz HP.out).mono ?_
  rintro e w1 ⟨rfl, bw1⟩
  have pa : BoxF w1 w.heap.size _ _ _ _ _ := ((boxF_at w _ _ _ _ _ 25 _ rfl).keep (bthen (below_alloc _ _) (below_alloc _ _))).keep bw1
  have pb : BoxF w1 (w.heap.size + 1) _ _ _ _ _ := ((boxF_at _ _ _ _ _ _ 25 _ (by simp)).keep (below_alloc _ _)).keep bw1
  have pr : BoxF w1 (w.heap.size + 2) _ _ _ _ _ := (boxF_at _ _ _ _ _ _ 25 _ (by simp)).keep bw1
  have bb := bthen (bthen (below_alloc w _) (bthen (below_alloc _ _) (below_alloc _ _))) bw1
  have sz : w.heap.size + 3 ≤ w1.heap.size := by have := bw1.size; simpa using this
  clear bw1
  obtain ⟨⟨x0, x1, x2, x3, x4⟩, _⟩ := id pa
  obtain ⟨⟨y0, y1, y2, y3, y4⟩, _⟩ := id pb
  go_wp2_with fail
  clear x0 x1 x2 x3 x4 y0 y1 y2 y3 y4
  go_loopg [8] m (fun g i wr => ∃ j : Nat, j + g = m ∧ i = .int .i64 j ∧ Hid (∀ i, i < j → V.less (x.keys.getD i ByteArray.empty) key = true) ∧ Below w.heap.size w wr ∧ w.heap.size + 3 ≤ wr.heap.size ∧ BoxF wr w.heap.size (.int .i64 x.kind) (.int .i64 x.num) (.string x.text) (.slice a1 x.keys.length c1) (.slice a2 x.list.length c2) ∧ BoxF wr (w.heap.size + 1) (.int .i64 y.kind) (.int .i64 y.num) (.string y.text) (.slice b1 y.keys.length d1) (.slice b2 y.list.length d2) ∧ BoxF wr (w.heap.size + 2) (.int .i64 0) (.int .i64 0) (.string ⟨#[]⟩) (.slice none 0 0) (.slice none 0 0))
  case atStart => exact ⟨0, by omega, rfl, fun i hi => absurd hi (Nat.not_lt_zero _), bb, sz, pa, pb, pr⟩
  case round =>
    clear pa pb pr bb sz
    obtain ⟨j, hj, rfl, HA, bb, sz, pa, pb, pr⟩ := hrel
    obtain ⟨⟨x0, x1, x2, x3, x4⟩, _⟩ := id pa
    obtain ⟨⟨y0, y1, y2, y3, y4⟩, _⟩ := id pb
    by_cases hlt : j < m
    · obtain ⟨b, off, K, rfl, hK, ej⟩ := str_at' HC.out bb (Nat.lt_of_lt_of_le hlt hmk)
      have zj := getD_size HS0.out j
      rw [← hK.out] at zj
      cases hle : V.less K key with
      | true =>
        have HL := hide hle
        clear hle
        go_wp2_with fail
        refine (refLess_any K key _ zj (Nat.le_trans HKEY.out (by decide))).mono ?_
        rintro e w2 ⟨rfl, b2⟩
        rw [show Op.bytesLess K.toList key.toList = true from HL.out]
        go_wp2_with fail
        go_roundg (gk - 1)
        case measure => omega
        case rel =>
          refine ⟨j + 1, by omega, rfl, ?_, bthen bb b2, Nat.le_trans sz b2.size, pa.keep b2, pb.keep b2, pr.keep b2⟩
          intro i hi
          by_cases e : i = j
          · subst e; rw [← hK.out]; exact HL.out
          · exact HA.out i (by omega)
      | false =>
        have HL := hide hle
        clear hle
        go_wp2_with fail
        refine (refLess_any K key _ zj (Nat.le_trans HKEY.out (by decide))).mono ?_
        rintro e w2 ⟨rfl, b2⟩
        rw [show Op.bytesLess K.toList key.toList = false from HL.out]
        have hpj : p = j := by
          rw [← HRO.out]
          exact V.room_hit _ key j (by rw [List.length_take]; omega) (by rw [V.getD_take _ _ _ hlt, ← hK.out]; exact HL.out) (fun i hi => by rw [V.getD_take _ _ _ (by omega)]; exact HA.out i hi)
        subst hpj
        replace pa := pa.keep b2
        replace pb := pb.keep b2
        replace pr := pr.keep b2
        replace bb := bthen bb b2
        replace sz := Nat.le_trans sz b2.size
        clear x0 x1 x2 x3 x4 y0 y1 y2 y3 y4 b2
        obtain ⟨⟨x0, x1, x2, x3, x4⟩, _⟩ := id pa
        obtain ⟨⟨y0, y1, y2, y3, y4⟩, _⟩ := id pb
        have g0 : ∀ o, (w2.alloc o).cell? _ = _ := fun o => cell_keep y0 (below_alloc w2 o)
        have g1 : ∀ o, (w2.alloc o).cell? _ = _ := fun o => cell_keep y1 (below_alloc w2 o)
        have g2 : ∀ o, (w2.alloc o).cell? _ = _ := fun o => cell_keep y2 (below_alloc w2 o)
        have g3 : ∀ o, (w2.alloc o).cell? _ = _ := fun o => cell_keep y3 (below_alloc w2 o)
        have g4 : ∀ o, (w2.alloc o).cell? _ = _ := fun o => cell_keep y4 (below_alloc w2 o)
        go_wp2_with fail
        clear g0 g1 g2 g3 g4
        clear x0 x1 x2 x3 x4 y0 y1 y2 y3 y4
        have hS : ∀ b, b < w.heap.size → S b → (S b ∧ b < w.heap.size) ∨ w.heap.size + 3 ≤ b := fun b hb hs => .inl ⟨hs, hb⟩
        have bk := below_alloc w2 (.cells #[.string key] 9)
        have rkey := raw_one_str w2 key (fun b => (S b ∧ b < w.heap.size) ∨ w.heap.size + 3 ≤ b) _ rfl (.inr sz)
        have bk2 := below_alloc (w2.alloc (.cells #[.string key] 9)) (.cells #[.int .i64 y.kind, .int .i64 y.num, .string y.text, .slice b1 y.keys.length d1, .slice b2 y.list.length d2] 25)
        have rval := raw_one_val (w2.alloc (.cells #[.string key] 9)) y.kind y.num y.text b1 y.keys.length d1 b2 y.list.length d2 (fun b => (S b ∧ b < w.heap.size) ∨ w.heap.size + 3 ≤ b) (w2.heap.size + 1) (by simp) (.inr (by omega))
        have hkk : Strs _ _ _ [key] := strs_of_raw (ks := [key]) (rkey.below bk2) (fun k hk => by rw [List.mem_singleton.1 hk]; exact Nat.le_trans HKEY.out (by decide))
        have hll := isL_of_raw rval (Els.one (x := y) ((HH'.out.weak hS).below (bthen bb (bthen bk bk2))))
        refine (refWith_core ((HH.out.weak hS).below (bthen bb (bthen bk bk2))) HWX.out H5.out p 0 _ _ [key] [y] hkk hll (by have := HM.out; have := HPL.out; omega) (by simp) (by simp)).mono ?_
        rintro e w3 ⟨k5, n5, t5, a5, m5, c5, a6, m6, c6, rfl, his, bw3⟩
        replace pr := pr.keep (bthen (bthen bk bk2) bw3)
        replace bb := bthen bb (bthen (bthen bk bk2) bw3)
        clear rkey rval hkk hll
        obtain ⟨⟨y0, y1, y2, y3, y4⟩, g0, g1, g2, g3, g4⟩ := id pr
        go_wp2_with fail
        obtain ⟨u0, u1, u2, u3, u4⟩ := Box5.all pr.1 (.int .i64 k5) (.int .i64 n5) (.string t5) (.slice a5 m5 c5) (.slice a6 m6 c6)
        refine bodyPost_ret (v := .agg #[.int .i64 k5, .int .i64 n5, .string t5, .slice a5 m5 c5, .slice a6 m6 c6]) (by simp [results, Try.results47, go_sem, u0, u1, u2, u3, u4]) rfl ?_
        refine ⟨k5, n5, t5, a5, m5, c5, a6, m6, c6, rfl, ?_, ?_⟩
        · have kp := keeps_set5 (S := fun b => b ≠ w.heap.size + 2) (w := w3) (g := w.heap.size + 2) (o := 0) (.int .i64 k5) (.int .i64 n5) (.string t5) (.slice a5 m5 c5) (.slice a6 m6 c6) (by simp)
          have hi2 := his.weak (S' := fun b => b ≠ w.heap.size + 2 ∧ (S b ∨ w.heap.size ≤ b)) (fun b hb2 hb => by
            rcases hb with (hb | hb) | hb
            · exact ⟨by omega, .inl hb.1⟩
            · exact ⟨by omega, .inr (by omega)⟩
            · have := bk.size; have := bk2.size; exact ⟨by omega, .inr (by omega)⟩)
          exact (hi2.keep (fun b hb hl => kp b hb.1 hl)).weak (fun b _ hb => hb.2)
        · have le2 : w.heap.size ≤ w.heap.size + 2 := by omega
          exact ((((bb.setCell le2 _).setCell le2 _).setCell le2 _).setCell le2 _).setCell le2 _
    · have hje : j = m := by omega
      subst hje
      have hpj : p = j := by
        have hlen : (x.keys.take j).length = j := by rw [List.length_take]; omega
        rw [← HRO.out, V.room_miss _ key (fun i hi => by rw [hlen] at hi; rw [V.getD_take _ _ _ hi]; exact HA.out i hi), hlen]
      subst hpj
      have g0 : ∀ o, (wr.alloc o).cell? _ = _ := fun o => cell_keep y0 (below_alloc wr o)
      have g1 : ∀ o, (wr.alloc o).cell? _ = _ := fun o => cell_keep y1 (below_alloc wr o)
      have g2 : ∀ o, (wr.alloc o).cell? _ = _ := fun o => cell_keep y2 (below_alloc wr o)
      have g3 : ∀ o, (wr.alloc o).cell? _ = _ := fun o => cell_keep y3 (below_alloc wr o)
      have g4 : ∀ o, (wr.alloc o).cell? _ = _ := fun o => cell_keep y4 (below_alloc wr o)
      go_wp2_with fail
      clear g0 g1 g2 g3 g4
      clear x0 x1 x2 x3 x4 y0 y1 y2 y3 y4
      have hS : ∀ b, b < w.heap.size → S b → (S b ∧ b < w.heap.size) ∨ w.heap.size + 3 ≤ b := fun b hb hs => .inl ⟨hs, hb⟩
      have bk := below_alloc wr (.cells #[.string key] 9)
      have rkey := raw_one_str wr key (fun b => (S b ∧ b < w.heap.size) ∨ w.heap.size + 3 ≤ b) _ rfl (.inr sz)
      have bk2 := below_alloc (wr.alloc (.cells #[.string key] 9)) (.cells #[.int .i64 y.kind, .int .i64 y.num, .string y.text, .slice b1 y.keys.length d1, .slice b2 y.list.length d2] 25)
      have rval := raw_one_val (wr.alloc (.cells #[.string key] 9)) y.kind y.num y.text b1 y.keys.length d1 b2 y.list.length d2 (fun b => (S b ∧ b < w.heap.size) ∨ w.heap.size + 3 ≤ b) (wr.heap.size + 1) (by simp) (.inr (by omega))
      have hkk : Strs _ _ _ [key] := strs_of_raw (ks := [key]) (rkey.below bk2) (fun k hk => by rw [List.mem_singleton.1 hk]; exact Nat.le_trans HKEY.out (by decide))
      have hll := isL_of_raw rval (Els.one (x := y) ((HH'.out.weak hS).below (bthen bb (bthen bk bk2))))
      refine (refWith_core ((HH.out.weak hS).below (bthen bb (bthen bk bk2))) HWX.out H5.out p 0 _ _ [key] [y] hkk hll (by have := HM.out; have := HPL.out; omega) (by simp) (by simp)).mono ?_
      rintro e w3 ⟨k5, n5, t5, a5, m5, c5, a6, m6, c6, rfl, his, bw3⟩
      replace pr := pr.keep (bthen (bthen bk bk2) bw3)
      replace bb := bthen bb (bthen (bthen bk bk2) bw3)
      clear rkey rval hkk hll
      obtain ⟨⟨y0, y1, y2, y3, y4⟩, g0, g1, g2, g3, g4⟩ := id pr
      go_wp2_with fail
      obtain ⟨u0, u1, u2, u3, u4⟩ := Box5.all pr.1 (.int .i64 k5) (.int .i64 n5) (.string t5) (.slice a5 m5 c5) (.slice a6 m6 c6)
      refine bodyPost_ret (v := .agg #[.int .i64 k5, .int .i64 n5, .string t5, .slice a5 m5 c5, .slice a6 m6 c6]) (by simp [results, Try.results47, go_sem, u0, u1, u2, u3, u4]) rfl ?_
      refine ⟨k5, n5, t5, a5, m5, c5, a6, m6, c6, rfl, ?_, ?_⟩
      · have kp := keeps_set5 (S := fun b => b ≠ w.heap.size + 2) (w := w3) (g := w.heap.size + 2) (o := 0) (.int .i64 k5) (.int .i64 n5) (.string t5) (.slice a5 m5 c5) (.slice a6 m6 c6) (by simp)
        have hi2 := his.weak (S' := fun b => b ≠ w.heap.size + 2 ∧ (S b ∨ w.heap.size ≤ b)) (fun b hb2 hb => by
          rcases hb with (hb | hb) | hb
          · exact ⟨by omega, .inl hb.1⟩
          · exact ⟨by omega, .inr (by omega)⟩
          · have := bk.size; have := bk2.size; exact ⟨by omega, .inr (by omega)⟩)
        exact (hi2.keep (fun b hb hl => kp b hb.1 hl)).weak (fun b _ hb => hb.2)
      · have le2 : w.heap.size ≤ w.heap.size + 2 := by omega
        exact ((((bb.setCell le2 _).setCell le2 _).setCell le2 _).setCell le2 _).setCell le2 _

end Go.Proofs.Ytpfbiklbecdmiaa
