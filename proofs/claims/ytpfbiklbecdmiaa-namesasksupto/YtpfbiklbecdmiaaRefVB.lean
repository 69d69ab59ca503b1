/-
  THE WALKS over the document's own answer for layer 2: Str, Num, Get, Without, With.
-/
import Derived.Test.YtpfbiklbecdmiaaRefV
import Derived.Test.YtpfbiklbecdmiaaWWithB
set_option linter.unusedVariables false
set_option linter.unusedSimpArgs false
namespace Go.Proofs.Ytpfbiklbecdmiaa
open Go.RowKit Go.Sort

theorem V.get_eq' (x : V) (key : ByteArray) : V.get x key = if V.place x key < 0 then none else x.list[(V.place x key).toNat]? := rfl

set_option maxHeartbeats 2000000 in
set_option maxRecDepth 100000 in
theorem refGet_all {v : Value} {x : V} {w : World} {S : Nat → Prop} (h : Is w S v x) (key : ByteArray) (hwt : V.wt x ≤ 4294967296) :
    Calls Try.prog 56 #[v, .string key] w fun e w' => ∃ k n t a1 n1 c1 a2 n2 c2 is, e = .returned (.tuple #[.agg #[.int .i64 k, .int .i64 n, .string t, .slice a1 n1 c1, .slice a2 n2 c2], .bool is]) ∧ is = (V.get x key).isSome ∧ Is w' (fun _ => True) (.agg #[.int .i64 k, .int .i64 n, .string t, .slice a1 n1 c1, .slice a2 n2 c2]) ((V.get x key).getD V.nul) ∧ Below w.heap.size w w' := by
  replace h := h.weak (S' := fun b => b < w.heap.size) (fun b hb _ => hb)
  obtain ⟨kv, lv, rfl, h2, h8, _⟩ := id h.open
  obtain ⟨a1, c1, rfl, h3, h4, _, h5⟩ := id h2
  obtain ⟨a, cap, c, rfl, h6, h7, _⟩ := id h8
  obtain ⟨p, hp⟩ : ∃ p, V.place x key = p := ⟨_, rfl⟩
  have hlen : x.list.length ≤ 4294967296 := by have := V.len_wt x; omega
  have HP := hide hp
  have H8 := hide h8
  have HH := hide h
  clear hp h5 h4 h7 h8 h2 h
  have b0 : Below w.heap.size w ((w.alloc (.cells #[.int .i64 x.kind, .int .i64 x.num, .string x.text, .slice a1 x.keys.length c1, .slice a x.list.length cap] 25)).alloc (.cells #[.int .i64 0, .int .i64 0, .string ⟨#[]⟩, .slice none 0 0, .slice none 0 0] 25)) := bthen (below_alloc _ _) (below_alloc _ _)
  have HB0 := hide b0
  clear b0
  obtain ⟨x0, x1, x2, x3, x4⟩ : Box5 ((w.alloc (.cells #[.int .i64 x.kind, .int .i64 x.num, .string x.text, .slice a1 x.keys.length c1, .slice a x.list.length cap] 25)).alloc (.cells #[.int .i64 0, .int .i64 0, .string ⟨#[]⟩, .slice none 0 0, .slice none 0 0] 25)) w.heap.size _ _ _ _ _ := (box5_new w _ _ _ _ _ 25).keep (below_alloc _ _)
  go_enter Try.func56, Try.ntmps56
  go_wp2_with fail
  clear x0 x1 x2 x3 x4
  refine (refPlace_any (HH.out.below HB0.out) hwt key p HP.out).mono ?_
  rintro e w1 ⟨rfl, b1⟩
  have q : BoxF w1 (w.heap.size + 1) _ _ _ _ _ := (boxF_at _ _ _ _ _ _ 25 _ (by simp)).keep b1
  have hbx : Box5 w1 w.heap.size _ _ _ _ _ := ((box5_new w _ _ _ _ _ 25).keep (below_alloc _ _)).keep b1
  have HQ := hide q
  have bb := bthen HB0.out b1
  have HBB := hide bb
  clear b1
  obtain ⟨⟨y0, y1, y2, y3, y4⟩, g0, g1, g2, g3, g4⟩ := id q
  clear q
  by_cases hneg : p < 0
  · clear bb
    go_wp2_with fail
    obtain ⟨u0, u1, u2, u3, u4⟩ := Box5.all HQ.out.1 (.int .i64 0) (.int .i64 0) (.string ⟨#[]⟩) (.slice none 0 0) (.slice none 0 0)
    refine bodyPost_ret (v := .tuple #[.agg #[.int .i64 0, .int .i64 0, .string ⟨#[]⟩, .slice none 0 0, .slice none 0 0], .bool false]) (by simp [results, Try.results56, go_sem, u0, u1, u2, u3, u4]) rfl ?_
    have e1 : V.get x key = none := by rw [V.get_eq', HP.out, if_pos hneg]
    rw [e1]
    exact ⟨_, _, _, _, _, _, _, _, _, _, rfl, rfl, is_plain _ _ 0 0 ⟨#[]⟩ (by decide), ((((HBB.out.setCell (Nat.le_succ _) _).setCell (Nat.le_succ _) _).setCell (Nat.le_succ _) _).setCell (Nat.le_succ _) _).setCell (Nat.le_succ _) _⟩
  · have hpl := (V.place_lt x key (by rw [HP.out]; omega)).2
    rw [HP.out] at hpl
    obtain ⟨m, hm⟩ : ∃ m : Nat, p.toNat = m := ⟨_, rfl⟩
    have hpm : p = (m : Int) := by omega
    have hml : m < x.list.length := by omega
    subst hpm
    clear hm hpl
    obtain ⟨b, off, k', n', t', a1', n1', c1', a2', n2', c2', rfl, hel, e0, e1, e2, e3, e4⟩ := isL_open H8.out bb hml
    have HEL := hide hel
    have hget : V.get x key = some x.list[m] := by rw [V.get_eq', HP.out, if_neg (by omega), Int.toNat_natCast, List.getElem?_eq_getElem hml]
    have HG := hide hget
    clear hel hget bb
    obtain ⟨x0, x1, x2, x3, x4⟩ := hbx
    go_wp2_with fail
    obtain ⟨u0, u1, u2, u3, u4⟩ := Box5.all HQ.out.1 (.int .i64 k') (.int .i64 n') (.string t') (.slice a1' n1' c1') (.slice a2' n2' c2')
    refine bodyPost_ret (v := .tuple #[.agg #[.int .i64 k', .int .i64 n', .string t', .slice a1' n1' c1', .slice a2' n2' c2'], .bool true]) (by simp [results, Try.results56, go_sem, u0, u1, u2, u3, u4]) rfl ?_
    rw [HG.out]
    refine ⟨_, _, _, _, _, _, _, _, _, _, rfl, rfl, ?_, ((((HBB.out.setCell (Nat.le_succ _) _).setCell (Nat.le_succ _) _).setCell (Nat.le_succ _) _).setCell (Nat.le_succ _) _).setCell (Nat.le_succ _) _⟩
    have kp := keeps_set5 (S := fun b => b < w.heap.size) (w := w1) (g := w.heap.size + 1) (o := 0) (.int .i64 k') (.int .i64 n') (.string t') (.slice a1' n1' c1') (.slice a2' n2' c2') (by omega)
    exact (HEL.out.keep kp).weak (fun _ _ _ => trivial)

set_option maxHeartbeats 2000000 in
set_option maxRecDepth 100000 in
/-- With of what is no object -/
theorem refWith_new {v vy : Value} {x y : V} {w : World} {S : Nat → Prop} (h : Is w S v x) (h' : Is w S vy y) (key : ByteArray) (hkey : key.size ≤ 1000000000) (h5 : x.kind ≠ 5) :
    Calls Try.prog 47 #[v, .string key, vy] w fun e w' => ∃ k n t a1 n1 c1 a2 n2 c2, e = .returned (.agg #[.int .i64 k, .int .i64 n, .string t, .slice a1 n1 c1, .slice a2 n2 c2]) ∧ Is w' (fun _ => True) (.agg #[.int .i64 k, .int .i64 n, .string t, .slice a1 n1 c1, .slice a2 n2 c2]) ⟨5, 0, ⟨#[]⟩, [key], [y]⟩ ∧ Below w.heap.size w w' := by
  replace h' := h'.weak (S' := fun b => b < w.heap.size) (fun b hb _ => hb)
  obtain ⟨kv, lv, rfl, h2, h8, _⟩ := id h.open
  obtain ⟨a1, c1, rfl, _⟩ := id h2
  obtain ⟨a, cap, c, rfl, _⟩ := id h8
  obtain ⟨kv', lv', rfl, h2', h8', _⟩ := id h'.open
  obtain ⟨b1, d1, rfl, _⟩ := id h2'
  obtain ⟨b2, d2, c', rfl, _⟩ := id h8'
  have t5 : (x.kind != 5) = true := by simpa using h5
  have HH := hide h'
  clear h h' h2 h8 h2' h8' h5
  generalize x.kind = xk at t5 ⊢
  generalize x.num = xn
  generalize x.text = xt
  generalize x.keys.length = xa
  generalize x.list.length = xb
  go_enter Try.func47, Try.ntmps47
  go_wp2_with fail
  have bw : Below w.heap.size w (((((w.alloc (.cells #[.int .i64 xk, .int .i64 xn, .string xt, .slice a1 xa c1, .slice a xb cap] 25)).alloc (.cells #[.int .i64 y.kind, .int .i64 y.num, .string y.text, .slice b1 y.keys.length d1, .slice b2 y.list.length d2] 25)).alloc (.cells #[.int .i64 5, .int .i64 0, .string ⟨#[]⟩, .slice (some ⟨w.heap.size + 1 + 1 + 1, 0, none⟩) 1 1, .slice (some ⟨w.heap.size + 1 + 1 + 1 + 1, 0, none⟩) 1 1] 25)).alloc (.cells #[.string key] 9)).alloc (.cells #[.int .i64 y.kind, .int .i64 y.num, .string y.text, .slice b1 y.keys.length d1, .slice b2 y.list.length d2] 25)) := bthen (below_alloc _ _) (bthen (below_alloc _ _) (bthen (below_alloc _ _) (bthen (below_alloc _ _) (below_alloc _ _))))
  obtain ⟨u0, u1, u2, u3, u4⟩ : Box5 (((((w.alloc (.cells #[.int .i64 xk, .int .i64 xn, .string xt, .slice a1 xa c1, .slice a xb cap] 25)).alloc (.cells #[.int .i64 y.kind, .int .i64 y.num, .string y.text, .slice b1 y.keys.length d1, .slice b2 y.list.length d2] 25)).alloc (.cells #[.int .i64 5, .int .i64 0, .string ⟨#[]⟩, .slice (some ⟨w.heap.size + 1 + 1 + 1, 0, none⟩) 1 1, .slice (some ⟨w.heap.size + 1 + 1 + 1 + 1, 0, none⟩) 1 1] 25)).alloc (.cells #[.string key] 9)).alloc (.cells #[.int .i64 y.kind, .int .i64 y.num, .string y.text, .slice b1 y.keys.length d1, .slice b2 y.list.length d2] 25)) (w.heap.size + 1 + 1) _ _ _ _ _ := ((box5_at _ _ _ _ _ _ 25 _ (by simp)).keep (below_alloc _ _)).keep (below_alloc _ _)
  refine bodyPost_ret (v := .agg #[.int .i64 5, .int .i64 0, .string ⟨#[]⟩, .slice (some ⟨w.heap.size + 1 + 1 + 1, 0, none⟩) 1 1, .slice (some ⟨w.heap.size + 1 + 1 + 1 + 1, 0, none⟩) 1 1]) (by simp [results, Try.results47, go_sem, u0, u1, u2, u3, u4]) rfl ?_
  refine ⟨_, _, _, _, _, _, _, _, _, rfl, ?_, bw⟩
  refine Is.shut (x := ⟨5, 0, ⟨#[]⟩, [key], [y]⟩) ?_ ?_ (Nat.zero_le _)
  · exact strs_of_raw (ks := [key]) ((raw_one_str (((w.alloc (.cells #[.int .i64 xk, .int .i64 xn, .string xt, .slice a1 xa c1, .slice a xb cap] 25)).alloc (.cells #[.int .i64 y.kind, .int .i64 y.num, .string y.text, .slice b1 y.keys.length d1, .slice b2 y.list.length d2] 25)).alloc (.cells #[.int .i64 5, .int .i64 0, .string ⟨#[]⟩, .slice (some ⟨w.heap.size + 1 + 1 + 1, 0, none⟩) 1 1, .slice (some ⟨w.heap.size + 1 + 1 + 1 + 1, 0, none⟩) 1 1] 25)) key (fun _ => True) _ (by simp) trivial).below (below_alloc _ _)) (fun k hk => by rw [List.mem_singleton.1 hk]; exact Nat.le_trans hkey (by decide))
  · exact isL_of_raw (raw_one_val ((((w.alloc (.cells #[.int .i64 xk, .int .i64 xn, .string xt, .slice a1 xa c1, .slice a xb cap] 25)).alloc (.cells #[.int .i64 y.kind, .int .i64 y.num, .string y.text, .slice b1 y.keys.length d1, .slice b2 y.list.length d2] 25)).alloc (.cells #[.int .i64 5, .int .i64 0, .string ⟨#[]⟩, .slice (some ⟨w.heap.size + 1 + 1 + 1, 0, none⟩) 1 1, .slice (some ⟨w.heap.size + 1 + 1 + 1 + 1, 0, none⟩) 1 1] 25)).alloc (.cells #[.string key] 9)) y.kind y.num y.text b1 y.keys.length d1 b2 y.list.length d2 (fun _ => True) _ (by simp) trivial) (Els.one (x := y) ((HH.out.weak (S' := fun _ => True) (fun _ _ _ => trivial)).below bw))

/-- With, of whatever -/
theorem refWith_all {v vy : Value} {x y : V} {w : World} {S S' : Nat → Prop} (h : Is w S v x) (h' : Is w S' vy y) (hwx : V.wt x ≤ 1000000000) (key : ByteArray) (hkey : key.size ≤ 1000000000) :
    Calls Try.prog 47 #[v, .string key, vy] w fun e w' => ∃ k n t a1 n1 c1 a2 n2 c2, e = .returned (.agg #[.int .i64 k, .int .i64 n, .string t, .slice a1 n1 c1, .slice a2 n2 c2]) ∧ Is w' (fun _ => True) (.agg #[.int .i64 k, .int .i64 n, .string t, .slice a1 n1 c1, .slice a2 n2 c2]) (V.withV x key y) ∧ Below w.heap.size w w' := by
  replace h := h.weak (S' := fun _ => True) (fun _ _ _ => trivial)
  replace h' := h'.weak (S' := fun _ => True) (fun _ _ _ => trivial)
  by_cases h5 : x.kind = 5
  · by_cases hp : 0 ≤ V.place x key
    · have e1 : V.withV x key y = V.laid x (V.place x key).toNat ((V.place x key).toNat + 1) [key] [y] := by
        unfold V.withV
        rw [if_pos h5]
        unfold V.with5
        rw [if_pos hp]
      rw [e1]
      refine (refWith_hit h h' hwx key hkey h5 (V.place x key).toNat (by omega)).mono ?_
      rintro e w' ⟨k, n, t, a1, n1, c1, a2, n2, c2, rfl, his, b⟩
      exact ⟨k, n, t, a1, n1, c1, a2, n2, c2, rfl, his.weak (fun _ _ _ => trivial), b⟩
    · have e1 : V.withV x key y = V.laid x (V.room (x.keys.take (min x.keys.length x.list.length)) key) (V.room (x.keys.take (min x.keys.length x.list.length)) key) [key] [y] := by
        unfold V.withV
        rw [if_pos h5]
        unfold V.with5
        rw [if_neg hp]
      rw [e1]
      refine (refWith_miss h h' hwx key hkey h5 _ rfl (by omega)).mono ?_
      rintro e w' ⟨k, n, t, a1, n1, c1, a2, n2, c2, rfl, his, b⟩
      exact ⟨k, n, t, a1, n1, c1, a2, n2, c2, rfl, his.weak (fun _ _ _ => trivial), b⟩
  · have e1 : V.withV x key y = ⟨5, 0, ⟨#[]⟩, [key], [y]⟩ := by
      unfold V.withV V.with5
      rw [if_neg h5]
      have : ¬ (0 : Int) ≤ V.place V.none5 key := by
        show ¬ (0 : Int) ≤ Lib.idxOfS [] key
        rw [Lib.idxOfS_nonneg_iff]
        simp
      rw [if_neg this]
      rfl
    rw [e1]
    exact refWith_new h h' key hkey h5

end Go.Proofs.Ytpfbiklbecdmiaa
