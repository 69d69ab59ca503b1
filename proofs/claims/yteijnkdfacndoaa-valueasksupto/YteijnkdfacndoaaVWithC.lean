/-
  THE WALKS over package value: With.
-/
import Derived.Test.YteijnkdfacndoaaVWithB
set_option linter.unusedVariables false
set_option linter.unusedSimpArgs false
namespace Go.Proofs.Yteijnkdfacndoaa
open Go.RowKit

/-- a slice written out, of one text -/
theorem raw_one_str (w : World) (s : ByteArray) (S : Nat → Prop) (g : Nat) (hg : g = w.heap.size) (hS : S g) : Raw (w.alloc (.cells #[.string s] 9)) S (.slice (some ⟨g, 0, none⟩) 1 1) 1 1 [.string s] := by
  subst hg
  refine ⟨_, _, rfl, Nat.le_refl _, by decide, rfl, by simp [Value.oneCell'], fun _ => ⟨_, 0, rfl, hS, fun i hi => ?_⟩⟩
  have : i = 0 := by omega
  subst this
  exact cell_new w _ _ _ rfl

/-- a slice written out, of one value -/
theorem raw_one_val (w : World) (k n : Int) (t : ByteArray) (a1 : Option Addr) (n1 c1 : Nat) (a2 : Option Addr) (n2 c2 : Nat) (S : Nat → Prop) (g : Nat) (hg : g = w.heap.size) (hS : S g) :
    Raw (w.alloc (.cells #[.int .i64 k, .int .i64 n, .string t, .slice a1 n1 c1, .slice a2 n2 c2] 25)) S (.slice (some ⟨g, 0, none⟩) 1 1) 5 1 (cellsQ [(.int .i64 k, .int .i64 n, .string t, .slice a1 n1 c1, .slice a2 n2 c2)]) := by
  subst hg
  refine ⟨_, _, rfl, Nat.le_refl _, by decide, rfl, by simp [cellsQ, five, Value.oneCell'], fun _ => ⟨_, 0, rfl, hS, fun i hi => ?_⟩⟩
  obtain ⟨h0, h1, h2, h3, h4⟩ := box5_new w (.int .i64 k) (.int .i64 n) (.string t) (.slice a1 n1 c1) (.slice a2 n2 c2) 25
  have : i = 0 ∨ i = 1 ∨ i = 2 ∨ i = 3 ∨ i = 4 := by omega
  rcases this with rfl | rfl | rfl | rfl | rfl
  · exact h0
  · exact h1
  · exact h2
  · exact h3
  · exact h4

theorem raw_nil (w : World) (S : Nat → Prop) (sz : Nat) : Raw w S (.slice none 0 0) sz 0 [] :=
  ⟨none, 0, rfl, Nat.le_refl _, by decide, by simp, by simp, fun hh => absurd hh (by simp)⟩

set_option maxHeartbeats 8000000 in
theorem with5_hit {v vy : Value} {x y : V} {w : World} {S S' : Nat → Prop} (h : Is w S v x) (h' : Is w S' vy y) (hwx : V.wt x ≤ 1000000000) (hwy : V.wt y ≤ 1000000000) (key : ByteArray) (hkey : key.size ≤ 1000000000) (h5 : x.kind = 5) (p : Nat) (hp : V.place x key = p) :
    Calls Try.prog 25 #[v, .string key, vy] w fun e w' => ∃ k n t a1 n1 c1 a2 n2 c2, e = .returned (.agg #[.int .i64 k, .int .i64 n, .string t, .slice a1 n1 c1, .slice a2 n2 c2]) ∧ Is w' (Own w' w.heap.size) (.agg #[.int .i64 k, .int .i64 n, .string t, .slice a1 n1 c1, .slice a2 n2 c2]) (V.laid x p (p + 1) [key] [y]) ∧ Below w.heap.size w w' := by
  replace h := h.weak (S' := fun b => b < w.heap.size) (fun b hb _ => hb)
  replace h' := h'.weak (S' := fun b => b < w.heap.size) (fun b hb _ => hb)
  have hpl := (V.place_lt x key (by omega)).2
  rw [hp] at hpl
  have hwl := V.wt_laid x p (p + 1) [key] [y]
  have hkl := V.klen_wt x
  obtain ⟨kv, lv, rfl, h2, h8, ht⟩ := id h.open
  obtain ⟨kvy, lvy, rfl, hy2, hy8, _⟩ := id h'.open
  obtain ⟨k, n, t, ks, l⟩ := x
  simp only at *
  subst h5
  obtain ⟨a1, c1, rfl, q1, _, hks, _⟩ := id h2
  obtain ⟨a2, c2, _, rfl, q2, _⟩ := id h8
  obtain ⟨b1, d1, rfl, _⟩ := id hy2
  obtain ⟨b2, d2, _, rfl, _⟩ := id hy8
  obtain ⟨m, hm⟩ : ∃ m, min ks.length l.length = m := ⟨_, rfl⟩
  rw [hm] at hpl
  have hpl' : p < m := by simpa using hpl
  have hm32 : m ≤ 4294967296 := by omega
  have HM := hide hm
  have HP := hide hp
  have HK := hide hks
  have HWL := hide hwl
  have HWX := hide hwx
  have HKL := hide hkl
  clear hm hp hks hwl hkl hpl hwx
  go_enter Try.func25, Try.ntmps25
  go_wp2_with fail
  refine (placeOf_any (h.below (bthen (below_alloc w _) (bthen (below_alloc _ _) (below_alloc _ _)))) key p HP.out).mono ?_
  rintro e w1 ⟨rfl, bw1⟩
  have pa : BoxF w1 w.heap.size _ _ _ _ _ := ((boxF_at w _ _ _ _ _ 25 _ rfl).keep (bthen (below_alloc _ _) (below_alloc _ _))).keep bw1
  have pb : BoxF w1 (w.heap.size + 1) _ _ _ _ _ := ((boxF_at _ _ _ _ _ _ 25 _ (by simp)).keep (below_alloc _ _)).keep bw1
  have pr : BoxF w1 (w.heap.size + 2) _ _ _ _ _ := (boxF_at _ _ _ _ _ _ 25 _ (by simp)).keep bw1
  have bb := bthen (bthen (below_alloc w _) (bthen (below_alloc _ _) (below_alloc _ _))) bw1
  have sz : w.heap.size + 3 ≤ w1.heap.size := by have := bw1.size; simpa using this
  clear bw1
  obtain ⟨⟨x0, x1, x2, x3, x4⟩, f0, f1, f2, f3, f4⟩ := id pa
  go_wp2_with fail
  refine (pairs_any _ _ _ _ _ _ _ _ _ _ q1 q2 m HM.out).mono ?_
  rintro e w2 ⟨rfl, bw2⟩
  clear x0 x1 x2 x3 x4 f0 f1 f2 f3 f4
  replace pa := pa.keep bw2
  replace pb := pb.keep bw2
  replace pr := pr.keep bw2
  replace bb := bthen bb bw2
  replace sz := Nat.le_trans sz bw2.size
  have sz2 := sz
  clear bw2
  go_wp2_with fail
  have hmk : m ≤ ks.length := by have := HM.out; omega
  have hml : m ≤ l.length := by have := HM.out; omega
  have rk : Raw w2 (fun b => b < w.heap.size) (.slice a1 m c1) 1 m ((ks.take m).map .string) := by
    have := (raw_of_strs (h2.below bb)).front hmk
    rwa [Nat.mul_one, ← List.map_take] at this
  refine (putS_any a1 m c1 _ p (p + 1) _ 1 [.string key] _ (fun _ => True) ((rk.weak (fun _ _ _ => trivial)).below (below_alloc _ _)) (raw_one_str _ key _ _ rfl trivial) (by omega) (by omega) hm32 (by decide)).mono ?_
  rintro e w3 ⟨a3, n3, c3, rfl, hr3, bw3⟩
  replace bw3 := bthen (below_alloc _ _) bw3
  replace pa := pa.keep bw3
  replace pb := pb.keep bw3
  replace pr := pr.keep bw3
  replace bb := bthen bb bw3
  replace sz := Nat.le_trans sz bw3.size
  clear bw3 rk
  obtain ⟨⟨x0, x1, x2, x3, x4⟩, f0, f1, f2, f3, f4⟩ := id pa
  have pb' := pb.other (g' := w.heap.size) (o' := 3) (by omega) (.slice a3 n3 c3)
  obtain ⟨⟨y0, y1, y2, y3, y4⟩, _⟩ := id pb'
  go_wp2_with fail
  have pa' := pa.set3 (.slice a3 n3 c3)
  have pr' := pr.other (g' := w.heap.size) (o' := 3) (by omega) (.slice a3 n3 c3)
  have bb' := below_set (o := 3) bb (Nat.le_refl _) (.slice a3 n3 c3)
  have sz' : w.heap.size + 3 ≤ (w3.setCell ⟨w.heap.size, 3, none⟩ (.slice a3 n3 c3)).heap.size := by rw [size_set]; exact sz
  have hr3' := (hr3.weak (S' := fun b => w.heap.size + 3 ≤ b) (fun b _ hb => by simp at hb; omega)).keep (keeps_set (o := 3) (g := w.heap.size) (.slice a3 n3 c3) (by omega))
  have e3 : w3.heap.size = (w3.setCell ⟨w.heap.size, 3, none⟩ (.slice a3 n3 c3)).heap.size := (size_set _ _ _).symm
  rw [e3]
  clear sz2 x0 x1 x2 x3 x4 f0 f1 f2 f3 f4 y0 y1 y2 y3 y4 pa pb pr bb hr3 sz e3
  generalize w3.setCell ⟨w.heap.size, 3, none⟩ (.slice a3 n3 c3) = W3 at *
  obtain ⟨es, rl0, hes⟩ := raw_of_isL (h8.below bb')
  have rl : Raw W3 (fun b => b < w.heap.size) (.slice a2 m c2) 5 m (cellsQ (es.take m)) := by
    have := rl0.front hml
    rwa [cellsQ_take _ _ (by rw [hes.1]; exact hml)] at this
  have hesm : (es.take m).length = m := by rw [List.length_take, hes.1]; omega
  refine (putV_any a2 m c2 _ p (p + 1) _ 1 _ _ (fun _ => True) ((rl.weak (fun _ _ _ => trivial)).below (below_alloc _ _)) (raw_one_val _ _ _ _ _ _ _ _ _ _ _ _ rfl trivial) (by omega) (by omega) hm32 (by decide)).mono ?_
  rintro e w4 ⟨a4, n4, c4, rfl, hr4, bw4⟩
  rw [cellsQ_take _ _ (by omega), cellsQ_drop _ _ (by omega), ← cellsQ_append, ← cellsQ_append] at hr4
  replace bw4 := bthen (below_alloc _ _) bw4
  have pa := pa'.keep bw4
  have pr := pr'.keep bw4
  have bb := bthen bb' bw4
  have sz := Nat.le_trans sz' bw4.size
  have hr3 := hr3'.below bw4
  have hes4 := hes.keep (Keeps.of_below bw4)
  clear pa' pb' pr' hr3' rl rl0 hes
  obtain ⟨⟨x0, x1, x2, x3, x4⟩, f0, f1, f2, f3, f4⟩ := id pa
  obtain ⟨⟨z0, z1, z2, z3, z4⟩, _⟩ := id (pa.set4 (.slice a4 n4 c4))
  go_wp2_with fail
  have pr' := pr.other (g' := w.heap.size) (o' := 4) (by omega) (.slice a4 n4 c4)
  have bb4 := below_set (o := 4) bb (Nat.le_refl _) (.slice a4 n4 c4)
  have kp : Keeps (fun b => b ≠ w.heap.size) w4 (w4.setCell ⟨w.heap.size, 4, none⟩ (.slice a4 n4 c4)) := keeps_set (o := 4) (g := w.heap.size) (.slice a4 n4 c4) (by simp)
  have sz4 : w.heap.size + 3 ≤ (w4.setCell ⟨w.heap.size, 4, none⟩ (.slice a4 n4 c4)).heap.size := by rw [size_set]; exact sz
  have hx : Is (w4.setCell ⟨w.heap.size, 4, none⟩ (.slice a4 n4 c4)) (fun _ => True) (.agg #[.int .i64 5, .int .i64 n, .string t, .slice a3 n3 c3, .slice a4 n4 c4]) (V.laid ⟨5, n, t, ks, l⟩ p (p + 1) [key] [y]) := by
    refine Is.shut (x := V.laid ⟨5, n, t, ks, l⟩ p (p + 1) [key] [y]) ?_ ?_ ht
    · have e1 : (List.map Value.string (List.take m ks)).take (p * 1) ++ [Value.string key] ++ (List.map Value.string (List.take m ks)).drop ((p + 1) * 1) = (V.splice (ks.take m) p (p + 1) [key]).map Value.string := by
        simp only [V.splice, List.map_append, List.map_take, List.map_drop, Nat.mul_one, List.map_cons, List.map_nil]
      rw [e1] at hr3
      simp only [V.laid, HM.out]
      refine strs_of_raw ((hr3.weak (S' := fun b => b ≠ w.heap.size) (fun b _ hb => by omega)).keep kp |>.weak (fun _ _ _ => trivial)) ?_
      intro u hu
      simp only [V.splice, List.mem_append, List.mem_singleton] at hu
      rcases hu with (hu | rfl) | hu
      · exact HK.out u (List.mem_of_mem_take (List.mem_of_mem_take hu))
      · exact Nat.le_trans hkey (by decide)
      · exact HK.out u (List.mem_of_mem_take (List.mem_of_mem_drop hu))
    · simp only [V.laid, HM.out]
      have hy4 : Is w4 (fun b => b < w.heap.size) (aggQ (.int .i64 y.kind, .int .i64 y.num, .string y.text, .slice b1 y.keys.length d1, .slice b2 y.list.length d2)) y := h'.below bb
      have k1 : Els w4 (fun b => b ≠ w.heap.size) (es.take m) (l.take m) := (hes4.take m).weak (fun b _ hb => Nat.ne_of_lt hb)
      have k2 := (k1.take p).append (Els.one (hy4.weak (S' := fun b => b ≠ w.heap.size) (fun b _ hb => Nat.ne_of_lt hb)))
      have k3 := k2.append (k1.drop (p + 1))
      refine isL_of_raw (Raw.weak (Raw.keep (hr4.weak (S' := fun b => b ≠ w.heap.size) (fun b _ hb => by simp at hb; omega)) kp) (fun _ _ _ => trivial)) (Els.weak (Els.keep k3 kp) (fun _ _ _ => trivial))
  clear x0 x1 x2 x3 x4 f0 f1 f2 f3 f4 z0 z1 z2 z3 z4 pa pr bb hr3 hr4 kp hes4 sz sz'
  generalize w4.setCell ⟨w.heap.size, 4, none⟩ (.slice a4 n4 c4) = W4 at *
  refine (copyF_any hx (Nat.le_trans HWL.out (by have := HWX.out; have e1 : V.wtK [key] = 1 + key.size := (by simp [V.wtK]); have e2 : V.wtL [y] = V.wt y := (by rw [V.wtL_cons, V.wtL_nil]; omega); omega))).mono ?_
  rintro e w5 ⟨k5, n5, t5, a5, m5, c5, a6, m6, c6, rfl, his, bw5⟩
  have pr := pr'.keep bw5
  obtain ⟨⟨y0, y1, y2, y3, y4⟩, g0, g1, g2, g3, g4⟩ := id pr
  go_wp2_with fail
  obtain ⟨u0, u1, u2, u3, u4⟩ := Box5.all pr.1 (.int .i64 k5) (.int .i64 n5) (.string t5) (.slice a5 m5 c5) (.slice a6 m6 c6)
  refine bodyPost_ret (v := .agg #[.int .i64 k5, .int .i64 n5, .string t5, .slice a5 m5 c5, .slice a6 m6 c6]) (by simp [results, Try.results25, go_sem, u0, u1, u2, u3, u4]) rfl ?_
  refine ⟨k5, n5, t5, a5, m5, c5, a6, m6, c6, rfl, ?_, ?_⟩
  · have kp5 := keeps5 w5 (w.heap.size + 1) (.int .i64 k5) (.int .i64 n5) (.string t5) (.slice a5 m5 c5) (.slice a6 m6 c6)
    exact (his.weak (S' := Own w5 (w.heap.size + 1 + 2)) (fun b _ hb => ⟨by have := hb.1; omega, hb.2⟩)).ownTo kp5 (fun b _ hf => ((((hf.set _ _).set _ _).set _ _).set _ _).set _ _) (by omega)
  · have le2 : w.heap.size ≤ w.heap.size + 2 := by omega
    exact (((((bthen bb4 bw5).setCell le2 _).setCell le2 _).setCell le2 _).setCell le2 _).setCell le2 _

end Go.Proofs.Yteijnkdfacndoaa
