/-
  What the laws of layer 2 share: known.
-/
import Derived.Test.YteijnkdfacndoaaVWalksB
import Derived.Test.YteijnkdfacndoaaVWithE
import Derived.Test.YteijnkdfacndoaaVField
set_option linter.unusedVariables false
set_option linter.unusedSimpArgs false
namespace Go.Proofs.Yteijnkdfacndoaa
open Go.RowKit

/-- the fields of a value that is told -/
theorem Is.parts {w : World} {S : Nat → Prop} {k n : Int} {t : ByteArray} {a1 : Option Addr} {n1 c1 : Nat} {a2 : Option Addr} {n2 c2 : Nat} {x : V} (h : Is w S (.agg #[.int .i64 k, .int .i64 n, .string t, .slice a1 n1 c1, .slice a2 n2 c2]) x) :
    k = x.kind ∧ n = x.num ∧ t = x.text ∧ n1 = x.keys.length ∧ n2 = x.list.length := by
  obtain ⟨kv, lv, q, ⟨_, _, rfl, _⟩, ⟨_, _, _, rfl, _⟩, _⟩ := h.open
  simp only [Value.agg.injEq, Array.mk.injEq, List.cons.injEq, and_true, Value.int.injEq, Value.string.injEq, Value.slice.injEq, true_and] at q
  obtain ⟨q0, q1, q2, ⟨_, q3, _⟩, _, q4, _⟩ := q
  exact ⟨q0, q1, q2, q3, q4⟩

def strA : ByteArray := ⟨#[97]⟩
def strB : ByteArray := ⟨#[98]⟩
def knownV : V := ⟨5, 0, ⟨#[]⟩, [strA, strB], [⟨2, 1, ⟨#[]⟩, [], []⟩, ⟨2, 2, ⟨#[]⟩, [], []⟩]⟩

theorem V.textOk_nil (k : Int) : V.textOk k ⟨#[]⟩ = true := by unfold V.textOk; rw [Lib.toList_data]; rfl
theorem V.right_bare (k n : Int) (h0 : 0 ≤ k) (h5 : k ≤ 5) : V.right ⟨k, n, ⟨#[]⟩, [], []⟩ = V.numOk k n := by
  rw [V.right_mk]
  have e1 : V.kindOk k = true := by simp [V.kindOk, h0, h5]
  have e2 := V.textOk_nil k
  have e3 : V.keysOk k [] ([] : List V).length = true := by simp [V.keysOk, V.rises, V.risesTo]
  rw [e1, e2, e3]
  simp

theorem known_right : V.right knownV = true := by
  unfold knownV
  rw [V.right_mk]
  have e1 : V.keysOk 5 [strA, strB] 2 = true := by
    have a1 : V.utf strA = true := by unfold V.utf; rw [show Gm.checkZ strA.data.toList = -1 by decide +kernel]; rfl
    have a2 : V.utf strB = true := by unfold V.utf; rw [show Gm.checkZ strB.data.toList = -1 by decide +kernel]; rfl
    have a3 : V.less strA strB = true := by unfold V.less strA strB; rw [Lib.toList_data, Lib.toList_data]; rfl
    simp [V.keysOk, V.rises, V.risesTo, V.keyOk, a1, a2, a3]
  simp only [List.all_cons, List.all_nil, V.right_bare 2 1 (by decide) (by decide), V.right_bare 2 2 (by decide) (by decide), List.length_cons, List.length_nil]
  rw [show (0 + 1 + 1) = 2 from rfl, e1, V.textOk_nil]
  rfl
theorem known_nine : V.right ⟨9, 0, ⟨#[]⟩, [], []⟩ = false := by
  rw [V.right_mk]; rfl
theorem known_deep : V.deep knownV = 1 := by
  unfold knownV
  rw [V.deep_mk, if_pos (by decide), V.deepL_cons, V.deepL_cons, V.deepL_nil, V.deep_mk, V.deep_mk]
  rfl
theorem known_wt : V.wt knownV = 7 := by
  unfold knownV
  rw [V.wt_mk, V.wtL_cons, V.wtL_cons, V.wtL_nil, V.wt_mk, V.wt_mk]
  rfl
theorem known_placeB : V.place knownV strB = 1 := by
  have := Lib.idxOfS_hit [strA, strB] 2 1 strB (by decide) (by decide) rfl (fun j hj => by
    have : j = 0 := by omega
    subst this
    show strA ≠ strB
    decide)
  exact this
theorem known_placeA : V.place knownV strA = 0 := by
  have := Lib.idxOfS_hit [strA, strB] 2 0 strA (by decide) (by decide) rfl (fun j hj => absurd hj (Nat.not_lt_zero _))
  exact this

theorem known_is (w : World) (S : Nat → Prop) (h0 : S w.heap.size) (h1 : S (w.heap.size + 1)) (g : Nat) (hg : g = w.heap.size + 1) :
    Is ((w.alloc (.cells #[.string ⟨#[97]⟩, .string ⟨#[98]⟩] 9)).alloc (.cells #[.int .i64 2, .int .i64 1, .string ⟨#[]⟩, .slice none 0 0, .slice none 0 0, .int .i64 2, .int .i64 2, .string ⟨#[]⟩, .slice none 0 0, .slice none 0 0] 25)) S
      (.agg #[.int .i64 5, .int .i64 0, .string ⟨#[]⟩, .slice (some ⟨w.heap.size, 0, none⟩) 2 2, .slice (some ⟨g, 0, none⟩) 2 2]) knownV := by
  subst hg
  refine Is.shut (x := knownV) ?_ ?_ (by decide)
  · have hr := Row.cells (row_new w #[.string ⟨#[97]⟩, .string ⟨#[98]⟩] 9 _ rfl) h0 (n := 2) (Nat.le_refl _)
    refine Strs.below ⟨_, _, rfl, Nat.le_refl _, by decide, ?_, hr.congr ?_⟩ (below_alloc _ _)
    · intro k hk
      have : k = strA ∨ k = strB := by simpa [knownV] using hk
      rcases this with rfl | rfl <;> decide
    · intro i hi
      have : i = 0 ∨ i = 1 := by have h2 : i < 2 := hi; omega
      rcases this with rfl | rfl <;> rfl
  · have hr := Row.cells (row_new (w.alloc (.cells #[.string ⟨#[97]⟩, .string ⟨#[98]⟩] 9)) #[.int .i64 2, .int .i64 1, .string ⟨#[]⟩, .slice none 0 0, .slice none 0 0, .int .i64 2, .int .i64 2, .string ⟨#[]⟩, .slice none 0 0, .slice none 0 0] 25 (w.heap.size + 1) (by simp)) h1 (n := 10) (Nat.le_refl _)
    refine ⟨_, _, _, rfl, Nat.le_refl _, by decide, hr, ?_⟩
    intro i hi
    have : i = 0 ∨ i = 1 := by have h2 : i < 2 := hi; omega
    rcases this with rfl | rfl
    · exact is_plain _ _ 2 1 ⟨#[]⟩ (by decide)
    · exact is_plain _ _ 2 2 ⟨#[]⟩ (by decide)

set_option maxHeartbeats 4000000 in
theorem known_any (w : World) :
    Calls Try.prog 13 #[] w fun e w' => e = .returned (.bool true) ∧ Below w.heap.size w w' := by
  go_enter Try.func13, Try.ntmps13
  go_wp2_with fail
  have his := known_is w (fun _ => True) trivial trivial _ rfl
  refine (get_some (his.below (below_alloc _ _)) strB 1 known_placeB (by decide) (by rw [known_wt]; decide)).mono ?_
  rintro e w1 ⟨k2, n2, t2, a3, m3, c3, a4, m4, c4, rfl, hg, b1⟩
  obtain ⟨rfl, rfl, rfl, rfl, rfl⟩ := hg.parts
  have bx : Box5 w1 (w.heap.size + 1 + 1) _ _ _ _ _ := (box5_at _ _ _ _ _ _ 25 _ (by simp)).keep b1
  have bw : Below w.heap.size w w1 := bthen (bthen (below_alloc _ _) (bthen (below_alloc _ _) (below_alloc _ _))) b1
  have hk : Is w1 (fun _ => True) _ knownV := (his.below (below_alloc _ _)).below b1
  clear b1 his
  have hn : (knownV.list[1]'(by decide)).num = 2 := rfl
  rw [hn]
  generalize (knownV.list[1]'(by decide)).kind = zk
  generalize (knownV.list[1]'(by decide)).text = zt
  generalize (knownV.list[1]'(by decide)).keys.length = zn
  generalize (knownV.list[1]'(by decide)).list.length = zm
  obtain ⟨x0, x1, x2, x3, x4⟩ := id bx
  have g0 : ∀ o, (w1.alloc o).cell? _ = _ := fun o => cell_keep x0 (below_alloc w1 o)
  have g1 : ∀ o, (w1.alloc o).cell? _ = _ := fun o => cell_keep x1 (below_alloc w1 o)
  have g2 : ∀ o, (w1.alloc o).cell? _ = _ := fun o => cell_keep x2 (below_alloc w1 o)
  have g3 : ∀ o, (w1.alloc o).cell? _ = _ := fun o => cell_keep x3 (below_alloc w1 o)
  have g4 : ∀ o, (w1.alloc o).cell? _ = _ := fun o => cell_keep x4 (below_alloc w1 o)
  clear x0 x1 x2 x3 x4 hn hg
  go_wp2_with fail
  refine (right_any (hk.below (below_alloc _ _)) (by rw [known_wt]; decide) true known_right).mono ?_
  rintro e w2 ⟨rfl, b2⟩
  replace b2 := bthen (below_alloc _ _) b2
  clear g0 g1 g2 g3 g4
  replace bx := bx.keep b2
  replace bw := bthen bw b2
  replace hk := hk.below b2
  clear b2
  go_wp2_with fail
  refine (right_any (is_plain _ (fun _ => True) 9 0 ⟨#[]⟩ (by decide)) (by rw [V.wt_mk]; decide) false known_nine).mono ?_
  rintro e w3 ⟨rfl, b2⟩
  replace bx := bx.keep b2
  replace bw := bthen bw b2
  replace hk := hk.below b2
  clear b2
  obtain ⟨x0, x1, x2, x3, x4⟩ := id bx
  go_wp2_with fail
  refine (deep_any hk (by rw [known_wt]; decide) 1 known_deep).mono ?_
  rintro e w4 ⟨rfl, b2⟩
  clear x0 x1 x2 x3 x4
  replace bx := bx.keep b2
  replace bw := bthen bw b2
  replace hk := hk.below b2
  clear b2
  obtain ⟨x0, x1, x2, x3, x4⟩ := id bx
  go_wp2_with fail
  refine (without_hit hk (by rw [known_wt]; decide) strA 0 known_placeA).mono ?_
  rintro e w5 ⟨k2, n2, t2, a3, m3, c3, a4, m4, c4, rfl, hg, b2⟩
  obtain ⟨rfl, rfl, rfl, rfl, rfl⟩ := hg.parts
  have hl : (V.laid knownV 0 (0 + 1) [] []).keys.length = 1 := rfl
  rw [hl]
  clear x0 x1 x2 x3 x4 hl hg
  generalize (V.laid knownV 0 (0 + 1) [] []).kind = zk
  generalize (V.laid knownV 0 (0 + 1) [] []).num = zq
  generalize (V.laid knownV 0 (0 + 1) [] []).text = zt
  generalize (V.laid knownV 0 (0 + 1) [] []).list.length = zm
  go_wp2

  go_ret
  exact ⟨rfl, bthen bw b2⟩

end Go.Proofs.Yteijnkdfacndoaa
