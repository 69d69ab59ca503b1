/-
  THE WALKS of heliastref09: how its disk lies in memory; New, Dead, Fuse, step, find, Used (layer 9).
-/
import Derived.Test.YtmbjlnnoemenoaaKLasts0
import Derived.Lib.SlBuf
set_option linter.unusedVariables false
set_option linter.unusedSimpArgs false
set_option maxRecDepth 100000
namespace Go.Proofs.Ytmbjlnnoemenoaa
open Go.RowKit Go.Maps Go.Sort Dk

abbrev st (b : Bs) : ByteArray := ⟨b.toArray⟩
theorem bs_st (b : Bs) : bs (st b) = b := rfl
theorem st_bs (s : ByteArray) : st (bs s) = s := rfl
theorem st_size (b : Bs) : (st b).size = b.length := by simp [ByteArray.size]
/-- the files as cells -/
def fcs : List (Bs × PF) → List Value
  | [] => []
  | p :: r => .string (st p.1) :: .string (st p.2.all) :: .int .i64 p.2.last :: fcs r
theorem fcs_len : ∀ fs : List (Bs × PF), (fcs fs).length = fs.length * 3
  | [] => rfl
  | p :: r => by simp only [fcs, List.length_cons, fcs_len r]; omega
theorem fcs_app : ∀ a b : List (Bs × PF), fcs (a ++ b) = fcs a ++ fcs b
  | [], _ => rfl
  | p :: r, b => by simp [fcs, fcs_app r b]
theorem fcs_get : ∀ (fs : List (Bs × PF)) (i : Nat) (h : i < fs.length), (fcs fs)[i * 3]? = some (.string (st fs[i].1)) ∧ (fcs fs)[i * 3 + 1]? = some (.string (st fs[i].2.all)) ∧ (fcs fs)[i * 3 + 2]? = some (.int .i64 fs[i].2.last)
  | [], i, h => absurd h (Nat.not_lt_zero _)
  | p :: r, 0, h => ⟨rfl, rfl, rfl⟩
  | p :: r, i + 1, h => by
    have ih := fcs_get r i (by simpa using h)
    rw [show (i + 1) * 3 = i * 3 + 3 by omega]
    exact ih
abbrev rHead (P : PD) (v : Value) (lv : Int) : Array Value := #[.int .i64 P.room, v, .bool P.fused, .int .i64 lv, .bool P.dead]
/-- the row of the files -/
abbrev FRow (w : World) (v : Value) (fs : List (Bs × PF)) : Prop := w.ownsRow 0 91 3 v fs.length (fcs fs)
structure IsR (w : World) (e : Nat) (S : Nat → Prop) (P : PD) (v : Value) (lv : Int) : Prop where
  wf : Wf P
  blk : Blk w e (rHead P v lv) 75
  left : P.fused = true → lv = P.left
  row : FRow w v P.fs
  inS : S e
  rowS : ∀ g, v.ownBlock = some g → S g
  low : ∀ k, S k → k < w.heap.size
def IsE (w : World) (e : Nat) (S : Nat → Prop) (P : PD) : Prop := ∃ v lv, IsR w e S P v lv
theorem IsR.keep {w w' : World} {e : Nat} {S S1 : Nat → Prop} {P : PD} {v : Value} {lv : Int} (h : IsR w e S P v lv) (k : Ch S1 w w') (hd : ∀ i, S i → ¬ S1 i) : IsR w' e S P v lv := by
  refine ⟨h.wf, k.kept h.blk (hd _ h.inS), h.left, ?_, h.inS, h.rowS, fun i hi => Nat.lt_of_lt_of_le (h.low i hi) k.size⟩
  refine ⟨h.row.1, ?_⟩
  rcases h.row.2 with h0 | ⟨g, cap, cur, hv, h1, h2, h3⟩
  · exact .inl h0
  · exact .inr ⟨g, cap, cur, hv, h1, k.kept h2 (hd g (h.rowS g (by rw [hv]; rfl))), h3⟩
theorem IsR.below {w w' : World} {e : Nat} {S : Nat → Prop} {P : PD} {v : Value} {lv : Int} (h : IsR w e S P v lv) (k : Below w.heap.size w w') : IsR w' e S P v lv :=
  h.keep (Ch.of_below (fun _ => False) k) (fun _ _ h => h)
theorem IsE.keep {w w' : World} {e : Nat} {S S1 : Nat → Prop} {P : PD} (h : IsE w e S P) (k : Ch S1 w w') (hd : ∀ i, S i → ¬ S1 i) : IsE w' e S P := by
  obtain ⟨v, lv, h⟩ := h; exact ⟨v, lv, h.keep k hd⟩
theorem IsE.below {w w' : World} {e : Nat} {S : Nat → Prop} {P : PD} (h : IsE w e S P) (k : Below w.heap.size w w') : IsE w' e S P := by
  obtain ⟨v, lv, h⟩ := h; exact ⟨v, lv, h.below k⟩
/-- a row's shape, where it holds something -/
theorem FRow.shape {w : World} {v : Value} {fs : List (Bs × PF)} (h : FRow w v fs) : ∃ a cap, v = .slice a fs.length cap ∧ fs.length ≤ cap ∧ cap ≤ maxLen := by
  rcases h.2 with ⟨rfl, h0⟩ | ⟨g, cap, cur, rfl, _, _, h1, h2, _⟩
  · exact ⟨none, 0, by rw [h0], by omega, by decide⟩
  · exact ⟨_, cap, rfl, h1, h2⟩
theorem FRow.at {w : World} {a : Option Addr} {n cap : Nat} {fs : List (Bs × PF)} (h : FRow w (.slice a n cap) fs) {i : Nat} (hi : i < fs.length) :
    ∃ g cur, a = some ⟨g, 0, none⟩ ∧ Blk w g cur 91 ∧ w.cell? ⟨g, i * 3, none⟩ = some (.string (st fs[i].1)) ∧ w.cell? ⟨g, i * 3 + 1, none⟩ = some (.string (st fs[i].2.all)) ∧ w.cell? ⟨g, i * 3 + 2, none⟩ = some (.int .i64 fs[i].2.last) := by
  rcases id h.2 with ⟨h1, h2⟩ | ⟨g, cap', cur, h1, _, hb, _⟩
  · omega
  · simp only [Value.slice.injEq] at h1
    obtain ⟨rfl, _, _⟩ := h1
    obtain ⟨c0, c1, c2⟩ := fcs_get fs i hi
    have e0 := h.cells (g := g) rfl _ _ c0
    have e1 := h.cells (g := g) rfl _ _ c1
    have e2 := h.cells (g := g) rfl _ _ c2
    rw [Addr.add_lit, Nat.zero_add] at e0 e1 e2
    exact ⟨g, cur, rfl, hb, e0, e1, e2⟩

set_option maxHeartbeats 1000000 in
theorem rnew_any (room : Int) (w : World) (hr : -9223372036854775808 ≤ room ∧ room < 9223372036854775808) :
    Calls Try.prog 27 #[.int .i64 room] w fun e w' => e = .returned (ptr w.heap.size) ∧ IsE w' w.heap.size (fun k => k = w.heap.size) (new room) ∧ Below w.heap.size w w' := by
  have E : Hid (max 0 (min room 4194304) = (((min (max room 0) 4194304).toNat : Nat) : Int)) := by
    show max 0 (min room 4194304) = (((min (max room 0) 4194304).toNat : Nat) : Int)
    omega
  clear hr
  go_enter Try.func27, Try.ntmps27
  go_wp2_with fail
  go_ret
  refine ⟨rfl, ⟨.slice none 0 0, 0, ⟨⟨?_, Nat.zero_le _, List.Pairwise.nil, by simp [new], Nat.zero_le _, by simp [new], by simp [new]⟩, ?_, by simp [new], World.ownsRow_nil _ _ _ _, rfl, (fun g hg => by cases hg), ?_⟩⟩, (Below.refl _ _).alloc (Nat.le_refl _) _⟩
  · simp only [new]; omega
  · have := Blk.new w #[.int .i64 (max 0 (min room 4194304)), .slice none 0 0, .bool false, .int .i64 0, .bool false] 75
    have e := E.out
    simp only [rHead, new, ← e]
    exact this
  · rintro k rfl; simp

theorem rdead_any {P : PD} {v : Value} {lv : Int} {e : Nat} {w : World} (h : Blk w e (rHead P v lv) 75) :
    Calls Try.prog 50 #[ptr e] w fun x w' => x = .returned (.bool P.dead) ∧ w' = w := by
  have c0 := h.cell 4
  simp [rHead] at c0
  go_enter Try.func50, Try.ntmps50
  go_wp2_with fail
  go_ret
  exact ⟨rfl, rfl⟩

/-- the head alone turns -/
theorem IsR.turned {w w' : World} {e : Nat} {S : Nat → Prop} {P P' : PD} {v : Value} {lv lv' : Int} (h : IsR w e S P v lv) (k : Ch (fun i => i = e) w w') (hf : P'.fs = P.fs) (hr : P'.room = P.room) (hl : P'.left < 9223372036854775808)
    (hb : Blk w' e (rHead P' v lv') 75) (hlv : P'.fused = true → lv' = P'.left) : IsR w' e S P' v lv' := by
  refine ⟨⟨hr ▸ h.wf.room, by rw [hf, hr]; exact h.wf.used, hf ▸ h.wf.rise, hf ▸ h.wf.last, hf ▸ h.wf.few, hl, hf ▸ h.wf.names⟩, hb, hlv, ?_, h.inS, h.rowS, fun i hi => Nat.lt_of_lt_of_le (h.low i hi) k.size⟩
  rw [hf]
  refine ⟨h.row.1, ?_⟩
  rcases h.row.2 with h0 | ⟨g, cap, cur, hv, h1, h2, h3⟩
  · exact .inl h0
  · exact .inr ⟨g, cap, cur, hv, h1, k.kept h2 (fun e' => ne_of_blk h2 h.blk (by decide) e'), h3⟩

set_option maxHeartbeats 1000000 in
theorem rfuse_any (P : PD) (e : Nat) (S : Nat → Prop) (n : Int) (w : World) (h : IsE w e S P) (hn : n < 9223372036854775808) :
    Calls Try.prog 44 #[ptr e, .int .i64 n] w fun x w' => x = .returned (.tuple #[]) ∧ IsE w' e S (fuse P n) ∧ Turn S w S w' := by
  obtain ⟨v, lv, h⟩ := h
  have f2 := h.blk.free 2
  have f3 := h.blk.free 3
  have c2 := h.blk.cell 2
  have c3 := h.blk.cell 3
  simp [rHead] at c2 c3
  have H := hide h
  clear h
  go_enter Try.func44, Try.ntmps44
  go_wp2_with fail
  go_end0
  have hch : Ch (fun k => k = e) w ((w.setCell ⟨e, 2, none⟩ (.bool (decide (0 ≤ n)))).setCell ⟨e, 3, none⟩ (.int .i64 n)) := (Ch.set e 2 _).trans (Ch.set e 3 _) (fun i hi => .inl hi)
  refine ⟨rfl, ⟨v, n, H.out.turned hch rfl rfl (by simp only [fuse]; omega) ?_ ?_⟩, hch.weak (fun i _ hi => hi ▸ H.out.inS), fun k hk => .inl hk⟩
  · have := (H.out.blk.set 2 (.bool (decide (0 ≤ n)))).set 3 (.int .i64 n)
    simpa [rHead, fuse] using this
  · intro hf
    simp [fuse] at hf ⊢; omega

set_option maxHeartbeats 2000000 in
theorem rstep_any (P : PD) (e : Nat) (S : Nat → Prop) (v : Value) (lv : Int) (w : World) (h : IsR w e S P v lv) (hd : P.dead = false) (ok : Bool) (hok : ok = decide (steps P 1 = 1)) :
    Calls Try.prog 59 #[ptr e] w fun x w' => x = .returned (.bool ok) ∧ (∃ lv', IsR w' e S (gone P 1) v lv') ∧ Ch (fun k => k = e) w w' := by
  have c2 := h.blk.cell 2
  have c3 := h.blk.cell 3
  have c4 := h.blk.cell 4
  have f3 := h.blk.free 3
  have f4 := h.blk.free 4
  simp [rHead] at c2 c3 c4
  have hlf := h.left
  have hl := h.wf.left
  have H := hide h
  clear h
  obtain ⟨room, fs, fused, left, dead⟩ := P
  simp only at hd hlf hl c2 c3 c4
  subst hd
  cases fused with
  | false =>
    have : ok = true := by rw [hok]; simp [steps]
    subst this
    clear hlf hok
    go_enter Try.func59, Try.ntmps59
    go_wp2_with fail
    go_ret
    exact ⟨rfl, ⟨lv, by simpa [gone, steps] using H.out⟩, Ch.refl _ _⟩
  | true =>
    have hlv := hlf rfl
    subst hlv
    by_cases hz : left = 0
    · subst hz
      have : ok = false := by rw [hok]; simp [steps]
      subst this
      clear hlf hok
      go_enter Try.func59, Try.ntmps59
      go_wp2_with fail
      go_ret
      refine ⟨rfl, ⟨0, H.out.turned (Ch.set e 4 (.bool true)) rfl rfl (by simp [gone]) ?_ (fun _ => by simp [gone])⟩, Ch.set e 4 _⟩
      have := H.out.blk.set 4 (.bool true)
      simpa [rHead, gone, steps] using this
    · have hp : 0 < left := by omega
      have hm : min left 1 = 1 := by omega
      have : ok = true := by rw [hok]; simp [steps, hm]
      subst this
      have hpi : ¬ ((left : Int) ≤ 0) := by omega
      clear hlf hok
      go_enter Try.func59, Try.ntmps59
      go_wp2_with fail
      go_ret
      refine ⟨rfl, ⟨(left : Int) - 1, H.out.turned (Ch.set e 3 (.int .i64 ((left : Int) - 1))) rfl rfl (by simp only [gone]; split <;> omega) ?_ (fun _ => by simp [gone]; omega)⟩, Ch.set e 3 _⟩
      have := H.out.blk.set 3 (.int .i64 ((left : Int) - 1))
      have e1 : ¬ min left 1 < 1 := by omega
      simpa [rHead, gone, steps, e1] using this
end Go.Proofs.Ytmbjlnnoemenoaa
