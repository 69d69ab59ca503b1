/-
  What the laws call (layer 10): known, same, and the calls of frame with their results as variables.
-/
import Derived.Test.YtgfjpbiioaahhaaFAll
set_option linter.unusedVariables false
set_option linter.unusedSimpArgs false
set_option maxRecDepth 100000
namespace Go.Proofs.Ytgfjpbiioaahhaa
open Go.RowKit Fr

theorem frame_is (w : World) (s F : ByteArray) (hs : s.size ≤ 1152921504606846976) (hF : F = strOf (fr (bs s))) : Calls Try.prog 14 #[.string s] w fun e w' => e = .returned (.string F) ∧ Below w.heap.size w w' := by
  subst hF
  exact frame_any w s hs
theorem sum_is (w : World) (s : ByteArray) (q : Nat) (hs : s.size ≤ 1152921504606846976) (hq : q = sum (bs s)) : Calls Try.prog 12 #[.string s] w fun e w' => e = .returned (u32v q) ∧ Below w.heap.size w w' := by
  subst hq
  exact sum_any w s hs
theorem next_some (w : World) (s B : ByteArray) (b : Bs) (n : Int) (hs : s.size ≤ 1000000000) (h : nx (bs s) = some b) (hB : B = strOf b) (hn : n = 8 + (b.length : Int)) : Calls Try.prog 18 #[.string s] w fun e w' => e = .returned (.tuple #[.string B, .int .i64 n]) ∧ Below w.heap.size w w' := by
  refine (next_any2 w s hs).mono ?_
  rintro e w' ⟨⟨b', h', rfl⟩ | ⟨h', _⟩, k⟩
  · rw [h] at h'
    cases h'
    subst hB
    subst hn
    exact ⟨rfl, k⟩
  · rw [h] at h'
    cases h'
theorem next_none (w : World) (s : ByteArray) (hs : s.size ≤ 1000000000) (h : nx (bs s) = none) : Calls Try.prog 18 #[.string s] w fun e w' => e = .returned (.tuple #[.string ⟨#[]⟩, .int .i64 0]) ∧ Below w.heap.size w w' := by
  refine (next_any2 w s hs).mono ?_
  rintro e w' ⟨⟨b', h', rfl⟩ | ⟨h', rfl⟩, k⟩
  · rw [h] at h'
    cases h'
  · exact ⟨rfl, k⟩
theorem all_is (w : World) (s : ByteArray) (AL : List Bs) (k : Nat) (hs : s.size ≤ 1000000000) (hA : AL = all (bs s)) (hk : k = took AL) :
    Calls Try.prog 16 #[.string s] w fun e w' => ∃ v, e = .returned (.tuple #[v, .int .i64 (k : Int)]) ∧ Strs w.heap.size w' v AL ∧ Below w.heap.size w w' := by
  subst hk
  subst hA
  exact all_any w s hs

set_option maxHeartbeats 1000000 in
theorem known_any (w : World) : Calls Try.prog 10 #[] w fun e w' => e = .returned (.bool true) ∧ Below w.heap.size w w' := by
  have h1 : 3808858755 = sum (bs ⟨#[49, 50, 51, 52, 53, 54, 55, 56, 57]⟩) := by decide +kernel
  obtain ⟨F, hF⟩ : ∃ F, F = strOf (fr (bs ⟨#[97]⟩)) := ⟨_, rfl⟩
  have hFs : F.size = 9 := by rw [hF]; decide +kernel
  have H1 := hide h1
  have HF := hide hF
  clear h1 hF
  obtain ⟨q, hq⟩ : ∃ q : Nat, q = 3808858755 := ⟨_, rfl⟩
  have HQ : Hid (q = sum (bs ⟨#[49, 50, 51, 52, 53, 54, 55, 56, 57]⟩)) := by show q = _; rw [hq]; exact H1.out
  have hqi : ((q : Int) == 3808858755) = true := by rw [hq]; decide
  have hqd : decide ((q : Int) = 3808858755) = true := by rw [hq]; decide
  have hqe : (q : Int) = 3808858755 := by rw [hq]; rfl
  clear hq H1
  go_enter Try.func10, Try.ntmps10
  go_wp2_with (go_at_call 12; refine (sum_is _ _ q (by decide) HQ.out).mono ?_; rintro e w1 ⟨rfl, b1⟩)
  go_wp2_with (go_at_call 14; refine (frame_is _ _ F (by decide) HF.out).mono ?_; rintro e w2 ⟨rfl, b2⟩)
  go_ret
  exact ⟨rfl, bthen b1 b2⟩

/-- strings that may be read -/
def SV (w : World) (v : Value) (l : List Bs) : Prop := ∃ a cap, v = .slice a l.length cap ∧ l.length ≤ cap ∧ (0 < l.length → ∃ b o, a = some ⟨b, o, none⟩ ∧ ∀ j (h : j < l.length), w.cell? ⟨b, o + j, none⟩ = some (.string (strOf l[j])))
theorem Strs.view {base : Nat} {w : World} {v : Value} {l : List Bs} (h : Strs base w v l) : SV w v l := by
  rcases h.2 with ⟨rfl, h2⟩ | ⟨g, cap, cur, rfl, _, hh, hc, _, _, ht⟩
  · exact ⟨none, 0, by rw [h2], by rw [h2]; exact Nat.le_refl _, fun hp => by omega⟩
  · refine ⟨_, cap, rfl, hc, fun _ => ⟨g, 0, rfl, fun j hj => ?_⟩⟩
    have hb : Blk w g cur 9 := hh
    rw [hb.cell]
    have e : (cur.toList.take (l.length * 1))[j]? = (strs l)[j]? := by rw [ht]
    rw [List.getElem?_take_of_lt (by omega)] at e
    simpa [hj] using e
theorem SV.later {w w' : World} {v : Value} {l : List Bs} (h : SV w v l) (k : Below w.heap.size w w') : SV w' v l := by
  obtain ⟨a, cap, h1, h2, h3⟩ := h
  refine ⟨a, cap, h1, h2, fun hp => ?_⟩
  obtain ⟨b, o, hb, hc⟩ := h3 hp
  exact ⟨b, o, hb, fun j hj => (k.cell (p := ⟨b, o + j, none⟩) (block_lt_of_cell (hc j hj))).trans (hc j hj)⟩
set_option maxHeartbeats 1000000 in
theorem same_true (w : World) (v1 v2 : Value) (l : List Bs) (h1 : SV w v1 l) (h2 : SV w v2 l) (hl : l.length ≤ 1000000000000) :
    Calls Try.prog 17 #[v1, v2] w fun e w' => e = .returned (.bool true) ∧ ∃ n, w' = w.drewN n := by
  obtain ⟨a1, c1, rfl, hc1, r1⟩ := h1
  obtain ⟨a2, c2, rfl, hc2, r2⟩ := h2
  have HR1 := hide r1
  have HR2 := hide r2
  obtain ⟨n, hn⟩ : ∃ n, n = l.length := ⟨_, rfl⟩
  rw [← hn] at hc1 hc2 hl ⊢
  have HN := hide hn
  clear r1 r2 hn
  go_enter Try.func17, Try.ntmps17
  go_wp2_with fail
  go_loopw [5] (fun i wr => ∃ k j : Nat, k ≤ n ∧ i = .int .i64 k ∧ wr = w.drewN j) (fun i _ => n - (intOf i).toNat)
  case atStart => exact ⟨0, 0, by omega, rfl, rfl⟩
  case round =>
    obtain ⟨k, j, hk, rfl, rfl⟩ := hrel
    by_cases hlt : k < n
    · have hkl : k < l.length := by rw [← HN.out]; exact hlt
      obtain ⟨b1, o1, rfl, q1⟩ := HR1.out (by omega)
      obtain ⟨b2, o2, rfl, q2⟩ := HR2.out (by omega)
      obtain ⟨S, hS⟩ : ∃ S, S = strOf l[k] := ⟨_, rfl⟩
      have x1 : w.cell? ⟨b1, o1 + k, none⟩ = some (.string S) := by rw [hS]; exact q1 k hkl
      have x2 : w.cell? ⟨b2, o2 + k, none⟩ = some (.string S) := by rw [hS]; exact q2 k hkl
      clear q1 q2 hS hkl
      go_wp2_with fail
      go_quiet (fail)
      go_wp2_with fail
      go_roundw
      case rel => exact ⟨k + 1, _, by omega, by go_num, rfl⟩
      case measure => simp [intOf]; omega
    · go_wp2_with fail
      go_ret
      exact ⟨rfl, _, rfl⟩
end Go.Proofs.Ytgfjpbiioaahhaa
