/-
  Arguments opened: a list of strings that came in, each one's length by the form's reach; THE WALK of asks (layer 10).
-/
import Derived.Test.YtgfjpbiioaahhaaFLaw
import Derived.ProofKit
import Derived.OpenShut
import Derived.ShutString
import Derived.ChangeOld
import Derived.Below
import Derived.SizedLaws
set_option linter.unusedVariables false
set_option linter.unusedSimpArgs false
set_option maxRecDepth 100000
namespace Go.Proofs.Ytgfjpbiioaahhaa
open Go.ChangeShapes Go.WideShapes Go.ChangeAt Go.RowKit Fr

theorem pick_all {α : Type} {P : Nat → α → Prop} : ∀ n, (∀ i, i < n → ∃ y, P i y) → ∃ l : List α, l.length = n ∧ ∀ i (h : i < l.length), P i l[i]
  | 0, _ => ⟨[], rfl, fun i h => by simp at h⟩
  | n + 1, h => by
    obtain ⟨l, hl, hp⟩ := pick_all n (fun i hi => h i (by omega))
    obtain ⟨y, hy⟩ := h n (by omega)
    refine ⟨l ++ [y], by simp [hl], fun i hi => ?_⟩
    by_cases hin : i < l.length
    · rw [List.getElem_append_left hin]
      exact hp i hin
    · have : i = n := by simp at hi; omega
      subst this
      rw [List.getElem_append_right (by omega)]
      simpa [hl] using hy
theorem weight_in {H : Type} {P : Program} {e : TypeId} {n : Nat} {d : DataW H} (h : n ∈ d.weights P e) : ∀ l : List (DataW H), d ∈ l → n ∈ DataW.weightsAll P e l
  | [], hd => by cases hd
  | x :: r, hd => by
    simp only [DataW.weightsAll, List.mem_append]
    rcases List.mem_cons.1 hd with rfl | hd
    · exact .inl h
    · exact .inr (weight_in h r hd)
theorem strs_open {H : Type} {enc : TypeId × Value → H} {W : World} {fuel : Nat} {cs : List Value} {x : DataW H × List MemPlace} (h : DataW.trod enc Try.prog W 0 (fun _ => true) true fuel 22 cs = some x) :
    ∃ v l, cs = [v] ∧ SV W v l ∧ ∀ y ∈ l, y.length ∈ x.1.weights Try.prog 22 := by
  rcases DataW.trod_slice Try.underlying22 h with ⟨rfl, rfl⟩ | ⟨a, len, cap, elems, rest, m, rfl, rfl, rfl, hb, hlc, hcm, hel, hcel, _, _⟩
  · exact ⟨_, [], rfl, ⟨none, 0, rfl, Nat.le_refl _, fun h => by simp at h⟩, (fun y hy => by cases hy)⟩
  · have h4 : Try.prog.cellsOf 9 = 1 := by kernel_rfl
    rw [h4] at hcel
    have each : ∀ i, i < len → ∃ y : Bs, (∃ h : i < elems.length, y.length ∈ elems[i].1.weights Try.prog 9) ∧ W.cells? 0 (a.add (i * 1)) 1 = some [.string (strOf y)] := by
      intro i hi
      have h1 := hcel i hi
      rw [List.getElem?_eq_getElem (by omega), Option.bind_eq_some_iff] at h1
      obtain ⟨cs', hcs, hy⟩ := h1
      obtain ⟨kb, rfl, hd, w3⟩ := DataW.trod_string Try.underlying9 hy
      refine ⟨bs kb, ⟨by omega, ?_⟩, by rw [strOf_bs]; exact hcs⟩
      rw [hd]
      simp [DataW.weights, Try.underlying9, bs_length]
    obtain ⟨l, hll, hp⟩ := pick_all len each
    refine ⟨_, l, by rw [← hll], ⟨some a, cap, rfl, by omega, fun hpos => ?_⟩, fun y hy => ?_⟩
    · obtain ⟨b, off, spot⟩ := a
      have hspot : spot = none := by
        obtain ⟨_, hcs0⟩ := hp 0 (by omega)
        have g0 := (World.cells?_some hcs0).2.2 0 (by omega)
        simpa [Addr.add] using World.cell?_spot g0
      subst hspot
      refine ⟨b, off, rfl, fun i hi => ?_⟩
      obtain ⟨_, hcs⟩ := hp i hi
      have g := (World.cells?_some hcs).2.2 0 (by omega)
      rw [Addr.add_lit, Addr.add_lit] at g
      simpa using g
    · obtain ⟨i, hi, rfl⟩ := List.mem_iff_getElem.1 hy
      obtain ⟨⟨h9, hw⟩, _⟩ := hp i hi
      simp only [DataW.weights, Try.underlying22, List.mem_cons, List.mem_append]
      exact .inr (.inl (weight_in hw _ (List.mem_map.2 ⟨_, List.getElem_mem h9, rfl⟩)))

theorem rnext_some (w : World) (s B : ByteArray) (b : Bs) (n : Int) (hs : s.size ≤ 1000000000) (h : nx (bs s) = some b) (hB : B = strOf b) (hn : n = 8 + (b.length : Int)) : Calls Try.prog 27 #[.string s] w fun e w' => e = .returned (.tuple #[.string B, .int .i64 n]) ∧ Below w.heap.size w w' := by
  refine (rnext_any w s (by omega)).mono ?_
  rintro e w' ⟨⟨b', h', rfl⟩ | ⟨h', _⟩, k⟩
  · rw [h] at h'
    cases h'
    subst hB
    subst hn
    exact ⟨rfl, k⟩
  · rw [h] at h'
    cases h'
theorem rnext_none (w : World) (s : ByteArray) (hs : s.size ≤ 1000000000) (h : nx (bs s) = none) : Calls Try.prog 27 #[.string s] w fun e w' => e = .returned (.tuple #[.string ⟨#[]⟩, .int .i64 0]) ∧ Below w.heap.size w w' := by
  refine (rnext_any w s (by omega)).mono ?_
  rintro e w' ⟨⟨b', h', rfl⟩ | ⟨h', rfl⟩, k⟩
  · rw [h] at h'
    cases h'
  · exact ⟨rfl, k⟩
theorem rall_is (w : World) (s : ByteArray) (AL : List Bs) (k : Nat) (hs : s.size ≤ 1000000000) (hA : AL = all (bs s)) (hk : k = took AL) :
    Calls Try.prog 28 #[.string s] w fun e w' => ∃ v, e = .returned (.tuple #[v, .int .i64 (k : Int)]) ∧ Strs w.heap.size w' v AL ∧ Below w.heap.size w w' := by
  subst hk
  subst hA
  exact rall_any w s hs

set_option maxHeartbeats 400000 in
theorem asks_any (w : World) (s : ByteArray) (hs : s.size ≤ 1000000000) : Calls Try.prog 15 #[.string s] w fun e w' => e = .returned (.bool true) ∧ Below w.heap.size w w' := by
  obtain ⟨A, hA⟩ : ∃ A, A = all (bs s) := ⟨_, rfl⟩
  obtain ⟨k, hk⟩ : ∃ k, k = took A := ⟨_, rfl⟩
  have hl : A.length ≤ 1000000000000 := by
    have := all_length (bs s)
    rw [← hA, bs_length] at this
    omega
  have HA := hide hA
  have HK := hide hk
  have HL := hide hl
  clear hA hk hl
  cases hnx : nx (bs s) with
  | none =>
    have HN := hide hnx
    clear hnx
    go_enter Try.func15, Try.ntmps15
    go_wp2_with (go_at_call 18; refine (next_none _ s hs HN.out).mono ?_; rintro e w1 ⟨rfl, b1⟩)
    go_wp2_with (go_at_call 27; refine (rnext_none _ s hs HN.out).mono ?_; rintro e w2 ⟨rfl, b2⟩)
    go_wp2_with (go_at_call 16; refine (all_is _ s A k hs HA.out HK.out).mono ?_; rintro e w3 ⟨v1, rfl, hs3, b3⟩)
    go_wp2_with (go_at_call 28; refine (rall_is _ s A k hs HA.out HK.out).mono ?_; rintro e w4 ⟨v2, rfl, hs4, b4⟩)
    have HS3 := hide (hs3.later b4).view
    have HS4 := hide hs4.view
    obtain ⟨x1, c1, rfl⟩ := hs3.shape
    obtain ⟨x2, c2, rfl⟩ := hs4.shape
    have HB4 := hide (bthen (bthen (bthen b1 b2) b3) b4)
    clear hs3 hs4 b1 b2 b3 b4
    go_wp2_with (go_at_call 17; refine (same_true _ _ _ A HS3.out HS4.out HL.out).mono ?_; rintro e w5 ⟨rfl, n5, rfl⟩)
    go_ret
    exact ⟨rfl, below_drewN HB4.out _⟩
  | some b =>
    obtain ⟨B, hB⟩ : ∃ B, B = strOf b := ⟨_, rfl⟩
    obtain ⟨n, hn⟩ : ∃ n : Int, n = 8 + (b.length : Int) := ⟨_, rfl⟩
    have HN := hide hnx
    have HB := hide hB
    have Hn := hide hn
    clear hnx hB hn
    go_enter Try.func15, Try.ntmps15
    go_wp2_with (go_at_call 18; refine (next_some _ s B b n hs HN.out HB.out Hn.out).mono ?_; rintro e w1 ⟨rfl, b1⟩)
    go_wp2_with (go_at_call 27; refine (rnext_some _ s B b n hs HN.out HB.out Hn.out).mono ?_; rintro e w2 ⟨rfl, b2⟩)
    go_wp2_with (go_at_call 16; refine (all_is _ s A k hs HA.out HK.out).mono ?_; rintro e w3 ⟨v1, rfl, hs3, b3⟩)
    go_wp2_with (go_at_call 28; refine (rall_is _ s A k hs HA.out HK.out).mono ?_; rintro e w4 ⟨v2, rfl, hs4, b4⟩)
    have HS3 := hide (hs3.later b4).view
    have HS4 := hide hs4.view
    obtain ⟨x1, c1, rfl⟩ := hs3.shape
    obtain ⟨x2, c2, rfl⟩ := hs4.shape
    have HB4 := hide (bthen (bthen (bthen b1 b2) b3) b4)
    clear hs3 hs4 b1 b2 b3 b4
    go_wp2_with (go_at_call 17; refine (same_true _ _ _ A HS3.out HS4.out HL.out).mono ?_; rintro e w5 ⟨rfl, n5, rfl⟩)
    go_ret
    exact ⟨rfl, below_drewN HB4.out _⟩
end Go.Proofs.Ytgfjpbiioaahhaa
