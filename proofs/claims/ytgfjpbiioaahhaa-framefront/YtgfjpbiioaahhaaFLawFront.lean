/-
  THE WALK of FrameFront (layer 10).
-/
import Derived.Test.YtgfjpbiioaahhaaFLaw
set_option linter.unusedVariables false
set_option linter.unusedSimpArgs false
set_option maxRecDepth 100000
namespace Go.Proofs.Ytgfjpbiioaahhaa
open Go.RowKit Fr

def cutA (a : Option Addr) (m cap : Nat) : Option Addr := if cap = m then a else a.map (·.add m)
theorem run_slice_one (w : World) (a : Option Addr) (len cap : Nat) (hm : 1 ≤ len) (hl : len ≤ cap) : (Instr.sliceAt 22 (.slice a len cap) (some (.int .i64 1)) none none).run Try.prog w = .ok (.slice (cutA a 1 cap) (len - 1) (cap - 1)) w := by
  have hu : (Try.prog.underlying 22) = some (.slice 9) := Try.underlying22
  have hs : (sizeOf 9).run Try.prog w = .ok 1 w := by
    cases hq : Try.prog.info? 9 with
    | none => have := infoStr; simp [hq] at this
    | some j =>
      have hj : j.size = 1 := by have := infoStr; simp [hq] at this; exact this.2.1
      simp [sizeOf, typeInfo, hq, hj]
  have h1 : (1 : Int) ≤ len := by omega
  simp [Instr.sliceAt, Instr.slice, run_underlying hu, Instr.sliceBounds, run_sliceBound, hs, h1, cutA]
theorem SV.tail {w : World} {a : Option Addr} {cap : Nat} {x : Bs} {l : List Bs} (h : SV w (.slice a (l.length + 1) cap) (x :: l)) : SV w (.slice (cutA a 1 cap) l.length (cap - 1)) l ∧ ∃ b o, a = some ⟨b, o, none⟩ ∧ w.cell? ⟨b, o, none⟩ = some (.string (strOf x)) ∧ l.length + 1 ≤ cap := by
  obtain ⟨a', c', e, h2, h3⟩ := h
  cases e
  obtain ⟨b, o, rfl, hc⟩ := h3 (by simp)
  have h0 := hc 0 (by simp)
  refine ⟨⟨_, _, rfl, by simp at h2; omega, fun hp => ?_⟩, b, o, rfl, by simpa using h0, by simpa using h2⟩
  have hcap : ¬ cap = 1 := by simp at h2; omega
  refine ⟨b, o + 1, by unfold cutA; rw [if_neg hcap, Option.map_some, Addr.add_lit], fun j hj => ?_⟩
  have := hc (j + 1) (by simp; omega)
  simp only [List.getElem_cons_succ] at this
  rw [Nat.add_assoc, Nat.add_comm 1 j]
  exact this

set_option maxHeartbeats 1000000 in
theorem frameFront_walk (a0 a1 : ByteArray) (w0 : a0.size ≤ 140737488355328) (w1 : a1.size ≤ 140737488355328) (w : World) :
    Calls Try.prog 8 #[.string a0, .string a1] w fun e w' => e = .returned (.bool true) ∧ Below w.heap.size w w' := by
  by_cases hbig : a0.size + a1.size ≤ 300
  · have h0 : a0.size ≤ 300 := by omega
    have h1 : a1.size ≤ 300 := by omega
    have hb0 : (bs a0).length ≤ most := by rw [bs_length]; unfold most; omega
    obtain ⟨F, hF⟩ : ∃ F, F = strOf (fr (bs a0)) := ⟨_, rfl⟩
    have hFs : F.size = a0.size + 8 := by rw [hF]; show (fr (bs a0)).length = _; rw [fr_length hb0, bs_length]
    obtain ⟨T, hT⟩ : ∃ T, T = F ++ a1 := ⟨_, rfl⟩
    have hTb : bs T = fr (bs a0) ++ bs a1 := by rw [hT, bs_append, hF]
    have hTs : T.size ≤ 1000000000 := by rw [← bs_length, hTb, List.length_append, fr_length hb0, bs_length, bs_length]; omega
    have hnx : nx (bs T) = some (bs a0) := by rw [hTb]; exact nx_fr hb0 _
    obtain ⟨A2, hA2⟩ : ∃ A, A = all (bs a1) := ⟨_, rfl⟩
    obtain ⟨k2, hk2⟩ : ∃ k, k = took A2 := ⟨_, rfl⟩
    have hA1 : bs a0 :: A2 = all (bs T) := by rw [hTb, all_fr hb0, hA2]
    have hk1 : F.size + k2 = took (bs a0 :: A2) := by
      rw [hk2, hFs]
      simp [took, bs_length]
      omega
    have hl2 : A2.length ≤ 300 := by
      have := all_length (bs a1)
      rw [← hA2, bs_length] at this
      omega
    have hk2l : k2 ≤ 300 := by
      have := all_took (bs a1)
      rw [← hA2, ← hk2, bs_length] at this
      omega
    have hn : (F.size : Int) = 8 + ((bs a0).length : Int) := by rw [hFs, bs_length]; omega
    have hcat : ¬ 9223372036854775807 < F.size + a1.size := by omega
    have HF := hide hF
    have HT := hide hT
    have HTs := hide hTs
    have HNX := hide hnx
    have HA2 := hide hA2
    have HK2 := hide hk2
    have HA1 := hide hA1
    have HK1 := hide hk1
    have HN := hide hn
    have hFs2 : F.size ≤ 308 := by omega
    have HFS := hide hFs
    clear hF hT hTb hTs hnx hA2 hk2 hA1 hk1 hn hb0 hFs
    go_enter Try.func8, Try.ntmps8
    go_wp2_with (go_at_call 14; refine (frame_is _ a0 F (by omega) HF.out).mono ?_; rintro e w1 ⟨rfl, b1⟩)
    rw [← HT.out]
    refine (next_some _ T a0 (bs a0) F.size HTs.out HNX.out (strOf_bs a0).symm HN.out).mono ?_
    rintro e w2 ⟨rfl, b2⟩
    go_wp2_with fail
    rw [← HT.out]
    refine (all_is _ T (bs a0 :: A2) (F.size + k2) HTs.out HA1.out HK1.out).mono ?_
    rintro e w3 ⟨v1, rfl, hs3, b3⟩
    go_wp2_with fail
    refine (all_is _ a1 A2 k2 (by omega) HA2.out HK2.out).mono ?_
    rintro e w4 ⟨v2, rfl, hs4, b4⟩
    obtain ⟨x1, c1, hv1⟩ := hs3.shape
    obtain ⟨x2, c2, hv2⟩ := hs4.shape
    replace hv1 : v1 = .slice x1 (A2.length + 1) c1 := hv1
    subst hv1
    subst hv2
    have HS3 := hide (hs3.later b4).view
    have HS4 := hide hs4.view
    have HB4 := hide (bthen (bthen (bthen b1 b2) b3) b4)
    clear hs3 hs4 b1 b2 b3 b4
    go_wp2_with fail
    refine (known_any _).mono ?_
    rintro e w5 ⟨rfl, b5⟩
    obtain ⟨ht5, b, o, rfl, hc5, hcap⟩ := (HS3.out.later b5).tail
    have HS5 := hide ht5
    have HS6 := hide (HS4.out.later b5)
    have HB5 := hide (bthen HB4.out b5)
    have hsl : ∀ w', (Instr.sliceAt 22 (.slice (some ⟨b, o, none⟩) (A2.length + 1) c1) (some (.int .i64 1)) none none).run Try.prog w' = .ok (.slice (cutA (some ⟨b, o, none⟩) 1 c1) A2.length (c1 - 1)) w' := fun w' => run_slice_one w' _ (A2.length + 1) c1 (by omega) hcap
    rw [strOf_bs] at hc5
    clear HS3 HS4 HB4 ht5 b5
    go_wp2_with (go_at_call 17; refine (same_true _ _ _ A2 HS5.out HS6.out (by omega)).mono ?_; rintro e w6 ⟨rfl, n6, rfl⟩)
    go_ret
    exact ⟨rfl, below_drewN HB5.out _⟩
  · have hbi : (300 : Int) < (a0.size : Int) + (a1.size : Int) := by omega
    go_enter Try.func8, Try.ntmps8
    go_wp2_with (go_at_call 10; refine (known_any _).mono ?_; rintro e w1 ⟨rfl, b1⟩)
    go_ret
    exact ⟨rfl, b1⟩
end Go.Proofs.Ytgfjpbiioaahhaa
