/-
  THE WALK of a table's sum (frame).
-/
import Derived.Test.YtgfjpbiioaahhaaFNew
import Derived.BigQuiet
set_option linter.unusedVariables false
set_option linter.unusedSimpArgs false
set_option maxRecDepth 100000
namespace Go.Proofs.Ytgfjpbiioaahhaa
open Go.RowKit Fr

/-- a string's bytes -/
abbrev bs (s : ByteArray) : Bs := s.data.toList
def cat (rows : List ByteArray) : Bs := rows.flatMap bs
theorem cat_take {rows : List ByteArray} {k : Nat} (h : k < rows.length) : cat (rows.take (k + 1)) = cat (rows.take k) ++ bs rows[k] := by
  unfold cat
  rw [List.take_succ_eq_append_getElem h, List.flatMap_append, List.flatMap_singleton]
theorem bs_length (s : ByteArray) : (bs s).length = s.size := by rw [bs, Array.length_toList]; rfl
theorem bs_at (s : ByteArray) (j : Nat) (h : j < s.size) : (bs s)[j]'(by rw [bs_length]; exact h) = s[j] := rfl
theorem run_take {b : Bs} {j : Nat} (s : Nat) (h : j < b.length) : run s (b.take (j + 1)) = Fr.step (run s (b.take j)) b[j] := by
  rw [List.take_succ_eq_append_getElem h, run_append]
  rfl

theorem run_tab (w : World) (g q : Nat) (hq : q < 256) : (Instr.indexAt 61 (.pointer (some ⟨g, 0, none⟩)) (.int .u8 (q : Int))).run Try.prog w = .ok (.pointer (some ⟨g, q, none⟩)) w := by
  have hs : (sizeOf (Try.prog.elem 61)).run Try.prog w = .ok 1 w := by kernel_rfl
  have hl : Try.prog.arrayLen 61 = 256 := by kernel_rfl
  have hu : Try.prog.underlying 61 = some (.array (Try.prog.arrayLen 61) (Try.prog.elem 61)) := by kernel_rfl
  refine (run_indexAt_array w 61 ⟨g, 0, none⟩ .u8 (q : Int) hu).trans ?_
  rw [hl, if_pos ⟨by omega, by omega⟩, hs]
  simp only [Result.andThen, Int.toNat_natCast, Nat.mul_one, Addr.add_lit, Nat.zero_add]
theorem drewN_drewN (w : World) (n m : Nat) : (w.drewN n).drewN m = w.drewN (n + m) := by
  simp [World.drewN, Nat.add_assoc]

set_option maxHeartbeats 2000000 in
theorem tsum_any (w : World) (g b o cap : Nat) (rows : List ByteArray) (hT : Tab w g) (hr : ∀ j (h : j < rows.length), w.cell? ⟨b, o + j, none⟩ = some (.string rows[j])) (hn : rows.length ≤ 1000) (hz : ∀ r ∈ rows, r.size ≤ 1152921504606846976) :
    Calls Try.prog 21 #[.pointer (some ⟨g, 0, none⟩), .slice (some ⟨b, o, none⟩) rows.length cap] w fun e w' => e = .returned (u32v (sum (cat rows))) ∧ ∃ n, w' = w.drewN n := by
  obtain ⟨L, hI, hB⟩ := hT
  have hcell : ∀ i, i < 256 → w.cell? ⟨g, i, none⟩ = some (u32v (h8 i)) := fun i hi => by
    rw [hB.cell, tabV_at (by rw [hI.len]; exact hi), hI.at' i hi (Nat.mod_one i)]
  have HC := hide hcell
  have HR := hide hr
  have HZ := hide hz
  obtain ⟨N, hN⟩ : ∃ N, N = rows.length := ⟨_, rfl⟩
  rw [← hN] at hn ⊢
  have HN := hide hN
  obtain ⟨V, hV⟩ : ∃ V, V = sum (cat rows) := ⟨_, rfl⟩
  rw [← hV]
  have HV := hide hV
  clear hI hB hcell hr hz hN hV
  go_enter Try.func21, Try.ntmps21
  go_wp2_with fail
  go_loopw [5, 11] (fun s i wr => ∃ k x n : Nat, k ≤ N ∧ i = .int .i64 k ∧ s = u32v x ∧ Hid (x = run M (cat (rows.take k))) ∧ wr = w.drewN n) (fun s i _ => N - (intOf i).toNat)
  case atStart => exact ⟨0, M, 0, by omega, rfl, rfl, rfl, rfl⟩
  case round =>
    obtain ⟨k, x, n, hk, rfl, rfl, HX, rfl⟩ := hrel
    by_cases hlt : k < N
    · obtain ⟨S, hS⟩ : ∃ S, S = rows[k]'(by rw [← HN.out]; exact hlt) := ⟨_, rfl⟩
      have hc : (w.drewN n).cell? ⟨b, o + k, none⟩ = some (.string S) := by rw [hS]; exact HR.out k (by rw [← HN.out]; exact hlt)
      have HSz : Hid (S.size ≤ 1152921504606846976) := by rw [hS]; exact HZ.out _ (List.getElem_mem _)
      have HS := hide hS
      clear hS
      go_wp2_with fail
      have HX0 : Hid (x = run (run M (cat (rows.take k))) ((bs S).take 0)) := by show x = _; rw [HX.out]; rfl
      go_loopw [5, 8] (fun s i wq => ∃ j y m : Nat, j ≤ S.size ∧ i = .int .i64 j ∧ s = u32v y ∧ Hid (y = run (run M (cat (rows.take k))) ((bs S).take j)) ∧ wq = w.drewN m) (fun s i _ => S.size - (intOf i).toNat)
      case atStart => exact ⟨0, x, n, by omega, rfl, rfl, HX0, rfl⟩
      case round =>
        clear HX0 hc
        obtain ⟨j, y, m, hj, rfl, rfl, HY, rfl⟩ := hrel
        have hsz := HSz.out
        by_cases hlj : j < S.size
        · obtain ⟨c, hcc⟩ : ∃ c, c = S[j] := ⟨_, rfl⟩
          have hyl : y < 4294967296 := by rw [HY.out]; exact run_lt _ (run_lt _ M_lt)
          have hcl := c.toNat_lt
          have hx8 := xor8 (a := y % 256) (b := c.toNat) (Nat.mod_lt _ (by decide)) hcl
          have hil : y % 256 ^^^ c.toNat < 256 := xor_lt8 (Nat.mod_lt _ (by decide)) hcl
          obtain ⟨q, hq⟩ : ∃ q, q = y % 256 ^^^ c.toNat := ⟨_, rfl⟩
          rw [← hq] at hx8 hil
          have hx8' : bits .xor .u8 ((y : Int) % 256) (S[j].toNat : Int) = (q : Int) := by rw [← hcc, ← hx8]; rfl
          have hct : w.cell? ⟨g, q, none⟩ = some (u32v (h8 q)) := HC.out q hil
          have hx32 : bits .xor .u32 ((y : Int) / 256) ((h8 q : Nat) : Int) = ((y / 256 ^^^ h8 q : Nat) : Int) := xor32 (a := y / 256) (b := h8 q) (by omega) (hvN_lt 8 (by omega))
          have hwr : IntKind.u8.wrap (y : Int) = (y : Int) % 256 := by rw [IntKind.wrap_u8]
          have hia := fun w' => run_tab w' g q hil
          have HCC := hide hcc
          have HQ := hide hq
          clear hcc hq hx8 hcl
          go_wp2_with fail
          go_quiet (fail)
          go_wp2_with fail
          go_roundw
          case rel =>
            refine ⟨j + 1, y / 256 ^^^ h8 q, _, by omega, by go_num, rfl, ?_, rfl⟩
            show y / 256 ^^^ h8 q = _
            rw [run_take _ (by rw [bs_length]; exact hlj), ← HY.out, step_tab, bs_at S j hlj, ← HCC.out, HQ.out]
          case measure => simp [intOf]; omega
        · have hje : j = S.size := by omega
          subst hje
          have HTA : Hid ((bs S).take S.size = bs S) := List.take_of_length_le (by rw [bs_length]; exact Nat.le_refl _)
          have HXE : Hid (y = run M (cat (rows.take (k + 1)))) := by
            show y = _
            rw [HY.out, cat_take (by rw [← HN.out]; exact hlt), run_append, HTA.out, HS.out]
          clear HY
          go_wp2_with fail
          go_roundw
          case rel => exact ⟨k + 1, y, m, by omega, by go_num, rfl, HXE.out, rfl⟩
          case measure => simp [intOf]; omega
    · have hke : k = N := by omega
      subst hke
      have hxl : x < 4294967296 := by rw [HX.out]; exact run_lt _ M_lt
      have hx32 : bits .xor .u32 IntKind.u32.max (x : Int) = ((M ^^^ x : Nat) : Int) := xor32 (a := M) (b := x) M_lt hxl
      have HF : Hid (sum (cat rows) = M ^^^ x) := by show sum (cat rows) = _; rw [HX.out, HN.out, List.take_length]; rfl
      clear HX
      go_wp2_with fail
      go_ret
      exact ⟨by rw [HV.out, HF.out]; rfl, _, rfl⟩
end Go.Proofs.Ytgfjpbiioaahhaa
