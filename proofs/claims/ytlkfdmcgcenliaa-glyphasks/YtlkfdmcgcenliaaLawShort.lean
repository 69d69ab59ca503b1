/-
  THE WALK over the law GlyphShort.
-/
import Derived.Test.YtlkfdmcgcenliaaLawConv
set_option linter.unusedVariables false
set_option linter.unusedSimpArgs false
namespace Go.Proofs.Ytlkfdmcgcenliaa
open Go.RowKit

theorem unquote_pair (s T : ByteArray) (n : Nat) (w : World) (hs : s.size ≤ 17592186044416) (h1 : (⟨(Gm.unText (Gm.unquote s.data.toList)).toArray⟩ : ByteArray) = T) (h2 : Gm.unLen (Gm.unquote s.data.toList) = n) :
    Calls Try.prog 16 #[.string s] w fun e w' => e = .returned (.tuple #[.string T, .int .i64 n]) ∧ Below w.heap.size w w' := by
  subst h1 h2
  have := unquote_any s w hs
  cases hc : Gm.unquote s.data.toList with
  | none => rw [hc] at this; exact this
  | some x => rw [hc] at this; exact this

def needsB (b : Nat) : Bool := decide (b < 32) || b == 34 || b == 92
theorem short_all : ∀ b ∈ List.range 128, (∀ x ∈ Gm.quote [b.toUInt8], 32 ≤ x.toNat) ∧ decide (3 < (Gm.quote [b.toUInt8]).length) = needsB b ∧ (Gm.unLen (Gm.unquote [34, b.toUInt8, 34]) == 3) = (!needsB b) ∧ Gm.check [b.toUInt8] = none := by
  decide +kernel

set_option maxHeartbeats 1000000 in
theorem glyphShort_at (kk : Int) (b : Nat) (nd : Bool) (w : World) (h0 : 0 ≤ kk) (h255 : kk ≤ 255) (hb : kk % 128 = b) (hb2 : b < 128) (hnd : needsB b = nd)
    (hn1 : (b < 32 ∧ nd = true) ∨ (32 ≤ b ∧ b = 34 ∧ nd = true) ∨ (32 ≤ b ∧ b ≠ 34 ∧ b = 92 ∧ nd = true) ∨ (32 ≤ b ∧ b ≠ 34 ∧ b ≠ 92 ∧ nd = false)) :
    Calls Try.prog 10 #[.int .u8 kk] w fun e w' => e = .returned (.bool true) ∧ Below w.heap.size w w' := by
  obtain ⟨s1, s2, s3, s4⟩ := short_all b (List.mem_range.2 hb2)
  rw [hnd] at s2 s3
  have hSd : (⟨#[b.toUInt8]⟩ : ByteArray).data.toList = [b.toUInt8] := rfl
  have hSsz : (⟨#[b.toUInt8]⟩ : ByteArray).size = 1 := rfl
  generalize hS : (⟨#[b.toUInt8]⟩ : ByteArray) = S at *
  obtain ⟨Q, hQ⟩ : ∃ Q : ByteArray, Q.data.toList = Gm.quote S.data.toList := ⟨⟨(Gm.quote S.data.toList).toArray⟩, by simp⟩
  have hQs : Q.size ≤ 8 := by
    rw [Lib.size_eq, hQ]
    have := quote_le S.data.toList
    rw [hSd] at this ⊢
    simpa using this
  have hQsz : Q.size = (Gm.quote [b.toUInt8]).length := by rw [Lib.size_eq, hQ, hSd]
  have hQb : ∀ i (hi : i < Q.size), 32 ≤ (Q[i]'hi).toNat := by
    intro i hi
    apply s1
    rw [← hSd, ← hQ]
    exact List.getElem_mem (by rw [← Lib.size_eq]; exact hi)
  have hu : Gm.unquote Q.data.toList = some (S.data.toList, Q.size) := by
    have := Gm.back [b.toUInt8] [] s4
    rw [List.append_nil] at this
    rw [hQ, hSd, this, hQsz]
  have hrd : ((⟨#[34]⟩ ++ S ++ ⟨#[34]⟩ : ByteArray)).data.toList = [34, b.toUInt8, 34] := by rw [data_append, data_append, hSd]; rfl
  have hrs : ((⟨#[34]⟩ ++ S ++ ⟨#[34]⟩ : ByteArray)).size ≤ 17592186044416 := by rw [Lib.size_eq, hrd]; simp
  have hgt : decide ((3 : Int) < Q.size) = nd := by rw [← s2, hQsz]; simp; omega
  generalize hraw : Gm.unLen (Gm.unquote [34, b.toUInt8, 34]) = raw at *
  have hraw2 : (((raw : Nat) : Int) == 3) = (!nd) := by
    rw [← s3, Bool.eq_iff_iff]; simp; omega
  have HQ : Hid _ := hQ
  have HU : Hid _ := hu
  have HRL : Hid (Gm.unLen (Gm.unquote ((⟨#[34]⟩ ++ S ++ ⟨#[34]⟩ : ByteArray)).data.toList) = raw) := by rw [hrd]; exact hraw
  have HQB : Hid _ := hQb
  have kc := conv1 w ((b : Int))
  have hbt : ((b : Int)).toNat.toUInt8 = b.toUInt8 := by simp
  rw [hbt, hS] at kc
  clear s1 s2 s3 s4 hQ hu hrd hQb hQsz hraw hSd hnd hS hbt
  have hSs' : S.size ≤ 1 := by omega
  clear hSsz
  have hgt' : decide ((Q.size : Int) ≤ 3) = (!nd) := by rw [← hgt, Bool.eq_iff_iff]; simp
  rcases hn1 with ⟨g1, rfl⟩ | ⟨g0, g1, rfl⟩ | ⟨g0, g1, g2, rfl⟩ | ⟨g0, g1, g2, rfl⟩
  · have g1' : (b : Int) < 32 := by omega
    have g3 : (3 : Int) < Q.size := by simpa using hgt
    go_enter Try.func10, Try.ntmps10
    go_wp2_with fail
    refine (quote_str S Q _ (by omega) HQ.out).mono ?_
    rintro e W2 ⟨rfl, b2⟩
    go_wp2_with fail
    refine (unquote_str Q S Q.size _ (by omega) HU.out).mono ?_
    rintro e W3 ⟨rfl, b3⟩
    go_wp2_with fail
    refine (unquote_pair _ _ raw _ hrs rfl HRL.out).mono ?_
    rintro e W4 ⟨rfl, b4⟩
    go_wp2
    go_loop [11] (fun i => ∃ k : Nat, k ≤ Q.size ∧ i = .int .i64 k) (fun i => Q.size - (intOf i).toNat)
    case atStart => exact ⟨0, by omega, rfl⟩
    case round =>
      obtain ⟨k, hk, rfl⟩ := hrel
      by_cases hlt : k < Q.size
      · have hlt' : (k : Int) < Q.size := by omega
        have hq := HQB.out k hlt
        have hq' : ¬ ((Q[k]'hlt).toNat : Int) < 32 := by omega
        go_wp2
        go_round
        case rel => exact ⟨k + 1, by omega, by go_num⟩
        case measure => simp [intOf]; omega
      · have hlt' : ¬ (k : Int) < Q.size := by omega
        go_wp2_with fail
        refine (known_any _).mono ?_
        rintro e W5 ⟨rfl, b5⟩
        go_wp2
        go_ret
        have b1 : Below w.heap.size w (w.alloc (.cells #[Value.int .u8 (b : Int)] 5)) := (Below.refl _ _).alloc (Nat.le_refl _) _
        have c2 := Nat.le_trans b1.size b2.size
        have c3 := Nat.le_trans c2 b3.size
        have c4 := Nat.le_trans c3 b4.size
        exact ⟨rfl, (((b1.trans (b2.mono b1.size)).trans (b3.mono c2)).trans (b4.mono c3)).trans (b5.mono c4)⟩
  · have g0' : ¬ (b : Int) < 32 := by omega
    have e34 : ((b : Int) == 34) = true := by simp; omega
    have g3 : (3 : Int) < Q.size := by simpa using hgt
    clear g1
    go_enter Try.func10, Try.ntmps10
    go_wp2_with fail
    refine (quote_str S Q _ (by omega) HQ.out).mono ?_
    rintro e W2 ⟨rfl, b2⟩
    go_wp2_with fail
    refine (unquote_str Q S Q.size _ (by omega) HU.out).mono ?_
    rintro e W3 ⟨rfl, b3⟩
    go_wp2_with fail
    refine (unquote_pair _ _ raw _ hrs rfl HRL.out).mono ?_
    rintro e W4 ⟨rfl, b4⟩
    go_wp2
    go_loop [11] (fun i => ∃ k : Nat, k ≤ Q.size ∧ i = .int .i64 k) (fun i => Q.size - (intOf i).toNat)
    case atStart => exact ⟨0, by omega, rfl⟩
    case round =>
      obtain ⟨k, hk, rfl⟩ := hrel
      by_cases hlt : k < Q.size
      · have hlt' : (k : Int) < Q.size := by omega
        have hq := HQB.out k hlt
        have hq' : ¬ ((Q[k]'hlt).toNat : Int) < 32 := by omega
        go_wp2
        go_round
        case rel => exact ⟨k + 1, by omega, by go_num⟩
        case measure => simp [intOf]; omega
      · have hlt' : ¬ (k : Int) < Q.size := by omega
        go_wp2_with fail
        refine (known_any _).mono ?_
        rintro e W5 ⟨rfl, b5⟩
        go_wp2
        go_ret
        have b1 : Below w.heap.size w (w.alloc (.cells #[Value.int .u8 (b : Int)] 5)) := (Below.refl _ _).alloc (Nat.le_refl _) _
        have c2 := Nat.le_trans b1.size b2.size
        have c3 := Nat.le_trans c2 b3.size
        have c4 := Nat.le_trans c3 b4.size
        exact ⟨rfl, (((b1.trans (b2.mono b1.size)).trans (b3.mono c2)).trans (b4.mono c3)).trans (b5.mono c4)⟩
  · have g0' : ¬ (b : Int) < 32 := by omega
    have e34 : ((b : Int) == 34) = false := by simp; omega
    have e92 : ((b : Int) == 92) = true := by simp; omega
    have g3 : (3 : Int) < Q.size := by simpa using hgt
    clear g1 g2
    go_enter Try.func10, Try.ntmps10
    go_wp2_with fail
    refine (quote_str S Q _ (by omega) HQ.out).mono ?_
    rintro e W2 ⟨rfl, b2⟩
    go_wp2_with fail
    refine (unquote_str Q S Q.size _ (by omega) HU.out).mono ?_
    rintro e W3 ⟨rfl, b3⟩
    go_wp2_with fail
    refine (unquote_pair _ _ raw _ hrs rfl HRL.out).mono ?_
    rintro e W4 ⟨rfl, b4⟩
    go_wp2
    go_loop [11] (fun i => ∃ k : Nat, k ≤ Q.size ∧ i = .int .i64 k) (fun i => Q.size - (intOf i).toNat)
    case atStart => exact ⟨0, by omega, rfl⟩
    case round =>
      obtain ⟨k, hk, rfl⟩ := hrel
      by_cases hlt : k < Q.size
      · have hlt' : (k : Int) < Q.size := by omega
        have hq := HQB.out k hlt
        have hq' : ¬ ((Q[k]'hlt).toNat : Int) < 32 := by omega
        go_wp2
        go_round
        case rel => exact ⟨k + 1, by omega, by go_num⟩
        case measure => simp [intOf]; omega
      · have hlt' : ¬ (k : Int) < Q.size := by omega
        go_wp2_with fail
        refine (known_any _).mono ?_
        rintro e W5 ⟨rfl, b5⟩
        go_wp2
        go_ret
        have b1 : Below w.heap.size w (w.alloc (.cells #[Value.int .u8 (b : Int)] 5)) := (Below.refl _ _).alloc (Nat.le_refl _) _
        have c2 := Nat.le_trans b1.size b2.size
        have c3 := Nat.le_trans c2 b3.size
        have c4 := Nat.le_trans c3 b4.size
        exact ⟨rfl, (((b1.trans (b2.mono b1.size)).trans (b3.mono c2)).trans (b4.mono c3)).trans (b5.mono c4)⟩
  · have g0' : ¬ (b : Int) < 32 := by omega
    have e34 : ((b : Int) == 34) = false := by simp; omega
    have e92 : ((b : Int) == 92) = false := by simp; omega
    have g3 : ¬ (3 : Int) < Q.size := by simpa using hgt
    clear g1 g2
    go_enter Try.func10, Try.ntmps10
    go_wp2_with fail
    refine (quote_str S Q _ (by omega) HQ.out).mono ?_
    rintro e W2 ⟨rfl, b2⟩
    go_wp2_with fail
    refine (unquote_str Q S Q.size _ (by omega) HU.out).mono ?_
    rintro e W3 ⟨rfl, b3⟩
    go_wp2_with fail
    refine (unquote_pair _ _ raw _ hrs rfl HRL.out).mono ?_
    rintro e W4 ⟨rfl, b4⟩
    go_wp2
    go_loop [11] (fun i => ∃ k : Nat, k ≤ Q.size ∧ i = .int .i64 k) (fun i => Q.size - (intOf i).toNat)
    case atStart => exact ⟨0, by omega, rfl⟩
    case round =>
      obtain ⟨k, hk, rfl⟩ := hrel
      by_cases hlt : k < Q.size
      · have hlt' : (k : Int) < Q.size := by omega
        have hq := HQB.out k hlt
        have hq' : ¬ ((Q[k]'hlt).toNat : Int) < 32 := by omega
        go_wp2
        go_round
        case rel => exact ⟨k + 1, by omega, by go_num⟩
        case measure => simp [intOf]; omega
      · have hlt' : ¬ (k : Int) < Q.size := by omega
        go_wp2_with fail
        refine (known_any _).mono ?_
        rintro e W5 ⟨rfl, b5⟩
        go_wp2
        go_ret
        have b1 : Below w.heap.size w (w.alloc (.cells #[Value.int .u8 (b : Int)] 5)) := (Below.refl _ _).alloc (Nat.le_refl _) _
        have c2 := Nat.le_trans b1.size b2.size
        have c3 := Nat.le_trans c2 b3.size
        have c4 := Nat.le_trans c3 b4.size
        exact ⟨ret_bool (by simp; omega), (((b1.trans (b2.mono b1.size)).trans (b3.mono c2)).trans (b4.mono c3)).trans (b5.mono c4)⟩

theorem glyphShort_walk (a0 : Int) (w0 : (Lit.int .u8 a0).wf = true) (w : World) :
    Calls Try.prog 10 #[.int .u8 a0] w fun e w' => e = .returned (.bool true) ∧ Below w.heap.size w w' := by
  obtain ⟨h0, h1⟩ := wf_u8 w0
  have hb : a0 % 128 = ((a0.toNat % 128 : Nat) : Int) := by omega
  generalize hbb : a0.toNat % 128 = b at hb
  have hb2 : b < 128 := by omega
  refine glyphShort_at a0 b (needsB b) w h0 h1 hb hb2 rfl ?_
  unfold needsB
  by_cases g1 : b < 32
  · left; simp [g1]
  · by_cases g2 : b = 34
    · right; left; simp [g2]
    · by_cases g3 : b = 92
      · right; right; left; simp [g3]
      · right; right; right; simp [g1, g2, g3]; omega

end Go.Proofs.Ytlkfdmcgcenliaa
