/-
  THE WALKS of written, read (frame), four, number (the document's), Sum.
-/
import Derived.Test.YtgfjpbiioaahhaaFSum
import Derived.Laws.BytesArg
import Derived.BigRegion
set_option linter.unusedVariables false
set_option linter.unusedSimpArgs false
set_option maxRecDepth 100000
namespace Go.Proofs.Ytgfjpbiioaahhaa
open Go.RowKit Fr

theorem below_drewN {B : Nat} {a w : World} (h : Below B a w) (n : Nat) : Below B a (w.drewN n) := h.trans ⟨rfl, rfl, rfl, Nat.le_refl _, fun _ _ => rfl⟩
/-- a string of bytes -/
abbrev strOf (l : Bs) : ByteArray := ⟨l.toArray⟩
theorem bs_strOf (l : Bs) : bs (strOf l) = l := rfl
theorem strOf_bs (s : ByteArray) : strOf (bs s) = s := by cases s; rfl
theorem str_ext {s t : ByteArray} (h : bs s = bs t) : s = t := by rw [← strOf_bs s, h, strOf_bs]
theorem strOf_size (l : Bs) : (strOf l).size = l.length := rfl

theorem conv_lit (w : World) (xs : List Int) :
    (convert 26 9 (.slice (some ⟨w.heap.size, 0, none⟩) xs.length xs.length)).run Try.prog (w.alloc (.cells (xs.map (Value.int .u8)).toArray 5)) =
      .ok (.string ⟨(xs.map fun z => z.toNat.toUInt8).toArray⟩) (w.alloc (.cells (xs.map (Value.int .u8)).toArray 5)) := by
  have h := run_convert_bytes_arg (P := Try.prog) (w.alloc (.cells (xs.map (Value.int .u8)).toArray 5)) 26 5 Try.underlying26 Try.underlying5 w.heap.size 0 xs.length xs.length xs rfl
    (fun i hi => by
      simp only [World.cell?, World.alloc, Array.getElem?_push_size]
      simp [hi]) 9 Try.underlying9
  rw [h]
  rfl
theorem conv1 (w : World) (x : Int) :
    (convert 26 9 (.slice (some ⟨w.heap.size, 0, none⟩) 1 1)).run Try.prog (w.alloc (.cells #[Value.int .u8 x] 5)) =
      .ok (.string ⟨#[x.toNat.toUInt8]⟩) (w.alloc (.cells #[Value.int .u8 x] 5)) := conv_lit w [x]
theorem conv4 (w : World) (x y z u : Int) :
    (convert 26 9 (.slice (some ⟨w.heap.size, 0, none⟩) 4 4)).run Try.prog (w.alloc (.cells #[Value.int .u8 x, Value.int .u8 y, Value.int .u8 z, Value.int .u8 u] 5)) =
      .ok (.string ⟨#[x.toNat.toUInt8, y.toNat.toUInt8, z.toNat.toUInt8, u.toNat.toUInt8]⟩) (w.alloc (.cells #[Value.int .u8 x, Value.int .u8 y, Value.int .u8 z, Value.int .u8 u] 5)) := conv_lit w [x, y, z, u]

theorem ofNat_mod (n : Nat) : UInt8.ofNat (n % 256) = UInt8.ofNat n := by
  apply UInt8.toNat_inj.1
  rw [UInt8.toNat_ofNat', UInt8.toNat_ofNat']
  omega
theorem four_is (n : Nat) : (⟨#[UInt8.ofNat (n / 16777216), UInt8.ofNat (n / 65536 % 256), UInt8.ofNat (n / 256 % 256), UInt8.ofNat (n % 256)]⟩ : ByteArray) = strOf (four n) := by
  rw [ofNat_mod, ofNat_mod, ofNat_mod]
  rfl

set_option maxHeartbeats 1000000 in
theorem written_any (w : World) (n : Nat) (hn : n < 4294967296) : Calls Try.prog 23 #[u32v n] w fun e w' => e = .returned (.string (strOf (four n))) ∧ Below w.heap.size w w' := by
  have hc := conv4 w
  go_enter Try.func23, Try.ntmps23
  go_wp2_with fail
  rw [four_is]
  go_ret
  exact ⟨rfl, below_alloc _ _⟩

theorem u32_in (n : Int) (h0 : 0 ≤ n) (h1 : n < 2 ^ 32) : IntKind.u32.wrap n = n := by rw [IntKind.wrap_u32]; omega
theorem i64_in (n : Int) (h0 : 0 ≤ n) (h1 : n < 2 ^ 32) : IntKind.i64.wrap n = n := by rw [IntKind.wrap_i64]; omega
theorem word4 (a b c d : Int) (ha : 0 ≤ a ∧ a < 256) (hb : 0 ≤ b ∧ b < 256) (hc : 0 ≤ c ∧ c < 256) (hd : 0 ≤ d ∧ d < 256) :
    bits .or .u32 (bits .or .u32 (bits .or .u32 (a % 4294967296 * 16777216 % 4294967296) (b % 4294967296 * 65536 % 4294967296)) (c % 4294967296 * 256 % 4294967296)) (d % 4294967296) = a * 16777216 + b * 65536 + c * 256 + d := by
  rw [show a % 4294967296 * 16777216 % 4294967296 = a * 16777216 by omega, show b % 4294967296 * 65536 % 4294967296 = b * 65536 by omega, show c % 4294967296 * 256 % 4294967296 = c * 256 by omega, show d % 4294967296 = d by omega]
  rw [bits_join .u32 32 (by decide) u32_in 24 (a * 16777216) (b * 65536) (by omega) (by omega) (by omega) (by omega) (by omega) (by omega)]
  rw [bits_join .u32 32 (by decide) u32_in 16 (a * 16777216 + b * 65536) (c * 256) (by omega) (by omega) (by omega) (by omega) (by omega) (by omega)]
  rw [bits_join .u32 32 (by decide) u32_in 8 (a * 16777216 + b * 65536 + c * 256) d (by omega) (by omega) (by omega) (by omega) (by omega) (by omega)]
theorem num_bs (s : ByteArray) (h0 : 0 < s.size) (h1 : 1 < s.size) (h2 : 2 < s.size) (h3 : 3 < s.size) : num (bs s) = s[0].toNat * 16777216 + s[1].toNat * 65536 + s[2].toNat * 256 + s[3].toNat := by
  have e : ∀ j (h : j < s.size), (bs s)[j]?.getD 0 = s[j] := fun j h => by rw [List.getElem?_eq_getElem (by rw [bs_length]; exact h), Option.getD_some, bs_at s j h]
  unfold num
  rw [e 0 h0, e 1 h1, e 2 h2, e 3 h3]

set_option maxHeartbeats 1000000 in
theorem read_any (w : World) (s : ByteArray) (hs : 4 ≤ s.size) : Calls Try.prog 41 #[.string s] w fun e w' => e = .returned (u32v (num (bs s))) ∧ ∃ n, w' = w.drewN n := by
  have h0 : 0 < s.size := by omega
  have h1 : 1 < s.size := by omega
  have h2 : 2 < s.size := by omega
  have h3 : 3 < s.size := by omega
  have i0 : (0 : Int) < (s.size : Int) := by omega
  have i1 : (1 : Int) < (s.size : Int) := by omega
  have i2 : (2 : Int) < (s.size : Int) := by omega
  have i3 : (3 : Int) < (s.size : Int) := by omega
  go_enter Try.func41, Try.ntmps41
  go_wp2_with fail
  go_quiet (fail)
  go_wp2_with fail
  go_ret
  refine ⟨?_, _, rfl⟩
  rw [num_bs s h0 h1 h2 h3]
  show Ending.returned (Value.int .u32 _) = _
  rw [word4 _ _ _ _ (by have := s[0].toNat_lt; omega) (by have := s[1].toNat_lt; omega) (by have := s[2].toNat_lt; omega) (by have := s[3].toNat_lt; omega)]
  simp

theorem wrap64_in {n : Int} (h0 : 0 ≤ n) (h1 : n < 4294967296) : wrap64 n = n := by unfold wrap64; omega
theorem word4i (a b c d : Int) (ha : 0 ≤ a ∧ a < 256) (hb : 0 ≤ b ∧ b < 256) (hc : 0 ≤ c ∧ c < 256) (hd : 0 ≤ d ∧ d < 256) :
    bits .or .i64 (bits .or .i64 (bits .or .i64 (wrap64 (wrap64 a * 16777216)) (wrap64 (wrap64 b * 65536))) (wrap64 (wrap64 c * 256))) (wrap64 d) = a * 16777216 + b * 65536 + c * 256 + d := by
  rw [wrap64_in (n := a) (by omega) (by omega), wrap64_in (n := b) (by omega) (by omega), wrap64_in (n := c) (by omega) (by omega), wrap64_in (n := d) (by omega) (by omega), wrap64_in (n := a * 16777216) (by omega) (by omega), wrap64_in (n := b * 65536) (by omega) (by omega), wrap64_in (n := c * 256) (by omega) (by omega)]
  rw [bits_join .i64 32 (by decide) i64_in 24 (a * 16777216) (b * 65536) (by omega) (by omega) (by omega) (by omega) (by omega) (by omega)]
  rw [bits_join .i64 32 (by decide) i64_in 16 (a * 16777216 + b * 65536) (c * 256) (by omega) (by omega) (by omega) (by omega) (by omega) (by omega)]
  rw [bits_join .i64 32 (by decide) i64_in 8 (a * 16777216 + b * 65536 + c * 256) d (by omega) (by omega) (by omega) (by omega) (by omega) (by omega)]

set_option maxHeartbeats 1000000 in
theorem number_any (w : World) (s : ByteArray) (hs : 4 ≤ s.size) : Calls Try.prog 34 #[.string s] w fun e w' => e = .returned (.int .i64 (num (bs s) : Nat)) ∧ ∃ n, w' = w.drewN n := by
  have h0 : 0 < s.size := by omega
  have h1 : 1 < s.size := by omega
  have h2 : 2 < s.size := by omega
  have h3 : 3 < s.size := by omega
  have i0 : (0 : Int) < (s.size : Int) := by omega
  have i1 : (1 : Int) < (s.size : Int) := by omega
  have i2 : (2 : Int) < (s.size : Int) := by omega
  have i3 : (3 : Int) < (s.size : Int) := by omega
  go_enter Try.func34, Try.ntmps34
  go_wp2_with fail
  go_quiet (fail)
  go_wp2_with fail
  go_ret
  refine ⟨?_, _, rfl⟩
  rw [num_bs s h0 h1 h2 h3]
  show Ending.returned (Value.int .i64 _) = _
  rw [word4i _ _ _ _ (by have := s[0].toNat_lt; omega) (by have := s[1].toNat_lt; omega) (by have := s[2].toNat_lt; omega) (by have := s[3].toNat_lt; omega)]
  simp

set_option maxHeartbeats 1000000 in
theorem rfour_any (w : World) (n : Nat) (hn : n < 4294967296) : Calls Try.prog 19 #[u32v n] w fun e w' => e = .returned (.string (strOf (four n))) ∧ Below w.heap.size w w' := by
  have hc := conv4 w
  go_enter Try.func19, Try.ntmps19
  go_wp2_with fail
  rw [four_is]
  go_ret
  exact ⟨rfl, below_alloc _ _⟩

set_option maxHeartbeats 1000000 in
theorem sum_any (w : World) (s : ByteArray) (hs : s.size ≤ 1152921504606846976) : Calls Try.prog 12 #[.string s] w fun e w' => e = .returned (u32v (sum (bs s))) ∧ Below w.heap.size w w' := by
  have hsum : cat [s] = bs s := by simp [cat]
  rw [← hsum]
  have HS := hide hsum
  clear hsum
  go_enter Try.func12, Try.ntmps12
  go_wp2_with (go_at_call 20; refine (newTable_any _).mono ?_; rintro e w1 ⟨rfl, hT, b1⟩)
  obtain ⟨g, hg⟩ : ∃ g, g = w.heap.size := ⟨_, rfl⟩
  rw [← hg] at hT ⊢
  have hT2 : Tab (w1.alloc (.cells #[.string s] 9)) g := by
    obtain ⟨L, h1, h2⟩ := hT
    exact ⟨L, h1, h2.alloc _⟩
  have hB2 := Blk.new w1 #[.string s] 9
  have b2 := bthen b1 (below_alloc w1 (.cells #[.string s] 9))
  have HB2 := hide b2
  have HT2 := hide hT2
  have HBk := hide hB2
  clear hT hT2 b1 b2 hB2
  have hr : ∀ j (h : j < [s].length), (w1.alloc (.cells #[.string s] 9)).cell? ⟨w1.heap.size, 0 + j, none⟩ = some (.string [s][j]) := fun j h => by
    have : j = 0 := by simpa using h
    subst this
    exact HBk.out.cell 0
  have HR := hide hr
  clear hr
  go_wp2_with (go_at_call 21; refine (tsum_any _ g w1.heap.size 0 1 [s] HT2.out HR.out (by simp) (by simpa using hs)).mono ?_; rintro e w3 ⟨rfl, n3, rfl⟩)
  go_ret
  exact ⟨rfl, below_drewN HB2.out _⟩
end Go.Proofs.Ytgfjpbiioaahhaa
