/-
  THE WALKS of the law's hex and known.
-/
import Derived.Test.YtckpcebifdhpeaaDoorDSum
import Derived.Test.YtckpcebifdhpeaaDoorDAbc
import Derived.Lib.SlBytesConst
set_option linter.unusedVariables false
set_option linter.unusedSimpArgs false
namespace Go.Proofs.YtckpcebifdhpeaaDoor
open Go.RowKit

def hexD : ByteArray := { data := #[48, 49, 50, 51, 52, 53, 54, 55, 56, 57, 97, 98, 99, 100, 101, 102] }
def hx (s : ByteArray) (x : Int) : ByteArray := (s ++ hexD.extract (x / 16).toNat (x / 16 + 1).toNat) ++ hexD.extract (x % 16).toNat (x % 16 + 1).toNat

set_option maxRecDepth 100000 in
set_option maxHeartbeats 1000000 in
theorem hex_any (bs : List Int) (a : Option Addr) (len cap : Nat) (w : World) (hB : IsB w a len cap bs) (hl : len ≤ 1000) :
    Calls Tryd.prog 19 #[.slice a len cap] w fun e w' => e = .returned (.string (bs.foldl hx ByteArray.empty)) ∧ ∃ n, w' = w.drewN n := by
  have HB := hide hB
  clear hB
  go_enter Tryd.func19, Tryd.ntmps19
  go_wp2_with fail
  go_loopw [3, 4] (fun s i wr => ∃ (k : Nat) (S : ByteArray), k ≤ len ∧ i = .int .i64 k ∧ s = .string S ∧ Hid (S = (bs.take k).foldl hx ByteArray.empty) ∧ S.size ≤ 2 * k ∧ ∃ n, wr = w.drewN n) (fun _ i _ => len - (intOf i).toNat)
  case atStart => exact ⟨0, ByteArray.empty, by omega, rfl, rfl, rfl, by decide, 0, rfl⟩
  case round =>
    obtain ⟨k, S, hk, rfl, rfl, HS, hsz, nd, rfl⟩ := hrel
    by_cases hlt : k < len
    · obtain ⟨h1, h2, h3, h4, h5⟩ := HB.out
      rcases h5 with ⟨_, h5⟩ | ⟨x, rfl, h6⟩
      · omega
      · obtain ⟨b, o, rfl, hR⟩ := h6 (by omega)
        have hc := hR k (by omega)
        have h8 := h4 k
        obtain ⟨v, hv⟩ : ∃ v, v = bs[k]?.getD 0 := ⟨_, rfl⟩
        rw [← hv] at hc h8
        have HV := hide hv
        clear hv h1 h4 h6 hR
        go_wp2_with fail
        go_quiet (fail)
        go_wp2_with fail
        go_roundw
        case rel =>
          have hbl := HB.out.1
          refine ⟨k + 1, hx S v, by omega, by go_num, rfl, ?_, ?_, _, rfl⟩
          · show hx S v = _
            rw [List.take_succ_eq_append_getElem (by omega), List.foldl_append, ← HS.out]
            show hx S v = hx S bs[k]
            rw [HV.out, List.getElem?_eq_getElem (by omega)]
            rfl
          · unfold hx
            rw [ByteArray.size_append, ByteArray.size_append, ByteArray.size_extract, ByteArray.size_extract]
            omega
        case measure => simp [intOf]; omega
    · have hkl : k = len := by omega
      go_wp2_with fail
      go_ret
      refine ⟨?_, _, rfl⟩
      have : (bs.take k) = bs := List.take_of_length_le (by rw [HB.out.1]; omega)
      rw [this] at HS
      rw [← HS.out]
      rfl

def abcS : ByteArray := { data := #[98, 97, 55, 56, 49, 54, 98, 102, 56, 102, 48, 49, 99, 102, 101, 97, 52, 49, 52, 49, 52, 48, 100, 101, 53, 100, 97, 101, 50, 50, 50, 51, 98, 48, 48, 51, 54, 49, 97, 51, 57, 54, 49, 55, 55, 97, 57, 99, 98, 52, 49, 48, 102, 102, 54, 49, 102, 50, 48, 48, 49, 53, 97, 100] }
theorem abc_hex : (Dg.sha [97, 98, 99]).foldl hx ByteArray.empty = abcS := by rw [abc_sha]; kernel_rfl

theorem three_isB (w : World) : IsB (w.alloc (.cells #[.int .u8 97, .int .u8 98, .int .u8 99] 5 (3, 4))) (some ⟨w.heap.size, 0, none⟩) 3 3 [97, 98, 99] := by
  have hb := heap_alloc_new w (.cells #[.int .u8 97, .int .u8 98, .int .u8 99] 5 (3, 4))
  refine ⟨rfl, Nat.le_refl _, by omega, Dg.b8_of_mem (by decide), .inr ⟨_, rfl, fun _ => ⟨w.heap.size, 0, rfl, fun i hi => ?_⟩⟩⟩
  rw [Nat.zero_add, cell_of_row _ _ _ _ _ _ hb]
  have : i = 0 ∨ i = 1 ∨ i = 2 := by simp at hi; omega
  rcases this with rfl | rfl | rfl <;> rfl

set_option maxRecDepth 100000 in
set_option maxHeartbeats 1000000 in
theorem known_any (w : World) (hC : Cubes w) : Calls Tryd.prog 9 #[] w fun e w' => e = .returned (.bool true) ∧ Below w.heap.size w w' := by
  have HC := hide hC
  clear hC
  have hcv := Lib.run_convert_bytes_const (P := Tryd.prog) w 24 5 #[.int .u8 97, .int .u8 98, .int .u8 99] 3 3 Tryd.underlying24 Tryd.underlying5
  go_enter Tryd.func9, Tryd.ntmps9
  go_wp2_with fail
  have b0 : Below w.heap.size w (w.alloc (.cells #[.int .u8 97, .int .u8 98, .int .u8 99] 5 (3, 4))) := (Below.refl _ _).alloc (Nat.le_refl _) _
  refine (digestSum_any [97, 98, 99] _ 3 3 _ (three_isB w) (HC.out.below' b0) (by omega)).mono ?_
  rintro e w1 ⟨g1, rfl, hown, b1⟩
  have HB1 := hide (bthen b0 b1)
  have HI1 := hide (own_isB hown (Dg.b8_of_mem (Dg.sha_mem _)) (by omega)).1
  clear hown b1 b0
  go_wp2_with fail
  refine (hex_any _ _ _ _ _ HI1.out (by omega)).mono ?_
  rintro e w2 ⟨rfl, nd, rfl⟩
  rw [abc_hex]
  clear hcv
  go_wp2_with fail
  rotate_left
  · rename_i hne
    exact absurd (by kernel_rfl) hne
  · refine (tail_any 3 _ (by omega) (by omega)).mono ?_
    rintro e w3 ⟨gt, m, hm, rfl, hown3, b3⟩
    obtain rfl : m = 61 := hm.out.trans (by decide)
    have HB3 := hide b3
    clear hown3 b3 hm
    go_wp2_with fail
    go_ret
    exact ⟨rfl, bthen (below_drewN HB1.out nd) HB3.out⟩
end Go.Proofs.YtckpcebifdhpeaaDoor
