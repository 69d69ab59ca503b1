/-
  THE WALKS over the document's own answer for layer 1: short, Quote.
-/
import Derived.Test.YtlkfdmcgcenliaaRefWalksC
set_option linter.unusedVariables false
set_option linter.unusedSimpArgs false
namespace Go.Proofs.Ytlkfdmcgcenliaa
open Go.RowKit

def shortZ (c : Nat) : Nat := if c = 34 then 34 else if c = 92 then 92 else if c = 8 then 98 else if c = 9 then 116 else if c = 10 then 110 else if c = 12 then 102 else if c = 13 then 114 else 0
theorem esc_short (c : UInt8) (h : shortZ c.toNat ≠ 0) : Gm.esc c = [92, (shortZ c.toNat).toUInt8] := by
  have key : ∀ n ∈ List.range 256, shortZ n ≠ 0 → Gm.esc n.toUInt8 = [92, (shortZ n).toUInt8] := by decide +kernel
  have := key c.toNat (List.mem_range.2 c.toNat_lt) h
  have e : c.toNat.toUInt8 = c := by simp
  rw [e] at this
  exact this
theorem esc_low (c : UInt8) (h : shortZ c.toNat = 0) (h32 : c.toNat < 32) : Gm.esc c = [92, 117, 48, 48, Gm.hexd (c.toNat / 16), Gm.hexd (c.toNat % 16)] := by
  have key : ∀ n ∈ List.range 256, shortZ n = 0 → n < 32 → Gm.esc n.toUInt8 = [92, 117, 48, 48, Gm.hexd (n / 16), Gm.hexd (n % 16)] := by decide +kernel
  have := key c.toNat (List.mem_range.2 c.toNat_lt) h h32
  have e : c.toNat.toUInt8 = c := by simp
  rw [e] at this
  exact this
theorem esc_self (c : UInt8) (h : shortZ c.toNat = 0) (h32 : ¬ c.toNat < 32) : Gm.esc c = [c] := by
  have key : ∀ n ∈ List.range 256, shortZ n = 0 → ¬ n < 32 → Gm.esc n.toUInt8 = [n.toUInt8] := by decide +kernel
  have := key c.toNat (List.mem_range.2 c.toNat_lt) h h32
  have e : c.toNat.toUInt8 = c := by simp
  rw [e] at this
  exact this
def fromB : ByteArray := ⟨#[34, 92, 8, 9, 10, 12, 13]⟩
def toB : ByteArray := ⟨#[34, 92, 98, 116, 110, 102, 114]⟩
def fromN (k : Nat) : Nat := Gm.nth [34, 92, 8, 9, 10, 12, 13] k
theorem shortZ_hit (k : Nat) (hk : k < 7) : shortZ (fromN k) = Gm.nth [34, 92, 98, 116, 110, 102, 114] k := by
  have : ∀ k ∈ List.range 7, shortZ (fromN k) = Gm.nth [34, 92, 98, 116, 110, 102, 114] k := by decide
  exact this k (List.mem_range.2 hk)
theorem shortZ_miss (c : Nat) (h : ∀ j, j < 7 → fromN j ≠ c) : shortZ c = 0 := by
  unfold shortZ
  have h0 := h 0 (by omega)
  have h1 := h 1 (by omega)
  have h2 := h 2 (by omega)
  have h3 := h 3 (by omega)
  have h4 := h 4 (by omega)
  have h5 := h 5 (by omega)
  have h6 := h 6 (by omega)
  simp [fromN, Gm.nth] at h0 h1 h2 h3 h4 h5 h6
  rw [if_neg (by omega), if_neg (by omega), if_neg (by omega), if_neg (by omega), if_neg (by omega), if_neg (by omega), if_neg (by omega)]

set_option maxHeartbeats 1000000 in
theorem short_any (c : Nat) (w : World) (hc : c < 256) :
    Calls Try.prog 37 #[.int .u8 c] w fun e w' => e = .returned (.int .u8 (shortZ c)) ∧ w' = w := by
  go_enter Try.func37, Try.ntmps37
  go_wp2
  go_loop [3] (fun i => ∃ k : Nat, k ≤ 7 ∧ i = .int .i64 k ∧ ∀ j, j < k → fromN j ≠ c) (fun i => 7 - (intOf i).toNat)
  case atStart => exact ⟨0, by omega, rfl, fun j hj => by omega⟩
  case round =>
    obtain ⟨k, hk, rfl, hall⟩ := hrel
    have HA : Hid _ := hall
    clear hall
    by_cases hlt : k < 7
    · have hlt' : (k : Int) < 7 := by omega
      have hf : k < fromB.size := by show k < 7; exact hlt
      have ht : k < toB.size := by show k < 7; exact hlt
      have ef := nth_of fromB k hf
      have et := nth_of toB k ht
      have EF : Hid (fromN k = (fromB[k]'hf).toNat) := ef
      have ET : Hid (Gm.nth [34, 92, 98, 116, 110, 102, 114] k = (toB[k]'ht).toNat) := et
      clear ef et
      unfold fromB at *
      unfold toB at *
      by_cases he : fromN k = c
      · have hb : ((((⟨#[34, 92, 8, 9, 10, 12, 13]⟩ : ByteArray)[k]'hf).toNat : Int) == (c : Int)) = true := by rw [← EF.out, he]; simp
        have HE : Hid _ := he
        clear he
        go_wp2
        go_ret
        refine ⟨ret_int ?_, rfl⟩
        rw [← HE.out, shortZ_hit k hlt, ET.out]
      · have hb : ((((⟨#[34, 92, 8, 9, 10, 12, 13]⟩ : ByteArray)[k]'hf).toNat : Int) == (c : Int)) = false := by rw [← EF.out]; simp; omega
        have HE : Hid _ := he
        clear he
        go_wp2
        go_round
        case rel =>
          refine ⟨k + 1, by omega, by go_num, ?_⟩
          intro j hj
          by_cases hjk : j = k
          · subst hjk; exact HE.out
          · exact HA.out j (by omega)
        case measure => simp [intOf]; omega
    · have hlt' : ¬ (k : Int) < 7 := by omega
      go_wp2
      go_ret
      refine ⟨ret_int ?_, rfl⟩
      rw [shortZ_miss c (fun j hj => HA.out j (by omega))]
      rfl
theorem short_is (c z : Nat) (w : World) (hc : c < 256) (h : shortZ c = z) :
    Calls Try.prog 37 #[.int .u8 c] w fun e w' => e = .returned (.int .u8 z) ∧ w' = w := by
  subst h; exact short_any c w hc

theorem app_low (acc : List UInt8) (a b : UInt8) : (⟨acc.toArray⟩ : ByteArray) ++ ⟨#[92, 117, 48, 48]⟩ ++ ⟨#[a, b]⟩ = ⟨(acc ++ [92, 117, 48, 48, a, b]).toArray⟩ := by
  have e1 : (⟨#[92, 117, 48, 48]⟩ : ByteArray) = ⟨([92, 117, 48, 48] : List UInt8).toArray⟩ := rfl
  have e2 : (⟨#[a, b]⟩ : ByteArray) = ⟨([a, b] : List UInt8).toArray⟩ := rfl
  rw [e1, e2, str_app, str_app]
  simp
theorem app_short (acc : List UInt8) (a : UInt8) : (⟨acc.toArray⟩ : ByteArray) ++ ⟨#[92]⟩ ++ ⟨#[a]⟩ = ⟨(acc ++ [92, a]).toArray⟩ := by
  have e1 : (⟨#[92]⟩ : ByteArray) = ⟨([92] : List UInt8).toArray⟩ := rfl
  have e2 : (⟨#[a]⟩ : ByteArray) = ⟨([a] : List UInt8).toArray⟩ := rfl
  rw [e1, e2, str_app, str_app]
  simp
theorem extract_one (s : ByteArray) (k : Nat) (h : k < s.size) : s.extract k (k + 1) = ⟨[s[k]'h].toArray⟩ := by
  have : (s.extract k (k + 1)).data.toList = [s[k]'h] := by
    rw [Lib.extract_data, show k + 1 - k = 1 from by omega]
    have hl : k < s.data.toList.length := by rw [← Lib.size_eq]; exact h
    rw [List.drop_eq_getElem_cons hl]
    rfl
  rw [← this, str_eta]

set_option maxHeartbeats 2000000 in
theorem refQuote_any (s : ByteArray) (w : World) (hs : s.size ≤ 17592186044416) :
    Calls Try.prog 24 #[.string s] w fun e w' => e = .returned (.string ⟨(Gm.quote s.data.toList).toArray⟩) ∧ Below w.heap.size w w' := by
  go_enter Try.func24, Try.ntmps24
  go_wp2
  go_loopw [3, 4] (fun o i wr => ∃ (k : Nat) (acc : List UInt8), k ≤ s.size ∧ i = .int .i64 k ∧ o = .string ⟨acc.toArray⟩ ∧ acc = Gm.quoteTo s.data.toList k ∧ Below w.heap.size w wr) (fun _ i _ => s.size - (intOf i).toNat)
  case atStart => exact ⟨0, [34], by omega, rfl, rfl, rfl, Below.refl _ _⟩
  case round =>
    obtain ⟨k, acc, hk, rfl, rfl, hacc, hbel⟩ := hrel
    have hal : acc.length ≤ 1 + 6 * k := by rw [hacc]; exact Gm.quoteTo_le _ _
    have HACC : Hid _ := hacc
    clear hacc
    have hsum : ¬ 9223372036854775807 < acc.length + 1 := by omega
    by_cases hlt : k < s.size
    · have hlt' : (k : Int) < s.size := by omega
      have hsucc := Gm.quoteTo_succ s.data.toList k (by rw [← Lib.size_eq]; exact hlt)
      have hget : s.data.toList.getD k 0 = s[k]'hlt := by
        rw [List.getD_eq_getElem?_getD, List.getElem?_eq_getElem (by rw [← Lib.size_eq]; exact hlt)]; rfl
      rw [hget] at hsucc
      have HS : Hid _ := hsucc
      clear hsucc hget
      have hb : (s[k]'hlt).toNat < 256 := (s[k]'hlt).toNat_lt
      by_cases hsh : shortZ (s[k]'hlt).toNat = 0
      · have HSH : Hid _ := hsh
        clear hsh
        by_cases h32 : (s[k]'hlt).toNat < 32
        · have HE : Hid _ := esc_low (s[k]'hlt) HSH.out h32
          have h32' : ((s[k]'hlt).toNat : Int) < 32 := by omega
          go_wp2_with fail
          refine (short_is _ 0 _ hb HSH.out).mono ?_
          rintro e W1 ⟨rfl, rfl⟩
          have kc := conv2_drew W1
          have q0 : 0 ≤ ((s[k]'hlt).toNat : Int) / 16 ∧ ((s[k]'hlt).toNat : Int) / 16 < 16 := by omega
          have q1 : 0 ≤ ((s[k]'hlt).toNat : Int) % 16 ∧ ((s[k]'hlt).toNat : Int) % 16 < 16 := by omega
          go_wp2
          go_region
          go_wp2
          go_roundw
          case rel =>
            refine ⟨k + 1, Gm.quoteTo s.data.toList (k + 1), by omega, by go_num, ?_, rfl, (hbel.alloc hbel.size _).drew⟩
            rw [dig_at, dig_at, app_low, HS.out, HE.out, ← HACC.out]
          case measure => simp [intOf]; omega
        · have HE : Hid _ := esc_self (s[k]'hlt) HSH.out h32
          have HX : Hid _ := extract_one s k hlt
          have h32' : ¬ ((s[k]'hlt).toNat : Int) < 32 := by omega
          have hk1 : (k : Int) + 1 ≤ s.size := by omega
          go_wp2_with fail
          refine (short_is _ 0 _ hb HSH.out).mono ?_
          rintro e W1 ⟨rfl, rfl⟩
          have hxs : (s.extract k (k + 1)).size = 1 := by rw [HX.out]; rfl
          go_wp2
          go_roundw
          case rel =>
            refine ⟨k + 1, Gm.quoteTo s.data.toList (k + 1), by omega, by go_num, ?_, rfl, hbel⟩
            rw [HX.out, str_app, HS.out, HE.out, ← HACC.out]
          case measure => simp [intOf]; omega
      · have HE : Hid _ := esc_short (s[k]'hlt) hsh
        generalize hz : shortZ (s[k]'hlt).toNat = z at *
        have HZ : Hid _ := hz
        have hz2 : ((z : Int) != 0) = true := by rw [bne_iff_ne]; omega
        have hz256 : z < 256 := by
          rw [← hz]; unfold shortZ
          repeat' split
          all_goals omega
        clear hz hsh
        go_wp2_with fail
        refine (short_is _ z _ hb HZ.out).mono ?_
        rintro e W1 ⟨rfl, rfl⟩
        go_wp2_with fail
        refine (short_is _ z _ hb HZ.out).mono ?_
        rintro e W1 ⟨rfl, rfl⟩
        have kc := conv1 W1
        go_wp2
        go_roundw
        case rel =>
          refine ⟨k + 1, Gm.quoteTo s.data.toList (k + 1), by omega, by go_num, ?_, rfl, hbel.alloc hbel.size _⟩
          rw [HS.out, HE.out, ← HACC.out, ← app_short]
        case measure => simp [intOf]; omega
    · have hlt' : ¬ (k : Int) < s.size := by omega
      go_wp2
      go_ret
      refine ⟨ret_str ?_, hbel⟩
      have e2 : (⟨#[34]⟩ : ByteArray) = ⟨([34] : List UInt8).toArray⟩ := rfl
      rw [e2, str_app, HACC.out, Gm.quoteTo_all _ _ (by rw [← Lib.size_eq]; omega)]

end Go.Proofs.Ytlkfdmcgcenliaa
