/-
  What this seat takes of an earlier layer's contracts.
-/
import Derived.Test.YtpfbiklbecdmiaaChecked
import Derived.Test.YtpfbiklbecdmiaaShelf
import Derived.Lib.DecodeN
import Derived.Lib.RuneBytes
import Derived.Lib.Strings
import Derived.Laws.RangeString
import Derived.WalkKit
import Derived.WalkSpells
import Derived.WalkLawsBesides
import Derived.BigCall
import Derived.Deep.QuietTactic
import Derived.BigQuiet
import Derived.OpenShut
set_option linter.unusedVariables false
set_option linter.unusedSimpArgs false
namespace Go.Proofs.Ytpfbiklbecdmiaa
open Go.RowKit

namespace Gm
def nth (l : List UInt8) (i : Nat) : Nat := (l.getD i 0).toNat
end Gm

namespace Gm
def dec (l : List UInt8) : Nat × Nat := Lib.decodeN l.length (nth l 0) (nth l 1) (nth l 2) (nth l 3)
end Gm

namespace Gm
def bad (l : List UInt8) : Bool := decide (dec l = (65533, 1))
end Gm

namespace Gm
theorem nth_lt (l : List UInt8) (i : Nat) : nth l i < 256 := by
  unfold nth; exact UInt8.toNat_lt _
end Gm

namespace Gm
theorem get!_nth (s : ByteArray) (i j : Nat) : (s.get! (i + j)).toNat = nth (s.data.toList.drop i) j := by
  unfold nth
  congr 1
  simp only [ByteArray.get!, List.getD_eq_getElem?_getD, List.getElem?_drop]
  show s.data[i + j]! = _
  rw [Array.getElem!_eq_getD, Array.getD_eq_getD_getElem?]
  simp
  rfl
end Gm

namespace Gm
theorem dec_eq (s : ByteArray) (i : Nat) : Utf8.decode s i = dec (s.data.toList.drop i) := by
  rw [Lib.decode_at]
  unfold dec
  have h0 := get!_nth s i 0
  have h1 := get!_nth s i 1
  have h2 := get!_nth s i 2
  have h3 := get!_nth s i 3
  rw [Nat.add_zero] at h0
  rw [h0, h1, h2, h3]
  congr 1
  simp
end Gm

namespace Gm
theorem dec_ascii (l : List UInt8) (h : nth l 0 < 128) : dec l = (nth l 0, 1) := by
  unfold dec Lib.decodeN; rw [if_pos h]
end Gm

namespace Gm
theorem dec_high (l : List UInt8) (h : 128 ≤ nth l 0) : 128 ≤ (dec l).1 := by
  unfold dec Lib.decodeN
  rw [if_neg (by omega)]
  repeat' split
  all_goals (simp only; omega)
end Gm

namespace Gm
theorem dec_le (l : List UInt8) : (dec l).1 ≤ 1114111 := by
  unfold dec Lib.decodeN
  have := nth_lt l 0
  repeat' split
  all_goals (simp only; omega)
end Gm

namespace Gm
theorem dec_w (l : List UInt8) : 1 ≤ (dec l).2 ∧ (dec l).2 ≤ 4 := by
  unfold dec Lib.decodeN
  repeat' split
  all_goals (simp only; omega)
end Gm

namespace Gm
theorem dec_w_len (l : List UInt8) (h : l ≠ []) : (dec l).2 ≤ l.length := by
  have : 1 ≤ l.length := by cases l with | nil => exact absurd rfl h | cons _ _ => simp
  unfold dec Lib.decodeN
  repeat' split
  all_goals (simp only; omega)
end Gm

namespace Gm
def chk : Nat → List UInt8 → Option Nat
  | 0, _ => none
  | f + 1, l => if l = [] then none else if bad l then some 0 else (chk f (l.drop (dec l).2)).map (fun n => n + (dec l).2)
end Gm

namespace Gm
def check (l : List UInt8) : Option Nat := chk l.length l
end Gm

namespace Gm
def checkZ (l : List UInt8) : Int := match check l with | none => -1 | some n => (n : Int)
end Gm

namespace Gm
theorem chk_fuel (f : Nat) : ∀ (l : List UInt8), l.length ≤ f → chk f l = check l := by
  have main : ∀ (f : Nat) (g : Nat) (l : List UInt8), l.length ≤ f → l.length ≤ g → chk f l = chk g l := by
    intro f
    induction f with
    | zero =>
      intro g l h1 h2
      have : l = [] := List.length_eq_zero_iff.1 (by omega)
      subst this
      cases g <;> simp [chk]
    | succ f ih =>
      intro g l h1 h2
      cases g with
      | zero =>
        have : l = [] := List.length_eq_zero_iff.1 (by omega)
        subst this
        simp [chk]
      | succ g =>
        simp only [chk]
        by_cases hl : l = []
        · simp [hl]
        · rw [if_neg hl, if_neg hl]
          have hw := dec_w l
          have hne : 1 ≤ l.length := by cases l with | nil => exact absurd rfl hl | cons _ _ => simp
          rw [ih g (l.drop (dec l).2) (by rw [List.length_drop]; omega) (by rw [List.length_drop]; omega)]
  intro l h
  exact main f l.length l h (Nat.le_refl _)
end Gm

namespace Gm
theorem check_nil : check [] = none := rfl
end Gm

namespace Gm
theorem check_eq (l : List UInt8) (h : l ≠ []) : check l = if bad l then some 0 else (check (l.drop (dec l).2)).map (fun n => n + (dec l).2) := by
  have hne : 1 ≤ l.length := by cases l with | nil => exact absurd rfl h | cons _ _ => simp
  have hw := dec_w l
  obtain ⟨f, hf⟩ : ∃ f, l.length = f + 1 := ⟨l.length - 1, by omega⟩
  unfold check
  rw [hf, chk, if_neg h, chk_fuel f _ (by rw [List.length_drop]; omega)]
  rfl
end Gm

theorem toList_drop_end (s : ByteArray) (i : Nat) : (s.extract i s.size).data.toList = s.data.toList.drop i := by
  rw [Lib.extract_data, List.take_of_length_le]
  rw [List.length_drop, ← Lib.size_eq]
  exact Nat.le_refl _

theorem drop_ne (s : ByteArray) (i : Nat) (h : i < s.size) : s.data.toList.drop i ≠ [] := by
  intro e
  have := congrArg List.length e
  rw [List.length_drop, ← Lib.size_eq] at this
  simp at this
  omega

theorem drop_nil (s : ByteArray) (i : Nat) (h : ¬ i < s.size) : s.data.toList.drop i = [] := by
  apply List.drop_eq_nil_of_le
  rw [← Lib.size_eq]
  omega

theorem ret_int {k : IntKind} {a b : Int} (h : a = b) : Ending.returned (.int k a) = .returned (.int k b) := by rw [h]

theorem checkZ_none {l : List UInt8} (h : Gm.check l = none) : Gm.checkZ l = -1 := by unfold Gm.checkZ; rw [h]

theorem checkZ_some {l : List UInt8} {n : Nat} (h : Gm.check l = some n) : Gm.checkZ l = n := by unfold Gm.checkZ; rw [h]

theorem drop_drop' (l : List UInt8) (i j : Nat) : (l.drop i).drop j = l.drop (i + j) := by rw [List.drop_drop]

theorem nth_of (s : ByteArray) (i : Nat) (h : i < s.size) : Gm.nth s.data.toList i = (s[i]'h).toNat := by
  unfold Gm.nth
  congr 1
  rw [List.getD_eq_getElem?_getD, List.getElem?_eq_getElem (by rw [← Lib.size_eq]; exact h)]
  rfl

namespace Gm
def textTab : List (List UInt8) := [[97], [98], [34], [92], [10], [1], [195, 169], [226, 130, 172], [240, 159, 152, 128], [255], [237, 160, 128], [12], [127], [239, 191, 189], [8], [9]]
end Gm

namespace Gm
def rawTab : List (List UInt8) := [[97], [92, 110], [92, 117, 48, 48, 52, 49], [92, 117, 100, 56, 51, 100], [92, 117, 100, 101, 48, 48], [92, 117, 48, 48, 69, 57], [92, 34], [92, 92], [92, 47], [92, 120], [92, 117, 49, 50], [10], [195, 169], [255], [92, 117, 68, 66, 70, 70, 92, 117, 68, 70, 70, 70], [34]]
end Gm

namespace Gm
def pick (tab : List (List UInt8)) (zs : List Int) (n : Nat) : List UInt8 := (zs.take n).flatMap fun z => tab.getD (z.toNat % 16) []
end Gm

namespace Gm
theorem pick_zero (tab : List (List UInt8)) (zs : List Int) : pick tab zs 0 = [] := by simp [pick]
end Gm

namespace Gm
theorem pick_succ (tab : List (List UInt8)) (zs : List Int) (n : Nat) (h : n < zs.length) : pick tab zs (n + 1) = pick tab zs n ++ tab.getD ((zs.getD n 0).toNat % 16) [] := by
  unfold pick
  rw [List.take_succ_eq_append_getElem h, List.flatMap_append]
  simp [List.getD_eq_getElem?_getD, h]
end Gm

namespace Gm
theorem tab_le (k : Nat) : (textTab.getD k []).length ≤ 4 ∧ (rawTab.getD k []).length ≤ 12 := by
  by_cases h : k < 16
  · have : ∀ k ∈ List.range 16, (textTab.getD k []).length ≤ 4 ∧ (rawTab.getD k []).length ≤ 12 := by decide
    exact this k (List.mem_range.2 h)
  · have h1 : textTab.getD k [] = [] := by
      rw [List.getD_eq_getElem?_getD, List.getElem?_eq_none (by simp [textTab]; omega)]; rfl
    have h2 : rawTab.getD k [] = [] := by
      rw [List.getD_eq_getElem?_getD, List.getElem?_eq_none (by simp [rawTab]; omega)]; rfl
    rw [h1, h2]; simp
end Gm

namespace Gm
theorem pick_text_le (zs : List Int) (n : Nat) : (pick textTab zs n).length ≤ 4 * n := by
  have key : ∀ m : List Int, (m.flatMap fun z => textTab.getD (z.toNat % 16) []).length ≤ 4 * m.length := by
    intro m
    induction m with
    | nil => simp
    | cons a m ih =>
      have := (tab_le (a.toNat % 16)).1
      rw [List.flatMap_cons, List.length_append, List.length_cons]
      omega
  have h1 := key (zs.take n)
  have h2 : (zs.take n).length ≤ n := List.length_take_le _ _
  unfold pick
  omega
end Gm

/-- a slice of integers that came in -/
def IsRow (k : IntKind) (w : World) (a : Option Addr) (len cap : Nat) (zs : List Int) : Prop :=
  (a = none ∧ len = 0 ∧ cap = 0 ∧ zs = []) ∨
  ∃ x, a = some x ∧ len ≤ cap ∧ cap ≤ maxLen ∧ zs.length = cap ∧ (∀ i, i < zs.length → w.cell? (x.add i) = some (.int k (zs.getD i 0))) ∧ ∀ n ∈ zs, (Lit.int k n).wf = true

theorem IsRow.below {k : IntKind} {w w' : World} {a : Option Addr} {len cap : Nat} {zs : List Int} (h : IsRow k w a len cap zs) (hb : Below w.heap.size w w') : IsRow k w' a len cap zs := by
  rcases h with h | ⟨x, ha, hl, hm, hz, hcell, hwz⟩
  · exact .inl h
  · exact .inr ⟨x, ha, hl, hm, hz, fun i hi => cell_later hb (hcell i hi), hwz⟩

theorem str_app (a b : List UInt8) : (⟨a.toArray⟩ : ByteArray) ++ ⟨b.toArray⟩ = ⟨(a ++ b).toArray⟩ := by
  apply ByteArray.ext
  rw [ByteArray.data_append]
  simp

theorem wf_u8 {z : Int} (h : (Lit.int .u8 z).wf = true) : 0 ≤ z ∧ z ≤ 255 := by
  simpa [Lit.wf, IntKind.min, IntKind.max, IntKind.signed, IntKind.bits] using h

theorem getD_u8 {zs : List Int} (h : ∀ n ∈ zs, (Lit.int .u8 n).wf = true) (i : Nat) (hi : i < zs.length) : 0 ≤ zs.getD i 0 ∧ zs.getD i 0 ≤ 255 := by
  rw [List.getD_eq_getElem?_getD, List.getElem?_eq_getElem hi]
  exact wf_u8 (h _ (List.getElem_mem hi))

def textArr : Array Value := #[.string ⟨#[97]⟩, .string ⟨#[98]⟩, .string ⟨#[34]⟩, .string ⟨#[92]⟩, .string ⟨#[10]⟩, .string ⟨#[1]⟩, .string ⟨#[195, 169]⟩, .string ⟨#[226, 130, 172]⟩, .string ⟨#[240, 159, 152, 128]⟩, .string ⟨#[255]⟩, .string ⟨#[237, 160, 128]⟩, .string ⟨#[12]⟩, .string ⟨#[127]⟩, .string ⟨#[239, 191, 189]⟩, .string ⟨#[8]⟩, .string ⟨#[9]⟩]

theorem text_at (w : World) : ∀ k, k < 16 → (w.alloc (.cells textArr 9)).cell? ⟨w.heap.size, k, none⟩ = some (.string ⟨(Gm.textTab.getD k []).toArray⟩) := by
  have h0 : ∀ k, k < 16 → textArr[k]? = some (.string ⟨(Gm.textTab.getD k []).toArray⟩) := fun
  | 0, _ => rfl
  | 1, _ => rfl
  | 2, _ => rfl
  | 3, _ => rfl
  | 4, _ => rfl
  | 5, _ => rfl
  | 6, _ => rfl
  | 7, _ => rfl
  | 8, _ => rfl
  | 9, _ => rfl
  | 10, _ => rfl
  | 11, _ => rfl
  | 12, _ => rfl
  | 13, _ => rfl
  | 14, _ => rfl
  | 15, _ => rfl
  | n + 16, h => by omega
  intro k hk
  have h1 := h0 k hk
  simp only [World.cell?, World.alloc, Array.getElem?_push_size]
  simpa using h1

set_option maxHeartbeats 1000000 in
theorem text_row (a : Option Addr) (len cap : Nat) (zs : List Int) (w : World) (hl : len ≤ zs.length) (hm : len ≤ maxLen) (hwz : ∀ n ∈ zs, (Lit.int .u8 n).wf = true)
    (hc : ∀ i, i < len → ∃ b off, a = some ⟨b, off, none⟩ ∧ w.cell? ⟨b, off + i, none⟩ = some (.int .u8 (zs.getD i 0))) :
    Calls Try.prog 45 #[.slice a len cap] w fun e w' => e = .returned (.string ⟨(Gm.pick Gm.textTab zs (min len 40)).toArray⟩) ∧ Below w.heap.size w w' := by
  have htab := text_at w
  have hbel : Below w.heap.size w (w.alloc (.cells textArr 9)) := (Below.refl _ _).alloc (Nat.le_refl _) _
  unfold maxLen at hm
  go_enter Try.func45, Try.ntmps45
  go_wp2
  change Code.wp _ _ _ _ (w.alloc (.cells textArr 9))
  generalize w.alloc (.cells textArr 9) = W1 at *
  have hc2 : ∀ i, i < len → ∃ b off, a = some ⟨b, off, none⟩ ∧ W1.cell? ⟨b, off + i, none⟩ = some (.int .u8 (zs.getD i 0)) := by
    intro i hi
    obtain ⟨b, off, h1, h2⟩ := hc i hi
    exact ⟨b, off, h1, cell_later hbel h2⟩
  have HT : Hid _ := htab
  have HC : Hid _ := hc2
  have HW : Hid _ := hwz
  clear htab hc hc2 hwz
  go_loop [4, 5] (fun s i => ∃ k : Nat, k ≤ min len 40 ∧ i = .int .i64 k ∧ s = .string ⟨(Gm.pick Gm.textTab zs k).toArray⟩) (fun _ i => 40 - (intOf i).toNat)
  case atStart => exact ⟨0, by omega, rfl, by rw [Gm.pick_zero]⟩
  case round =>
    obtain ⟨k, hk, rfl, rfl⟩ := hrel
    by_cases h1 : k < len
    · have h1' : (k : Int) < len := by omega
      by_cases h2 : k < 40
      · have h2' : (k : Int) < 40 := by omega
        obtain ⟨b, off, ha, hcell⟩ := HC.out k h1
        have hz := getD_u8 HW.out k (by omega)
        have hps := Gm.pick_succ Gm.textTab zs k (by omega)
        have HPS : Hid _ := hps
        clear hps
        subst ha
        obtain ⟨hz0, hz1⟩ := hz
        generalize hzz : zs.getD k 0 = z at *
        obtain ⟨zn, rfl⟩ := Int.eq_ofNat_of_zero_le hz0
        have ht := HT.out (zn % 16) (by omega)
        have hmod : ((zn : Int) % 16).toNat = zn % 16 := by omega
        have hm0 : 0 ≤ (zn : Int) % 16 := by omega
        have hm1 : (zn : Int) % 16 < 16 := by omega
        clear hzz
        have hpl := Gm.pick_text_le zs k
        have htl := (Gm.tab_le (zn % 16)).1
        rw [show ((zn : Int)).toNat % 16 = zn % 16 from by omega] at HPS
        generalize hps : Gm.pick Gm.textTab zs k = ps at *
        generalize hte : Gm.textTab.getD (zn % 16) [] = te at *
        have hsum : ¬ 9223372036854775807 < ps.length + te.length := by omega
        have HP : Hid _ := hps
        have HTE : Hid _ := hte
        clear hps hte
        go_wp2
        go_round
        case rel => exact ⟨k + 1, by omega, by go_num, by rw [HPS.out, str_app]⟩
        case measure => simp [intOf]; omega
      · have h2' : ¬ (k : Int) < 40 := by omega
        go_wp2
        go_ret
        refine ⟨?_, hbel⟩
        rw [show min len 40 = k from by omega]
        rfl
    · have h1' : decide ((k : Int) < len) = false := by simp; omega
      go_wp2
      go_ret
      refine ⟨?_, hbel⟩
      rw [show min len 40 = k from by omega]
      rfl

theorem IsRow.view {w : World} {a : Option Addr} {len cap : Nat} {zs : List Int} (h : IsRow .u8 w a len cap zs) :
    len ≤ zs.length ∧ len ≤ maxLen ∧ (∀ n ∈ zs, (Lit.int .u8 n).wf = true) ∧ (∀ i, i < len → ∃ b off, a = some ⟨b, off, none⟩ ∧ w.cell? ⟨b, off + i, none⟩ = some (.int .u8 (zs.getD i 0))) := by
  rcases h with ⟨rfl, rfl, rfl, rfl⟩ | ⟨x, rfl, hl, hm, hz, hcell, hwz⟩
  · exact ⟨by simp, by simp [maxLen], by simp, fun i hi => by omega⟩
  · refine ⟨by omega, by omega, hwz, fun i hi => ?_⟩
    obtain ⟨b, off, rfl, hc⟩ := ints_at hcell (by omega)
    exact ⟨b, off, rfl, hc i (by omega)⟩

theorem text_any (a : Option Addr) (len cap : Nat) (zs : List Int) (w : World) (h : IsRow .u8 w a len cap zs) :
    Calls Try.prog 45 #[.slice a len cap] w fun e w' => e = .returned (.string ⟨(Gm.pick Gm.textTab zs (min len 40)).toArray⟩) ∧ Below w.heap.size w w' := by
  obtain ⟨h1, h2, h3, h4⟩ := h.view
  exact text_row a len cap zs w h1 h2 h3 h4

end Go.Proofs.Ytpfbiklbecdmiaa
