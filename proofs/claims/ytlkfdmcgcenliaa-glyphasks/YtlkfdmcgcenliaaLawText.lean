/-
  THE WALKS over Text and Raw: texts of choices.
-/
import Derived.Test.YtlkfdmcgcenliaaLawWalks
set_option linter.unusedVariables false
set_option linter.unusedSimpArgs false
namespace Go.Proofs.Ytlkfdmcgcenliaa
open Go.RowKit

theorem str_app (a b : List UInt8) : (⟨a.toArray⟩ : ByteArray) ++ ⟨b.toArray⟩ = ⟨(a ++ b).toArray⟩ := by
  apply ByteArray.ext
  rw [ByteArray.data_append]
  simp

theorem wf_u8 {z : Int} (h : (Lit.int .u8 z).wf = true) : 0 ≤ z ∧ z ≤ 255 := by
  simpa [Lit.wf, IntKind.min, IntKind.max, IntKind.signed, IntKind.bits] using h
theorem getD_u8 {zs : List Int} (h : ∀ n ∈ zs, (Lit.int .u8 n).wf = true) (i : Nat) (hi : i < zs.length) : 0 ≤ zs.getD i 0 ∧ zs.getD i 0 ≤ 255 := by
  rw [List.getD_eq_getElem?_getD, List.getElem?_eq_getElem hi]
  exact wf_u8 (h _ (List.getElem_mem hi))

def textArr : Array Value := #[.string ⟨#[97]⟩, .string ⟨#[98]⟩, .string ⟨#[34]⟩, .string ⟨#[92]⟩, .string ⟨#[10]⟩, .string ⟨#[1]⟩, .string ⟨#[195, 169]⟩, .string ⟨#[226, 130, 172]⟩, .string ⟨#[240, 159, 152, 128]⟩, .string ⟨#[255]⟩, .string ⟨#[237, 160, 128]⟩, .string ⟨#[12]⟩, .string ⟨#[127]⟩, .string ⟨#[239, 191, 189]⟩, .string ⟨#[8]⟩, .string ⟨#[9]⟩]
theorem text_at (w : World) : ∀ k, k < 16 → (w.alloc (.cells textArr 9)).cell? ⟨w.heap.size, k, none⟩ = some (.string ⟨(Gm.textTab.getD k []).toArray⟩) := by
  have h0 : ∀ k, k < 16 → textArr[k]? = some (.string ⟨(Gm.textTab.getD k []).toArray⟩) := fun
  | 0, _ => rfl
  | 1, _ => rfl
  | 2, _ => rfl
  | 3, _ => rfl
  | 4, _ => rfl
  | 5, _ => rfl
  | 6, _ => rfl
  | 7, _ => rfl
  | 8, _ => rfl
  | 9, _ => rfl
  | 10, _ => rfl
  | 11, _ => rfl
  | 12, _ => rfl
  | 13, _ => rfl
  | 14, _ => rfl
  | 15, _ => rfl
  | n + 16, h => by omega
  intro k hk
  have h1 := h0 k hk
  simp only [World.cell?, World.alloc, Array.getElem?_push_size]
  simpa using h1

set_option maxHeartbeats 1000000 in
theorem text_row (a : Option Addr) (len cap : Nat) (zs : List Int) (w : World) (hl : len ≤ zs.length) (hm : len ≤ maxLen) (hwz : ∀ n ∈ zs, (Lit.int .u8 n).wf = true)
    (hc : ∀ i, i < len → ∃ b off, a = some ⟨b, off, none⟩ ∧ w.cell? ⟨b, off + i, none⟩ = some (.int .u8 (zs.getD i 0))) :
    Calls Try.prog 12 #[.slice a len cap] w fun e w' => e = .returned (.string ⟨(Gm.pick Gm.textTab zs (min len 40)).toArray⟩) ∧ Below w.heap.size w w' := by
  have htab := text_at w
  have hbel : Below w.heap.size w (w.alloc (.cells textArr 9)) := (Below.refl _ _).alloc (Nat.le_refl _) _
  unfold maxLen at hm
  go_enter Try.func12, Try.ntmps12
  go_wp2
  change Code.wp _ _ _ _ (w.alloc (.cells textArr 9))
  generalize w.alloc (.cells textArr 9) = W1 at *
  have hc2 : ∀ i, i < len → ∃ b off, a = some ⟨b, off, none⟩ ∧ W1.cell? ⟨b, off + i, none⟩ = some (.int .u8 (zs.getD i 0)) := by
    intro i hi
    obtain ⟨b, off, h1, h2⟩ := hc i hi
    exact ⟨b, off, h1, cell_later hbel h2⟩
  have HT : Hid _ := htab
  have HC : Hid _ := hc2
  have HW : Hid _ := hwz
  clear htab hc hc2 hwz
  go_loop [4, 5] (fun s i => ∃ k : Nat, k ≤ min len 40 ∧ i = .int .i64 k ∧ s = .string ⟨(Gm.pick Gm.textTab zs k).toArray⟩) (fun _ i => 40 - (intOf i).toNat)
  case atStart => exact ⟨0, by omega, rfl, by rw [Gm.pick_zero]⟩
  case round =>
    obtain ⟨k, hk, rfl, rfl⟩ := hrel
    by_cases h1 : k < len
    · have h1' : (k : Int) < len := by omega
      by_cases h2 : k < 40
      · have h2' : (k : Int) < 40 := by omega
        obtain ⟨b, off, ha, hcell⟩ := HC.out k h1
        have hz := getD_u8 HW.out k (by omega)
        have hps := Gm.pick_succ Gm.textTab zs k (by omega)
        have HPS : Hid _ := hps
        clear hps
        subst ha
        obtain ⟨hz0, hz1⟩ := hz
        generalize hzz : zs.getD k 0 = z at *
        obtain ⟨zn, rfl⟩ := Int.eq_ofNat_of_zero_le hz0
        have ht := HT.out (zn % 16) (by omega)
        have hmod : ((zn : Int) % 16).toNat = zn % 16 := by omega
        have hm0 : 0 ≤ (zn : Int) % 16 := by omega
        have hm1 : (zn : Int) % 16 < 16 := by omega
        clear hzz
        have hpl := Gm.pick_text_le zs k
        have htl := (Gm.tab_le (zn % 16)).1
        rw [show ((zn : Int)).toNat % 16 = zn % 16 from by omega] at HPS
        generalize hps : Gm.pick Gm.textTab zs k = ps at *
        generalize hte : Gm.textTab.getD (zn % 16) [] = te at *
        have hsum : ¬ 9223372036854775807 < ps.length + te.length := by omega
        have HP : Hid _ := hps
        have HTE : Hid _ := hte
        clear hps hte
        go_wp2
        go_round
        case rel => exact ⟨k + 1, by omega, by go_num, by rw [HPS.out, str_app]⟩
        case measure => simp [intOf]; omega
      · have h2' : ¬ (k : Int) < 40 := by omega
        go_wp2
        go_ret
        refine ⟨?_, hbel⟩
        rw [show min len 40 = k from by omega]
        rfl
    · have h1' : decide ((k : Int) < len) = false := by simp; omega
      go_wp2
      go_ret
      refine ⟨?_, hbel⟩
      rw [show min len 40 = k from by omega]
      rfl

def rawArr : Array Value := #[.string ⟨#[97]⟩, .string ⟨#[92, 110]⟩, .string ⟨#[92, 117, 48, 48, 52, 49]⟩, .string ⟨#[92, 117, 100, 56, 51, 100]⟩, .string ⟨#[92, 117, 100, 101, 48, 48]⟩, .string ⟨#[92, 117, 48, 48, 69, 57]⟩, .string ⟨#[92, 34]⟩, .string ⟨#[92, 92]⟩, .string ⟨#[92, 47]⟩, .string ⟨#[92, 120]⟩, .string ⟨#[92, 117, 49, 50]⟩, .string ⟨#[10]⟩, .string ⟨#[195, 169]⟩, .string ⟨#[255]⟩, .string ⟨#[92, 117, 68, 66, 70, 70, 92, 117, 68, 70, 70, 70]⟩, .string ⟨#[34]⟩]
theorem raw_at (w : World) : ∀ k, k < 16 → (w.alloc (.cells rawArr 9)).cell? ⟨w.heap.size, k, none⟩ = some (.string ⟨(Gm.rawTab.getD k []).toArray⟩) := by
  have h0 : ∀ k, k < 16 → rawArr[k]? = some (.string ⟨(Gm.rawTab.getD k []).toArray⟩) := fun
  | 0, _ => rfl
  | 1, _ => rfl
  | 2, _ => rfl
  | 3, _ => rfl
  | 4, _ => rfl
  | 5, _ => rfl
  | 6, _ => rfl
  | 7, _ => rfl
  | 8, _ => rfl
  | 9, _ => rfl
  | 10, _ => rfl
  | 11, _ => rfl
  | 12, _ => rfl
  | 13, _ => rfl
  | 14, _ => rfl
  | 15, _ => rfl
  | n + 16, h => by omega
  intro k hk
  have h1 := h0 k hk
  simp only [World.cell?, World.alloc, Array.getElem?_push_size]
  simpa using h1

set_option maxHeartbeats 1000000 in
theorem raw_row (a : Option Addr) (len cap : Nat) (zs : List Int) (w : World) (hl : len ≤ zs.length) (hm : len ≤ maxLen) (hwz : ∀ n ∈ zs, (Lit.int .u8 n).wf = true)
    (hc : ∀ i, i < len → ∃ b off, a = some ⟨b, off, none⟩ ∧ w.cell? ⟨b, off + i, none⟩ = some (.int .u8 (zs.getD i 0))) :
    Calls Try.prog 13 #[.slice a len cap] w fun e w' => e = .returned (.string ⟨(Gm.pick Gm.rawTab zs (min len 30)).toArray⟩) ∧ Below w.heap.size w w' := by
  have htab := raw_at w
  have hbel : Below w.heap.size w (w.alloc (.cells rawArr 9)) := (Below.refl _ _).alloc (Nat.le_refl _) _
  unfold maxLen at hm
  go_enter Try.func13, Try.ntmps13
  go_wp2
  change Code.wp _ _ _ _ (w.alloc (.cells rawArr 9))
  generalize w.alloc (.cells rawArr 9) = W1 at *
  have hc2 : ∀ i, i < len → ∃ b off, a = some ⟨b, off, none⟩ ∧ W1.cell? ⟨b, off + i, none⟩ = some (.int .u8 (zs.getD i 0)) := by
    intro i hi
    obtain ⟨b, off, h1, h2⟩ := hc i hi
    exact ⟨b, off, h1, cell_later hbel h2⟩
  have HT : Hid _ := htab
  have HC : Hid _ := hc2
  have HW : Hid _ := hwz
  clear htab hc hc2 hwz
  go_loop [4, 5] (fun s i => ∃ k : Nat, k ≤ min len 30 ∧ i = .int .i64 k ∧ s = .string ⟨(Gm.pick Gm.rawTab zs k).toArray⟩) (fun _ i => 30 - (intOf i).toNat)
  case atStart => exact ⟨0, by omega, rfl, by rw [Gm.pick_zero]⟩
  case round =>
    obtain ⟨k, hk, rfl, rfl⟩ := hrel
    by_cases h1 : k < len
    · have h1' : (k : Int) < len := by omega
      by_cases h2 : k < 30
      · have h2' : (k : Int) < 30 := by omega
        obtain ⟨b, off, ha, hcell⟩ := HC.out k h1
        have hz := getD_u8 HW.out k (by omega)
        have hps := Gm.pick_succ Gm.rawTab zs k (by omega)
        have HPS : Hid _ := hps
        clear hps
        subst ha
        obtain ⟨hz0, hz1⟩ := hz
        generalize hzz : zs.getD k 0 = z at *
        obtain ⟨zn, rfl⟩ := Int.eq_ofNat_of_zero_le hz0
        have ht := HT.out (zn % 16) (by omega)
        have hmod : ((zn : Int) % 16).toNat = zn % 16 := by omega
        have hm0 : 0 ≤ (zn : Int) % 16 := by omega
        have hm1 : (zn : Int) % 16 < 16 := by omega
        clear hzz
        have hpl := Gm.pick_raw_le zs k
        have htl := (Gm.tab_le (zn % 16)).2
        rw [show ((zn : Int)).toNat % 16 = zn % 16 from by omega] at HPS
        generalize hps : Gm.pick Gm.rawTab zs k = ps at *
        generalize hte : Gm.rawTab.getD (zn % 16) [] = te at *
        have hsum : ¬ 9223372036854775807 < ps.length + te.length := by omega
        have HP : Hid _ := hps
        have HTE : Hid _ := hte
        clear hps hte
        go_wp2
        go_round
        case rel => exact ⟨k + 1, by omega, by go_num, by rw [HPS.out, str_app]⟩
        case measure => simp [intOf]; omega
      · have h2' : ¬ (k : Int) < 30 := by omega
        go_wp2
        go_ret
        refine ⟨?_, hbel⟩
        rw [show min len 30 = k from by omega]
        rfl
    · have h1' : decide ((k : Int) < len) = false := by simp; omega
      go_wp2
      go_ret
      refine ⟨?_, hbel⟩
      rw [show min len 30 = k from by omega]
      rfl

theorem IsRow.view {w : World} {a : Option Addr} {len cap : Nat} {zs : List Int} (h : IsRow .u8 w a len cap zs) :
    len ≤ zs.length ∧ len ≤ maxLen ∧ (∀ n ∈ zs, (Lit.int .u8 n).wf = true) ∧ (∀ i, i < len → ∃ b off, a = some ⟨b, off, none⟩ ∧ w.cell? ⟨b, off + i, none⟩ = some (.int .u8 (zs.getD i 0))) := by
  rcases h with ⟨rfl, rfl, rfl, rfl⟩ | ⟨x, rfl, hl, hm, hz, hcell, hwz⟩
  · exact ⟨by simp, by simp [maxLen], by simp, fun i hi => by omega⟩
  · refine ⟨by omega, by omega, hwz, fun i hi => ?_⟩
    obtain ⟨b, off, rfl, hc⟩ := ints_at hcell (by omega)
    exact ⟨b, off, rfl, hc i (by omega)⟩
theorem text_any (a : Option Addr) (len cap : Nat) (zs : List Int) (w : World) (h : IsRow .u8 w a len cap zs) :
    Calls Try.prog 12 #[.slice a len cap] w fun e w' => e = .returned (.string ⟨(Gm.pick Gm.textTab zs (min len 40)).toArray⟩) ∧ Below w.heap.size w w' := by
  obtain ⟨h1, h2, h3, h4⟩ := h.view
  exact text_row a len cap zs w h1 h2 h3 h4
theorem raw_any (a : Option Addr) (len cap : Nat) (zs : List Int) (w : World) (h : IsRow .u8 w a len cap zs) :
    Calls Try.prog 13 #[.slice a len cap] w fun e w' => e = .returned (.string ⟨(Gm.pick Gm.rawTab zs (min len 30)).toArray⟩) ∧ Below w.heap.size w w' := by
  obtain ⟨h1, h2, h3, h4⟩ := h.view
  exact raw_row a len cap zs w h1 h2 h3 h4

end Go.Proofs.Ytlkfdmcgcenliaa
