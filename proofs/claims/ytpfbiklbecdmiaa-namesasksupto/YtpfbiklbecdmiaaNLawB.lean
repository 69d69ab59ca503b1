/-
  What the laws of layer 6 call: the chapter's examples, and texts of choices.
  Texts of choices: patterns, names.
-/
import Derived.Test.YtpfbiklbecdmiaaNNameD
set_option linter.unusedVariables false
set_option linter.unusedSimpArgs false
namespace Go.Proofs.Ytpfbiklbecdmiaa.Nm

def pick (m : Nat) (tab : List (List UInt8)) (zs : List Int) (k : Nat) : List UInt8 := (List.range k).flatMap fun i => tab.getD ((zs.getD i 0).toNat % m) []
theorem pick_zero (m : Nat) (tab : List (List UInt8)) (zs : List Int) : pick m tab zs 0 = [] := rfl
theorem pick_succ (m : Nat) (tab : List (List UInt8)) (zs : List Int) (k : Nat) : pick m tab zs (k + 1) = pick m tab zs k ++ tab.getD ((zs.getD k 0).toNat % m) [] := by
  unfold pick
  rw [List.range_succ, List.flatMap_append]
  simp
theorem pick_len (m : Nat) (tab : List (List UInt8)) (h : ∀ x ∈ tab, x.length ≤ 4) (zs : List Int) : ∀ k, (pick m tab zs k).length ≤ 4 * k
  | 0 => by simp [pick]
  | k + 1 => by
    have := pick_len m tab h zs k
    rw [pick_succ, List.length_append]
    have h2 : (tab.getD ((zs.getD k 0).toNat % m) []).length ≤ 4 := by
      rw [List.getD_eq_getElem?_getD]
      cases e : tab[(zs.getD k 0).toNat % m]? with
      | none => simp
      | some x => exact h x (List.mem_of_getElem? e)
    omega
def patTab : List (List UInt8) := [[42], [63], [97], [98], [46], [42]]
def nameTab : List (List UInt8) := [[64], [33], [58], [97], [98, 46, 99], [115], [45], [95], [61], [47], [65], [32], [48], [195, 169]]
def plTab : List (List UInt8) := [[97], [98]]
def pat (zs : List Int) (len : Nat) : List UInt8 := pick 6 patTab zs (min len 12)
def name (zs : List Int) (len : Nat) : List UInt8 := pick 14 nameTab zs (min len 12)
def pl (zs : List Int) (len : Nat) : List UInt8 := pick 2 plTab zs (min len 10)
end Go.Proofs.Ytpfbiklbecdmiaa.Nm
namespace Go.Proofs.Ytpfbiklbecdmiaa
open Go.RowKit Go.Shelf

theorem let_other (k : Int) (c1 c2 c3 c4 : Value) (s : ByteArray) (w : World) (hk : ¬ k = 5) :
    Calls Try.prog 24 #[.agg #[.int .i64 k, c1, c2, c3, c4], .string s] w fun e w' => e = .returned (.bool true) ∧ Below w.heap.size w w' := by
  have hb : (k == 5) = false := by simp [hk]
  go_enter Try.func24, Try.ntmps24
  go_wp2_with fail
  go_ret
  exact ⟨rfl, (Below.refl _ _).alloc (Nat.le_refl _) _⟩

theorem nknown_any (w : World) :
    Calls Try.prog 11 #[] w fun e w' => e = .returned (.bool true) ∧ Below w.heap.size w w' := by
  go_enter Try.func11, Try.ntmps11
  go_wp2_with fail
  refine (glob_any _ _ w (by decide) (by decide)).mono ?_
  rintro e w1 ⟨rfl, n, rfl⟩
  rw [show Nm.glob (⟨#[42, 46, 98, 97, 100]⟩ : ByteArray).data.toList (⟨#[97, 46, 98, 97, 100]⟩ : ByteArray).data.toList = true by decide]
  have b1 : Below w.heap.size w (w.drewN n) := below_drewN (Below.refl _ _) n
  generalize w.drewN n = W1 at b1 ⊢
  go_wp2_with fail
  refine (glob_any _ _ W1 (by decide) (by decide)).mono ?_
  rintro e w2 ⟨rfl, n2, rfl⟩
  rw [show Nm.glob (⟨#[42, 46, 98, 97, 100]⟩ : ByteArray).data.toList (⟨#[98, 97, 100]⟩ : ByteArray).data.toList = false by decide]
  have b2 : Below w.heap.size w (W1.drewN n2) := below_drewN b1 n2
  generalize W1.drewN n2 = W2 at b2 ⊢
  clear b1
  go_wp2_with fail
  refine (server_any _ W2 (by decide)).mono ?_
  rintro e w3 ⟨rfl, b3⟩
  rw [show Nm.server (⟨#[64, 97, 58, 98, 46, 99]⟩ : ByteArray).data.toList = [98, 46, 99] by decide]
  have b3' := nthen b2 b3
  clear b2 b3
  go_wp2_with fail
  refine (user_any _ w3 (by decide)).mono ?_
  rintro e w4 ⟨rfl, b4⟩
  rw [show Nm.user (⟨#[64, 97, 58, 98]⟩ : ByteArray).data.toList = true by decide]
  have b4' := nthen b3' b4
  clear b3' b4
  go_wp2_with fail
  refine (user_any _ w4 (by decide)).mono ?_
  rintro e w5 ⟨rfl, b5⟩
  rw [show Nm.user (⟨#[64, 58, 98]⟩ : ByteArray).data.toList = false by decide]
  have b5' := nthen b4' b5
  clear b4' b5
  go_wp2_with fail
  refine (room_any _ w5 (by decide)).mono ?_
  rintro e w6 ⟨rfl, b6⟩
  rw [show Nm.room (⟨#[33, 114, 58, 115]⟩ : ByteArray).data.toList = true by decide]
  have b6' := nthen b5' b6
  clear b5' b6
  go_wp2_with fail
  refine (let_other 0 _ _ _ _ _ w6 (by decide)).mono ?_
  rintro e w7 ⟨rfl, b7⟩
  have b7' := nthen b6' b7
  go_wp2_with fail
  go_ret
  exact ⟨rfl, b7'⟩
end Go.Proofs.Ytpfbiklbecdmiaa
namespace Go.Proofs.Ytpfbiklbecdmiaa
open Go.RowKit Go.Shelf

/-- bytes that came in, or a piece of them -/
def Bys (w : World) (a : Option Addr) (len : Nat) (zs : List Int) : Prop :=
  len ≤ zs.length ∧ len ≤ maxLen ∧ (∀ n ∈ zs, (Lit.int .u8 n).wf = true) ∧ (∀ i, i < len → ∃ b off, a = some ⟨b, off, none⟩ ∧ w.cell? ⟨b, off + i, none⟩ = some (.int .u8 (zs.getD i 0)))
theorem Bys.below {w w' : World} {a : Option Addr} {len : Nat} {zs : List Int} (h : Bys w a len zs) (k : Below w.heap.size w w') : Bys w' a len zs :=
  ⟨h.1, h.2.1, h.2.2.1, fun i hi => by
    obtain ⟨b, off, h1, h2⟩ := h.2.2.2 i hi
    exact ⟨b, off, h1, cell_below h2 k⟩⟩

def patArr : Array Value := #[.string ⟨#[42]⟩, .string ⟨#[63]⟩, .string ⟨#[97]⟩, .string ⟨#[98]⟩, .string ⟨#[46]⟩, .string ⟨#[42]⟩]
theorem pat_at (w : World) : ∀ k, k < 6 → (w.alloc (.cells patArr 9)).cell? ⟨w.heap.size, k, none⟩ = some (.string ⟨(Nm.patTab.getD k []).toArray⟩) := by
  have h0 : ∀ k, k < 6 → patArr[k]? = some (.string ⟨(Nm.patTab.getD k []).toArray⟩) := fun
  | 0, _ => rfl
  | 1, _ => rfl
  | 2, _ => rfl
  | 3, _ => rfl
  | 4, _ => rfl
  | 5, _ => rfl
  | n + 6, h => by omega
  intro k hk
  have h1 := h0 k hk
  simp only [World.cell?, World.alloc, Array.getElem?_push_size]
  simpa using h1

set_option maxHeartbeats 1000000 in
theorem pat_row (a : Option Addr) (len cap : Nat) (zs : List Int) (w : World) (hB : Bys w a len zs) :
    Calls Try.prog 15 #[.slice a len cap] w fun e w' => e = .returned (.string ⟨(Nm.pat zs len).toArray⟩) ∧ Below w.heap.size w w' := by
  obtain ⟨hl, hm, hwz, hc⟩ := hB
  have htab := pat_at w
  have hbel : Below w.heap.size w (w.alloc (.cells patArr 9)) := (Below.refl _ _).alloc (Nat.le_refl _) _
  unfold maxLen at hm
  go_enter Try.func15, Try.ntmps15
  go_wp2
  change Code.wp _ _ _ _ (w.alloc (.cells patArr 9))
  generalize w.alloc (.cells patArr 9) = W1 at *
  have hc2 : ∀ i, i < len → ∃ b off, a = some ⟨b, off, none⟩ ∧ W1.cell? ⟨b, off + i, none⟩ = some (.int .u8 (zs.getD i 0)) := by
    intro i hi
    obtain ⟨b, off, h1, h2⟩ := hc i hi
    exact ⟨b, off, h1, cell_later hbel h2⟩
  have HT : Hid _ := htab
  have HC : Hid _ := hc2
  have HW : Hid _ := hwz
  clear htab hc hc2 hwz
  go_loop [4, 5] (fun s i => ∃ k : Nat, k ≤ min len 12 ∧ i = .int .i64 k ∧ s = .string ⟨(Nm.pick 6 Nm.patTab zs k).toArray⟩) (fun _ i => 12 - (intOf i).toNat)
  case atStart => exact ⟨0, by omega, rfl, by rw [Nm.pick_zero]⟩
  case round =>
    obtain ⟨k, hk, rfl, rfl⟩ := hrel
    by_cases h1 : k < len
    · have h1' : (k : Int) < len := by omega
      by_cases h2 : k < 12
      · have h2' : (k : Int) < 12 := by omega
        obtain ⟨b, off, ha, hcell⟩ := HC.out k h1
        have hz := getD_u8 HW.out k (by omega)
        have hps := Nm.pick_succ 6 Nm.patTab zs k
        have HPS : Hid _ := hps
        clear hps
        subst ha
        obtain ⟨hz0, hz1⟩ := hz
        generalize hzz : zs.getD k 0 = z at *
        obtain ⟨zn, rfl⟩ := Int.eq_ofNat_of_zero_le hz0
        have ht := HT.out (zn % 6) (by omega)
        have hmod : ((zn : Int) % 6).toNat = zn % 6 := by omega
        have hm0 : 0 ≤ (zn : Int) % 6 := by omega
        have hm1 : (zn : Int) % 6 < 6 := by omega
        clear hzz
        have hpl := Nm.pick_len 6 Nm.patTab (by decide) zs k
        have htl : (Nm.patTab.getD (zn % 6) []).length ≤ 4 := by
          rw [List.getD_eq_getElem?_getD]
          cases e : Nm.patTab[zn % 6]? with
          | none => simp
          | some x => exact (show ∀ x ∈ Nm.patTab, x.length ≤ 4 by decide) x (List.mem_of_getElem? e)
        rw [show ((zn : Int)).toNat % 6 = zn % 6 from by omega] at HPS
        generalize hps : Nm.pick 6 Nm.patTab zs k = ps at *
        generalize hte : Nm.patTab.getD (zn % 6) [] = te at *
        have hsum : ¬ 9223372036854775807 < ps.length + te.length := by omega
        have HP : Hid _ := hps
        have HTE : Hid _ := hte
        clear hps hte
        go_wp2
        go_round
        case rel => exact ⟨k + 1, by omega, by go_num, by rw [HPS.out, str_app]⟩
        case measure => simp [intOf]; omega
      · have h2' : ¬ (k : Int) < 12 := by omega
        go_wp2
        go_ret
        refine ⟨?_, hbel⟩
        rw [Nm.pat, show min len 12 = k from by omega]
        rfl
    · have h1' : decide ((k : Int) < len) = false := by simp; omega
      go_wp2
      go_ret
      refine ⟨?_, hbel⟩
      rw [Nm.pat, show min len 12 = k from by omega]
      rfl
def nameArr : Array Value := #[.string ⟨#[64]⟩, .string ⟨#[33]⟩, .string ⟨#[58]⟩, .string ⟨#[97]⟩, .string ⟨#[98, 46, 99]⟩, .string ⟨#[115]⟩, .string ⟨#[45]⟩, .string ⟨#[95]⟩, .string ⟨#[61]⟩, .string ⟨#[47]⟩, .string ⟨#[65]⟩, .string ⟨#[32]⟩, .string ⟨#[48]⟩, .string ⟨#[195, 169]⟩]
theorem name_at (w : World) : ∀ k, k < 14 → (w.alloc (.cells nameArr 9)).cell? ⟨w.heap.size, k, none⟩ = some (.string ⟨(Nm.nameTab.getD k []).toArray⟩) := by
  have h0 : ∀ k, k < 14 → nameArr[k]? = some (.string ⟨(Nm.nameTab.getD k []).toArray⟩) := fun
  | 0, _ => rfl
  | 1, _ => rfl
  | 2, _ => rfl
  | 3, _ => rfl
  | 4, _ => rfl
  | 5, _ => rfl
  | 6, _ => rfl
  | 7, _ => rfl
  | 8, _ => rfl
  | 9, _ => rfl
  | 10, _ => rfl
  | 11, _ => rfl
  | 12, _ => rfl
  | 13, _ => rfl
  | n + 14, h => by omega
  intro k hk
  have h1 := h0 k hk
  simp only [World.cell?, World.alloc, Array.getElem?_push_size]
  simpa using h1

set_option maxHeartbeats 1000000 in
theorem name_row (a : Option Addr) (len cap : Nat) (zs : List Int) (w : World) (hB : Bys w a len zs) :
    Calls Try.prog 12 #[.slice a len cap] w fun e w' => e = .returned (.string ⟨(Nm.name zs len).toArray⟩) ∧ Below w.heap.size w w' := by
  obtain ⟨hl, hm, hwz, hc⟩ := hB
  have htab := name_at w
  have hbel : Below w.heap.size w (w.alloc (.cells nameArr 9)) := (Below.refl _ _).alloc (Nat.le_refl _) _
  unfold maxLen at hm
  go_enter Try.func12, Try.ntmps12
  go_wp2
  change Code.wp _ _ _ _ (w.alloc (.cells nameArr 9))
  generalize w.alloc (.cells nameArr 9) = W1 at *
  have hc2 : ∀ i, i < len → ∃ b off, a = some ⟨b, off, none⟩ ∧ W1.cell? ⟨b, off + i, none⟩ = some (.int .u8 (zs.getD i 0)) := by
    intro i hi
    obtain ⟨b, off, h1, h2⟩ := hc i hi
    exact ⟨b, off, h1, cell_later hbel h2⟩
  have HT : Hid _ := htab
  have HC : Hid _ := hc2
  have HW : Hid _ := hwz
  clear htab hc hc2 hwz
  go_loop [4, 5] (fun s i => ∃ k : Nat, k ≤ min len 12 ∧ i = .int .i64 k ∧ s = .string ⟨(Nm.pick 14 Nm.nameTab zs k).toArray⟩) (fun _ i => 12 - (intOf i).toNat)
  case atStart => exact ⟨0, by omega, rfl, by rw [Nm.pick_zero]⟩
  case round =>
    obtain ⟨k, hk, rfl, rfl⟩ := hrel
    by_cases h1 : k < len
    · have h1' : (k : Int) < len := by omega
      by_cases h2 : k < 12
      · have h2' : (k : Int) < 12 := by omega
        obtain ⟨b, off, ha, hcell⟩ := HC.out k h1
        have hz := getD_u8 HW.out k (by omega)
        have hps := Nm.pick_succ 14 Nm.nameTab zs k
        have HPS : Hid _ := hps
        clear hps
        subst ha
        obtain ⟨hz0, hz1⟩ := hz
        generalize hzz : zs.getD k 0 = z at *
        obtain ⟨zn, rfl⟩ := Int.eq_ofNat_of_zero_le hz0
        have ht := HT.out (zn % 14) (by omega)
        have hmod : ((zn : Int) % 14).toNat = zn % 14 := by omega
        have hm0 : 0 ≤ (zn : Int) % 14 := by omega
        have hm1 : (zn : Int) % 14 < 14 := by omega
        clear hzz
        have hpl := Nm.pick_len 14 Nm.nameTab (by decide) zs k
        have htl : (Nm.nameTab.getD (zn % 14) []).length ≤ 4 := by
          rw [List.getD_eq_getElem?_getD]
          cases e : Nm.nameTab[zn % 14]? with
          | none => simp
          | some x => exact (show ∀ x ∈ Nm.nameTab, x.length ≤ 4 by decide) x (List.mem_of_getElem? e)
        rw [show ((zn : Int)).toNat % 14 = zn % 14 from by omega] at HPS
        generalize hps : Nm.pick 14 Nm.nameTab zs k = ps at *
        generalize hte : Nm.nameTab.getD (zn % 14) [] = te at *
        have hsum : ¬ 9223372036854775807 < ps.length + te.length := by omega
        have HP : Hid _ := hps
        have HTE : Hid _ := hte
        clear hps hte
        go_wp2
        go_round
        case rel => exact ⟨k + 1, by omega, by go_num, by rw [HPS.out, str_app]⟩
        case measure => simp [intOf]; omega
      · have h2' : ¬ (k : Int) < 12 := by omega
        go_wp2
        go_ret
        refine ⟨?_, hbel⟩
        rw [Nm.name, show min len 12 = k from by omega]
        rfl
    · have h1' : decide ((k : Int) < len) = false := by simp; omega
      go_wp2
      go_ret
      refine ⟨?_, hbel⟩
      rw [Nm.name, show min len 12 = k from by omega]
      rfl
end Go.Proofs.Ytpfbiklbecdmiaa
