/-
  THE WALK of DiskRoom (layer 9).
-/
import Derived.Test.YtmbjlnnoemenoaaKLasts0
import Derived.Laws.BytesArg
import Derived.Laws.OwnMore
set_option linter.unusedVariables false
set_option linter.unusedSimpArgs false
set_option maxRecDepth 100000
namespace Go.Proofs.Ytmbjlnnoemenoaa
open Go.RowKit Go.Maps Dk

/-- the disk of the law: so many files more, as far as there may be -/
def rmFs (ok : Bool) (zs : Bs) (j : Nat) : List (Bs × PF) := (if ok then [([97], ⟨zs, 0⟩)] else []) ++ (List.range j).map fun i => ([102, UInt8.ofNat (48 + i)], ⟨[], 0⟩)
def rmN (ok : Bool) (i : Nat) : Nat := min i (if ok then 3 else 4)
abbrev rmP (R : Nat) (ok : Bool) (zs : Bs) (i : Nat) : PD := ⟨R, rmFs ok zs (rmN ok i), false, 0, false⟩
theorem rm_step (R : Nat) (ok : Bool) (zs : Bs) (i : Nat) (hi : i < 7) (h : ok = true → zs.length ≤ R) :
    append (rmP R ok zs i) [102, UInt8.ofNat (48 + i)] [] = (if i < (if ok then 3 else 4) then 0 else 1, rmP R ok zs (i + 1)) := by
  cases ok with
  | true =>
    have h1 : ¬ R < zs.length := by have := h rfl; omega
    rcases i with _ | _ | _ | _ | _ | _ | _ | i <;> first
      | omega
      | simp [Dk.append, Dk.get, Dk.made, Dk.ins, Dk.upd, Dk.used, Dk.steps, Dk.gone, bytesBefore, rmFs, rmN, List.range_succ, h1]
  | false =>
    rcases i with _ | _ | _ | _ | _ | _ | _ | i <;> first
      | omega
      | simp [Dk.append, Dk.get, Dk.made, Dk.ins, Dk.upd, Dk.used, Dk.steps, Dk.gone, bytesBefore, rmFs, rmN, List.range_succ]
theorem rm_used (ok : Bool) (zs : Bs) (j : Nat) : used (rmFs ok zs j) = if ok then zs.length else 0 := by
  have h : ∀ l : List Nat, used (l.map fun i => (([102, UInt8.ofNat (48 + i)], ⟨[], 0⟩) : Bs × PF)) = 0 := by
    intro l
    induction l with
    | nil => rfl
    | cons x r ih => simp only [List.map_cons, Dk.used, ih]; rfl
  unfold rmFs
  cases ok with
  | true => simp only [if_true, List.cons_append, List.nil_append, Dk.used, h]; omega
  | false => simpa using h _
theorem rm_first (R : Nat) (zs : Bs) : append ⟨R, [], false, 0, false⟩ [97] zs = if zs.length ≤ R then (0, rmP R true zs 0) else (20, rmP R false zs 0) := by
  by_cases h : zs.length ≤ R
  · have h1 : ¬ R < zs.length := by omega
    simp [Dk.append, Dk.get, Dk.made, Dk.ins, Dk.upd, Dk.used, Dk.steps, Dk.gone, rmFs, rmN, h1, h]
  · have h1 : R < zs.length := by omega
    simp [Dk.append, Dk.get, Dk.used, rmFs, rmN, h1, h]
theorem u8_in {x : Int} (h1 : 0 ≤ x) (h2 : x < 256) : IntKind.u8.wrap x = x := IntWalk.u8_in x ⟨h1, by omega⟩
theorem conv1 (w : World) (x : Int) :
    (convert 37 9 (.slice (some ⟨w.heap.size, 0, none⟩) 1 1)).run Try.prog (w.alloc (.cells #[Value.int .u8 x] 5)) =
      .ok (.string ⟨#[x.toNat.toUInt8]⟩) (w.alloc (.cells #[Value.int .u8 x] 5)) := by
  have h := run_convert_bytes_arg (P := Try.prog) (w.alloc (.cells #[Value.int .u8 x] 5)) 37 5 Try.underlying37 Try.underlying5 w.heap.size 0 1 1 [x] rfl
    (fun i hi => by
      have : i = 0 := by omega
      subst this
      exact (Blk.new w #[Value.int .u8 x] 5).cell 0) 9 Try.underlying9
  rw [h]
  rfl

set_option maxHeartbeats 4000000 in
theorem diskRoom_walk (a0 : Int) (a1 : Int) (a2 : Int) (w0 : (Lit.int .u8 a0).wf = true) (w1 : (Lit.int .u8 a1).wf = true) (w2 : (Lit.int .u8 a2).wf = true) (w : World) :
    Calls Try.prog 6 #[.int .u8 a0, .int .u8 a1, .int .u8 a2] w fun e w' => e = .returned (.bool true) ∧ Below w.heap.size w w' := by
  have b0 := byte_of_wf w0
  have b1 := byte_of_wf w1
  have b2 := byte_of_wf w2
  clear w0 w1 w2
  obtain ⟨R, rfl⟩ : ∃ n : Nat, a0 = n := ⟨a0.toNat, by omega⟩
  obtain ⟨n, rfl⟩ : ∃ n : Nat, a1 = n := ⟨a1.toNat, by omega⟩
  obtain ⟨z, rfl⟩ : ∃ n : Nat, a2 = n := ⟨a2.toNat, by omega⟩
  have hR : R < 256 := by omega
  have hn : n < 256 := by omega
  have hz : z < 256 := by omega
  clear b0 b1 b2
  obtain ⟨m, hm⟩ : ∃ m : Nat, m = z % 8 := ⟨_, rfl⟩
  have hm8 : m < 8 := by have := Nat.mod_lt z (show 0 < 8 by omega); omega
  have hm2 : ((z : Int)).tmod 8 = m := by rw [Int.tmod_eq_emod_of_nonneg (by omega), hm]; push_cast; rfl
  have hnew : new (R : Int) = ⟨R, [], false, 0, false⟩ := by
    unfold Dk.new
    have : (min (max (R : Int) 0) 4194304).toNat = R := by omega
    rw [this]
  obtain ⟨i0, hi, hz0, hz1, hz2⟩ := info_parts infoU8
  obtain ⟨T, hT⟩ : ∃ T, T = strOfNums (List.replicate n 0) := ⟨_, rfl⟩
  have hTl : (bs T).length = n := by rw [bs_len, hT, strOfNums_size, List.length_replicate]
  obtain ⟨ok, hok⟩ : ∃ ok : Bool, ok = decide (n ≤ R) := ⟨_, rfl⟩
  have hfst : append ⟨R, [], false, 0, false⟩ [97] (bs T) = (if ok then 0 else 20, rmP R ok (bs T) 0) := by
    rw [rm_first, hTl, hok]
    by_cases h : n ≤ R <;> simp [h]
  have hokR : ok = true → (bs T).length ≤ R := by intro h; rw [hTl]; simpa [h] using hok.symm
  have hus : ∀ j, ((used (rmFs ok (bs T) j) : Nat) : Int) ≤ R := by
    intro j
    rw [rm_used]
    split
    · rename_i h; have := hokR h; omega
    · omega
  have HNEW := hide hnew
  have HFST := hide hfst
  have HOKR := hide hokR
  have HUS := hide hus
  have HT := hide hT
  clear hnew hfst hokR hus hT hTl hm
  go_enter Try.func6, Try.ntmps6
  go_wp2_with fail
  refine (new_st R (Below.refl w.heap.size w) (Nat.le_refl _) (by omega)).mono ?_
  rintro e w1 ⟨d, rfl, h1⟩
  rw [HNEW.out] at h1
  have H1 := hide h1
  clear h1
  go_wp2_with (at_make; refine wpList_make_full _ rfl _ _ 37 rfl 0 5 i0 (.int .u8 0) 1 Try.underlying37 hi hz0 hz1 _ _ _ _ n rfl rfl (by simp) (by simp) (by rw [hz2]; omega) (by unfold maxLen; omega) (Nat.zero_le _) ?_; intro w2 hown2 hgrow2)
  have hrow2 : w2.ownsRow 0 5 1 (.slice (some ⟨w1.heap.size, 0, none⟩) n n) n ((List.replicate n (0 : Int)).map (Value.int .u8)) := by
    have h := hown2
    rw [show (Value.int IntKind.u8 0).cells = #[Value.int .u8 0] from rfl, toList_madeCells_one, Nat.mul_one] at h
    simpa using h
  have hconv : (convert 37 9 (.slice (some ⟨w1.heap.size, 0, none⟩) n n)).run Try.prog w2 = .ok (.string T) w2 := by
    rw [HT.out]
    refine run_convert_bytes_arg (P := Try.prog) w2 37 5 Try.underlying37 Try.underlying5 w1.heap.size 0 n n (List.replicate n 0) (by simp) (fun i hi => ?_) 9 Try.underlying9
    have h := hrow2.cells (g := w1.heap.size) rfl i (.int .u8 ((List.replicate n (0 : Int)).getD i 0)) (by simp [hi])
    rw [Addr.add_lit] at h
    exact h
  have H2 := hide (H1.out.below ((Below.refl _ _).grown hgrow2 (Nat.le_refl _) (fun k hk => by cases hk)))
  clear hown2 hgrow2 hrow2 H1
  rw [hconv]
  go_wp2_with fail
  refine (append_st H2.out ⟨#[97]⟩ T (by decide) HFST.out).mono ?_
  rintro e w3 ⟨rfl, h3⟩
  have H3 := hide h3
  clear h3 H2 hconv
  cases ok with
  | true =>
    have hnr : n ≤ R := by simpa using hok.symm
    have hnI : (n : Int) ≤ R := by omega
    clear hok
    go_wp2_with fail
    go_loopw [11, 12] (fun kv iv wr => ∃ i kk : Nat, i ≤ m ∧ iv = .int .i64 i ∧ kv = .int .i64 kk ∧ Hid (kk = 1 + rmN true i) ∧ Hid (St w.heap.size w wr d (rmP R true (bs T) i))) (fun _ iv _ => m - (intOf iv).toNat)
    case atStart => exact ⟨0, 1, Nat.zero_le _, rfl, rfl, hide (by simp [rmN]), H3⟩
    case round =>
      obtain ⟨i, kk, him, rfl, rfl, HK, HS⟩ := hrel
      by_cases hlt : i < m
      · have hli : (i : Int) < m := by omega
        have hkb : kk ≤ 8 := by have := HK.out; simp only [rmN] at this; omega
        have hu1 : IntKind.u8.wrap (i : Int) = i := u8_in (by omega) (by omega)
        have hu2 : IntKind.u8.wrap (48 + (i : Int)) = 48 + i := u8_in (by omega) (by omega)
        have hcv := conv1 wr (48 + (i : Int))
        have hnm : bs ((⟨#[102]⟩ : ByteArray) ++ ⟨#[48 + UInt8.ofNat i]⟩) = [102, UInt8.ofNat (48 + i)] := by rw [bs_append, UInt8.ofNat_add]; rfl
        have hsz : ((⟨#[102]⟩ : ByteArray) ++ ⟨#[48 + UInt8.ofNat i]⟩).size ≤ 1099511627776 := by rw [ByteArray.size_append]; show 1 + 1 ≤ 1099511627776; decide
        have HSZ := hide hsz
        have H4 := hide (HS.out.below (below_alloc wr (.cells #[.int .u8 (48 + (i : Int))] 5)))
        have hstep := rm_step R true (bs T) i (by omega) (fun hh => HOKR.out trivial)
        rw [← hnm] at hstep
        clear hnm hsz HS
        by_cases hi3 : i < 3
        · have hc : append (rmP R true (bs T) i) (bs ((⟨#[102]⟩ : ByteArray) ++ ⟨#[48 + UInt8.ofNat i]⟩)) (bs ⟨#[]⟩) = (0, rmP R true (bs T) (i + 1)) := by rw [show bs ⟨#[]⟩ = [] from rfl, hstep]; simp [hi3]
          have HC := hide hc
          clear hc hstep
          go_wp2_with fail
          refine (append_st H4.out _ ⟨#[]⟩ HSZ.out HC.out).mono ?_
          rintro e w5 ⟨rfl, h5⟩
          have H5 := hide h5
          have HK5 : Hid (kk + 1 = 1 + rmN true (i + 1)) := by show kk + 1 = 1 + rmN true (i + 1); have := HK.out; simp [rmN] at this ⊢; omega
          clear h5 H4
          go_wp2_with fail
          refine ⟨⟨i + 1, kk + 1, by omega, by congr 1, by congr 1, HK5, H5⟩, ?_⟩
          simp [intOf]; omega
        · have hc : append (rmP R true (bs T) i) (bs ((⟨#[102]⟩ : ByteArray) ++ ⟨#[48 + UInt8.ofNat i]⟩)) (bs ⟨#[]⟩) = (1, rmP R true (bs T) (i + 1)) := by rw [show bs ⟨#[]⟩ = [] from rfl, hstep]; simp [hi3]
          have HC := hide hc
          clear hc hstep
          go_wp2_with fail
          refine (append_st H4.out _ ⟨#[]⟩ HSZ.out HC.out).mono ?_
          rintro e w5 ⟨rfl, h5⟩
          have H5 := hide h5
          have HK5 : Hid (kk = 1 + rmN true (i + 1)) := by show kk = 1 + rmN true (i + 1); have := HK.out; simp [rmN] at this ⊢; omega
          clear h5 H4
          go_wp2_with fail
          refine ⟨⟨i + 1, kk, by omega, by congr 1, rfl, HK5, H5⟩, ?_⟩
          simp [intOf]; omega
      · have him' : i = m := by omega
        subst him'
        have hkk : (kk : Int) = min 4 (1 + (i : Int)) := by have := HK.out; simp [rmN] at this; omega
        have hku : kk = min 4 (1 + i) := by omega
        have hus := HUS.out (rmN true i)
        have HKK := hide hkk
        have HUU := hide hus
        clear hkk hku hus
        go_wp2_with fail
        refine (known_any _).mono ?_
        rintro e w6 ⟨rfl, h6⟩
        have H6 := hide (HS.out.below h6)
        clear h6 HS
        go_wp2_with fail
        refine (used_st H6.out).mono ?_
        rintro e w7 ⟨rfl, h7⟩
        obtain ⟨u, hu⟩ : ∃ u : Nat, u = used (rmP R true (bs T) i).fs := ⟨_, rfl⟩
        have huR : (u : Int) ≤ R := by rw [hu]; exact HUU.out
        rw [← hu]
        have H7 := hide h7
        clear h7 H6 hu
        go_wp2_with fail
        go_ret
        refine ⟨?_, H7.out.out⟩
        have hkk := HKK.out
        first | rfl | (simp; omega)
  | false =>
    have hnr : ¬ n ≤ R := by simpa using hok.symm
    have hnI : ¬ (n : Int) ≤ R := by omega
    clear hok
    go_wp2_with fail
    go_loopw [11, 12] (fun kv iv wr => ∃ i kk : Nat, i ≤ m ∧ iv = .int .i64 i ∧ kv = .int .i64 kk ∧ Hid (kk = 0 + rmN false i) ∧ Hid (St w.heap.size w wr d (rmP R false (bs T) i))) (fun _ iv _ => m - (intOf iv).toNat)
    case atStart => exact ⟨0, 0, Nat.zero_le _, rfl, rfl, hide (by simp [rmN]), H3⟩
    case round =>
      obtain ⟨i, kk, him, rfl, rfl, HK, HS⟩ := hrel
      by_cases hlt : i < m
      · have hli : (i : Int) < m := by omega
        have hkb : kk ≤ 8 := by have := HK.out; simp only [rmN] at this; omega
        have hu1 : IntKind.u8.wrap (i : Int) = i := u8_in (by omega) (by omega)
        have hu2 : IntKind.u8.wrap (48 + (i : Int)) = 48 + i := u8_in (by omega) (by omega)
        have hcv := conv1 wr (48 + (i : Int))
        have hnm : bs ((⟨#[102]⟩ : ByteArray) ++ ⟨#[48 + UInt8.ofNat i]⟩) = [102, UInt8.ofNat (48 + i)] := by rw [bs_append, UInt8.ofNat_add]; rfl
        have hsz : ((⟨#[102]⟩ : ByteArray) ++ ⟨#[48 + UInt8.ofNat i]⟩).size ≤ 1099511627776 := by rw [ByteArray.size_append]; show 1 + 1 ≤ 1099511627776; decide
        have HSZ := hide hsz
        have H4 := hide (HS.out.below (below_alloc wr (.cells #[.int .u8 (48 + (i : Int))] 5)))
        have hstep := rm_step R false (bs T) i (by omega) (fun hh => by cases hh)
        rw [← hnm] at hstep
        clear hnm hsz HS
        by_cases hi3 : i < 4
        · have hc : append (rmP R false (bs T) i) (bs ((⟨#[102]⟩ : ByteArray) ++ ⟨#[48 + UInt8.ofNat i]⟩)) (bs ⟨#[]⟩) = (0, rmP R false (bs T) (i + 1)) := by rw [show bs ⟨#[]⟩ = [] from rfl, hstep]; simp [hi3]
          have HC := hide hc
          clear hc hstep
          go_wp2_with fail
          refine (append_st H4.out _ ⟨#[]⟩ HSZ.out HC.out).mono ?_
          rintro e w5 ⟨rfl, h5⟩
          have H5 := hide h5
          have HK5 : Hid (kk + 1 = 0 + rmN false (i + 1)) := by show kk + 1 = 0 + rmN false (i + 1); have := HK.out; simp [rmN] at this ⊢; omega
          clear h5 H4
          go_wp2_with fail
          refine ⟨⟨i + 1, kk + 1, by omega, by congr 1, by congr 1, HK5, H5⟩, ?_⟩
          simp [intOf]; omega
        · have hc : append (rmP R false (bs T) i) (bs ((⟨#[102]⟩ : ByteArray) ++ ⟨#[48 + UInt8.ofNat i]⟩)) (bs ⟨#[]⟩) = (1, rmP R false (bs T) (i + 1)) := by rw [show bs ⟨#[]⟩ = [] from rfl, hstep]; simp [hi3]
          have HC := hide hc
          clear hc hstep
          go_wp2_with fail
          refine (append_st H4.out _ ⟨#[]⟩ HSZ.out HC.out).mono ?_
          rintro e w5 ⟨rfl, h5⟩
          have H5 := hide h5
          have HK5 : Hid (kk = 0 + rmN false (i + 1)) := by show kk = 0 + rmN false (i + 1); have := HK.out; simp [rmN] at this ⊢; omega
          clear h5 H4
          go_wp2_with fail
          refine ⟨⟨i + 1, kk, by omega, by congr 1, rfl, HK5, H5⟩, ?_⟩
          simp [intOf]; omega
      · have him' : i = m := by omega
        subst him'
        have hkk : (kk : Int) = min 4 (0 + (i : Int)) := by have := HK.out; simp [rmN] at this; omega
        have hku : kk = min 4 (0 + i) := by omega
        have hus := HUS.out (rmN false i)
        have HKK := hide hkk
        have HUU := hide hus
        clear hkk hku hus
        go_wp2_with fail
        refine (known_any _).mono ?_
        rintro e w6 ⟨rfl, h6⟩
        have H6 := hide (HS.out.below h6)
        clear h6 HS
        go_wp2_with fail
        refine (used_st H6.out).mono ?_
        rintro e w7 ⟨rfl, h7⟩
        obtain ⟨u, hu⟩ : ∃ u : Nat, u = used (rmP R false (bs T) i).fs := ⟨_, rfl⟩
        have huR : (u : Int) ≤ R := by rw [hu]; exact HUU.out
        rw [← hu]
        have H7 := hide h7
        clear h7 H6 hu
        go_wp2_with fail
        go_ret
        refine ⟨?_, H7.out.out⟩
        have hkk := HKK.out
        first | rfl | (simp; omega)
end Go.Proofs.Ytmbjlnnoemenoaa
