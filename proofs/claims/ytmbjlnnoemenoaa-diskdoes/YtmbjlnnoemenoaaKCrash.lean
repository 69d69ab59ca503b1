/-
  THE WALK of disk's Crash (layer 9).
-/
import Derived.Test.YtmbjlnnoemenoaaKCalls
set_option linter.unusedVariables false
set_option linter.unusedSimpArgs false
set_option maxRecDepth 100000
namespace Go.Proofs.Ytmbjlnnoemenoaa
open Go.RowKit Go.Maps Dk

def keptL : Nat → List (Bs × PF) → Nat
  | _, [] => 0
  | k, p :: r => min k (p.2.all.length - p.2.last) + keptL (k - min k (p.2.all.length - p.2.last)) r
theorem keptL_le : ∀ (l : List (Bs × PF)) (k : Nat), keptL k l ≤ k
  | [], k => Nat.zero_le _
  | p :: r, k => by have := keptL_le r (k - min k (p.2.all.length - p.2.last)); simp only [keptL]; omega
theorem crashL_snoc (p : Bs × PF) : ∀ (l : List (Bs × PF)) (k : Nat), crashL k (l ++ [p]) = crashL k l ++ [(p.1, crashF (k - keptL k l) p.2)] ∧ keptL k (l ++ [p]) = keptL k l + min (k - keptL k l) (p.2.all.length - p.2.last)
  | [], k => by simp [crashL, keptL]
  | q :: r, k => by
    obtain ⟨h1, h2⟩ := crashL_snoc p r (k - min k (q.2.all.length - q.2.last))
    simp only [List.cons_append, crashL, keptL, h1, h2, Nat.sub_sub]
    exact ⟨trivial, by omega⟩
theorem get_mid {n : Bs} {g : PF} {b : List (Bs × PF)} : ∀ {a : List (Bs × PF)}, (∀ q ∈ a, q.1 ≠ n) → get (a ++ (n, g) :: b) n = some g
  | [], _ => by simp [Dk.get]
  | q :: r, h => by
    simp only [List.cons_append, Dk.get, if_neg (h q List.mem_cons_self)]
    exact get_mid (fun x hx => h x (List.mem_cons_of_mem _ hx))
theorem upd_mid {n : Bs} {f g : PF} {b : List (Bs × PF)} : ∀ {a : List (Bs × PF)}, (∀ q ∈ a, q.1 ≠ n) → upd n f (a ++ (n, g) :: b) = a ++ (n, f) :: b
  | [], _ => by simp [Dk.upd]
  | q :: r, h => by
    simp only [List.cons_append, Dk.upd, if_neg (h q List.mem_cons_self)]
    rw [upd_mid (fun x hx => h x (List.mem_cons_of_mem _ hx))]
/-- the files when i of them are gone through -/
def crAt (k : Nat) (fs : List (Bs × PF)) (i : Nat) : List (Bs × PF) := crashL k (fs.take i) ++ fs.drop i
theorem crAt_ne {k i : Nat} {fs : List (Bs × PF)} (hr : Rise fs) (hi : i < fs.length) : ∀ q ∈ crashL k (fs.take i), q.1 ≠ fs[i].1 := by
  intro q hq
  have h1 : q.1 ∈ (fs.take i).map (·.1) := by rw [← keys_crash (fs.take i) k]; exact List.mem_map.2 ⟨q, hq, rfl⟩
  obtain ⟨x, hx, e⟩ := List.mem_map.1 h1
  obtain ⟨j, hj, rfl⟩ := List.mem_iff_getElem.1 hx
  rw [← e]
  rw [List.getElem_take]
  have hj' : j < i := by simp at hj; omega
  exact before_ne (List.pairwise_iff_getElem.1 hr j i (by omega) hi hj')
theorem crAt_get {k i : Nat} {fs : List (Bs × PF)} (hr : Rise fs) (hi : i < fs.length) : get (crAt k fs i) fs[i].1 = some fs[i].2 := by
  unfold crAt
  rw [List.drop_eq_getElem_cons hi]
  exact get_mid (crAt_ne hr hi)
theorem crAt_step {k i : Nat} {fs : List (Bs × PF)} (hr : Rise fs) (hi : i < fs.length) :
    crAt k fs (i + 1) = upd fs[i].1 (crashF (k - keptL k (fs.take i)) fs[i].2) (crAt k fs i) ∧ keptL k (fs.take (i + 1)) = keptL k (fs.take i) + min (k - keptL k (fs.take i)) (fs[i].2.all.length - fs[i].2.last) := by
  have e : fs.take (i + 1) = fs.take i ++ [fs[i]] := List.take_succ_eq_append_getElem hi
  obtain ⟨h1, h2⟩ := crashL_snoc fs[i] (fs.take i) k
  rw [← e] at h1 h2
  refine ⟨?_, h2⟩
  unfold crAt
  rw [List.drop_eq_getElem_cons hi, upd_mid (crAt_ne hr hi), h1, List.append_assoc]
  rfl

theorem own_kept {w w' : World} {base : Nat} {e : TypeId} {sz : Nat} {v : Value} {n : Nat} {xs : List Value} (h : w.ownsRow base e sz v n xs) {S : Nat → Prop} (k : Ch S w w') (hn : ∀ g, v.ownBlock = some g → ¬ S g) : w'.ownsRow base e sz v n xs := by
  refine ⟨h.1, ?_⟩
  rcases h.2 with h0 | ⟨g, cap, cur, rfl, h1, h2, h3⟩
  · exact .inl h0
  · exact .inr ⟨g, cap, cur, rfl, h1, k.kept h2 (hn g rfl), h3⟩
/-- the string of a row at i -/
theorem own_str {w : World} {base : Nat} {e : TypeId} {a : Option Addr} {n cap : Nat} {ks : List Bs} (h : w.ownsRow base e 1 (.slice a n cap) n (ks.map encStr)) {i : Nat} (hi : i < ks.length) :
    ∃ g, a = some ⟨g, 0, none⟩ ∧ w.cell? ⟨g, i, none⟩ = some (encStr ks[i]) := by
  have hl := h.1
  simp at hl
  rcases id h.2 with ⟨h1, h2⟩ | ⟨g, cap', cur, h1, _⟩
  · omega
  · simp only [Value.slice.injEq] at h1
    obtain ⟨rfl, _, _⟩ := h1
    have := h.cells (g := g) rfl i (encStr ks[i]) (by simp [hi])
    rw [Addr.add_lit, Nat.zero_add] at this
    exact ⟨g, rfl, this⟩

set_option maxHeartbeats 4000000 in
theorem crash_any (P : PD) (d : Nat) (S : Nat → Prop) (keep : Int) (w : World) (h : IsD w d S P) (hk : keep < 9223372036854775808) :
    Calls Try.prog 19 #[ptr d, .int .i64 keep] w fun e w' => e = .returned (.tuple #[]) ∧ ∃ S', IsD w' d S' (crash P keep) ∧ Turn S w S' w' := by
  have HD := hide h
  have HKB := hide hk
  obtain ⟨mv0, A0, h0⟩ := h
  have hrise := h0.wf.rise
  have HRI := hide hrise
  have HLOW := hide h0.low
  have hfew := h0.wf.few
  clear h0 hrise hk
  obtain ⟨k, hkn⟩ : ∃ k : Nat, max keep 0 = (k : Int) ∧ k = keep.toNat := ⟨keep.toNat, by omega, rfl⟩
  have hkk := hkn.1
  have HKK := hide hkn.2
  have hkb : k < 9223372036854775808 := by have := HKB.out; omega
  have HKb := hide hkb
  clear hkn hkb
  go_enter Try.func19, Try.ntmps19
  go_wp2_with fail
  refine (names_any P d S w HD.out).mono ?_
  rintro e w1 ⟨v, rfl, hrow, b1⟩
  have hd1 := HD.out.below b1
  have HB1 := hide b1
  have HROW := hide hrow
  have HD1 := hide hd1
  clear b1 hrow hd1
  obtain ⟨a, cap, rfl⟩ := own_shape HROW.out
  go_wp2_with fail
  go_loopw [1, 13] (fun kv iv wr => ∃ (i kp : Nat), i ≤ P.fs.length ∧ iv = .int .i64 i ∧ kv = .int .i64 kp ∧ Hid (kp = k - keptL k (P.fs.take i)) ∧ Hid (∃ S' mv A, IsA wr d S' { P with fs := crAt k P.fs i } mv A ∧ Turn S w1 S' wr))
    (fun _ iv _ => P.fs.length - (intOf iv).toNat)
  case atStart =>
    obtain ⟨mv1, A1, h1⟩ := HD1.out
    exact ⟨0, k, Nat.zero_le _, rfl, rfl, hide (by simp [keptL]), hide ⟨S, mv1, A1, by simpa [crAt, crashL] using h1, Turn.refl _ _⟩⟩
  case round =>
    obtain ⟨i, kp, hi, rfl, rfl, HKP, HSt⟩ := hrel
    by_cases hlt : i < P.fs.length
    · obtain ⟨S1, mv, A, hA, hT⟩ := HSt.out
      have hli : (i : Int) < P.fs.length := by omega
      have hrw := own_kept HROW.out hT.ch (fun g hg => fun hs => by have := (HROW.out.lt g hg).1; have := HLOW.out g hs; omega)
      obtain ⟨g, rfl, hc⟩ := own_str (ks := P.fs.map (·.1)) hrw (i := i) (by simpa using hlt)
      have hkey : (P.fs.map (·.1))[i]'(by simpa using hlt) = P.fs[i].1 := by simp
      rw [hkey] at hc
      obtain ⟨nm, hnm⟩ : ∃ nm : ByteArray, nm = ⟨P.fs[i].1.toArray⟩ := ⟨_, rfl⟩
      have hbs : bs nm = P.fs[i].1 := by rw [hnm]
      have hc' : wr.cell? ⟨g, i, none⟩ = some (.string nm) := by rw [hnm]; exact hc
      have hnl : nm.size ≤ maxLen := by
        have h1 := hA.wf.names
        have h2 := get_mem (crAt_get (k := k) HRI.out hlt)
        have h3 := h1 _ h2
        have h4 : nm.size = P.fs[i].1.length := by rw [hnm]; simp [ByteArray.size]
        rw [h4]; simp only at h3; unfold maxLen; omega
      have hl := look_any hA.map nm hnl
      have hgf := crAt_get (k := k) HRI.out hlt
      rw [hbs] at hl
      rw [atF_some hgf] at hl
      have c1 := hA.blk.cell 1
      simp [head] at c1
      obtain ⟨f1, f2, f3, f4⟩ := hA.file _ (get_mem hgf)
      have hlast := hA.wf.last _ (get_mem hgf)
      have hfl : P.fs[i].2.all.length ≤ 4194304 := by have h1 := get_used hgf; have h2 := hA.wf.used; have h3 := hA.wf.room; simp only at h2 h3; omega
      have hkpb : kp < 9223372036854775808 := by have h1 := HKP.out; have h2 := HKb.out; omega
      obtain ⟨m, hm⟩ : ∃ m, m = min kp (P.fs[i].2.all.length - P.fs[i].2.last) := ⟨_, rfl⟩
      have hmk : m ≤ kp := by omega
      have HGF := hide hgf
      have HA := hide hA
      have HT := hide hT
      have HF2 := hide f2
      have HF3 := hide f3
      have HLA : Hid (P.fs[i].2.last ≤ P.fs[i].2.all.length) := hide hlast
      have HFL := hide hfl
      have HKPB := hide hkpb
      have HM := hide hm
      have hwr : IntKind.i64.wrap ((kp : Int) - m) = ((kp - m : Nat) : Int) := by rw [IntKind.wrap_i64]; omega
      clear hc hnm hbs hnl hgf hA hT f1 f2 f3 f4 hlast hfl hkpb hm hrw HSt hkey
      go_wp2_with fail
      refine (fcrash_any P.fs[i].2 (A P.fs[i].1).2 (A P.fs[i].1).1 kp wr HF2.out HF3.out HLA.out HFL.out HKPB.out).mono ?_
      rintro e w2 ⟨rfl, v2, hb2, hr2, hv2, hc2⟩
      rw [← HM.out]
      have hd2 : Blk w2 d (head { P with fs := crAt k P.fs (i + 1) } mv) 56 := hc2.kept HA.out.blk (ne_of_blk HA.out.blk HF2.out (by decide))
      have hst := crAt_step (k := k) HRI.out hlt
      rw [← HKP.out] at hst
      have hA2 := HA.out.filed (P' := { P with fs := crAt k P.fs (i + 1) }) (f' := crashF kp P.fs[i].2) HGF.out (hc2.weak fun i _ hi => .inr (.inl hi)) hst.1 rfl HA.out.wf.left
        (by
          have h1 := used_upd (f := crashF kp P.fs[i].2) HGF.out
          have h2 := HA.out.wf.used
          have h3 : (crashF kp P.fs[i].2).all.length ≤ P.fs[i].2.all.length := by simp only [crashF, List.length_take]; omega
          rw [← hst.1] at h1
          simp only at h2 ⊢
          omega)
        (by have := HLA.out; simp only [crashF, List.length_take]; omega) hd2 hb2 hr2 (by
          rcases hv2 with h | h
          · exact .inr (.inl h)
          · exact .inr (.inr h))
      have hk2 : kp - m = k - keptL k (P.fs.take (i + 1)) := by
        have h1 := hst.2
        have h2 := HKP.out
        have h3 := HM.out
        omega
      obtain ⟨S2, hA2, hT2⟩ := hA2
      have HA2 := hide hA2
      have HT2 := hide (HT.out.trans hT2)
      have HK2 := hide hk2
      clear hb2 hr2 hv2 hc2 hd2 hst hA2 hT2 hk2
      go_wp2_with fail
      refine ⟨⟨i + 1, kp - m, by omega, by congr 1, rfl, HK2, hide ⟨S2, _, _, HA2.out, HT2.out⟩⟩, ?_⟩
      simp [intOf]; omega
    · have hil : i = P.fs.length := by omega
      subst hil
      obtain ⟨S1, mv, A, hA, hT⟩ := HSt.out
      have hnl : ¬ ((P.fs.length : Int) < P.fs.length) := by omega
      have HA := hide hA
      have HT := hide hT
      clear hA hT HSt
      go_wp2_with fail
      refine (fuse_any { P with fs := crAt k P.fs P.fs.length } d S1 (-1) wr ⟨mv, A, HA.out⟩ (by decide)).mono ?_
      rintro e w3 ⟨rfl, hd3, ht3⟩
      obtain ⟨mv3, A3, h3⟩ := hd3
      have f4 := h3.blk.free 4
      have c4 := h3.blk.cell 4
      simp [head] at c4
      have H3 := hide h3
      have HT3 := hide ht3
      clear h3 ht3
      go_wp2_with fail
      go_end0
      have hfs : crAt k P.fs P.fs.length = crashL keep.toNat P.fs := by simp [crAt, HKK.out]
      have hA4 := H3.out.turned (P' := crash P keep) (Ch.set d 4 (.bool false)) (by show crashL keep.toNat P.fs = crAt k P.fs P.fs.length; rw [hfs]) rfl (by simp [crash]) (by
        have := H3.out.blk.set 4 (.bool false)
        simpa [head, fuse, crash] using this)
      refine ⟨rfl, S1, ⟨_, _, hA4⟩, (((Turn.of_below HB1.out).trans HT.out).trans HT3.out).trans ⟨(Ch.set d 4 _).weak (fun i _ hi => hi ▸ H3.out.inS), fun k hk => .inl hk⟩⟩
end Go.Proofs.Ytmbjlnnoemenoaa
