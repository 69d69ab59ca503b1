/-
  THE WALK of heliastref09's Crash (layer 9).
-/
import Derived.Test.YtmbjlnnoemenoaaKRefG
import Derived.Test.YtmbjlnnoemenoaaKRefE
set_option linter.unusedVariables false
set_option linter.unusedSimpArgs false
set_option maxRecDepth 100000
namespace Go.Proofs.Ytmbjlnnoemenoaa
open Go.RowKit Go.Maps Go.Sort Dk

theorem set_same {α : Type} : ∀ (l : List α) (i : Nat) (v : α), l[i]? = some v → l.set i v = l
  | [], _, _, h => by cases h
  | a :: l, 0, v, h => by simp at h; simp [h]
  | a :: l, i + 1, v, h => by simp at h; simp [set_same l i v h]
/-- a file is stored whole -/
theorem FRow.filed {w : World} {g cap len : Nat} {fs : List (Bs × PF)} (hln : len = fs.length) (h : FRow w (.slice (some ⟨g, 0, none⟩) len cap) fs) {k : Nat} (hk : k < fs.length) {T : ByteArray} {f : PF} (hfk : fs[k] = (bs T, f)) (hno : ∀ j (hj : j < k), fs[j].1 ≠ bs T) (X : ByteArray) (m : Nat) :
    FRow (((w.setCell ⟨g, k * 3, none⟩ (.string T)).setCell ⟨g, k * 3 + 1, none⟩ (.string X)).setCell ⟨g, k * 3 + 2, none⟩ (.int .i64 m)) (.slice (some ⟨g, 0, none⟩) len cap) (upd (bs T) ⟨bs X, m⟩ fs) := by
  subst hln
  have h0 := FRow.set h (k * 3) (by rw [fcs_len]; omega) (.string T)
  have e0 : (fcs fs).set (k * 3) (.string T) = fcs fs := set_same _ _ _ (by have := (fcs_get fs k hk).1; rw [hfk] at this; exact this)
  rw [e0] at h0
  have h1 := FRow.set h0 (k * 3 + 1) (by rw [fcs_len]; omega) (.string X)
  have h2 := FRow.set h1 (k * 3 + 2) (by rw [List.length_set, fcs_len]; omega) (.int .i64 m)
  have hfc := fcs_both fs k hk (bs X) m hfk hno
  rw [st_bs] at hfc
  rw [← hfc] at h2
  show World.ownsRow _ 0 _ 3 _ (upd (bs T) ⟨bs X, m⟩ fs).length (fcs (upd (bs T) ⟨bs X, m⟩ fs))
  rw [len_upd]; exact h2
theorem crAt_len {k i : Nat} {fs : List (Bs × PF)} (hi : i ≤ fs.length) : (crAt k fs i).length = fs.length := by
  unfold crAt; rw [List.length_append, len_crash]; simp; omega
theorem crAt_at {k i : Nat} {fs : List (Bs × PF)} (hi : i < fs.length) (h : i < (crAt k fs i).length) : (crAt k fs i)[i] = fs[i] := by
  have hl : (crashL k (fs.take i)).length = i := by rw [len_crash]; simp; omega
  have e : (crAt k fs i)[i]? = fs[i]? := by unfold crAt; rw [List.getElem?_append_right (by omega)]; simp [hl]
  rw [List.getElem?_eq_getElem h, List.getElem?_eq_getElem hi] at e
  exact Option.some.inj e
theorem crAt_before {k i : Nat} {fs : List (Bs × PF)} (hr : Rise fs) (hi : i < fs.length) (j : Nat) (hj : j < i) (h : j < (crAt k fs i).length) : (crAt k fs i)[j].1 ≠ fs[i].1 := by
  have hl : (crashL k (fs.take i)).length = i := by rw [len_crash]; simp; omega
  have e : (crAt k fs i)[j]? = (crashL k (fs.take i))[j]? := by unfold crAt; rw [List.getElem?_append_left (by omega)]
  rw [List.getElem?_eq_getElem h, List.getElem?_eq_getElem (by omega)] at e
  rw [Option.some.inj e]
  exact crAt_ne hr hi _ (List.getElem_mem _)
theorem crAt_zero {k : Nat} {fs : List (Bs × PF)} : crAt k fs 0 = fs := by simp [crAt, crashL]
theorem crAt_all {k : Nat} {fs : List (Bs × PF)} : crAt k fs fs.length = crashL k fs := by simp [crAt]

set_option maxHeartbeats 4000000 in
theorem rcrash_any (P : PD) (e : Nat) (S : Nat → Prop) (keep : Int) (w : World) (h : IsE w e S P) (hkp : keep < 9223372036854775808) :
    Calls Try.prog 45 #[ptr e, .int .i64 keep] w fun x w' => x = .returned (.tuple #[]) ∧ IsE w' e S (crash P keep) ∧ Turn S w S w' := by
  obtain ⟨v, lv, h⟩ := h
  obtain ⟨a, cap, rfl, hlc, hcm⟩ := h.row.shape
  have hfew := h.wf.few
  have HU : Hid (used P.fs ≤ 4194304) := hide (Nat.le_trans h.wf.used h.wf.room)
  obtain ⟨K, hK⟩ : ∃ K : Nat, K = keep.toNat := ⟨_, rfl⟩
  have hmax : max keep 0 = (K : Int) := by omega
  have HK := hide hK
  have hK2 : K < 9223372036854775808 := by omega
  have H := hide h
  clear h hK
  obtain ⟨len, hlen⟩ : ∃ len, len = P.fs.length := ⟨_, rfl⟩
  rw [← hlen] at hlc hfew
  have HLN := hide hlen
  clear hlen hkp
  unfold maxLen at hcm
  go_enter Try.func45, Try.ntmps45
  go_wp2_with fail
  clear hmax
  go_loopw [4, 5] (fun l i wr => ∃ k x : Nat, i = .int .i64 k ∧ l = .int .i64 x ∧ k ≤ len ∧ x < 9223372036854775808 ∧ Hid (x = K - keptL K (P.fs.take k)) ∧
    Hid (IsR wr e S { P with fs := crAt K P.fs k } (.slice a len cap) lv) ∧ Hid (Turn S w S wr)) (fun _ i _ => len - (intOf i).toNat)
  case atStart =>
    refine ⟨0, K, rfl, rfl, Nat.zero_le _, hK2, hide (by simp [keptL]), ?_, hide (Turn.refl _ _)⟩
    have := H.out
    rw [crAt_zero, HLN.out]
    exact H
  case round =>
    obtain ⟨k, x, rfl, rfl, hk, hx, HX, HR, HT⟩ := hrel
    have c1 := HR.out.blk.cell 1
    simp [rHead] at c1
    by_cases hlt : k < len
    · have hli : (k : Int) < len := by omega
      have hkl : k < P.fs.length := by have := HLN.out; omega
      have hkc : k < (crAt K P.fs k).length := by rw [crAt_len (by omega)]; exact hkl
      have hle2 : len = (crAt K P.fs k).length := by rw [crAt_len (by omega)]; exact HLN.out
      have HR' := HR.out.row
      obtain ⟨g, cur, rfl, hb, g0, g1, g2⟩ := HR'.at hkc
      rw [crAt_at hkl] at g0 g1 g2
      obtain ⟨T, hT⟩ : ∃ T, T = st P.fs[k].1 := ⟨_, rfl⟩
      obtain ⟨X, hX⟩ : ∃ X, X = st P.fs[k].2.all := ⟨_, rfl⟩
      obtain ⟨m, hm⟩ : ∃ m, m = P.fs[k].2.last := ⟨_, rfl⟩
      have hXs : X.size = P.fs[k].2.all.length := by rw [hX, st_size]
      have hms : m ≤ X.size := by rw [hXs, hm]; exact H.out.wf.last _ (List.getElem_mem hkl)
      have hXb : X.size ≤ 4194304 := by rw [hXs]; have h1 := get_used (get_of_mem H.out.wf.rise (List.getElem_mem hkl)); have h2 := HU.out; omega
      rw [← hT] at g0
      rw [← hX] at g1
      rw [← hm] at g2
      obtain ⟨q, hq⟩ : ∃ q : Nat, q = min x (X.size - m) := ⟨_, rfl⟩
      have hqi : min (x : Int) ((X.size : Int) - m) = (q : Int) := by omega
      have hq1 : q ≤ x := by omega
      have hq2 : m + q ≤ X.size := by omega
      have hf0 := hb.free (k * 3)
      have hf1 := hb.free (k * 3 + 1)
      have hf2 := hb.free (k * 3 + 2)
      have hst := crAt_step (k := K) H.out.wf.rise hkl
      have hgt := crAt_get (k := K) H.out.wf.rise hkl
      have hbf := fun j hj => crAt_before (k := K) H.out.wf.rise hkl j hj (Nat.lt_trans hj hkc)
      have hat := crAt_at (k := K) hkl hkc
      have HLE := hide hle2
      have HP : Hid (P.fs[k] = (bs T, ⟨bs X, m⟩)) := hide (by rw [hT, hX, hm])
      rw [HP.out] at hst hgt hat
      have hcf : crashF (K - keptL K (P.fs.take k)) ⟨bs X, m⟩ = ⟨bs (X.extract 0 (m + q)), m + q⟩ := by
        unfold Dk.crashF
        rw [← HX.out, bs_len, ← hq, bs_front]
      rw [hcf, ← HX.out, bs_len, ← hq] at hst
      have HB := hide hb
      have HQ := hide hq
      have HST := hide hst
      have HGT := hide hgt
      have HBF := hide hbf
      have HAT := hide hat
      have HLE9 : Hid (∃ n, n = len ∧ n = (crAt K P.fs k).length) := hide ⟨_, rfl, hle2⟩
      clear hst hgt hbf hat hcf
      clear hT hX hm hXs hb hq HR'
      go_wp2_with fail
      obtain ⟨W, hW⟩ : ∃ W, W = wr.alloc (.cells #[.string T, .string X, .int .i64 m] 91) := ⟨_, rfl⟩
      obtain ⟨bx, hbx⟩ : ∃ bx, bx = wr.heap.size := ⟨_, rfl⟩
      have hW9 : wr.alloc (.cells #[.string T, .string X, .int .i64 m] 91) = W := hW.symm
      have hbw := below_alloc wr (.cells #[.string T, .string X, .int .i64 m] 91)
      have hbk := Blk.new wr #[.string T, .string X, .int .i64 m] 91
      rw [hW9, ← hbx] at hbk
      rw [hW9] at hbw
      have hRW := HR.out.below hbw
      have hbg := (Ch.of_below (fun _ => False) hbw).kept HB.out (fun h => h)
      have y1 := hRW.blk.cell 1
      have x0 := hbk.cell 0
      have x1 := hbk.cell 1
      have x2 := hbk.cell 2
      have w0 := Blk.free hbg (k * 3)
      have w1 := Blk.free hbg (k * 3 + 1)
      have w2 := Blk.free hbg (k * 3 + 2)
      have v0 := Blk.cell hbg (k * 3)
      have v1 := Blk.cell hbg (k * 3 + 1)
      have v2 := Blk.cell hbg (k * 3 + 2)
      rw [← HB.out.cell, g0] at v0
      rw [← HB.out.cell, g1] at v1
      rw [← HB.out.cell, g2] at v2
      simp [rHead] at y1 x0 x1 x2
      try rw [← hle2]
      have HWB := hide hbw
      have HRW := hide hRW
      have HBG := hide hbg
      rw [← hW, ← hbx]
      clear hbw hRW hbk hW hW9 hbx hbg hf0 hf1 hf2 g0 g1 g2 c1 hqi
      go_region
      rw [show (m : Int) + q = ((m + q : Nat) : Int) by omega]
      have hrow := FRow.filed HLE.out HRW.out.row hkc HAT.out (fun j hj => by have := HBF.out j hj; rw [HP.out] at this; exact this) (X.extract 0 (m + q)) (m + q)
      rw [← HST.out.1] at hrow
      have hne := ne_of_blk HRW.out.blk HBG.out (by decide)
      have hch : Ch (fun i => i = e ∨ (Value.slice (some ⟨g, 0, none⟩) len cap).ownBlock = some i) W (((W.setCell ⟨g, k * 3, none⟩ (.string T)).setCell ⟨g, k * 3 + 1, none⟩ (.string (X.extract 0 (m + q)))).setCell ⟨g, k * 3 + 2, none⟩ (.int .i64 ((m + q : Nat) : Int))).drew :=
        ((((Ch.set g (k * 3) (.string T)).trans (Ch.set g (k * 3 + 1) (.string (X.extract 0 (m + q)))) (fun i hi => .inl hi)).trans (Ch.set g (k * 3 + 2) (.int .i64 ((m + q : Nat) : Int))) (fun i hi => .inl hi)).trans (Ch.of_below (fun _ => False) ((Below.refl _ _).drew)) (fun i hi => hi.elim)).weak (fun i _ hi => .inr (by rw [hi]; rfl))
      have hin := HRW.out.within (P' := { P with fs := crAt K P.fs (k + 1) }) (lv' := lv) hch
        (wf_upd HRW.out.wf (n := bs T) (f := ⟨bs X, m⟩) (f' := ⟨bs (X.extract 0 (m + q)), m + q⟩) HGT.out HST.out.1 rfl HRW.out.wf.left (by
          have h1 := used_upd (f := ⟨bs (X.extract 0 (m + q)), m + q⟩) HGT.out
          have h2 := HRW.out.wf.used
          rw [← HST.out.1] at h1
          simp only [bs_front, List.length_take, bs_len] at h1 h2 ⊢
          omega) (by simp only [bs_front, List.length_take, bs_len]; omega))
        (((HRW.out.blk.other hne _ _).other hne _ _).other hne _ _) HRW.out.left hrow
      have HIN := hide hin
      have HBL := hide (show Turn S wr S W from Turn.of_below HWB.out)
      have HKP := hide HST.out.2
      have HPL : Hid (x - q = K - keptL K (P.fs.take (k + 1))) := hide (by
        have h1 := HST.out.2
        have h2 := HX.out
        omega)
      clear hrow hne hch hin y1 x0 x1 x2 w0 w1 w2 v0 v1 v2 HRW HBG HST HGT HBF HAT HB
      generalize (((W.setCell ⟨g, k * 3, none⟩ (.string T)).setCell ⟨g, k * 3 + 1, none⟩ (.string (X.extract 0 (m + q)))).setCell ⟨g, k * 3 + 2, none⟩ (.int .i64 ((m + q : Nat) : Int))).drew = w5 at HIN ⊢
      go_wp2_with fail
      go_roundw
      case rel => exact ⟨k + 1, x - q, by go_num, by congr 1; omega, by omega, by omega, HPL, hide HIN.out.1, hide ((HT.out.trans HBL.out).trans HIN.out.2)⟩
      case measure => simp [intOf]; omega
    · have hnl : ¬ ((k : Int) < len) := by omega
      have hb0 := HR.out.blk
      have f2 := HR.out.blk.free 2
      have f3 := HR.out.blk.free 3
      have f4 := HR.out.blk.free 4
      have c2 := HR.out.blk.cell 2
      have c3 := HR.out.blk.cell 3
      have c4 := HR.out.blk.cell 4
      simp [rHead] at c2 c3 c4
      clear hb0
      go_wp2_with fail
      go_end0
      have hkl : k = P.fs.length := by have := HLN.out; omega
      have hch : Ch (fun i => i = e) wr (((wr.setCell ⟨e, 4, none⟩ (.bool false)).setCell ⟨e, 2, none⟩ (.bool false)).setCell ⟨e, 3, none⟩ (.int .i64 0)) := ((Ch.set e 4 _).trans (Ch.set e 2 _) (fun i hi => .inl hi)).trans (Ch.set e 3 _) (fun i hi => .inl hi)
      refine ⟨rfl, ⟨_, 0, HR.out.turned (P' := crash P keep) hch ?_ rfl (by simp [crash]) ?_ (by simp [crash])⟩, HT.out.trans ⟨hch.weak (fun i _ hi => hi ▸ HR.out.inS), fun k hk => .inl hk⟩⟩
      · show crashL keep.toNat P.fs = crAt K P.fs k
        rw [hkl, crAt_all, HK.out]
      · have := ((HR.out.blk.set 4 (.bool false)).set 2 (.bool false)).set 3 (.int .i64 0)
        simpa [rHead, crash] using this
end Go.Proofs.Ytmbjlnnoemenoaa
