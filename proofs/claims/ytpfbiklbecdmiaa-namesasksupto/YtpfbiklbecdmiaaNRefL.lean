/-
  THE WALKS of the document's Let (layer 6).
-/
import Derived.Test.YtpfbiklbecdmiaaNRefG
import Derived.Test.YtpfbiklbecdmiaaNLetB
import Derived.Test.YtpfbiklbecdmiaaRefVB
import Derived.Deep.DeepCutAuto
import Derived.Deep.CutBlock
set_option linter.unusedVariables false
set_option linter.unusedSimpArgs false
namespace Go.Proofs.Ytpfbiklbecdmiaa
open Go.RowKit Go.Shelf

theorem any_step (l : List V) (j : Nat) (h : j < l.length) (f : ByteArray → Bool) : (textsIn (l.take (j + 1))).any f = ((textsIn (l.take j)).any f || (decide (l[j].kind = 3) && f l[j].text)) := by
  rw [textsIn_step l j h, List.any_append]
  by_cases hk : l[j].kind = 3
  · rw [textsIn_yes _ hk, decide_eq_true hk]; simp
  · rw [textsIn_no _ hk, decide_eq_false hk]; simp
theorem any_true (l : List V) (j : Nat) (h : j < l.length) (f : ByteArray → Bool) (hk : l[j].kind = 3) (hf : f l[j].text = true) : (textsIn l).any f = true := by
  rw [List.any_eq_true]
  refine ⟨l[j].text, ?_, hf⟩
  unfold textsIn
  exact List.mem_map.2 ⟨l[j], List.mem_filter.2 ⟨List.getElem_mem h, by simp [hk]⟩, rfl⟩

set_option maxRecDepth 100000 in
set_option maxHeartbeats 1000000 in
theorem refSome_any (v : Value) (x : V) (S : Nat → Prop) (key host : ByteArray) (w : World) (hI : Is w S v x) (hwt : V.wt x ≤ 1000000) (hh : host.size ≤ 4294967295) :
    Calls Try.prog 44 #[v, .string key, .string host] w fun e w' => e = .returned (.bool (meantB x key host)) ∧ Below w.heap.size w w' := by
  obtain ⟨kv, lv, rfl, h2, h8, _⟩ := id hI.open
  obtain ⟨a1, c1, rfl, _⟩ := id h2
  obtain ⟨a2, c2, c, rfl, _⟩ := id h8
  obtain ⟨r, hr⟩ : ∃ r, r = meantB x key host := ⟨_, rfl⟩
  rw [← hr]
  have HR := nhide hr
  have HI := nhide hI
  clear hr hI h2 h8
  have b1 : Below w.heap.size w (w.alloc (.cells #[.int .i64 x.kind, .int .i64 x.num, .string x.text, .slice a1 x.keys.length c1, .slice a2 x.list.length c2] 25)) := below_alloc _ _
  go_enter Try.func44, Try.ntmps44
  go_wp2_with fail
  generalize w.alloc (.cells #[.int .i64 x.kind, .int .i64 x.num, .string x.text, .slice a1 x.keys.length c1, .slice a2 x.list.length c2] 25) = W1 at b1 ⊢
  refine (refGet_all (HI.out.below b1) key (by omega)).mono ?_
  rintro e w2 ⟨k, m, t, b1', m1, d1, b2', m2, d2, is, rfl, _, his, b2⟩
  obtain ⟨y, hy⟩ : ∃ y, y = (V.get x key).getD V.nul := ⟨_, rfl⟩
  have hra : r = (patsOf y).any fun p => Nm.glob p.data.toList host.data.toList := by rw [HR.out, hy]; rfl
  have hpw : ∀ t ∈ patsOf y, t.size < V.wt x := by rw [hy]; exact patsOf_wt x key
  rw [← hy] at his
  obtain ⟨kv, lv, hv, _, hL, _⟩ := his.open
  simp only [Value.agg.injEq, Array.mk.injEq, List.cons.injEq, Value.int.injEq, Value.string.injEq, and_true, true_and] at hv
  obtain ⟨hk, rfl, rfl, rfl, rfl⟩ := hv
  obtain ⟨hm2, hc2, hc3⟩ := isL_len hL
  unfold maxLen at hc3
  have hB2 := bthen b1 b2
  have HRA := nhide hra
  have HPW := nhide hpw
  have HL := nhide hL
  have HK := nhide hk
  have HM2 := nhide hm2
  have hm3 : m2 ≤ 9223372036854775807 := by omega
  clear his hL hk hy b1 b2 hra hpw hm2 HI HR
  have hbx := box5_new w2 (.int .i64 k) (.int .i64 y.num) (.string y.text) (.slice b1' m1 d1) (.slice b2' m2 d2) 25
  have hb3 : Below w2.heap.size w2 (w2.alloc (.cells #[.int .i64 k, .int .i64 y.num, .string y.text, .slice b1' m1 d1, .slice b2' m2 d2] 25)) := below_alloc _ _
  go_upto_region 2 with fail
  generalize w2.alloc (.cells #[.int .i64 k, .int .i64 y.num, .string y.text, .slice b1' m1 d1, .slice b2' m2 d2] 25) = W3 at hbx hb3 ⊢
  have HBX := nhide hbx
  have hB3 := bthen hB2 hb3
  obtain ⟨x0, x1, x2, x3, x4⟩ := hbx
  by_cases hk4 : k = 4
  · subst hk4
    have hts : patsOf y = textsIn y.list := by unfold patsOf; rw [if_pos HK.out.symm]
    have HTS := nhide hts
    clear hts
    go_wp2_with fail
    clear x0 x1 x2 x3 x4
    go_loopw [9] (fun vi wr => ∃ j : Nat, j ≤ m2 ∧ vi = .int .i64 j ∧ Hid ((textsIn (y.list.take j)).any (fun p => Nm.glob p.data.toList host.data.toList) = false) ∧ Hid (Below w2.heap.size w2 wr) ∧ Hid (Box5 wr w2.heap.size (.int .i64 4) (.int .i64 y.num) (.string y.text) (.slice b1' m1 d1) (.slice b2' m2 d2)) ∧ Hid (Below w.heap.size w wr)) (fun vi _ => m2 - (intOf vi).toNat)
    case atStart => exact ⟨0, Nat.zero_le _, rfl, rfl, hb3, HBX, hB3⟩
    case round =>
      obtain ⟨j, hj, rfl, HT, HB, HX, HBw⟩ := hrel
      obtain ⟨x0, x1, x2, x3, x4⟩ := id HX.out
      by_cases hlt : j < m2
      · have hjl : j < y.list.length := by rw [← HM2.out]; exact hlt
        obtain ⟨b, off, a1'', n1', c1', a2'', n2', c2', ha, e0, e1, e2, e3, e4, hsz⟩ := isL_openK HL.out (KpC.of_below HB.out) hjl
        have hstep := any_step y.list j hjl (fun p => Nm.glob p.data.toList host.data.toList)
        have htrue := any_true y.list j hjl (fun p => Nm.glob p.data.toList host.data.toList)
        have hmem : y.list[j].kind = 3 → y.list[j].text ∈ textsIn y.list := fun h => List.mem_map.2 ⟨y.list[j], List.mem_filter.2 ⟨List.getElem_mem hjl, by simp [h]⟩, rfl⟩
        subst ha
        obtain ⟨z, hz⟩ : ∃ z, z = y.list[j] := ⟨_, rfl⟩
        rw [← hz] at e0 e1 e2 hstep htrue hmem
        have HSt := nhide hstep
        have HTr := nhide htrue
        have HMm := nhide hmem
        clear hstep htrue hmem hz hsz
        by_cases hz3 : z.kind = 3
        · have hzb : (z.kind == 3) = true := by simp [hz3]
          have hts := HPW.out z.text (by rw [HTS.out]; exact HMm.out hz3)
          have HZ3 := nhide hz3
          clear hz3
          go_wp2_with fail
          refine (refGlob_any z.text host wr (by omega) hh).mono ?_
          rintro e w4 ⟨rfl, b4⟩
          cases hg : Nm.glob z.text.data.toList host.data.toList with
          | true =>
            have hrt : r = true := by rw [HRA.out, HTS.out]; exact HTr.out HZ3.out hg
            have HRT := nhide hrt
            clear hg hrt
            go_wp2_with fail
            go_ret
            exact ⟨by rw [HRT.out]; rfl, bthen HBw.out b4⟩
          | false =>
            have HN : Hid ((textsIn (y.list.take (j + 1))).any (fun p => Nm.glob p.data.toList host.data.toList) = false) := by
              show _ = _
              rw [HSt.out, HT.out, hg, Bool.and_false]; rfl
            have H1 := nhide (bthen HB.out b4)
            have H2 := nhide (HX.out.keep b4)
            have H3 := nhide (bthen HBw.out b4)
            clear hg b4
            go_wp2_with fail
            go_roundw
            case rel => exact ⟨j + 1, by omega, by go_num, HN, H1, H2, H3⟩
            case measure => simp [intOf]; omega
        · have hzb : (z.kind == 3) = false := by simp [hz3]
          have HN : Hid ((textsIn (y.list.take (j + 1))).any (fun p => Nm.glob p.data.toList host.data.toList) = false) := by
            show _ = _
            rw [HSt.out, HT.out, decide_eq_false hz3]; rfl
          clear hz3
          go_wp2_with fail
          go_roundw
          case rel => exact ⟨j + 1, by omega, by go_num, HN, HB, HX, HBw⟩
          case measure => simp [intOf]; omega
      · have hrf : r = false := by
          have h1 := HT.out
          rw [List.take_of_length_le (by rw [← HM2.out]; omega)] at h1
          rw [HRA.out, HTS.out]
          exact h1
        have HRF := nhide hrf
        clear hrf
        go_wp2_with fail
        go_ret
        exact ⟨by rw [HRF.out]; rfl, HBw.out⟩
  · have hkb : (k == 4) = false := by simp [hk4]
    have hrf : r = false := by rw [HRA.out, patsOf, if_neg (by rw [← HK.out]; exact hk4)]; rfl
    have HRF := nhide hrf
    clear hrf hk4
    go_wp2_with fail
    go_ret
    exact ⟨by rw [HRF.out]; rfl, hB3⟩

set_option maxHeartbeats 1000000 in
theorem refLet_any (v : Value) (x : V) (S : Nat → Prop) (host : ByteArray) (w : World) (hI : Is w S v x) (hwt : V.wt x ≤ 1000000) (hh : host.size ≤ 4294967295) :
    Calls Try.prog 33 #[v, .string host] w fun e w' => e = .returned (.bool (letB x host)) ∧ Below w.heap.size w w' := by
  obtain ⟨kv, lv, rfl, h2, h8, _⟩ := id hI.open
  obtain ⟨a1, c1, rfl, _⟩ := id h2
  obtain ⟨a2, c2, c, rfl, _⟩ := id h8
  obtain ⟨r, hr⟩ : ∃ r, r = letB x host := ⟨_, rfl⟩
  rw [← hr]
  have HR := nhide hr
  have HI := nhide hI
  have b1 : Below w.heap.size w (w.alloc (.cells #[.int .i64 x.kind, .int .i64 x.num, .string x.text, .slice a1 x.keys.length c1, .slice a2 x.list.length c2] 25)) := below_alloc _ _
  have hbx := box5_new w (.int .i64 x.kind) (.int .i64 x.num) (.string x.text) (.slice a1 x.keys.length c1) (.slice a2 x.list.length c2) 25
  clear hr hI h2 h8
  by_cases hk : x.kind = 5
  · have hkb : (x.kind != 5) = false := by simp [hk]
    have hkb2 : (x.kind == 5) = true := by simp [hk]
    have hr2 : r = (!meantB x denyB host && meantB x allowB host) := by rw [HR.out, letB, if_pos hk]
    have HR2 := nhide hr2
    clear hr2 hk
    go_enter Try.func33, Try.ntmps33
    go_wp2_with fail
    generalize w.alloc (.cells #[.int .i64 x.kind, .int .i64 x.num, .string x.text, .slice a1 x.keys.length c1, .slice a2 x.list.length c2] 25) = W1 at b1 hbx ⊢
    have HBX := nhide hbx
    refine (refSome_any _ x S denyB host W1 (HI.out.below b1) hwt hh).mono ?_
    rintro e w2 ⟨rfl, b2⟩
    have b2' := bthen b1 b2
    obtain ⟨q0, q1, q2, q3, q4⟩ := HBX.out.keep b2
    cases hd : meantB x denyB host with
    | true =>
      have hrf : r = false := by rw [HR2.out, hd]; rfl
      have HRF := nhide hrf
      clear hd hrf
      go_wp2_with fail
      go_ret
      exact ⟨by rw [HRF.out]; rfl, b2'⟩
    | false =>
      have hrf : r = meantB x allowB host := by rw [HR2.out, hd]; rfl
      have HRF := nhide hrf
      clear hd hrf
      go_wp2_with fail
      refine (refSome_any _ x S allowB host w2 (HI.out.below b2') hwt hh).mono ?_
      rintro e w3 ⟨rfl, b3⟩
      go_wp2_with fail
      go_ret
      exact ⟨by rw [HRF.out]; rfl, bthen b2' b3⟩
  · have hkb : (x.kind != 5) = true := by simp [hk]
    have hkb2 : (x.kind == 5) = false := by simp [hk]
    have hrt : r = true := by rw [HR.out, letB, if_neg hk]
    have HRT := nhide hrt
    clear hrt hk
    go_enter Try.func33, Try.ntmps33
    go_wp2_with fail
    go_ret
    exact ⟨by rw [HRT.out]; rfl, b1⟩
end Go.Proofs.Ytpfbiklbecdmiaa
