/-
  THE WALK of a file's put (layer 9).
-/
import Derived.Test.YtmbjlnnoemenoaaKFileB
import Derived.Deep.LoopGhost
import Derived.Deep.RegionLaw
set_option linter.unusedVariables false
set_option linter.unusedSimpArgs false
set_option maxRecDepth 100000
namespace Go.Proofs.Ytmbjlnnoemenoaa
open Go.RowKit Go.Maps Dk

theorem step_append_run {P : Program} {ops : Array Oper} {o : Oper} {a : Act} {w : World} {K : Act → World → Prop} {Q : Exit → Act → World → Prop} {E : Prop} (hg : o.guard = none) (s x : Operand) (t : TypeId)
    (ho : o.op = .call { callee := .builtin .append, args := #[s, x], argTypes := #[t, t] }) (vs vx : Value) (hs : a.eval s = vs) (hx : a.eval x = vx) {v' : Value} {w' : World}
    (hr : (Builtin.append_ #[t, t] o.type #[vs, vx]).run P w = .ok v' w') (h : K (a.put o.dst v') w') : if Region.wanted o (yielded ops a.tmps) = true then Oper.wp P o a w K Q else E := by
  have hw : Region.wanted o (yielded ops a.tmps) = true := by simp [Region.wanted, hg]
  rw [if_pos hw]
  exact Lib.wp_append_run w s x t t ho vs vx hs hx v' w' hr h

theorem gone_more {P : PD} {k : Nat} (hd : P.dead = false) (h : steps P k = k) : gone (gone P k) 1 = if steps (gone P k) 1 = 1 then gone P (k + 1) else { gone P k with left := (gone P k).left - 1, dead := true } := by
  obtain ⟨room, fs, fused, left, dead⟩ := P
  simp only at hd; subst hd
  cases fused
  · simp [gone, steps]
  · simp only [steps, if_true] at h
    by_cases h1 : left - k = 0
    · simp [gone, steps, h1]
    · have e1 : min (left - k) 1 = 1 := by omega
      have e2 : min left (k + 1) = k + 1 := by omega
      simp [gone, steps, e1, e2, Nat.sub_sub]
theorem steps_more {P : PD} {k m : Nat} (h : steps P k = k) (hk : k < m) : (steps (gone P k) 1 = 1 → steps P (k + 1) = k + 1) ∧ (steps (gone P k) 1 ≠ 1 → steps P m = k ∧ P.fused = true ∧ P.left = k) := by
  obtain ⟨room, fs, fused, left, dead⟩ := P
  cases fused
  · simp [gone, steps]
  · simp only [steps, gone, if_true] at h ⊢
    constructor
    · intro h1; omega
    · intro h1; exact ⟨by omega, trivial, by omega⟩

set_option maxHeartbeats 2000000 in
theorem fput_any (P : PD) (mv : Value) (d : Nat) (f : PF) (v : Value) (fb : Nat) (s : ByteArray) (w : World) (hd : Blk w d (head P mv) 56) (hdead : P.dead = false) (hl : P.left < 9223372036854775808)
    (hb : Blk w fb #[v, .int .i64 f.last] 69) (hr : Row w v f.all) (hsz : f.all.length + s.size ≤ 4194304) :
    Calls Try.prog 32 #[ptr fb, .string s, stepV d] w fun e w' => e = .returned (.bool (decide (steps P s.size = s.size))) ∧ Blk w' d (head (gone P s.size) mv) 56 ∧
      ∃ v', Blk w' fb #[v', .int .i64 f.last] 69 ∧ Row w' v' (f.all ++ s.data.toList.take (steps P s.size)) ∧
        (v'.ownBlock = v.ownBlock ∨ ∃ g, v'.ownBlock = some g ∧ w.heap.size ≤ g) ∧ Ch (fun k => k = d ∨ k = fb ∨ v.ownBlock = some k) w w' := by
  have hne := ne_of_blk hd hb (by decide)
  obtain ⟨all, last⟩ := f
  simp only at hb hr hsz ⊢
  have HD := hide hd
  have HB := hide hb
  have HR := hide hr
  clear hd hb hr
  go_enter Try.func32, Try.ntmps32
  go_wp2_with fail
  go_loopw [10] (fun fr wr => ∃ (k : Nat) (v' : Value), k ≤ s.size ∧ fr = .int .i64 k ∧ Hid (steps P k = k) ∧ Hid (Blk wr d (head (gone P k) mv) 56) ∧ Hid (Blk wr fb #[v', .int .i64 last] 69) ∧
    Hid (Row wr v' (all ++ s.data.toList.take k)) ∧ Hid (v'.ownBlock = v.ownBlock ∨ ∃ g, v'.ownBlock = some g ∧ w.heap.size ≤ g) ∧ Hid (Ch (fun k => k = d ∨ k = fb ∨ v.ownBlock = some k) w wr)) (fun i _ => s.size - (intOf i).toNat)
  case atStart =>
    refine ⟨0, v, Nat.zero_le _, rfl, ?_, ?_, HB, ?_, hide (.inl rfl), hide (Ch.refl _ _)⟩
    · show steps P 0 = 0
      simp [steps]
    · show Blk w d (head (gone P 0) mv) _
      have e : gone P 0 = P := by
        obtain ⟨room, fs, fused, left, dead⟩ := P
        simp only at hdead; subst hdead
        cases fused <;> simp [gone, steps]
      rw [e]; exact HD.out
    · show Row w v _
      simpa using HR.out
  case round =>
    obtain ⟨k, v', hk, rfl, HS, HD1, HB1, HR1, HO, HC⟩ := hrel
    by_cases hlt : k < s.size
    · have hli : (k : Int) < s.size := by omega
      have hdk : (gone P k).dead = false := by
        have h := HS.out
        simp only [gone]; simp; omega
      have hlk : (gone P k).left < 9223372036854775808 := by
        simp only [gone]; split <;> omega
      have hm1 := (steps_more HS.out hlt).1
      have hm2 := (steps_more HS.out hlt).2
      have hgm := gone_more hdead HS.out
      obtain ⟨ok, hok⟩ : ∃ ok, ok = decide (steps (gone P k) 1 = 1) := ⟨_, rfl⟩
      have HOK := hide hok
      have HM1 := hide hm1
      have HM2 := hide hm2
      have HGM := hide hgm
      clear hok hm1 hm2 hgm
      go_wp2_with fail
      refine (step_any (gone P k) mv d wr HD1.out hdk hlk).mono ?_
      rintro e w1 ⟨rfl, hd1, k1⟩
      rw [← HOK.out]
      have hb1 : Blk w1 fb #[v', .int .i64 last] 69 := k1.kept HB1.out (fun e => hne e.symm)
      have hr1 : Row w1 v' (all ++ s.data.toList.take k) := HR1.out.kept k1 (fun g hg e => by
        obtain ⟨cur, hc⟩ := row_blk HR1.out hg
        exact ne_of_blk hc HD1.out (by decide) e)
      have HB2 := hide hb1
      have HR2 := hide hr1
      have HD2 := hide hd1
      have HC2 : Hid (Ch (fun k => k = d ∨ k = fb ∨ v.ownBlock = some k) w w1) := hide (HC.out.trans k1 (fun i hi => .inl (.inl hi)))
      clear hb1 hr1 hd1 k1
      have hkl : (s.data.toList.take k).length = k := by rw [List.length_take, show s.data.toList.length = s.size from Array.length_toList]; omega
      cases ok with
      | false =>
        go_wp2_with fail
        go_ret
        have hno : steps (gone P k) 1 ≠ 1 := by simpa using HOK.out.symm
        obtain ⟨h1, h2, h3⟩ := HM2.out hno
        refine ⟨?_, ?_, v', HB2.out, ?_, HO.out, HC2.out⟩
        · have : ¬ steps P s.size = s.size := by omega
          simp [this]
        · have e : gone P s.size = gone (gone P k) 1 := by
            rw [HGM.out, if_neg hno]
            have h4 : steps P s.size < s.size := by omega
            simp [gone, h2, h3, h4]; omega
          rw [e]; exact HD2.out
        · rw [h1]; exact HR2.out
      | true =>
        have hyes : steps (gone P k) 1 = 1 := by simpa using HOK.out.symm
        have hs1 := HM1.out hyes
        have hg1 : gone (gone P k) 1 = gone P (k + 1) := by rw [HGM.out, if_pos hyes]
        rw [hg1] at HD2
        have HS2 := hide hs1
        clear hyes hs1 hg1 HM1 HM2 HGM HOK HD1 HB1 HR1
        have hx : s.data[k]? = some s[k] := Array.getElem?_eq_getElem hlt
        have hvw : Vw (w1.alloc (.cells #[.int .u8 (s[k].toNat : Int)] 5)) (.slice (some ⟨w1.heap.size, 0, none⟩) 1 1) [s[k]] := by
          refine ⟨_, 1, rfl, Nat.le_refl _, by decide, fun _ => ⟨_, rfl, fun j hj => ?_⟩⟩
          have : j = 0 := by simp at hj; omega
          subst this
          exact (Blk.new w1 #[.int .u8 (s[k].toNat : Int)] 5).cell 0
        have hrow0 : Row (w1.alloc (.cells #[.int .u8 (s[k].toNat : Int)] 5)) v' (all ++ s.data.toList.take k) := HR2.out.alloc _
        obtain ⟨v2, w2, hrun, hrow2, hg2, ho2⟩ := append_bytes (w := (w1.alloc (.cells #[.int .u8 (s[k].toNat : Int)] 5)).drew) hrow0 hvw (by rw [List.length_append, hkl, show ([s[k]] : Bs).length = 1 from rfl]; omega) (Nat.zero_le _)
        obtain ⟨a0, c0, rfl⟩ := own_shape HR2.out
        have hlen : (all ++ s.data.toList.take k).length = all.length + k := by rw [List.length_append, hkl]
        rw [hlen] at hrun
        have hcon : s.data.toList.take (k + 1) = s.data.toList.take k ++ [s[k]] := by
          rw [List.take_add_one, show s.data.toList[k]? = some s[k] by rw [Array.getElem?_toList]; exact hx]; rfl
        rw [List.append_assoc, ← hcon] at hrow2
        have hkl2 : (s.data.toList.take (k + 1)).length = k + 1 := by rw [List.length_take, show s.data.toList.length = s.size from Array.length_toList]; omega
        obtain ⟨a2, c2, rfl⟩ : ∃ a2 c2, v2 = .slice a2 (all.length + k + 1) c2 := by
          obtain ⟨a2, c2, e⟩ := own_shape hrow2
          exact ⟨a2, c2, by rw [e]; congr 1; rw [List.length_append, hkl2]; omega⟩
        rw [hlen] at hg2 ho2
        -- what the append leaves of the file's block and of the head
        have hfne : ∀ g, (Value.slice a0 (all.length + k) c0).ownBlock = some g → ¬ (g = fb ∨ g = d) := by
          intro g hg
          have hr := HR2.out
          rw [hlen] at hr
          obtain ⟨cur, hc⟩ := row_blk hr hg
          rintro (e | e)
          · exact ne_of_blk hc HB2.out (by decide) e
          · exact ne_of_blk hc HD2.out (by decide) e
        have hb3 : Blk w2 fb #[.slice a0 (all.length + k) c0, .int .i64 last] 69 := by
          have h := (HB2.out.alloc (.cells #[.int .u8 (s[k].toNat : Int)] 5))
          rw [hlen] at h
          unfold Blk at h ⊢
          rw [hg2.block fb (Array.getElem?_eq_some_iff.1 h).1 (fun e => hfne fb e.symm (.inl rfl))]; exact h
        have hd3 : Blk w2 d (head (gone P (k + 1)) mv) 56 := by
          have h := (HD2.out.alloc (.cells #[.int .u8 (s[k].toNat : Int)] 5))
          unfold Blk at h ⊢
          rw [hg2.block d (Array.getElem?_eq_some_iff.1 h).1 (fun e => hfne d e.symm (.inr rfl))]; exact h
        have hown : (Value.slice a2 (all.length + k + 1) c2).ownBlock = v.ownBlock ∨ ∃ g, (Value.slice a2 (all.length + k + 1) c2).ownBlock = some g ∧ w.heap.size ≤ g := by
          have ho := HO.out
          rw [hlen] at ho
          rcases ho2 with h | h
          · rw [h]; exact ho
          · exact .inr ⟨_, h, by have := HC2.out.size; simp; omega⟩
        have hch : Ch (fun k => k = d ∨ k = fb ∨ v.ownBlock = some k) w w2 := by
          refine (HC2.out.trans (Ch.of_below (fun _ => False) ((Below.refl _ _).alloc (Nat.le_refl _) (.cells #[.int .u8 (s[k].toNat : Int)] 5)).drew) (fun i hi => hi.elim)).trans (Ch.of_grown hg2) (fun i hi => ?_)
          have ho := HO.out
          rw [hlen] at ho
          rcases ho with h | ⟨g, h, h'⟩
          · exact .inl (.inr (.inr (h ▸ hi)))
          · rw [h] at hi; cases hi; exact .inr h'
        have q0 := HB2.out.cell 0
        have q1 := HB2.out.free 0
        have q2 := hb3.cell 0
        have q3 := hb3.free 0
        have q4 := (HB2.out.alloc (.cells #[.int .u8 (s[k].toNat : Int)] 5)).cell 0
        rw [hlen] at q0 q4
        simp at q0 q2 q4
        have HRUN : Hid ((Builtin.append_ #[37, 37] 37 #[.slice a0 (all.length + k) c0, .slice (some ⟨w1.heap.size, 0, none⟩) 1 1]).run Try.prog (w1.alloc (.cells #[.int .u8 (s[k].toNat : Int)] 5)).drew = .ok (.slice a2 (all.length + k + 1) c2) w2) := hrun
        have HX := hide hx
        clear hrun hvw hrow0
        go_upto_region 6 with fail
        go_region_law (refine step_append_run rfl (.tmp 20) (.tmp 24) 37 rfl _ _ (by simp [Act.eval, Act.put]) (by simp [Act.eval, Act.put]) HRUN.out ?_)
        all_goals
          have z1 : Blk (w2.setCell ⟨fb, 0, none⟩ (.slice a2 (all.length + k + 1) c2)) fb #[.slice a2 (all.length + k + 1) c2, .int .i64 last] 69 := by
            have := hb3.set 0 (.slice a2 (all.length + k + 1) c2)
            simpa using this
          have z2 : Blk (w2.setCell ⟨fb, 0, none⟩ (.slice a2 (all.length + k + 1) c2)) d (head (gone P (k + 1)) mv) 56 := hd3.other hne _ _
          have z3 : Row (w2.setCell ⟨fb, 0, none⟩ (.slice a2 (all.length + k + 1) c2)) (.slice a2 (all.length + k + 1) c2) (all ++ s.data.toList.take (k + 1)) := Row.kept hrow2 (Ch.set fb 0 _) (fun g hg e => by
            obtain ⟨cur, hc⟩ := row_blk hrow2 hg
            exact ne_of_blk hc hb3 (by decide) e)
          have z4 := hch.trans (Ch.set fb 0 (.slice a2 (all.length + k + 1) c2)) (fun i hi => .inl (.inr (.inl hi)))
          have Z1 := hide z1
          have Z2 := hide z2
          have Z3 := hide z3
          have Z4 := hide z4
          have Z5 := hide hown
          clear z1 z2 z3 z4 hown hrow2 hb3 hd3 hch hg2 ho2 hfne HRUN q0 q1 q2 q3 q4 HX
          generalize w2.setCell ⟨fb, 0, none⟩ (.slice a2 (all.length + k + 1) c2) = w3 at Z1 Z2 Z3 Z4 ⊢
          generalize (Value.slice a2 (all.length + k + 1) c2) = v3 at Z1 Z2 Z3 Z5 ⊢
          go_wp2_with fail
          go_roundw
          case rel => exact ⟨k + 1, v3, by omega, by go_num, HS2, Z2, Z1, Z3, Z5, Z4⟩
          case measure => simp [intOf]; omega
    · have hks : k = s.size := by omega
      subst hks
      have hnl : ¬ ((s.size : Int) < s.size) := by omega
      go_wp2_with fail
      go_ret
      have h1 := HS.out
      refine ⟨by simp [h1], HD1.out, v', HB1.out, ?_, HO.out, HC.out⟩
      rw [h1]; exact HR1.out
end Go.Proofs.Ytmbjlnnoemenoaa
