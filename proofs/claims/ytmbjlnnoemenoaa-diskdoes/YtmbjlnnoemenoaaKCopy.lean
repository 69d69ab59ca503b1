/-
  THE WALK of disk's Copy (layer 9).
-/
import Derived.Test.YtmbjlnnoemenoaaKLaw
import Derived.BigRegion
set_option linter.unusedVariables false
set_option linter.unusedSimpArgs false
set_option maxRecDepth 100000
namespace Go.Proofs.Ytmbjlnnoemenoaa
open Go.RowKit Go.Maps Go.Sort Dk

/-- the files that are copied -/
def sub (left : Lit → Bool) : List (Bs × PF) → List (Bs × PF)
  | [] => []
  | p :: r => if left (.string p.1) then sub left r else p :: sub left r
theorem mem_sub {left : Lit → Bool} {p : Bs × PF} : ∀ {fs : List (Bs × PF)}, p ∈ sub left fs → p ∈ fs ∧ left (.string p.1) = false
  | [], h => by cases h
  | q :: r, h => by
    unfold sub at h
    split at h
    · obtain ⟨h1, h2⟩ := mem_sub h; exact ⟨List.mem_cons_of_mem _ h1, h2⟩
    · rename_i hq
      rcases List.mem_cons.1 h with rfl | h
      · exact ⟨List.mem_cons_self, by simpa using hq⟩
      · obtain ⟨h1, h2⟩ := mem_sub h; exact ⟨List.mem_cons_of_mem _ h1, h2⟩
theorem rise_sub {left : Lit → Bool} : ∀ {fs : List (Bs × PF)}, Rise fs → Rise (sub left fs)
  | [], _ => List.Pairwise.nil
  | q :: r, h => by
    obtain ⟨h1, h2⟩ := List.pairwise_cons.1 h
    unfold sub
    split
    · exact rise_sub h2
    · exact List.pairwise_cons.2 ⟨fun p hp => h1 p (mem_sub hp).1, rise_sub h2⟩
theorem used_sub {left : Lit → Bool} : ∀ fs : List (Bs × PF), used (sub left fs) ≤ used fs
  | [] => Nat.le_refl _
  | q :: r => by
    have := used_sub (left := left) r
    unfold sub
    split
    · simp only [used]; omega
    · simp only [used]; omega
theorem len_sub {left : Lit → Bool} : ∀ fs : List (Bs × PF), (sub left fs).length ≤ fs.length
  | [] => Nat.le_refl _
  | q :: r => by
    have := len_sub (left := left) r
    unfold sub
    split <;> simp <;> omega
theorem len_sub_lt {left : Lit → Bool} {n : Bs} (hl : left (.string n) = true) : ∀ {fs : List (Bs × PF)} {f : PF}, get fs n = some f → (sub left fs).length < fs.length
  | [], _, h => by cases h
  | q :: r, f, h => by
    have h0 := len_sub (left := left) r
    unfold Dk.get at h
    unfold sub
    split at h
    · rename_i e
      rw [e, if_pos hl]; simp; omega
    · have h1 := len_sub_lt hl h
      split
      · simp; omega
      · simp; omega
theorem get_sub {left : Lit → Bool} {n : Bs} (hl : left (.string n) = true) : ∀ fs : List (Bs × PF), get (sub left fs) n = none
  | [] => rfl
  | q :: r => by
    unfold sub
    split
    · exact get_sub hl r
    · rename_i hq
      have : q.1 ≠ n := fun e => hq (e ▸ hl)
      simp only [Dk.get, if_neg this]
      exact get_sub hl r
theorem sub_same {left : Lit → Bool} {n : Bs} : ∀ {fs : List (Bs × PF)}, (∀ p ∈ fs, p.1 ≠ n) → sub (fun z => left z && !z.sameKey (.string n)) fs = sub left fs
  | [], _ => rfl
  | p :: r, h => by
    have h0 := h p List.mem_cons_self
    simp only [sub, sub_same (fun q hq => h q (List.mem_cons_of_mem _ hq)), same_str, h0, decide_false, Bool.not_false, Bool.and_true]
theorem sub_step {left : Lit → Bool} {n : Bs} (hl : left (.string n) = true) : ∀ {fs : List (Bs × PF)} {f : PF}, Rise fs → get fs n = some f → upd n f (ins n (sub left fs)) = sub (fun z => left z && !z.sameKey (.string n)) fs
  | [], _, _, h => by cases h
  | p :: r, f, hr, h => by
    obtain ⟨h1, h2⟩ := List.pairwise_cons.1 hr
    unfold Dk.get at h
    split at h
    · rename_i e
      cases h
      have e1 : sub left (p :: r) = sub left r := by rw [sub, e, if_pos hl]
      have e2 : ins n (sub left r) = (n, ⟨[], 0⟩) :: sub left r := by
        cases hs : sub left r with
        | nil => rfl
        | cons q t =>
          have hq : q ∈ r := (mem_sub (left := left) (by rw [hs]; exact List.mem_cons_self)).1
          have hb := h1 q hq
          rw [e] at hb
          simp only [Dk.ins, hb, if_true]
      have e3 : sub (fun z => left z && !z.sameKey (.string n)) (p :: r) = p :: sub left r := by
        rw [sub]
        rw [if_neg (by simp [same_str, e]), sub_same (fun q hq e' => before_ne (h1 q hq) (e.trans e'.symm))]
      rw [e1, e2, e3]
      simp only [Dk.upd, if_true]
      rw [← e]
    · rename_i e
      have ih := sub_step hl h2 h
      have hpn : bytesBefore p.1 n = true := h1 _ (get_mem h)
      have hnp : ¬ bytesBefore n p.1 = true := fun hb => by
        have := WideShapes.bytes_trans _ _ _ hpn hb
        rw [WideAt.bytes_irrefl] at this; cases this
      by_cases hlp : left (.string p.1) = true
      · have e1 : sub left (p :: r) = sub left r := by rw [sub, if_pos hlp]
        have e2 : sub (fun z => left z && !z.sameKey (.string n)) (p :: r) = sub (fun z => left z && !z.sameKey (.string n)) r := by
          rw [sub, if_pos (by rw [hlp]; simp [same_str, e])]
        rw [e1, e2]; exact ih
      · have e1 : sub left (p :: r) = p :: sub left r := by rw [sub, if_neg hlp]
        have e2 : sub (fun z => left z && !z.sameKey (.string n)) (p :: r) = p :: sub (fun z => left z && !z.sameKey (.string n)) r := by
          rw [sub, if_neg (by simp [hlp])]
        rw [e1, e2]
        simp only [Dk.ins, if_neg hnp, Dk.upd, if_neg e, ih]
theorem sub_start {A : Bs → Nat} {gs : List (Bs × PF)} (hr : Rise gs) : ∀ fs : List (Bs × PF), (∀ p ∈ fs, p ∈ gs) → sub (Maps.has (dat A gs)) fs = []
  | [], _ => rfl
  | p :: r, h => by
    simp only [sub, has_dat, get_of_mem hr (h p List.mem_cons_self), Option.isSome_some, if_true, sub_start hr r (fun q hq => h q (List.mem_cons_of_mem _ hq))]
theorem sub_end {left : Lit → Bool} (h : ∀ kl, left kl = false) : ∀ fs : List (Bs × PF), sub left fs = fs
  | [] => rfl
  | p :: r => by simp [sub, h, sub_end h r]

theorem ranges_ch {w w' : World} {S : Nat → Prop} {b r n : Nat} {D : DataW Value} {left : Lit → Bool} {cnt : Nat} (h : w.ranges Try.prog 9 HR b r n D left cnt) (k : Ch S w w') (hb : ¬ S b) (hr : ¬ S r) : w'.ranges Try.prog 9 HR b r n D left cnt := by
  obtain ⟨es, clock, since, seen, c0, h1, F, hs, hD, h2, rest⟩ := h
  exact ⟨es, clock, since, seen, c0, k.kept h1 hb, F, hs, hD, k.kept h2 hr, rest⟩

set_option maxHeartbeats 4000000 in
theorem copy_any (P : PD) (d : Nat) (S : Nat → Prop) (w : World) (h : IsD w d S P) :
    Calls Try.prog 25 #[ptr d] w fun e w' => ∃ d' S', e = .returned (ptr d') ∧ IsD w' d' S' P ∧ (∀ k, S' k → w.heap.size ≤ k) ∧ Below w.heap.size w w' := by
  obtain ⟨mv, A, h⟩ := h
  have c0 := h.blk.cell 0
  have c1 := h.blk.cell 1
  have c2 := h.blk.cell 2
  have c3 := h.blk.cell 3
  have c4 := h.blk.cell 4
  simp [head] at c0 c1 c2 c3 c4
  have H := hide h
  clear h
  go_enter Try.func25, Try.ntmps25
  go_wp2_with fail
  go_region
  have hoA : IsA (w.alloc (.cells #[.int .i64 P.room, .map none, .bool P.fused, .int .i64 P.left, .bool P.dead] 56)).drew w.heap.size (fun k => k = w.heap.size) { P with fs := [] } (.map none) (fun _ => (0, .slice none 0 0)) :=
    ⟨⟨H.out.wf.room, Nat.zero_le _, List.Pairwise.nil, by simp, Nat.zero_le _, H.out.wf.left, by simp⟩, Blk.new w _ _, rfl, by rintro k rfl; simp, .inl ⟨rfl, rfl⟩, by simp, by intro p hp; cases hp⟩
  have hb0 : Below w.heap.size w (w.alloc (.cells #[.int .i64 P.room, .map none, .bool P.fused, .int .i64 P.left, .bool P.dead] 56)).drew := (below_alloc w _).drew
  have hs0 : (w.alloc (.cells #[.int .i64 P.room, .map none, .bool P.fused, .int .i64 P.left, .bool P.dead] 56)).drew.heap.size = w.heap.size + 1 := by simp
  generalize (w.alloc (.cells #[.int .i64 P.room, .map none, .bool P.fused, .int .i64 P.left, .bool P.dead] 56)).drew = w0 at hoA hb0 hs0 ⊢
  have HO := hide hoA
  have HB0 := hide hb0
  have HS0 := hide hs0
  have H0 := hide (H.out.below hb0)
  have d1 := H0.out.blk.cell 1
  simp [head] at d1
  clear hoA hb0 hs0 c0 c1 c2 c3 c4
  obtain ⟨o, ho⟩ : ∃ o, o = w.heap.size := ⟨_, rfl⟩
  rw [← ho] at HO ⊢
  have HOE := hide ho
  clear ho
  rcases id H.out.map with ⟨rfl, hfs⟩ | ⟨m, rfl, hm, _⟩
  · have hrg := run_range_nilMap (P := Try.prog) w0 54 9 57 Try.underlying54
    have hnx : ∀ ty, (Instr.next (.pointer (some ⟨w0.heap.size, 0, none⟩)) false ty).run Try.prog (w0.alloc (.mapIter none 0 #[] 0)) = _ := fun ty => run_next_nilMap _ ty 0 0 #[]
    have HF := hide hfs
    clear hfs
    go_wp2_with fail
    refine wp_loop_rounds 1 ?_
    rw [rounds_succ]
    go_wp2_with fail
    go_ret
    have hP : ({ P with fs := [] } : PD) = P := by obtain ⟨r, fs, f, l, dd⟩ := P; have := HF.out; simp only at this; subst this; rfl
    have hb := below_alloc w0 (.mapIter none 0 #[] 0)
    have hA := HO.out.below hb
    rw [hP] at hA
    exact ⟨o, _, rfl, ⟨_, _, hA⟩, fun k hk => by have := HOE.out; omega, bthen HB0.out hb⟩
  · obtain ⟨hmS, hmO⟩ : S m ∧ w0.ownsMap Try.prog 9 HR m P.fs.length (dat (fun n => (A n).1) P.fs) := by
      rcases H0.out.map with ⟨h0, _⟩ | ⟨m', h1, h2, h3⟩
      · cases h0
      · cases h1; exact ⟨h2, h3⟩
    have HW := hide hmO
    clear hmO
    go_wp2_with (first
      | (at_range; refine wpList_range_own _ rfl _ 54 rfl 9 57 lawS Try.underlying54 _ m _ _ rfl HW.out ?_; intro w1 hrg0 hg0 hsz0)
      | go_in)
    go_frame
    obtain ⟨it, hit⟩ : ∃ it, it = w0.heap.size := ⟨_, rfl⟩
    rw [← hit] at hrg0 hsz0 ⊢
    have HIT : Hid (it = w.heap.size + 1) := hide (hit.trans HS0.out)
    clear hit
    go_loopw [4] (fun v wr => ∃ (left : Lit → Bool) (cnt : Nat), Hid (wr.ranges Try.prog 9 HR m it P.fs.length (dat (fun n => (A n).1) P.fs) left cnt) ∧ Hid (Below w.heap.size w wr) ∧ Hid (w.heap.size + 2 ≤ wr.heap.size) ∧
        Hid (∃ So mo Ao, IsA wr o So { P with fs := sub left P.fs } mo Ao ∧ ∀ k, So k → w.heap.size ≤ k ∧ k ≠ it))
      (fun _ wr => wr.rangeLeft m it)
    case atStart =>
      have hb1 : Below w0.heap.size w0 w1 := (Below.refl _ _).grown hg0 (Nat.le_refl _) (fun j hj => by cases hj)
      have hst : ∃ So mo Ao, IsA w1 o So { P with fs := sub (Maps.has (dat (fun n => (A n).1) P.fs)) P.fs } mo Ao ∧ ∀ k, So k → w.heap.size ≤ k ∧ k ≠ it := by
        refine ⟨fun k => k = o, .map none, fun _ => (0, .slice none 0 0), ?_, fun k hk => ?_⟩
        · rw [sub_start H.out.wf.rise P.fs (fun p hp => hp)]
          exact HO.out.below hb1
        · have h1 := HOE.out
          have h2 := HIT.out
          have h3 : k = o := hk
          omega
      exact ⟨_, _, hide hrg0, hide (bthen HB0.out hb1), hide (by have := HIT.out; omega), hide hst⟩
    case round =>
      obtain ⟨left, cnt, HRG, HBL, HSZ, HST⟩ := hrel
      go_wp2_with (first
        | (at_next; refine wpList_next_ranges _ rfl _ rfl 9 lawS HR encStr (fun v : Value => v) (fun key kl hk => by obtain ⟨x, hx, _⟩ := Maps.keyOf_str Try.underlying9 hk; exact ⟨x, hx⟩) (fun v y hv => ⟨v, rfl⟩) m it _ _ _ _ rfl HRG.out ?_ ?_)
        | go_in)
      · intro hc0 hl0
        have hse := sub_end hl0 P.fs
        have HSE := hide hse
        clear hl0 hse
        go_wp2_with fail
        go_ret
        obtain ⟨So, mo, Ao, hA, hk⟩ := HST.out
        rw [HSE.out] at hA
        exact ⟨o, So, rfl, ⟨mo, Ao, hA⟩, fun k hs => (hk k hs).1, HBL.out⟩
      · intro x c kl yd yp w2 cnt2 hkey hlk hv hv' hat hrg2 hlt hg2 hs2 hen
        obtain ⟨x', ex, rfl, hxl⟩ := Maps.keyOf_str Try.underlying9 hkey
        obtain rfl : x = x' := encStr_inj ex
        subst hv
        obtain ⟨f, hgf, rfl⟩ := entry_of hat
        obtain ⟨So, mo, Ao, hA, hk⟩ := HST.out
        have hb2 : Below w.heap.size w w2 := HBL.out.grown hg2 HBL.out.size (fun j hj => by cases hj; have := HIT.out; omega)
        have hA2 : IsA w2 o So _ mo Ao := hA.keep (Ch.of_grown hg2) (fun i hi e => (hk i hi).2 (Option.some.inj e).symm)
        obtain ⟨nm, hnm⟩ : ∃ nm : ByteArray, nm = ⟨x.toArray⟩ := ⟨_, rfl⟩
        have hbs : bs nm = x := by rw [hnm]
        have hxe : encStr x = .string nm := by rw [hnm]
        have hnl : nm.size ≤ 1099511627776 := by
          have h1 := H.out.wf.names _ (get_mem hgf)
          rw [hnm]; simpa [ByteArray.size] using h1
        have hg0 := get_sub hlk P.fs
        have hlen := len_sub_lt hlk hgf
        have hstep := sub_step hlk H.out.wf.rise hgf
        have hbelf : Below w2.heap.size w2 w2 := Below.refl _ _
        have hd2 := H.out.below (hb2)
        have HR2 := hide hrg2
        have HB2 := hide hb2
        have HLT := hide hlt
        have HA2 := hide hA2
        have HK := hide hk
        have HG := hide hgf
        have HG0 := hide hg0
        have HLN := hide hlen
        have HST2 := hide hstep
        have HD2 := hide hd2
        have HNL := hide hnl
        have HBS := hide hbs
        have HSZ2 : Hid (w.heap.size + 2 ≤ w2.heap.size) := hide (by rw [hs2]; exact HSZ.out)
        clear hs2 hrg2 hlt hg2 hb2 hat hlk hkey hv' hA hA2 hk hgf hg0 hlen hstep hd2 hnl hbs HST
        rw [hxe] at hen ⊢
        clear ex hxe hnm
        go_wp2_with fail
        refine (made_any { P with fs := sub left P.fs } mo Ao o So nm w2 HA2.out HNL.out (fun _ => by have h1 := HLN.out; have h2 := H.out.wf.few; show (sub left P.fs).length < 4; omega)).mono ?_
        rintro e w3 ⟨S3, mv3, A3, rfl, hA3, hT3⟩
        simp only at hA3
        rw [get_made_none (by rw [HBS.out]; exact HG0.out), HBS.out] at hA3
        rw [HBS.out]
        have hc3 : Ch (fun i => w.heap.size ≤ i ∧ i ≠ it) w2 w3 := hT3.ch.weak (fun i _ hi => HK.out i hi)
        have hb3 : Below w.heap.size w w3 := hc3.below HB2.out (by have := HSZ2.out; omega) (fun i hi => hi.1)
        have hd3 := H.out.below hb3
        obtain ⟨f1, f2, f3, f4⟩ := hd3.file _ (get_mem HG.out)
        have hfl : f.all.length ≤ 4194304 := by have h1 := get_used HG.out; have h2 := H.out.wf.used; have h3 := H.out.wf.room; omega
        have hS3 : ∀ i, S3 i → w.heap.size ≤ i ∧ i ≠ it := fun i hi => by
          rcases hT3.sub i hi with h | h
          · exact HK.out i h
          · have h1 := HSZ2.out
            have h2 := HIT.out
            omega
        have HA3 := hide hA3
        have HC3 := hide hc3
        have HB3 := hide hb3
        have HF2 := hide f2
        have HF3 := hide f3
        have HFL := hide hfl
        have HS3 := hide hS3
        clear hA3 hc3 hb3 f1 f2 f3 f4 hfl hS3 hT3 hd3
        go_wp2_with fail
        refine (copied_any f (A x).2 (A x).1 w3 HF2.out HF3.out HFL.out).mono ?_
        rintro e w4 ⟨v', rfl, hr4, hv4, b4⟩
        obtain ⟨a4, cp4, rfl⟩ := own_shape hr4
        obtain ⟨g1, g2, g3, g4⟩ := (HA3.out.below b4).file _ (get_mem (get_ins_same HG0.out))
        obtain ⟨fb, hfb⟩ : ∃ fb, fb = (A3 x).1 := ⟨_, rfl⟩
        simp only at g1 g2 g3 g4
        rw [← hfb] at g1 g2 ⊢
        have k0 := g2.cell 0
        have k1 := g2.cell 1
        have k2 := g2.free 0
        have k3 := g2.free 1
        simp at k0 k1
        have HG2 := hide g2
        have HG1 := hide g1
        have HR4 := hide hr4
        have HV4 := hide hv4
        have HB4 := hide b4
        have HFB := hide hfb
        clear g1 g2 g3 g4 hr4 hv4 b4 hfb
        go_wp2_with fail
        have hz1 := (HG2.out.set 0 (.slice a4 f.all.length cp4)).set 1 (.int .i64 f.last)
        obtain ⟨w5, hw5⟩ : ∃ w5, w5 = (w4.setCell ⟨fb, 0, none⟩ (.slice a4 f.all.length cp4)).setCell ⟨fb, 1, none⟩ (.int .i64 f.last) := ⟨_, rfl⟩
        have hc5 : Ch (fun i => i = fb) w4 w5 := by rw [hw5]; exact (Ch.set fb 0 _).trans (Ch.set fb 1 _) (fun i hi => .inl hi)
        rw [← hw5] at hz1 ⊢
        have hb5 : Blk w5 fb #[.slice a4 f.all.length cp4, .int .i64 f.last] 69 := by simpa using hz1
        have hfb : fb = (A3 x).1 := HFB.out
        have hod : Blk w4 o _ 56 := (HA3.out.below HB4.out).blk
        have ho5 : Blk w5 o (head { P with fs := ins x (sub left P.fs) } mv3) 56 := hc5.kept hod (fun e => ne_of_blk hod HG2.out (by decide) e)
        have hr5 : Row w5 (.slice a4 f.all.length cp4) f.all := HR4.out.kept hc5 (fun g hg e => by
          obtain ⟨cur, hc⟩ := row_blk HR4.out hg
          exact ne_of_blk hc HG2.out (by decide) e)
        have hc35 : Ch (fun i => i = o ∨ i = (A3 x).1 ∨ (A3 x).2.ownBlock = some i) w3 w5 := (Ch.of_below _ HB4.out).trans hc5 (fun i hi => .inl (.inr (.inl (by rw [← hfb]; exact hi))))
        obtain ⟨S5, hA5, hT5⟩ := HA3.out.filed (P' := { P with fs := sub (fun z => left z && !z.sameKey (.string x)) P.fs }) (f' := f) (get_ins_same HG0.out) hc35 HST2.out.symm rfl H.out.wf.left
          (Nat.le_trans (used_sub _) H.out.wf.used) (H.out.wf.last _ (get_mem HG.out)) ho5 (by rw [← hfb]; exact hb5) hr5 (by
            rcases HV4.out with h | h
            · exact .inr (.inl h)
            · exact .inr (.inr h))
        have hc25 : Ch (fun i => w.heap.size ≤ i ∧ i ≠ it) w2 w5 := HC3.out.trans (hT5.ch.weak (fun i _ hi => HS3.out i hi)) (fun i hi => .inl hi)
        have hm2 : m < w.heap.size := H.out.low _ hmS
        have hrg5 := ranges_ch HR2.out hc25 (fun h => by have := h.1; omega) (fun h => h.2 rfl)
        have hk5 : ∀ k, S5 k → w.heap.size ≤ k ∧ k ≠ it := fun k hk => by
          rcases hT5.sub k hk with h | h
          · exact HS3.out k h
          · have h1 := HSZ2.out
            have h2 := HIT.out
            have h3 := HC3.out.size
            omega
        refine ⟨⟨_, _, hide hrg5, hide (hc25.below HB2.out (by have := HSZ2.out; omega) (fun i hi => hi.1)), hide (Nat.le_trans HSZ2.out hc25.size), hide ⟨S5, _, _, hA5, hk5⟩⟩, ?_⟩
        rw [hrg5.left_eq, HRG.out.left_eq]; exact HLT.out
end Go.Proofs.Ytmbjlnnoemenoaa
