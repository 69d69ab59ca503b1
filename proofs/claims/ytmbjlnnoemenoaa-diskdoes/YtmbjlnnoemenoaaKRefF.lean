/-
  THE WALK of heliastref09's put (layer 9).
-/
import Derived.Test.YtmbjlnnoemenoaaKRefC
set_option linter.unusedVariables false
set_option linter.unusedSimpArgs false
set_option maxRecDepth 100000
namespace Go.Proofs.Ytmbjlnnoemenoaa
open Go.RowKit Go.Maps Go.Sort Dk

theorem infoFile : (Try.prog.info? 91).map (fun i => (i.zero, i.size, i.bytes)) = some (some (.agg #[.string ⟨#[]⟩, .string ⟨#[]⟩, .int .i64 0]), 3, 40) := by kernel_rfl
theorem fcs_one : ∀ (fs : List (Bs × PF)), ∀ u ∈ fcs fs, u.oneCell' = true
  | [], u, h => by cases h
  | p :: r, u, h => by
    simp only [fcs, List.mem_cons] at h
    rcases h with rfl | rfl | rfl | h
    · rfl
    · rfl
    · rfl
    · exact fcs_one r u h
/-- append(v, files...) -/
theorem append_files {w : World} {v : Value} {fs gs : List (Bs × PF)} (hown : FRow w v fs) {a : Option Addr} {c : Nat} (ha : a = none → gs = []) (hnews : ∀ ad, a = some ad → ∀ j u, (fcs gs)[j]? = some u → w.cell? (ad.add j) = some u) (hsz : fs.length + gs.length ≤ 4096) :
    ∃ v' w', (Builtin.append_ #[73, 73] 73 #[v, .slice a gs.length c]).run Try.prog w = .ok v' w' ∧ FRow w' v' (fs ++ gs) ∧ w.grownBy w' v.ownBlock ∧ (v'.ownBlock = v.ownBlock ∨ v'.ownBlock = some w.heap.size) := by
  obtain ⟨i0, hi, hz0, hz1, hz2⟩ := info_parts infoFile
  cases a with
  | none =>
    have := ha rfl
    subst this
    refine ⟨v, w, append_zero 73 73 91 i0 Try.underlying73 hi 0 3 v _ _ hown none c, ?_, World.grownBy.refl _ _, .inl rfl⟩
    simpa using hown
  | some ad =>
    obtain ⟨v', w', hr, ho, hg, _, hl⟩ := run_append_own_at w 0 73 73 91 i0 _ 3 40 Try.underlying73 hi hz0 hz1 hz2 rfl (by decide) v fs.length (fcs fs) hown ad gs.length c (fcs gs) (fcs_len gs) (hnews ad rfl) (fcs_one gs) (by unfold maxLen; omega) (by omega) (Nat.zero_le _)
    refine ⟨v', w', hr, ?_, hg, hl⟩
    show World.ownsRow _ 0 _ 3 v' (fs ++ gs).length (fcs (fs ++ gs))
    rw [List.length_append, fcs_app]; exact ho
theorem FRow.kept {w w' : World} {v : Value} {fs : List (Bs × PF)} (h : FRow w v fs) {S : Nat → Prop} (k : Ch S w w') (hn : ∀ g, v.ownBlock = some g → ¬ S g) : FRow w' v fs := by
  refine ⟨h.1, ?_⟩
  rcases h.2 with h0 | ⟨g, cap, cur, hv, h1, h2, h3⟩
  · exact .inl h0
  · exact .inr ⟨g, cap, cur, hv, h1, k.kept h2 (hn g (by rw [hv]; rfl)), h3⟩
theorem FRow.below {w w' : World} {v : Value} {fs : List (Bs × PF)} (h : FRow w v fs) (k : Below w.heap.size w w') : FRow w' v fs := h.kept (Ch.of_below (fun _ => False) k) (fun _ _ h => h)
theorem frow_blk {w : World} {v : Value} {l : List (Bs × PF)} (h : FRow w v l) {g : Nat} (hg : v.ownBlock = some g) : ∃ cur, Blk w g cur 91 := by
  rcases h.2 with ⟨rfl, _⟩ | ⟨g', cap, cur, rfl, _, hb, _⟩
  · cases hg
  · cases hg; exact ⟨cur, hb⟩
/-- what lies from a place on -/
theorem fcs_drop (fs : List (Bs × PF)) (k j : Nat) : (fcs (fs.drop k))[j]? = (fcs fs)[k * 3 + j]? := by
  induction k generalizing fs with
  | zero => simp
  | succ k ih =>
    cases fs with
    | nil => simp [fcs]
    | cons p r => rw [List.drop_succ_cons, ih r]; simp only [fcs, show (k + 1) * 3 + j = k * 3 + j + 1 + 1 + 1 by omega, List.getElem?_cons_succ]

theorem ins_at {n : Bs} : ∀ (fs : List (Bs × PF)) (k : Nat), k ≤ fs.length → (∀ j (h : j < fs.length), j < k → bytesBefore fs[j].1 n = true) → (∀ h : k < fs.length, ¬ bytesBefore fs[k].1 n = true) → get fs n = none → ins n fs = fs.take k ++ (n, ⟨[], 0⟩) :: fs.drop k
  | [], k, _, _, _, _ => by simp [ins]
  | p :: r, 0, _, _, h2, hg => by
    have h := h2 (by simp)
    have hne := get_none hg p List.mem_cons_self
    rcases WideAt.bytes_total p.1 n hne with e | e
    · exact absurd e h
    · simp [ins, e]
  | p :: r, k + 1, hk, h1, h2, hg => by
    have h := h1 0 (by simp) (by omega)
    have hb : ¬ bytesBefore n p.1 = true := fun hb => by
      have := WideShapes.bytes_trans _ _ _ h hb
      simp [WideAt.bytes_irrefl] at this
    have hgr : get r n = none := by
      unfold Dk.get at hg
      split at hg
      · cases hg
      · exact hg
    have ih := ins_at r k (by simpa using hk) (fun j hj hjk => by have := h1 (j + 1) (by simp; omega) (by omega); simpa using this) (fun hk' => by have := h2 (by simp; omega); simpa using this) hgr
    simp [ins, hb, ih]
theorem idx_at {n : Bs} {f : PF} (gs : List (Bs × PF)) : ∀ (fs : List (Bs × PF)), (∀ p ∈ fs, p.1 ≠ n) → idx (fs ++ (n, f) :: gs) n = some fs.length
  | [], _ => by simp [idx]
  | p :: r, h => by
    simp only [List.cons_append, idx, if_neg (h p List.mem_cons_self), idx_at gs r (fun q hq => h q (List.mem_cons_of_mem _ hq))]
    simp

/-- one file more, on a row that is laid by the call -/
theorem app_file {w wr : World} {u : Value} {fs : List (Bs × PF)} (s x : ByteArray) (m : Nat) (hr : FRow wr u fs) (hn : fs.length ≤ 4) (hu : ∀ g, u.ownBlock = some g → w.heap.size ≤ g) (hb : Below w.heap.size w wr) :
    ∃ u' w', (Builtin.append_ #[73, 73] 73 #[u, .slice (some ⟨wr.heap.size, 0, none⟩) 1 1]).run Try.prog (wr.alloc (.cells #[.string s, .string x, .int .i64 m] 91)) = .ok u' w' ∧
      FRow w' u' (fs ++ [(bs s, ⟨bs x, m⟩)]) ∧ (∀ g, u'.ownBlock = some g → w.heap.size ≤ g) ∧ Below w.heap.size w w' := by
  have hb1 := below_alloc wr (.cells #[.string s, .string x, .int .i64 m] 91)
  obtain ⟨u', w', h1, h2, h3, h4⟩ := append_files (gs := [(bs s, ⟨bs x, m⟩)]) (c := 1) (a := some ⟨wr.heap.size, 0, none⟩) (hr.below hb1) (fun h => by cases h) (fun ad h j v hj => by
    cases h
    rw [Addr.add_lit, Nat.zero_add, (Blk.new wr #[.string s, .string x, .int .i64 m] 91).cell]
    have e : fcs [(bs s, ⟨bs x, m⟩)] = [.string s, .string x, .int .i64 m] := rfl
    rw [e] at hj
    rw [← hj, ← Array.getElem?_toList]) (by simp; omega)
  refine ⟨u', w', h1, h2, fun g hg => ?_, ?_⟩
  · rcases h4 with h4 | h4
    · exact hu g (h4 ▸ hg)
    · rw [h4] at hg; cases hg; simp; have := hb.size; omega
  · refine (Ch.of_grown h3).below (hb.trans (hb1.mono hb.size)) (by simp; have := hb.size; omega) (fun i hi => hu i hi)
/-- all files from a place on -/
theorem app_files {w wr : World} {u : Value} {fs : List (Bs × PF)} {a : Option Addr} {cap : Nat} {gs : List (Bs × PF)} (k : Nat) (hk : k ≤ gs.length) (hg : FRow wr (.slice a gs.length cap) gs) (hgl : gs.length ≤ 4) (hr : FRow wr u fs) (hn : fs.length ≤ 8) (hu : ∀ g, u.ownBlock = some g → w.heap.size ≤ g) (hb : Below w.heap.size w wr) (b : Option Addr) (hbs : k < gs.length → ∀ g, a = some ⟨g, 0, none⟩ → b = some ⟨g, k * 3, none⟩) (c : Nat) :
    ∃ u' w', (Builtin.append_ #[73, 73] 73 #[u, .slice b (gs.length - k) c]).run Try.prog wr = .ok u' w' ∧
      FRow w' u' (fs ++ gs.drop k) ∧ (∀ g, u'.ownBlock = some g → w.heap.size ≤ g) ∧ Below w.heap.size w w' := by
  have hl : (gs.drop k).length = gs.length - k := by simp
  rw [← hl]
  have key : (a = none ∧ gs = []) ∨ ∃ g, a = some ⟨g, 0, none⟩ := by
    rcases hg.2 with ⟨h1, h2⟩ | ⟨g, cap', cur, h1, _⟩
    · simp only [Value.slice.injEq] at h1; exact .inl ⟨h1.1, List.eq_nil_of_length_eq_zero h2⟩
    · simp only [Value.slice.injEq] at h1; exact .inr ⟨g, h1.1⟩
  obtain ⟨u', w', h1, h2, h3, h4⟩ := append_files (gs := gs.drop k) (c := c) (a := b) hr (fun h => by
    rcases Nat.lt_or_ge k gs.length with hlt | hge
    · rcases key with ⟨_, h0⟩ | ⟨g, h0⟩
      · rw [h0]; simp
      · rw [hbs hlt g h0] at h; cases h
    · exact List.drop_of_length_le hge) (fun ad h j v hj => by
    rcases Nat.lt_or_ge k gs.length with hlt | hge
    case inr => rw [List.drop_of_length_le hge] at hj; cases hj
    rcases key with ⟨h0, h9⟩ | ⟨g, h0⟩
    · rw [h9] at hlt; cases hlt
    · rw [hbs hlt g h0] at h
      cases h
      rw [fcs_drop] at hj
      subst h0
      have := hg.cells (g := g) rfl _ _ hj
      rw [Addr.add_lit, Nat.zero_add] at this
      rw [Addr.add_lit]; exact this) (by simp; omega)
  refine ⟨u', w', h1, h2, fun g hg => ?_, ?_⟩
  · rcases h4 with h4 | h4
    · exact hu g (h4 ▸ hg)
    · rw [h4] at hg; cases hg; exact hb.size
  · exact (Ch.of_grown h3).below hb hb.size (fun i hi => hu i hi)

theorem less_before : ∀ a b : Bs, Op.bytesLess a b = bytesBefore a b
  | [], [] => rfl
  | [], _ :: _ => rfl
  | _ :: _, [] => rfl
  | x :: a, y :: b => by simp [Op.bytesLess, bytesBefore, less_before a b]
theorem less_st {a b : ByteArray} : Op.bytesLess a.toList b.toList = bytesBefore (bs a) (bs b) := by rw [less_before, Lib.toList_data, Lib.toList_data]
theorem at_next {fs : List (Bs × PF)} {len k : Nat} {n : Bs} {T X : ByteArray} {m : Nat} (hl : len = fs.length) (h : ∀ j (hj : j < fs.length), j < k → bytesBefore fs[j].1 n = true) {hk : k < fs.length} (hp : fs[k] = (bs T, ⟨bs X, m⟩)) (hb : bytesBefore (bs T) n = true) :
    (∀ j (hj : j < fs.length), j < k + 1 → bytesBefore fs[j].1 n = true) ∧ fs.take (k + 1) = fs.take k ++ [(bs T, ⟨bs X, m⟩)] := by
  refine ⟨fun j hj hjk => ?_, ?_⟩
  · rcases Nat.lt_or_ge j k with h' | h'
    · exact h j hj h'
    · have : j = k := by omega
      subst this; rw [hp]; exact hb
  · rw [List.take_add_one, List.getElem?_eq_getElem hk, hp]; rfl

theorem wf_ins {P : PD} (h : Wf P) {n : Bs} (hg : get P.fs n = none) (hf : P.fs.length < 4) (hn : n.length ≤ 1099511627776) : Wf { P with fs := ins n P.fs } := by
  refine ⟨h.room, ?_, rise_ins h.rise (get_none hg), ?_, ?_, h.left, ?_⟩
  · show used (ins n P.fs) ≤ P.room
    rw [used_ins]; exact h.used
  · intro p hp
    rcases mem_ins.1 hp with rfl | hp
    · exact Nat.le_refl _
    · exact h.last p hp
  · show (ins n P.fs).length ≤ 4
    rw [len_ins]; omega
  · intro p hp
    rcases mem_ins.1 hp with rfl | hp
    · exact hn
    · exact h.names p hp
/-- the row is another one now -/
theorem IsR.rowed {w w2 : World} {e : Nat} {S : Nat → Prop} {P : PD} {v u : Value} {lv : Int} {gs : List (Bs × PF)} (h0 : IsR w e S P v lv) (hb : Below w.heap.size w w2) (hr : FRow w2 u gs) (hu : ∀ g, u.ownBlock = some g → w.heap.size ≤ g) (hw : Wf { P with fs := gs }) :
    ∃ S', IsE (w2.setCell ⟨e, 1, none⟩ u) e S' { P with fs := gs } ∧ Turn S w S' (w2.setCell ⟨e, 1, none⟩ u) := by
  have he := h0.low e h0.inS
  have h2 := h0.below hb
  have hc := Ch.set (w := w2) e 1 u
  refine ⟨fun i => S i ∨ u.ownBlock = some i, ⟨u, lv, hw, ?_, h0.left, hr.kept hc (fun g hg e' => by have := hu g hg; omega), .inl h0.inS, fun g hg => .inr hg, ?_⟩, ?_, ?_⟩
  · have := h2.blk.set 1 u
    simpa [rHead] using this
  · rintro k (hk | hk)
    · exact Nat.lt_of_lt_of_le (h2.low k hk) hc.size
    · obtain ⟨cur, hcu⟩ := frow_blk hr hk
      exact Nat.lt_of_lt_of_le hcu.lt hc.size
  · exact (Ch.of_below _ hb).trans hc (fun i hi => .inl (by rw [hi]; exact h0.inS))
  · rintro k (hk | hk)
    · exact .inl hk
    · exact .inr (hu k hk)
theorem put_end {w w2 : World} {e : Nat} {S : Nat → Prop} {P : PD} {v u : Value} {lv : Int} {n : Bs} {k : Nat} (hk : k ≤ P.fs.length) (hg : get P.fs n = none) (hf : P.fs.length < 4) (hn : n.length ≤ 1099511627776)
    (h1 : ∀ j (h : j < P.fs.length), j < k → bytesBefore P.fs[j].1 n = true) (h2 : ∀ h : k < P.fs.length, ¬ bytesBefore P.fs[k].1 n = true)
    (h0 : IsR w e S P v lv) (hb : Below w.heap.size w w2) (hr : FRow w2 u (P.fs.take k ++ [(n, ⟨[], 0⟩)] ++ P.fs.drop k)) (hu : ∀ g, u.ownBlock = some g → w.heap.size ≤ g) :
    ∃ S', Ending.returned (Value.int .i64 (k : Int)) = .returned (.int .i64 (idxI (ins n P.fs) n)) ∧ IsE (w2.setCell ⟨e, 1, none⟩ u) e S' { P with fs := ins n P.fs } ∧ Turn S w S' (w2.setCell ⟨e, 1, none⟩ u) := by
  have hi := ins_at P.fs k hk h1 h2 hg
  rw [show P.fs.take k ++ [(n, ⟨[], 0⟩)] ++ P.fs.drop k = ins n P.fs by rw [hi]; simp] at hr
  obtain ⟨S', a, b⟩ := h0.rowed hb hr hu (wf_ins h0.wf hg hf hn)
  refine ⟨S', ?_, a, b⟩
  unfold idxI
  rw [hi, idx_at _ _ (fun p hp => get_none hg p (List.mem_of_mem_take hp))]
  simp [Nat.min_eq_left hk]

set_option maxHeartbeats 4000000 in
theorem rput_any (P : PD) (e : Nat) (S : Nat → Prop) (n : ByteArray) (w : World) (h : IsE w e S P) (hg : get P.fs (bs n) = none) (hf : P.fs.length < 4) (hn : n.size ≤ 1099511627776) :
    Calls Try.prog 60 #[ptr e, .string n] w fun x w' => ∃ S', x = .returned (.int .i64 (idxI (ins (bs n) P.fs) (bs n))) ∧ IsE w' e S' { P with fs := ins (bs n) P.fs } ∧ Turn S w S' w' := by
  obtain ⟨v, lv, h⟩ := h
  obtain ⟨a, cap, rfl, hlc, hcm⟩ := h.row.shape
  have c1 := h.blk.cell 1
  simp [rHead] at c1
  have H := hide h
  have HG := hide hg
  clear h hg
  obtain ⟨len, hlen⟩ : ∃ len, len = P.fs.length := ⟨_, rfl⟩
  rw [← hlen] at c1 hlc hf
  have HLN := hide hlen
  clear hlen
  unfold maxLen at hcm
  go_enter Try.func60, Try.ntmps60
  go_wp2_with fail
  go_loopw [5, 6] (fun l i wr => ∃ (k : Nat) (u : Value), i = .int .i64 k ∧ l = u ∧ k ≤ len ∧ Hid (FRow wr u (P.fs.take k)) ∧ Hid (∀ j (hj : j < P.fs.length), j < k → bytesBefore P.fs[j].1 (bs n) = true) ∧
    Hid (∀ g, u.ownBlock = some g → w.heap.size ≤ g) ∧ Hid (Below w.heap.size w wr)) (fun _ i _ => len - (intOf i).toNat)
  case atStart => exact ⟨0, _, rfl, rfl, Nat.zero_le _, hide (show FRow w (.slice none 0 0) [] from World.ownsRow_nil _ _ _ _), hide (fun j hj h => absurd h (Nat.not_lt_zero _)), hide (fun g hg => by cases hg), hide (Below.refl _ _)⟩
  case round =>
    obtain ⟨k, u, rfl, rfl, hk, HR, HL, HU, HB⟩ := hrel
    have HH := hide (H.out.below HB.out)
    have c1' := HH.out.blk.cell 1
    simp [rHead] at c1'
    rw [← HLN.out] at c1'
    by_cases hlt : k < len
    · have hli : (k : Int) < len := by omega
      have hkl : k < P.fs.length := by have := HLN.out; omega
      obtain ⟨g, cur, rfl, hb, g0, g1, g2⟩ := HH.out.row.at hkl
      obtain ⟨T, hT⟩ : ∃ T, T = st P.fs[k].1 := ⟨_, rfl⟩
      have hbT : bs T = P.fs[k].1 := by rw [hT]
      rw [← hT] at g0
      have HBT := hide hbT
      clear hT hbT hb
      obtain ⟨X, hX⟩ : ∃ X, X = st P.fs[k].2.all := ⟨_, rfl⟩
      obtain ⟨m, hm⟩ : ∃ m, m = P.fs[k].2.last := ⟨_, rfl⟩
      rw [← hX] at g1
      rw [← hm] at g2
      have HP : Hid (P.fs[k] = (bs T, ⟨bs X, m⟩)) := hide (by rw [HBT.out, hX, hm])
      clear hX hm
      by_cases hlt2 : bytesBefore (bs T) (bs n) = true
      · obtain ⟨u', w', hrun, hr2, hu2, hb2⟩ := app_file (w := w) T X m HR.out (by simp; omega) HU.out HB.out
        have HRUN := hide hrun
        have HR2 := hide hr2
        have HU2 := hide hu2
        have HB2 := hide hb2
        clear hrun hr2 hu2 hb2
        have hc : Op.bytesLess T.toList n.toList = true := by rw [less_st]; exact hlt2
        have hx1 := at_next HLN.out HL.out HP.out hlt2
        have HX1 := hide hx1
        clear hx1
        go_wp2_with (at_builtin; refine Lib.wpList_append_run _ rfl (.tmp 26) (.tmp 34) 73 73 rfl _ _ (by simp [Act.eval, Act.put]) (by simp [Act.eval, Act.put]) _ _ HRUN.out ?_)
        refine ⟨⟨k + 1, u', by congr 1, rfl, by omega, ?_, hide HX1.out.1, HU2, HB2⟩, by simp [intOf]; omega⟩
        exact hide (by rw [HX1.out.2]; exact HR2.out)
      · have hc : Op.bytesLess T.toList n.toList = false := by rw [less_st]; simpa using hlt2
        have HN : Hid (∀ h : k < P.fs.length, ¬ bytesBefore P.fs[k].1 (bs n) = true) := hide (fun _ => by rw [HP.out]; exact hlt2)
        obtain ⟨u', w', hrun, hr2, hu2, hb2⟩ := app_file (w := w) n ⟨#[]⟩ 0 HR.out (by simp; omega) HU.out HB.out
        have HRUN := hide hrun
        have HH2 := hide (H.out.below hb2)
        have c1w := HH2.out.blk.cell 1
        simp [rHead] at c1w
        rw [← HLN.out] at c1w
        obtain ⟨u2, w2, hrun2, hr3, hu3, hb3⟩ := app_files (w := w) k (by have := HLN.out; omega) HH2.out.row H.out.wf.few hr2 (by simp; omega) hu2 hb2 (some ⟨g, k * 3, none⟩) (fun _ g hg => by cases hg; rfl) (cap - k)
        have HH3 := hide (H.out.below hb3)
        have f1 := HH3.out.blk.free 1
        have f0 := HH3.out.blk.cell 1
        simp [rHead] at f0
        rw [← HLN.out] at f0 hrun2
        obtain ⟨a2, c2, rfl, _, _⟩ := hr3.shape
        obtain ⟨n2, hn2⟩ : ∃ n2, n2 = (P.fs.take k ++ [(bs n, (⟨[], 0⟩ : PF))] ++ P.fs.drop k).length := ⟨_, rfl⟩
        rw [← hn2] at hrun2 hr3 hu3
        clear hn2
        have HRUN2 := hide hrun2
        have HR3 := hide hr3
        have HU3 := hide hu3
        have HB3 := hide hb3
        clear hrun hr2 hu2 hb2 hrun2 hr3 hu3 hb3
        go_wp2_with (first | (at_builtin; refine Lib.wpList_append_run _ rfl (.tmp 38) (.tmp 41) 73 73 rfl _ _ (by simp [Act.eval, Act.put]) (by simp [Act.eval, Act.put]) _ _ HRUN.out ?_) | (at_builtin; refine Lib.wpList_append_run _ rfl (.tmp 43) (.tmp 49) 73 73 rfl _ _ (by simp [Act.eval, Act.put]) (by simp [Act.eval, Act.put]) _ _ HRUN2.out ?_))
        go_ret
        obtain ⟨S1, p1, p2⟩ := put_end (by have := HLN.out; omega) HG.out (by have := HLN.out; omega) (by rw [bs_len]; exact hn) HL.out HN.out H.out HB3.out HR3.out HU3.out
        first | exact ⟨S1, p1, p2⟩ | exact ⟨p1, S1, p2⟩
    · have hnl : ¬ ((k : Int) < len) := by omega
      have HN : Hid (∀ h : k < P.fs.length, ¬ bytesBefore P.fs[k].1 (bs n) = true) := hide (fun h => by have := HLN.out; omega)
      obtain rfl : k = len := by omega
      obtain ⟨u', w', hrun, hr2, hu2, hb2⟩ := app_file (w := w) n ⟨#[]⟩ 0 HR.out (by simp; omega) HU.out HB.out
      have HRUN := hide hrun
      have HH2 := hide (H.out.below hb2)
      have c1w := HH2.out.blk.cell 1
      simp [rHead] at c1w
      rw [← HLN.out] at c1w
      obtain ⟨u2, w2, hrun2, hr3, hu3, hb3⟩ := app_files (w := w) k (by have := HLN.out; omega) HH2.out.row H.out.wf.few hr2 (by simp; omega) hu2 hb2 (if cap = k then a else Option.map (fun x => x.add (k * 3)) a) (fun h => by have := HLN.out; omega) (cap - k)
      have HH3 := hide (H.out.below hb3)
      have f1 := HH3.out.blk.free 1
      have f0 := HH3.out.blk.cell 1
      simp [rHead] at f0
      rw [← HLN.out] at f0 hrun2
      obtain ⟨a2, c2, rfl, _, _⟩ := hr3.shape
      obtain ⟨n2, hn2⟩ : ∃ n2, n2 = (P.fs.take k ++ [(bs n, (⟨[], 0⟩ : PF))] ++ P.fs.drop k).length := ⟨_, rfl⟩
      rw [← hn2] at hrun2 hr3 hu3
      clear hn2
      have HRUN2 := hide hrun2
      have HR3 := hide hr3
      have HU3 := hide hu3
      have HB3 := hide hb3
      clear hrun hr2 hu2 hb2 hrun2 hr3 hu3 hb3
      go_wp2_with (first | (at_builtin; refine Lib.wpList_append_run _ rfl (.tmp 38) (.tmp 41) 73 73 rfl _ _ (by simp [Act.eval, Act.put]) (by simp [Act.eval, Act.put]) _ _ HRUN.out ?_) | (at_builtin; refine Lib.wpList_append_run _ rfl (.tmp 43) (.tmp 49) 73 73 rfl _ _ (by simp [Act.eval, Act.put]) (by simp [Act.eval, Act.put]) _ _ HRUN2.out ?_))
      all_goals
        go_ret
        obtain ⟨S1, p1, p2⟩ := put_end (by have := HLN.out; omega) HG.out (by have := HLN.out; omega) (by rw [bs_len]; exact hn) HL.out HN.out H.out HB3.out HR3.out HU3.out
        first | exact ⟨S1, p1, p2⟩ | exact ⟨p1, S1, p2⟩
end Go.Proofs.Ytmbjlnnoemenoaa
