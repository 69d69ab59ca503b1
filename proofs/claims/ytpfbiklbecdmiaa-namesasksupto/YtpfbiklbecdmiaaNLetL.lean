/-
  THE WALK of NamesLet.
-/
import Derived.Test.YtpfbiklbecdmiaaNList
import Derived.Test.YtpfbiklbecdmiaaNOne
set_option linter.unusedVariables false
set_option linter.unusedSimpArgs false
namespace Go.Proofs.Ytpfbiklbecdmiaa
open Go.RowKit Go.Shelf

theorem get_deny (ps ds : List ByteArray) : V.get (listV ps ds) denyB = some (V.texts ds) := rfl
theorem get_allow (ps ds : List ByteArray) : V.get (listV ps ds) allowB = some (V.texts ps) := rfl
theorem textsIn_str (ps : List ByteArray) : textsIn (ps.map V.str) = ps := by
  induction ps with
  | nil => rfl
  | cons p ps ih =>
    rw [List.map_cons, show V.str p :: ps.map V.str = [V.str p] ++ ps.map V.str from rfl, textsIn_app, ih, textsIn_yes _ rfl]
    rfl
theorem pats_texts (ps : List ByteArray) : patsOf (V.texts ps) = ps := by
  unfold patsOf
  rw [if_pos (show (V.texts ps).kind = 4 from rfl)]
  exact textsIn_str ps
def hits (ps : List ByteArray) (host : ByteArray) : Bool := ps.any fun p => Nm.glob p.data.toList host.data.toList
theorem let_list (ps ds : List ByteArray) (host : ByteArray) : letB (listV ps ds) host = (!hits ds host && hits ps host) := by
  rw [letB, if_pos (show (listV ps ds).kind = 5 from rfl), meantB, meantB, get_deny, get_allow]
  simp only [Option.getD_some, pats_texts]
  rfl
theorem wtL_strs (ps : List ByteArray) (h : ∀ p ∈ ps, p.size ≤ 48) : V.wtL (ps.map V.str) ≤ 49 * ps.length := by
  induction ps with
  | nil => simp [V.wtL_nil]
  | cons p ps ih =>
    rw [List.map_cons, V.wtL_cons, List.length_cons]
    have h1 := ih (fun q hq => h q (by simp [hq]))
    have h2 := h p (by simp)
    have h3 : V.wt (V.str p) = 1 + p.size := by unfold V.str; rw [V.wt_mk]; rfl
    omega
theorem wt_listV (z0 z1 : List Int) (k k' : Nat) (hk : k ≤ 4) (hk' : k' ≤ 4) : V.wt (listV (pats z0 k) (pats z1 k')) ≤ 4294967295 := by
  have h1 := wtL_strs (pats z0 k) (pats_size z0 k)
  have h2 := wtL_strs (pats z1 k') (pats_size z1 k')
  rw [pats_length] at h1 h2
  have e1 : V.wt (V.texts (pats z0 k)) = 1 + V.wtL ((pats z0 k).map V.str) := by unfold V.texts; rw [V.wt_mk]; show 1 + 0 + 0 + _ = _; omega
  have e2 : V.wt (V.texts (pats z1 k')) = 1 + V.wtL ((pats z1 k').map V.str) := by unfold V.texts; rw [V.wt_mk]; show 1 + 0 + 0 + _ = _; omega
  have e3 : V.wtK [allowB, denyB] ≤ 100 := by decide
  unfold listV
  rw [V.wt_mk, V.wtL_cons, V.wtL_cons, V.wtL_nil, e1, e2]
  show 1 + 0 + _ + _ ≤ _
  omega
/-- three noughts are three stars: any host -/
theorem hits_stars (host : ByteArray) : hits (pats [0, 0, 0] 1) host = true := by
  have e : pats [0, 0, 0] 1 = [⟨#[42, 42, 42]⟩] := by decide
  rw [e]
  show (Nm.glob [42, 42, 42] host.data.toList || false) = true
  rw [Bool.or_false, Nm.glob_star, Nm.tails_iff]
  refine ⟨[], _, rfl, ?_⟩
  rw [Nm.glob_star, Nm.tails_iff]
  exact ⟨[], _, rfl, Nm.glob_all _⟩
theorem hits_none (zs : List Int) (host : ByteArray) : hits (pats zs 0) host = false := rfl

/-- three noughts, laid new -/
theorem bys_zeros (w : World) (t : TypeId) (g : Nat) (hg : g = w.heap.size) : Bys (w.alloc (.cells #[.int .u8 0, .int .u8 0, .int .u8 0] t)) (some ⟨g, 0, none⟩) 3 [0, 0, 0] := by
  subst hg
  refine ⟨by decide, by decide, by decide, fun i hi => ⟨_, 0, rfl, ?_⟩⟩
  have hr := row_new w #[.int .u8 0, .int .u8 0, .int .u8 0] t _ rfl
  have h := (hr i hi).1
  rw [Nat.zero_add, h]
  have : i = 0 ∨ i = 1 ∨ i = 2 := by omega
  rcases this with rfl | rfl | rfl <;> rfl
theorem bys_nil (w : World) (zs : List Int) (h : ∀ n ∈ zs, (Lit.int .u8 n).wf = true) : Bys w none 0 zs := ⟨Nat.zero_le _, by decide, h, fun i hi => absurd hi (by omega)⟩

/-- names.Let of what List made -/
theorem letl_any (v : Value) (z0 z1 : List Int) (k k' : Nat) (hk : k ≤ 4) (hk' : k' ≤ 4) (host : ByteArray) (w : World) (b : Bool) (hI : Is w (fun _ => True) v (listV (pats z0 k) (pats z1 k'))) (hh : host.size ≤ 140737488355328) (hb : (!hits (pats z1 k') host && hits (pats z0 k) host) = b) :
    Calls Try.prog 24 #[v, .string host] w fun e w' => e = .returned (.bool b) ∧ Below w.heap.size w w' := by
  refine (let_any v _ _ host w hI (wt_listV z0 z1 k k' hk hk') hh).mono ?_
  rintro e w1 ⟨rfl, b1⟩
  exact ⟨by rw [let_list, hb], b1⟩

theorem ninfo_u8 : (Try.prog.info? 5).map (fun i => (i.zero, i.size, i.bytes)) = some (some (.int .u8 0), 1, 1) := by kernel_rfl
theorem raw_bytes {w : World} {a : Option Addr} {len cap : Nat} {zs : List Int} (h : Bys w a len zs) (hc : len ≤ cap) (hcm : cap ≤ maxLen) : Raw w (fun _ => True) (.slice a len cap) 1 len ((zs.take len).map fun z => .int .u8 z) := by
  obtain ⟨h1, h2, h3, h4⟩ := h
  refine ⟨a, cap, rfl, hc, hcm, by rw [List.length_map, List.length_take]; omega, ?_, ?_⟩
  · intro u hu
    obtain ⟨z, _, rfl⟩ := List.mem_map.1 hu
    rfl
  · intro h0
    rw [Nat.mul_one] at h0
    obtain ⟨b, off, ha, _⟩ := h4 0 h0
    refine ⟨b, off, ha, trivial, fun i hi => ?_⟩
    rw [Nat.mul_one] at hi
    obtain ⟨b', off', ha', hc'⟩ := h4 i hi
    rw [ha] at ha'
    simp only [Option.some.injEq, Addr.mk.injEq, and_true] at ha'
    obtain ⟨rfl, rfl⟩ := ha'
    rw [hc']
    congr 1
    show _ = ((zs.take len).map fun z => Value.int .u8 z).getD i undef
    rw [List.getD_eq_getElem?_getD, List.getD_eq_getElem?_getD, List.getElem?_map, List.getElem?_take, if_pos hi, List.getElem?_eq_getElem (by omega)]
    rfl
theorem bys_own {w : World} {base : Nat} {t : TypeId} {a : Option Addr} {n c : Nat} {zs : List Int} (h : w.ownsRow base t 1 (.slice a n c) n (zs.map fun z => .int .u8 z)) (hz : n = zs.length) (hm : n ≤ maxLen) (hw : ∀ z ∈ zs, (Lit.int .u8 z).wf = true) : Bys w a n zs ∧ n ≤ c := by
  obtain ⟨a', cap', he, h1, h2, h3, h4, h5⟩ := Raw.of_own h (fun u hu => by obtain ⟨z, _, rfl⟩ := List.mem_map.1 hu; rfl)
  simp only [Value.slice.injEq] at he
  obtain ⟨rfl, _, rfl⟩ := he
  refine ⟨⟨by omega, hm, hw, fun i hi => ?_⟩, h1⟩
  obtain ⟨b, off, ha, _, hc⟩ := h5 (by omega)
  refine ⟨b, off, ha, ?_⟩
  rw [hc i (by omega)]
  congr 1
  show (zs.map fun z => Value.int .u8 z).getD i undef = _
  rw [List.getD_eq_getElem?_getD, List.getD_eq_getElem?_getD, List.getElem?_map, List.getElem?_eq_getElem (by omega)]
  rfl
theorem isRow_cap {w : World} {a : Option Addr} {len cap : Nat} {zs : List Int} (h : IsRow .u8 w a len cap zs) : len ≤ cap ∧ cap ≤ maxLen := by
  rcases h with ⟨_, rfl, rfl, _⟩ | ⟨x, _, hl, hm, _⟩
  · exact ⟨Nat.le_refl _, by decide⟩
  · exact ⟨hl, hm⟩
theorem npat_len (zs : List Int) (len : Nat) : (Nm.pat zs len).length ≤ 48 := by
  have := Nm.pick_len 6 Nm.patTab (by decide) zs (min len 12)
  unfold Nm.pat
  omega

set_option maxRecDepth 100000 in
set_option maxHeartbeats 1000000 in
theorem namesLet_walk (a0 : Option Addr) (len0 cap0 : Nat) (z0 : List Int) (a1 : Option Addr) (len1 cap1 : Nat) (z1 : List Int) (a2 : Option Addr) (len2 cap2 : Nat) (z2 : List Int) (w : World) (w0 : IsRow .u8 w a0 len0 cap0 z0) (w1 : IsRow .u8 w a1 len1 cap1 z1) (w2 : IsRow .u8 w a2 len2 cap2 z2) (s0 : len0 ≤ 140737488355328) (s1 : len1 ≤ 140737488355328) (s2 : len2 ≤ 140737488355328) :
    Calls Try.prog 6 #[.slice a0 len0 cap0, .slice a1 len1 cap1, .slice a2 len2 cap2] w fun e w' => e = .returned (.bool true) ∧ Below w.heap.size w w' := by
  obtain ⟨hc0, _⟩ := isRow_cap w0
  obtain ⟨hc1, hm1⟩ := isRow_cap w1
  have H0 : Hid (Bys w a0 len0 z0) := w0.view
  have H1 : Hid (Bys w a1 len1 z1) := w1.view
  have H2 : Hid (Bys w a2 len2 z2) := w2.view
  have HM1 := nhide hm1
  clear w0 w1 w2 hm1
  obtain ⟨X, hX⟩ : ∃ X : ByteArray, X = ⟨(Nm.pat z2 len2).toArray⟩ := ⟨_, rfl⟩
  have hXs : X.size ≤ 48 := by rw [hX, arr_size]; exact npat_len _ _
  have HX := nhide hX
  clear hX
  obtain ⟨K0, hK0⟩ : ∃ K, K = min 4 (len0 / 3) := ⟨_, rfl⟩
  obtain ⟨K1, hK1⟩ : ∃ K, K = min 4 (len1 / 3) := ⟨_, rfl⟩
  have hk0 : K0 ≤ 4 := by omega
  have hk1 : K1 ≤ 4 := by omega
  have HK0 := nhide hK0
  have HK1 := nhide hK1
  clear hK0 hK1
  have hcase : ∃ nb lb : Bool, (!hits (pats z1 K1) X && hits (pats [0, 0, 0] (min 4 (3 / 3))) X) = nb ∧ (!hits (pats z1 K1) X && hits (pats z0 K0) X) = lb ∧ (lb = true → nb = true) := by
    refine ⟨_, _, rfl, rfl, ?_⟩
    rw [show min 4 (3 / 3) = 1 from rfl, hits_stars]
    cases hits (pats z1 K1) X <;> simp
  obtain ⟨nb, lb, hnb, hlb, himp⟩ := hcase
  have h3 : (nb = false ∧ lb = false) ∨ (nb = true ∧ lb = false) ∨ (nb = true ∧ lb = true) := by
    cases nb <;> cases lb <;> simp_all
  have HNB := nhide hnb
  have HLB := nhide hlb
  clear hnb hlb himp
  rcases h3 with ⟨rfl, rfl⟩ | ⟨rfl, rfl⟩ | ⟨rfl, rfl⟩
  · skip
    go_enter Try.func6, Try.ntmps6
    go_wp2_with fail
    refine (pat_row a2 len2 cap2 z2 w H2.out).mono ?_
    rintro e u1 ⟨rfl, b1⟩
    rw [← HX.out]
    go_wp2_with fail
    refine (list_any a0 len0 cap0 z0 a1 len1 cap1 z1 u1 (H0.out.below b1) hc0 (H1.out.below b1) hc1).mono ?_
    rintro e u2 ⟨k, n, t, p1, n1, c1, p2, n2, c2, rfl, hI2, b2⟩
    rw [← HK0.out, ← HK1.out] at hI2
    have hB2 := bthen b1 b2
    clear b1 b2
    go_wp2_with fail
    have hbb : Below u2.heap.size u2 ((u2.alloc (.cells #[.int .i64 k, .int .i64 n, .string t, .slice p1 n1 c1, .slice p2 n2 c2] 25)).alloc (.cells #[.int .u8 0, .int .u8 0, .int .u8 0] 5)) := bthen (below_alloc _ _) (below_alloc _ _)
    have hbz : Bys ((u2.alloc (.cells #[.int .i64 k, .int .i64 n, .string t, .slice p1 n1 c1, .slice p2 n2 c2] 25)).alloc (.cells #[.int .u8 0, .int .u8 0, .int .u8 0] 5)) (some ⟨u2.heap.size + 1, 0, none⟩) 3 [0, 0, 0] := bys_zeros (u2.alloc (.cells #[.int .i64 k, .int .i64 n, .string t, .slice p1 n1 c1, .slice p2 n2 c2] 25)) _ _ (by simp)
    have hbox := (box5_new u2 (.int .i64 k) (.int .i64 n) (.string t) (.slice p1 n1 c1) (.slice p2 n2 c2) 25).keep (below_alloc (u2.alloc (.cells #[.int .i64 k, .int .i64 n, .string t, .slice p1 n1 c1, .slice p2 n2 c2] 25)) (.cells #[.int .u8 0, .int .u8 0, .int .u8 0] 5))
    generalize (u2.alloc (.cells #[.int .i64 k, .int .i64 n, .string t, .slice p1 n1 c1, .slice p2 n2 c2] 25)).alloc (.cells #[.int .u8 0, .int .u8 0, .int .u8 0] 5) = W4 at hbb hbz hbox ⊢
    have hB4 := bthen hB2 hbb
    have HI4 := nhide (hI2.below hbb)
    have HBox := nhide hbox
    clear hbox hbb hB2 hI2
    refine (list_any _ 3 3 [0, 0, 0] a1 len1 cap1 z1 W4 hbz (by omega) (H1.out.below hB4) hc1).mono ?_
    rintro e u5 ⟨k', n', t', q1, m1, d1, q2, m2, d2, rfl, hI5, b5⟩
    rw [← HK1.out] at hI5
    have HI5 := nhide hI5
    clear hI5 hbz
    go_wp2_with fail
    refine (letl_any _ [0, 0, 0] z1 (min 4 (3 / 3)) K1 (by decide) hk1 X u5 _ HI5.out (by omega) HNB.out).mono ?_
    rintro e u6 ⟨rfl, b6⟩
    have b56 := bthen b5 b6
    have hB6 := bthen hB4 b56
    have HBox6 := nhide (HBox.out.keep b56)
    have HI6 := nhide (HI4.out.below b56)
    clear b5 b6 b56 hB4 HBox HI4 HI5
    have hraw := raw_bytes (H1.out.below hB6) hc1 HM1.out
    obtain ⟨v7, u7, hr7, ho7, hg7⟩ := append_part 26 26 5 _ 1 1 Try.underlying26 ninfo_u8 rfl (by decide) u6.heap.size (.slice none 0 0) 0 [] (World.ownsRow_nil _ _ _ _) hraw (by unfold maxLen; omega) (by omega) (Nat.le_refl _)
    rw [List.nil_append, Nat.zero_add] at ho7
    obtain ⟨na, nc, rfl⟩ := own_shape ho7
    have b7 : Below u6.heap.size u6 u7 := (Below.refl _ _).grown hg7 (Nat.le_refl _) (fun k hk => by cases hk)
    obtain ⟨hby7, hnc⟩ := bys_own ho7 (by rw [List.length_take]; have := H1.out.1; omega) H1.out.2.1 (fun z hz => H1.out.2.2.1 z (List.mem_of_mem_take hz))
    have HRUN := nhide hr7
    have HBy7 := nhide hby7
    have hB7 := bthen hB6 b7
    have HBox7 := nhide (HBox6.out.keep b7)
    have HI7 := nhide (HI6.out.below b7)
    clear hr7 ho7 hg7 hraw hby7 b7 hB6 HBox6 HI6
    go_wp2_with (at_builtin; refine Lib.wpList_append_run _ rfl (.tmp 21) (.tmp 22) 26 26 rfl _ _ (by simp [Act.eval, Act.put]) (by simp [Act.eval, Act.put]) _ _ HRUN.out ?_)
    refine (nknown_any _).mono ?_
    rintro e u8 ⟨rfl, b8⟩
    obtain ⟨x0, x1, x2, x3, x4⟩ := HBox7.out.keep b8
    have hB8 := bthen hB7 b8
    have HI8 := nhide (HI7.out.below b8)
    have HBy8 := nhide (HBy7.out.below b8)
    clear b8 hB7 HBox7 HI7 HBy7
    go_wp2_with fail
    refine (letl_any _ z0 z1 K0 K1 hk0 hk1 X u8 _ HI8.out (by omega) HLB.out).mono ?_
    rintro e u9 ⟨rfl, b9⟩
    have hB9 := bthen hB8 b9
    have HBy9 := nhide (HBy8.out.below b9)
    clear x0 x1 x2 x3 x4 hB8 b9 HI8 HBy8
    go_wp2_with fail
    refine (list_any none 0 0 [] na len1 nc (z1.take len1) u9 (bys_nil _ _ (by simp)) (Nat.le_refl _) HBy9.out hnc).mono ?_
    rintro e v1 ⟨k3, n3, t3, q13, m13, d13, q23, m23, d23, rfl, hI3, c1⟩
    have HI3 := nhide hI3
    clear hI3
    go_wp2_with fail
    refine (letl_any _ [] (z1.take len1) (min 4 (0 / 3)) (min 4 (len1 / 3)) (by decide) (by omega) X v1 false HI3.out (by omega) (by rw [show min 4 (0 / 3) = 0 from rfl, hits_none, Bool.and_false])).mono ?_
    rintro e v2 ⟨rfl, c2⟩
    have hB10 := bthen (bthen hB9 c1) c2
    clear c1 c2 hB9 HI3
    go_wp2_with fail
    have hz1 : Bys ((v2.alloc (.cells #[.int .u8 0, .int .u8 0, .int .u8 0] 5)).alloc (.cells #[.int .u8 0, .int .u8 0, .int .u8 0] 5)) (some ⟨v2.heap.size, 0, none⟩) 3 [0, 0, 0] := (bys_zeros v2 _ _ rfl).below (below_alloc _ _)
    have hz2 : Bys ((v2.alloc (.cells #[.int .u8 0, .int .u8 0, .int .u8 0] 5)).alloc (.cells #[.int .u8 0, .int .u8 0, .int .u8 0] 5)) (some ⟨v2.heap.size + 1, 0, none⟩) 3 [0, 0, 0] := bys_zeros (v2.alloc (.cells #[.int .u8 0, .int .u8 0, .int .u8 0] 5)) _ _ (by simp)
    have hb11 : Below v2.heap.size v2 ((v2.alloc (.cells #[.int .u8 0, .int .u8 0, .int .u8 0] 5)).alloc (.cells #[.int .u8 0, .int .u8 0, .int .u8 0] 5)) := bthen (below_alloc _ _) (below_alloc _ _)
    generalize (v2.alloc (.cells #[.int .u8 0, .int .u8 0, .int .u8 0] 5)).alloc (.cells #[.int .u8 0, .int .u8 0, .int .u8 0] 5) = V3 at hz1 hz2 hb11 ⊢
    have hB11 := bthen hB10 hb11
    clear hb11 hB10
    refine (list_any _ 3 3 [0, 0, 0] _ 3 3 [0, 0, 0] V3 hz1 (by omega) hz2 (by omega)).mono ?_
    rintro e v4 ⟨k4, n4, t4, q14, m14, d14, q24, m24, d24, rfl, hI4, c4⟩
    have HI4 := nhide hI4
    clear hI4 hz1 hz2
    go_wp2_with fail
    refine (letl_any _ [0, 0, 0] [0, 0, 0] (min 4 (3 / 3)) (min 4 (3 / 3)) (by decide) (by decide) X v4 false HI4.out (by omega) (by rw [show min 4 (3 / 3) = 1 from rfl, hits_stars]; rfl)).mono ?_
    rintro e v5 ⟨rfl, c5⟩
    have hB12 := bthen (bthen hB11 c4) c5
    clear c4 c5 hB11 HI4
    go_wp2_with fail
    have hz3 : Bys (v5.alloc (.cells #[.int .u8 0, .int .u8 0, .int .u8 0] 5)) (some ⟨v5.heap.size, 0, none⟩) 3 [0, 0, 0] := bys_zeros v5 _ _ rfl
    have hb13 : Below v5.heap.size v5 (v5.alloc (.cells #[.int .u8 0, .int .u8 0, .int .u8 0] 5)) := below_alloc _ _
    generalize v5.alloc (.cells #[.int .u8 0, .int .u8 0, .int .u8 0] 5) = V6 at hz3 hb13 ⊢
    have hB13 := bthen hB12 hb13
    clear hb13 hB12
    refine (list_any _ 3 3 [0, 0, 0] none 0 0 [] V6 hz3 (by omega) (bys_nil _ _ (by simp)) (Nat.le_refl _)).mono ?_
    rintro e v7 ⟨k7, n7, t7, q17, m17, d17, q27, m27, d27, rfl, hI7, c7⟩
    have HI7 := nhide hI7
    clear hI7 hz3
    go_wp2_with fail
    refine (letl_any _ [0, 0, 0] [] (min 4 (3 / 3)) (min 4 (0 / 3)) (by decide) (by decide) X v7 true HI7.out (by omega) (by rw [show min 4 (3 / 3) = 1 from rfl, show min 4 (0 / 3) = 0 from rfl, hits_stars, hits_none]; rfl)).mono ?_
    rintro e v8 ⟨rfl, c8⟩
    go_wp2_with fail
    go_ret
    exact ⟨rfl, bthen (bthen hB13 c7) c8⟩
  · skip
    go_enter Try.func6, Try.ntmps6
    go_wp2_with fail
    refine (pat_row a2 len2 cap2 z2 w H2.out).mono ?_
    rintro e u1 ⟨rfl, b1⟩
    rw [← HX.out]
    go_wp2_with fail
    refine (list_any a0 len0 cap0 z0 a1 len1 cap1 z1 u1 (H0.out.below b1) hc0 (H1.out.below b1) hc1).mono ?_
    rintro e u2 ⟨k, n, t, p1, n1, c1, p2, n2, c2, rfl, hI2, b2⟩
    rw [← HK0.out, ← HK1.out] at hI2
    have hB2 := bthen b1 b2
    clear b1 b2
    go_wp2_with fail
    have hbb : Below u2.heap.size u2 ((u2.alloc (.cells #[.int .i64 k, .int .i64 n, .string t, .slice p1 n1 c1, .slice p2 n2 c2] 25)).alloc (.cells #[.int .u8 0, .int .u8 0, .int .u8 0] 5)) := bthen (below_alloc _ _) (below_alloc _ _)
    have hbz : Bys ((u2.alloc (.cells #[.int .i64 k, .int .i64 n, .string t, .slice p1 n1 c1, .slice p2 n2 c2] 25)).alloc (.cells #[.int .u8 0, .int .u8 0, .int .u8 0] 5)) (some ⟨u2.heap.size + 1, 0, none⟩) 3 [0, 0, 0] := bys_zeros (u2.alloc (.cells #[.int .i64 k, .int .i64 n, .string t, .slice p1 n1 c1, .slice p2 n2 c2] 25)) _ _ (by simp)
    have hbox := (box5_new u2 (.int .i64 k) (.int .i64 n) (.string t) (.slice p1 n1 c1) (.slice p2 n2 c2) 25).keep (below_alloc (u2.alloc (.cells #[.int .i64 k, .int .i64 n, .string t, .slice p1 n1 c1, .slice p2 n2 c2] 25)) (.cells #[.int .u8 0, .int .u8 0, .int .u8 0] 5))
    generalize (u2.alloc (.cells #[.int .i64 k, .int .i64 n, .string t, .slice p1 n1 c1, .slice p2 n2 c2] 25)).alloc (.cells #[.int .u8 0, .int .u8 0, .int .u8 0] 5) = W4 at hbb hbz hbox ⊢
    have hB4 := bthen hB2 hbb
    have HI4 := nhide (hI2.below hbb)
    have HBox := nhide hbox
    clear hbox hbb hB2 hI2
    refine (list_any _ 3 3 [0, 0, 0] a1 len1 cap1 z1 W4 hbz (by omega) (H1.out.below hB4) hc1).mono ?_
    rintro e u5 ⟨k', n', t', q1, m1, d1, q2, m2, d2, rfl, hI5, b5⟩
    rw [← HK1.out] at hI5
    have HI5 := nhide hI5
    clear hI5 hbz
    go_wp2_with fail
    refine (letl_any _ [0, 0, 0] z1 (min 4 (3 / 3)) K1 (by decide) hk1 X u5 _ HI5.out (by omega) HNB.out).mono ?_
    rintro e u6 ⟨rfl, b6⟩
    have b56 := bthen b5 b6
    have hB6 := bthen hB4 b56
    have HBox6 := nhide (HBox.out.keep b56)
    have HI6 := nhide (HI4.out.below b56)
    clear b5 b6 b56 hB4 HBox HI4 HI5
    have hraw := raw_bytes (H1.out.below hB6) hc1 HM1.out
    obtain ⟨v7, u7, hr7, ho7, hg7⟩ := append_part 26 26 5 _ 1 1 Try.underlying26 ninfo_u8 rfl (by decide) u6.heap.size (.slice none 0 0) 0 [] (World.ownsRow_nil _ _ _ _) hraw (by unfold maxLen; omega) (by omega) (Nat.le_refl _)
    rw [List.nil_append, Nat.zero_add] at ho7
    obtain ⟨na, nc, rfl⟩ := own_shape ho7
    have b7 : Below u6.heap.size u6 u7 := (Below.refl _ _).grown hg7 (Nat.le_refl _) (fun k hk => by cases hk)
    obtain ⟨hby7, hnc⟩ := bys_own ho7 (by rw [List.length_take]; have := H1.out.1; omega) H1.out.2.1 (fun z hz => H1.out.2.2.1 z (List.mem_of_mem_take hz))
    have HRUN := nhide hr7
    have HBy7 := nhide hby7
    have hB7 := bthen hB6 b7
    have HBox7 := nhide (HBox6.out.keep b7)
    have HI7 := nhide (HI6.out.below b7)
    clear hr7 ho7 hg7 hraw hby7 b7 hB6 HBox6 HI6
    go_wp2_with (at_builtin; refine Lib.wpList_append_run _ rfl (.tmp 21) (.tmp 22) 26 26 rfl _ _ (by simp [Act.eval, Act.put]) (by simp [Act.eval, Act.put]) _ _ HRUN.out ?_)
    refine (nknown_any _).mono ?_
    rintro e u8 ⟨rfl, b8⟩
    obtain ⟨x0, x1, x2, x3, x4⟩ := HBox7.out.keep b8
    have hB8 := bthen hB7 b8
    have HI8 := nhide (HI7.out.below b8)
    have HBy8 := nhide (HBy7.out.below b8)
    clear b8 hB7 HBox7 HI7 HBy7
    go_wp2_with fail
    refine (letl_any _ z0 z1 K0 K1 hk0 hk1 X u8 _ HI8.out (by omega) HLB.out).mono ?_
    rintro e u9 ⟨rfl, b9⟩
    have hB9 := bthen hB8 b9
    have HBy9 := nhide (HBy8.out.below b9)
    clear x0 x1 x2 x3 x4 hB8 b9 HI8 HBy8
    go_wp2_with fail
    refine (list_any none 0 0 [] na len1 nc (z1.take len1) u9 (bys_nil _ _ (by simp)) (Nat.le_refl _) HBy9.out hnc).mono ?_
    rintro e v1 ⟨k3, n3, t3, q13, m13, d13, q23, m23, d23, rfl, hI3, c1⟩
    have HI3 := nhide hI3
    clear hI3
    go_wp2_with fail
    refine (letl_any _ [] (z1.take len1) (min 4 (0 / 3)) (min 4 (len1 / 3)) (by decide) (by omega) X v1 false HI3.out (by omega) (by rw [show min 4 (0 / 3) = 0 from rfl, hits_none, Bool.and_false])).mono ?_
    rintro e v2 ⟨rfl, c2⟩
    have hB10 := bthen (bthen hB9 c1) c2
    clear c1 c2 hB9 HI3
    go_wp2_with fail
    have hz1 : Bys ((v2.alloc (.cells #[.int .u8 0, .int .u8 0, .int .u8 0] 5)).alloc (.cells #[.int .u8 0, .int .u8 0, .int .u8 0] 5)) (some ⟨v2.heap.size, 0, none⟩) 3 [0, 0, 0] := (bys_zeros v2 _ _ rfl).below (below_alloc _ _)
    have hz2 : Bys ((v2.alloc (.cells #[.int .u8 0, .int .u8 0, .int .u8 0] 5)).alloc (.cells #[.int .u8 0, .int .u8 0, .int .u8 0] 5)) (some ⟨v2.heap.size + 1, 0, none⟩) 3 [0, 0, 0] := bys_zeros (v2.alloc (.cells #[.int .u8 0, .int .u8 0, .int .u8 0] 5)) _ _ (by simp)
    have hb11 : Below v2.heap.size v2 ((v2.alloc (.cells #[.int .u8 0, .int .u8 0, .int .u8 0] 5)).alloc (.cells #[.int .u8 0, .int .u8 0, .int .u8 0] 5)) := bthen (below_alloc _ _) (below_alloc _ _)
    generalize (v2.alloc (.cells #[.int .u8 0, .int .u8 0, .int .u8 0] 5)).alloc (.cells #[.int .u8 0, .int .u8 0, .int .u8 0] 5) = V3 at hz1 hz2 hb11 ⊢
    have hB11 := bthen hB10 hb11
    clear hb11 hB10
    refine (list_any _ 3 3 [0, 0, 0] _ 3 3 [0, 0, 0] V3 hz1 (by omega) hz2 (by omega)).mono ?_
    rintro e v4 ⟨k4, n4, t4, q14, m14, d14, q24, m24, d24, rfl, hI4, c4⟩
    have HI4 := nhide hI4
    clear hI4 hz1 hz2
    go_wp2_with fail
    refine (letl_any _ [0, 0, 0] [0, 0, 0] (min 4 (3 / 3)) (min 4 (3 / 3)) (by decide) (by decide) X v4 false HI4.out (by omega) (by rw [show min 4 (3 / 3) = 1 from rfl, hits_stars]; rfl)).mono ?_
    rintro e v5 ⟨rfl, c5⟩
    have hB12 := bthen (bthen hB11 c4) c5
    clear c4 c5 hB11 HI4
    go_wp2_with fail
    have hz3 : Bys (v5.alloc (.cells #[.int .u8 0, .int .u8 0, .int .u8 0] 5)) (some ⟨v5.heap.size, 0, none⟩) 3 [0, 0, 0] := bys_zeros v5 _ _ rfl
    have hb13 : Below v5.heap.size v5 (v5.alloc (.cells #[.int .u8 0, .int .u8 0, .int .u8 0] 5)) := below_alloc _ _
    generalize v5.alloc (.cells #[.int .u8 0, .int .u8 0, .int .u8 0] 5) = V6 at hz3 hb13 ⊢
    have hB13 := bthen hB12 hb13
    clear hb13 hB12
    refine (list_any _ 3 3 [0, 0, 0] none 0 0 [] V6 hz3 (by omega) (bys_nil _ _ (by simp)) (Nat.le_refl _)).mono ?_
    rintro e v7 ⟨k7, n7, t7, q17, m17, d17, q27, m27, d27, rfl, hI7, c7⟩
    have HI7 := nhide hI7
    clear hI7 hz3
    go_wp2_with fail
    refine (letl_any _ [0, 0, 0] [] (min 4 (3 / 3)) (min 4 (0 / 3)) (by decide) (by decide) X v7 true HI7.out (by omega) (by rw [show min 4 (3 / 3) = 1 from rfl, show min 4 (0 / 3) = 0 from rfl, hits_stars, hits_none]; rfl)).mono ?_
    rintro e v8 ⟨rfl, c8⟩
    go_wp2_with fail
    go_ret
    exact ⟨rfl, bthen (bthen hB13 c7) c8⟩
  · skip
    go_enter Try.func6, Try.ntmps6
    go_wp2_with fail
    refine (pat_row a2 len2 cap2 z2 w H2.out).mono ?_
    rintro e u1 ⟨rfl, b1⟩
    rw [← HX.out]
    go_wp2_with fail
    refine (list_any a0 len0 cap0 z0 a1 len1 cap1 z1 u1 (H0.out.below b1) hc0 (H1.out.below b1) hc1).mono ?_
    rintro e u2 ⟨k, n, t, p1, n1, c1, p2, n2, c2, rfl, hI2, b2⟩
    rw [← HK0.out, ← HK1.out] at hI2
    have hB2 := bthen b1 b2
    clear b1 b2
    go_wp2_with fail
    have hbb : Below u2.heap.size u2 ((u2.alloc (.cells #[.int .i64 k, .int .i64 n, .string t, .slice p1 n1 c1, .slice p2 n2 c2] 25)).alloc (.cells #[.int .u8 0, .int .u8 0, .int .u8 0] 5)) := bthen (below_alloc _ _) (below_alloc _ _)
    have hbz : Bys ((u2.alloc (.cells #[.int .i64 k, .int .i64 n, .string t, .slice p1 n1 c1, .slice p2 n2 c2] 25)).alloc (.cells #[.int .u8 0, .int .u8 0, .int .u8 0] 5)) (some ⟨u2.heap.size + 1, 0, none⟩) 3 [0, 0, 0] := bys_zeros (u2.alloc (.cells #[.int .i64 k, .int .i64 n, .string t, .slice p1 n1 c1, .slice p2 n2 c2] 25)) _ _ (by simp)
    have hbox := (box5_new u2 (.int .i64 k) (.int .i64 n) (.string t) (.slice p1 n1 c1) (.slice p2 n2 c2) 25).keep (below_alloc (u2.alloc (.cells #[.int .i64 k, .int .i64 n, .string t, .slice p1 n1 c1, .slice p2 n2 c2] 25)) (.cells #[.int .u8 0, .int .u8 0, .int .u8 0] 5))
    generalize (u2.alloc (.cells #[.int .i64 k, .int .i64 n, .string t, .slice p1 n1 c1, .slice p2 n2 c2] 25)).alloc (.cells #[.int .u8 0, .int .u8 0, .int .u8 0] 5) = W4 at hbb hbz hbox ⊢
    have hB4 := bthen hB2 hbb
    have HI4 := nhide (hI2.below hbb)
    have HBox := nhide hbox
    clear hbox hbb hB2 hI2
    refine (list_any _ 3 3 [0, 0, 0] a1 len1 cap1 z1 W4 hbz (by omega) (H1.out.below hB4) hc1).mono ?_
    rintro e u5 ⟨k', n', t', q1, m1, d1, q2, m2, d2, rfl, hI5, b5⟩
    rw [← HK1.out] at hI5
    have HI5 := nhide hI5
    clear hI5 hbz
    go_wp2_with fail
    refine (letl_any _ [0, 0, 0] z1 (min 4 (3 / 3)) K1 (by decide) hk1 X u5 _ HI5.out (by omega) HNB.out).mono ?_
    rintro e u6 ⟨rfl, b6⟩
    have b56 := bthen b5 b6
    have hB6 := bthen hB4 b56
    have HBox6 := nhide (HBox.out.keep b56)
    have HI6 := nhide (HI4.out.below b56)
    clear b5 b6 b56 hB4 HBox HI4 HI5
    have hraw := raw_bytes (H1.out.below hB6) hc1 HM1.out
    obtain ⟨v7, u7, hr7, ho7, hg7⟩ := append_part 26 26 5 _ 1 1 Try.underlying26 ninfo_u8 rfl (by decide) u6.heap.size (.slice none 0 0) 0 [] (World.ownsRow_nil _ _ _ _) hraw (by unfold maxLen; omega) (by omega) (Nat.le_refl _)
    rw [List.nil_append, Nat.zero_add] at ho7
    obtain ⟨na, nc, rfl⟩ := own_shape ho7
    have b7 : Below u6.heap.size u6 u7 := (Below.refl _ _).grown hg7 (Nat.le_refl _) (fun k hk => by cases hk)
    obtain ⟨hby7, hnc⟩ := bys_own ho7 (by rw [List.length_take]; have := H1.out.1; omega) H1.out.2.1 (fun z hz => H1.out.2.2.1 z (List.mem_of_mem_take hz))
    have HRUN := nhide hr7
    have HBy7 := nhide hby7
    have hB7 := bthen hB6 b7
    have HBox7 := nhide (HBox6.out.keep b7)
    have HI7 := nhide (HI6.out.below b7)
    clear hr7 ho7 hg7 hraw hby7 b7 hB6 HBox6 HI6
    go_wp2_with (at_builtin; refine Lib.wpList_append_run _ rfl (.tmp 21) (.tmp 22) 26 26 rfl _ _ (by simp [Act.eval, Act.put]) (by simp [Act.eval, Act.put]) _ _ HRUN.out ?_)
    refine (nknown_any _).mono ?_
    rintro e u8 ⟨rfl, b8⟩
    obtain ⟨x0, x1, x2, x3, x4⟩ := HBox7.out.keep b8
    have hB8 := bthen hB7 b8
    have HI8 := nhide (HI7.out.below b8)
    have HBy8 := nhide (HBy7.out.below b8)
    clear b8 hB7 HBox7 HI7 HBy7
    go_wp2_with fail
    refine (letl_any _ z0 z1 K0 K1 hk0 hk1 X u8 _ HI8.out (by omega) HLB.out).mono ?_
    rintro e u9 ⟨rfl, b9⟩
    have hB9 := bthen hB8 b9
    have HBy9 := nhide (HBy8.out.below b9)
    clear x0 x1 x2 x3 x4 hB8 b9 HI8 HBy8
    go_wp2_with fail
    refine (list_any none 0 0 [] na len1 nc (z1.take len1) u9 (bys_nil _ _ (by simp)) (Nat.le_refl _) HBy9.out hnc).mono ?_
    rintro e v1 ⟨k3, n3, t3, q13, m13, d13, q23, m23, d23, rfl, hI3, c1⟩
    have HI3 := nhide hI3
    clear hI3
    go_wp2_with fail
    refine (letl_any _ [] (z1.take len1) (min 4 (0 / 3)) (min 4 (len1 / 3)) (by decide) (by omega) X v1 false HI3.out (by omega) (by rw [show min 4 (0 / 3) = 0 from rfl, hits_none, Bool.and_false])).mono ?_
    rintro e v2 ⟨rfl, c2⟩
    have hB10 := bthen (bthen hB9 c1) c2
    clear c1 c2 hB9 HI3
    go_wp2_with fail
    have hz1 : Bys ((v2.alloc (.cells #[.int .u8 0, .int .u8 0, .int .u8 0] 5)).alloc (.cells #[.int .u8 0, .int .u8 0, .int .u8 0] 5)) (some ⟨v2.heap.size, 0, none⟩) 3 [0, 0, 0] := (bys_zeros v2 _ _ rfl).below (below_alloc _ _)
    have hz2 : Bys ((v2.alloc (.cells #[.int .u8 0, .int .u8 0, .int .u8 0] 5)).alloc (.cells #[.int .u8 0, .int .u8 0, .int .u8 0] 5)) (some ⟨v2.heap.size + 1, 0, none⟩) 3 [0, 0, 0] := bys_zeros (v2.alloc (.cells #[.int .u8 0, .int .u8 0, .int .u8 0] 5)) _ _ (by simp)
    have hb11 : Below v2.heap.size v2 ((v2.alloc (.cells #[.int .u8 0, .int .u8 0, .int .u8 0] 5)).alloc (.cells #[.int .u8 0, .int .u8 0, .int .u8 0] 5)) := bthen (below_alloc _ _) (below_alloc _ _)
    generalize (v2.alloc (.cells #[.int .u8 0, .int .u8 0, .int .u8 0] 5)).alloc (.cells #[.int .u8 0, .int .u8 0, .int .u8 0] 5) = V3 at hz1 hz2 hb11 ⊢
    have hB11 := bthen hB10 hb11
    clear hb11 hB10
    refine (list_any _ 3 3 [0, 0, 0] _ 3 3 [0, 0, 0] V3 hz1 (by omega) hz2 (by omega)).mono ?_
    rintro e v4 ⟨k4, n4, t4, q14, m14, d14, q24, m24, d24, rfl, hI4, c4⟩
    have HI4 := nhide hI4
    clear hI4 hz1 hz2
    go_wp2_with fail
    refine (letl_any _ [0, 0, 0] [0, 0, 0] (min 4 (3 / 3)) (min 4 (3 / 3)) (by decide) (by decide) X v4 false HI4.out (by omega) (by rw [show min 4 (3 / 3) = 1 from rfl, hits_stars]; rfl)).mono ?_
    rintro e v5 ⟨rfl, c5⟩
    have hB12 := bthen (bthen hB11 c4) c5
    clear c4 c5 hB11 HI4
    go_wp2_with fail
    have hz3 : Bys (v5.alloc (.cells #[.int .u8 0, .int .u8 0, .int .u8 0] 5)) (some ⟨v5.heap.size, 0, none⟩) 3 [0, 0, 0] := bys_zeros v5 _ _ rfl
    have hb13 : Below v5.heap.size v5 (v5.alloc (.cells #[.int .u8 0, .int .u8 0, .int .u8 0] 5)) := below_alloc _ _
    generalize v5.alloc (.cells #[.int .u8 0, .int .u8 0, .int .u8 0] 5) = V6 at hz3 hb13 ⊢
    have hB13 := bthen hB12 hb13
    clear hb13 hB12
    refine (list_any _ 3 3 [0, 0, 0] none 0 0 [] V6 hz3 (by omega) (bys_nil _ _ (by simp)) (Nat.le_refl _)).mono ?_
    rintro e v7 ⟨k7, n7, t7, q17, m17, d17, q27, m27, d27, rfl, hI7, c7⟩
    have HI7 := nhide hI7
    clear hI7 hz3
    go_wp2_with fail
    refine (letl_any _ [0, 0, 0] [] (min 4 (3 / 3)) (min 4 (0 / 3)) (by decide) (by decide) X v7 true HI7.out (by omega) (by rw [show min 4 (3 / 3) = 1 from rfl, show min 4 (0 / 3) = 0 from rfl, hits_stars, hits_none]; rfl)).mono ?_
    rintro e v8 ⟨rfl, c8⟩
    go_wp2_with fail
    go_ret
    exact ⟨rfl, bthen (bthen hB13 c7) c8⟩
end Go.Proofs.Ytpfbiklbecdmiaa
