/-
  The law ValueLaid: its last region by facts (RFacts).
-/
import Derived.Test.YteijnkdfacndoaaWPart
import Derived.Test.YteijnkdfacndoaaVWithD
import Derived.Test.YteijnkdfacndoaaVWithE
import Derived.Test.YteijnkdfacndoaaVLaidM
import Derived.Test.YteijnkdfacndoaaRVal
import Derived.Deep.DeepCutAuto
import Derived.Deep.CutBlock
set_option linter.unusedVariables false
set_option linter.unusedSimpArgs false
namespace Go.Proofs.Yteijnkdfacndoaa
open Go.RowKit

namespace V
theorem get_eq (x : V) (key : ByteArray) : get x key = if place x key < 0 then none else x.list[(place x key).toNat]? := rfl
theorem get_put {v : V} {key other : ByteArray} {x : V} (h : Laid v key other x) : get (withV v key x) key = some x := by
  obtain ⟨p, h1, h2⟩ := h.put
  rw [get_eq, if_neg (by omega), h1, Int.toNat_natCast, h2]
theorem get_gone {v : V} {key other : ByteArray} {x : V} (h : Laid v key other x) : get (without v key) key = none := by
  rw [get_eq, if_pos h.gone]
theorem get_rest {v : V} {key other : ByteArray} {x : V} (h : Laid v key other x) (hne : other ≠ key) : get v other = get (withV v key x) other := by
  rcases h.rest with h1 | ⟨h1, h2⟩ | ⟨y, p, q, h1, h2, h3, h4⟩
  · exact absurd h1 hne
  · rw [get_eq, get_eq, if_pos h1, if_pos h2]
  · rw [get_eq, get_eq, if_neg (by omega), if_neg (by omega), h1, h3, Int.toNat_natCast, Int.toNat_natCast, h2, h4]
theorem wt_got (x : V) (key : ByteArray) : wt ((get x key).getD nul) ≤ wt x + 1 := by
  have hn : wt nul = 1 := by unfold nul; rw [wt_mk]; rfl
  rw [get_eq]
  split
  · simp [hn]
  · cases h : x.list[(place x key).toNat]? with
    | none => simp [hn]
    | some y =>
      obtain ⟨h1, h2⟩ := List.getElem?_eq_some_iff.1 h
      have := wt_get x _ h1
      rw [h2] at this
      simp
      omega
end V

/-- Get, either way -/
theorem get_all {v : Value} {x : V} {w : World} {S : Nat → Prop} (h : Is w S v x) (key : ByteArray) (hwt : V.wt x ≤ 4294967296) :
    Calls Try.prog 26 #[v, .string key] w fun e w' => ∃ k n t a1 n1 c1 a2 n2 c2 is, e = .returned (.tuple #[.agg #[.int .i64 k, .int .i64 n, .string t, .slice a1 n1 c1, .slice a2 n2 c2], .bool is]) ∧ is = (V.get x key).isSome ∧ Is w' (fun b => w.heap.size ≤ b) (.agg #[.int .i64 k, .int .i64 n, .string t, .slice a1 n1 c1, .slice a2 n2 c2]) ((V.get x key).getD V.nul) ∧ Below w.heap.size w w' := by
  by_cases hp : V.place x key < 0
  · refine (get_none h key hp).mono ?_
    rintro e w' ⟨rfl, b⟩
    have e1 : V.get x key = none := by rw [V.get_eq, if_pos hp]
    refine ⟨_, _, _, _, _, _, _, _, _, _, rfl, by rw [e1]; rfl, ?_, b⟩
    rw [e1]
    exact is_plain w' _ 0 0 ⟨#[]⟩ (by decide)
  · have hpl := (V.place_lt x key (by omega)).2
    have hpl2 : (V.place x key).toNat < x.list.length := by omega
    refine (get_some h key (V.place x key).toNat (by omega) hpl2 hwt).mono ?_
    rintro e w' ⟨k, n, t, a1, n1, c1, a2, n2, c2, rfl, his, b⟩
    have e1 : V.get x key = some x.list[(V.place x key).toNat] := by rw [V.get_eq, if_neg hp, List.getElem?_eq_getElem hpl2]
    exact ⟨k, n, t, a1, n1, c1, a2, n2, c2, true, rfl, by rw [e1]; rfl, by rw [e1]; exact his, b⟩

def laidArr : Array Value := #[.string ⟨#[97]⟩, .string ⟨#[98]⟩, .string ⟨#[117, 115, 101, 114, 115]⟩, .string ⟨#[122, 122]⟩, .string ⟨#[]⟩, .string ⟨#[109]⟩]
def laidKey (p : Nat) : ByteArray := (#[⟨#[97]⟩, ⟨#[98]⟩, ⟨#[117, 115, 101, 114, 115]⟩, ⟨#[122, 122]⟩, ⟨#[]⟩, ⟨#[109]⟩] : Array ByteArray).getD p ByteArray.empty
theorem laidArr_at (p : Nat) (h : p < 6) : laidArr.getD p undef = .string (laidKey p) := by
  have : p = 0 ∨ p = 1 ∨ p = 2 ∨ p = 3 ∨ p = 4 ∨ p = 5 := by omega
  rcases this with rfl | rfl | rfl | rfl | rfl | rfl <;> rfl
theorem laidKey_size (p : Nat) : (laidKey p).size ≤ 5 := by
  by_cases h : p < 6
  · have : p = 0 ∨ p = 1 ∨ p = 2 ∨ p = 3 ∨ p = 4 ∨ p = 5 := by omega
    rcases this with rfl | rfl | rfl | rfl | rfl | rfl <;> decide
  · have : laidKey p = ByteArray.empty := by
      unfold laidKey
      rw [Array.getD_eq_getD_getElem?, Array.getElem?_eq_none (by simp; omega)]
      rfl
    rw [this]
    decide
theorem laidKey_utf (p : Nat) (h : p < 6) : V.utf (laidKey p) = true := by
  have : p = 0 ∨ p = 1 ∨ p = 2 ∨ p = 3 ∨ p = 4 ∨ p = 5 := by omega
  rcases this with rfl | rfl | rfl | rfl | rfl | rfl <;> decide +kernel

set_option maxHeartbeats 20000000 in
set_option maxRecDepth 100000 in
theorem valueLaid_walk (a0 : Option Addr) (len0 cap0 : Nat) (z0 : List Int) (a1 : Option Addr) (len1 cap1 : Nat) (z1 : List Int) (k j : Int) (w : World) (w0 : IsRow .u8 w a0 len0 cap0 z0) (w1 : IsRow .u8 w a1 len1 cap1 z1) (w2 : (Lit.int .u8 k).wf = true) (w3 : (Lit.int .u8 j).wf = true) :
    Calls Try.prog 4 #[.slice a0 len0 cap0, .slice a1 len1 cap1, .int .u8 k, .int .u8 j] w fun e w' => e = .returned (.bool true) ∧ Below w.heap.size w w' := by
  obtain ⟨hk0, hk1⟩ := wf_u8 w2
  obtain ⟨hj0, hj1⟩ := wf_u8 w3
  clear w2 w3
  obtain ⟨p1, hp1⟩ : ∃ p : Nat, (j % 6).toNat = p := ⟨_, rfl⟩
  have qp1 : j % 6 = (p1 : Int) := by omega
  have lp1 : p1 < 6 := by omega
  obtain ⟨p2, hp2⟩ : ∃ p : Nat, (j / 6 % 6).toNat = p := ⟨_, rfl⟩
  have qp2 : j / 6 % 6 = (p2 : Int) := by omega
  have lp2 : p2 < 6 := by omega
  clear hp1 hp2
  have HH1 := hide w1
  have HH0 := hide w0
  clear w0 w1
  go_enter Try.func4, Try.ntmps4
  go_wp2_with fail
  refine (part_any a0 len0 cap0 z0 k _ (isRow_keep HH0.out (below_alloc _ _)) hk0 hk1).mono ?_
  rintro e w3 ⟨vk, vn, vt, va1, vn1, vc1, va2, vn2, vc2, rfl, hv, bv⟩
  have HROW : Hid (Row w3 w.heap.size 6 (fun i => laidArr.getD i undef)) := hide (fun i hi => by
    have h := row_new w laidArr 9 _ rfl i hi
    have hs := bv.frozen (p := ⟨w.heap.size, i, none⟩) (by simp)
    exact ⟨cell_keep h.1 bv, by rw [hs]; exact h.2⟩)
  have HT := hide (bthen (bthen (below_alloc w _) bv) (below_alloc w3 (.cells #[.int .i64 vk, .int .i64 vn, .string vt, .slice va1 vn1 vc1, .slice va2 vn2 vc2] 25)))
  have HBv := hide (box5_new w3 (.int .i64 vk) (.int .i64 vn) (.string vt) (.slice va1 vn1 vc1) (.slice va2 vn2 vc2) 25)
  have HIv := hide ((hv.weak (S' := fun _ => True) (fun _ _ _ => trivial)).below (below_alloc w3 (.cells #[.int .i64 vk, .int .i64 vn, .string vt, .slice va1 vn1 vc1, .slice va2 vn2 vc2] 25)))
  have HLv := hide (V.wt_part z0 len0 k)
  have HRv := hide (V.right_part z0 len0 k)
  generalize V.part z0 len0 k = PV at HIv HLv HRv
  replace HROW : Hid (Row (w3.alloc (.cells #[.int .i64 vk, .int .i64 vn, .string vt, .slice va1 vn1 vc1, .slice va2 vn2 vc2] 25)) w.heap.size 6 (fun i => laidArr.getD i undef)) := hide (fun i hi => by
    obtain ⟨h1, h2⟩ := HROW.out i hi
    exact ⟨cell_keep h1 (below_alloc _ _), by rw [(below_alloc w3 _).frozen (p := ⟨w.heap.size, i, none⟩) (cell_size h1)]; exact h2⟩)
  clear hv bv
  go_wp2_with fail
  generalize (w3.alloc (.cells #[.int .i64 vk, .int .i64 vn, .string vt, .slice va1 vn1 vc1, .slice va2 vn2 vc2] 25)) = wv at HT HBv HIv HROW ⊢
  generalize w3.heap.size = gv at HT HBv HIv HROW ⊢
  refine (part_any a1 len1 cap1 z1 j _ (isRow_keep HH1.out HT.out) hj0 hj1).mono ?_
  rintro e w4 ⟨xk, xn, xt, xa1, xn1, xc1, xa2, xn2, xc2, rfl, hx, bx⟩
  have bb := bthen bx (below_alloc w4 (.cells #[.int .i64 xk, .int .i64 xn, .string xt, .slice xa1 xn1 xc1, .slice xa2 xn2 xc2] 25))
  replace HBv := hide (HBv.out.keep bb)
  replace HIv := hide (HIv.out.below bb)
  have HBx := hide (box5_new w4 (.int .i64 xk) (.int .i64 xn) (.string xt) (.slice xa1 xn1 xc1) (.slice xa2 xn2 xc2) 25)
  have HIx := hide ((hx.weak (S' := fun _ => True) (fun _ _ _ => trivial)).below (below_alloc w4 (.cells #[.int .i64 xk, .int .i64 xn, .string xt, .slice xa1 xn1 xc1, .slice xa2 xn2 xc2] 25)))
  have HLx0 := hide (V.wt_part z1 len1 j)
  have HRx := hide (V.right_part z1 len1 j)
  generalize V.part z1 len1 j = PZ at HIx HLx0 HRx
  have HLx : Hid (V.wt PZ ≤ 4294967296) := hide (Nat.le_trans HLx0.out (by decide))
  replace HROW : Hid (Row (w4.alloc (.cells #[.int .i64 xk, .int .i64 xn, .string xt, .slice xa1 xn1 xc1, .slice xa2 xn2 xc2] 25)) w.heap.size 6 (fun i => laidArr.getD i undef)) := hide (fun i hi => by
    obtain ⟨h1, h2⟩ := HROW.out i hi
    exact ⟨cell_keep h1 bb, by rw [bb.frozen (p := ⟨w.heap.size, i, none⟩) (cell_size h1)]; exact h2⟩)
  replace HT := hide (bthen HT.out bb)
  clear hx bx bb
  obtain ⟨y00, y01, y02, y03, y04⟩ := id HBv.out
  obtain ⟨y10, y11, y12, y13, y14⟩ := id HBx.out
  have hkind : vk = PV.kind := HIv.out.parts.1
  have hcA := (HROW.out p1 lp1).1
  have hcB := (HROW.out p2 lp2).1
  simp only [laidArr_at p1 lp1, laidArr_at p2 lp2] at hcA hcB
  have HUT := hide (laidKey_utf p1 lp1)
  have HLk0 := hide (laidKey_size p1)
  generalize laidKey p1 = KEY at hcA HUT HLk0
  generalize laidKey p2 = OTH at hcB
  have hi1 : (0 : Int) ≤ (p1 : Int) := by omega
  have hi1' : (p1 : Int) < 6 := by omega
  have hi2 : (0 : Int) ≤ (p2 : Int) := by omega
  have hi2' : (p2 : Int) < 6 := by omega
  by_cases hk5 : vk = 5
  case neg =>
    have t5 : (vk == 5) = false := by simpa using hk5
    clear hkind
    go_wp2_with fail
    refine (known_any _).mono ?_
    rintro e w5 ⟨rfl, b5⟩
    go_wp2
    go_ret
    exact ⟨rfl, bthen HT.out b5⟩
  subst hk5
  have HLD := hide (V.laid_all HRv.out hkind.symm KEY OTH HUT.out PZ HRx.out)
  clear hkind
  go_wp2_with fail
  clear y00 y01 y02 y03 y04 y10 y11 y12 y13 y14
  generalize (w4.alloc (.cells #[.int .i64 xk, .int .i64 xn, .string xt, .slice xa1 xn1 xc1, .slice xa2 xn2 xc2] 25)) = wx at HT HBv HIv HBx HIx HROW hcA hcB ⊢
  generalize w4.heap.size = gx at HT HBv HIv HBx HIx HROW hcA hcB ⊢
  refine (refRight_is HIx.out HLx.out true HRx.out).mono ?_
  rintro e w5 ⟨rfl, b5⟩
  replace hcA := cell_keep hcA b5
  replace hcB := cell_keep hcB b5
  replace HBv := hide (HBv.out.keep b5)
  replace HIv := hide (HIv.out.below b5)
  replace HBx := hide (HBx.out.keep b5)
  replace HIx := hide (HIx.out.below b5)
  replace HT := hide (bthen HT.out b5)
  clear b5 HROW
  obtain ⟨y00, y01, y02, y03, y04⟩ := id HBv.out
  obtain ⟨y10, y11, y12, y13, y14⟩ := id HBx.out
  go_wp2_with fail
  clear y00 y01 y02 y03 y04 y10 y11 y12 y13 y14 hcA hcB hi1 hi1' hi2 hi2' qp1 qp2 lp1 lp2
  have HLk : Hid (KEY.size ≤ 1000000000) := hide (Nat.le_trans HLk0.out (by decide))
  have HLo : Hid (V.wt (V.withV PV KEY PZ) ≤ 1000000000) := hide (by have h1 := V.wt_with_le PV KEY PZ; have h2 := HLv.out; have h3 := HLx0.out; have h4 := HLk0.out; omega)
  have HLoo : Hid (V.wt (V.withV (V.withV PV KEY PZ) KEY PZ) ≤ 4294967296) := hide (by have h1 := V.wt_with_le (V.withV PV KEY PZ) KEY PZ; have h2 := HLo.out; have h3 := HLx0.out; have h4 := HLk0.out; omega)
  have HLu : Hid (V.wt (V.without PV KEY) ≤ 1000000000) := hide (by have h1 := V.wt_without PV KEY; have h2 := HLv.out; omega)
  have HLuu : Hid (V.wt (V.without (V.without PV KEY) KEY) ≤ 4294967296) := hide (by have h1 := V.wt_without (V.without PV KEY) KEY; have h2 := HLu.out; omega)
  refine (with_any HIv.out HIx.out (Nat.le_trans HLv.out (by decide)) (Nat.le_trans HLx0.out (by decide)) KEY HLk.out).mono ?_
  rintro e w6 ⟨ok, on, ot, oa1, on1, oc1, oa2, on2, oc2, rfl, ho, bo⟩
  have bb := bthen bo (below_alloc w6 (.cells #[.int .i64 ok, .int .i64 on, .string ot, .slice oa1 on1 oc1, .slice oa2 on2 oc2] 25))
  replace HBv := hide (HBv.out.keep bb)
  replace HIv := hide (HIv.out.below bb)
  replace HBx := hide (HBx.out.keep bb)
  replace HIx := hide (HIx.out.below bb)
  have HBo := hide (box5_new w6 (.int .i64 ok) (.int .i64 on) (.string ot) (.slice oa1 on1 oc1) (.slice oa2 on2 oc2) 25)
  have HIo := hide ((ho.weak (S' := fun _ => True) (fun _ _ _ => trivial)).below (below_alloc w6 (.cells #[.int .i64 ok, .int .i64 on, .string ot, .slice oa1 on1 oc1, .slice oa2 on2 oc2] 25)))
  replace HT := hide (bthen HT.out bb)
  clear ho bo bb
  obtain ⟨y00, y01, y02, y03, y04⟩ := id HBo.out
  go_wp2_with fail
  clear y00 y01 y02 y03 y04
  generalize (w6.alloc (.cells #[.int .i64 ok, .int .i64 on, .string ot, .slice oa1 on1 oc1, .slice oa2 on2 oc2] 25)) = w7 at HT HBv HIv HBx HIx HBo HIo ⊢
  generalize w6.heap.size = go at HT HBv HIv HBx HIx HBo HIo ⊢
  refine (get_all HIo.out KEY (Nat.le_trans HLo.out (by decide))).mono ?_
  rintro e w8 ⟨yk, yn, yt, ya1, yn1, yc1, ya2, yn2, yc2, iy, rfl, hiy, hy, by_⟩
  have bb := bthen by_ (below_alloc w8 (.cells #[.int .i64 yk, .int .i64 yn, .string yt, .slice ya1 yn1 yc1, .slice ya2 yn2 yc2] 25))
  replace HBv := hide (HBv.out.keep bb)
  replace HIv := hide (HIv.out.below bb)
  replace HBx := hide (HBx.out.keep bb)
  replace HIx := hide (HIx.out.below bb)
  replace HBo := hide (HBo.out.keep bb)
  replace HIo := hide (HIo.out.below bb)
  have HBy := hide (box5_new w8 (.int .i64 yk) (.int .i64 yn) (.string yt) (.slice ya1 yn1 yc1) (.slice ya2 yn2 yc2) 25)
  have HIy := hide ((hy.weak (S' := fun _ => True) (fun _ _ _ => trivial)).below (below_alloc w8 (.cells #[.int .i64 yk, .int .i64 yn, .string yt, .slice ya1 yn1 yc1, .slice ya2 yn2 yc2] 25)))
  replace HT := hide (bthen HT.out bb)
  clear hy by_ bb
  obtain ⟨y00, y01, y02, y03, y04⟩ := id HBv.out
  rw [V.get_put HLD.out] at hiy HIy
  subst hiy
  go_wp2_with fail
  clear y00 y01 y02 y03 y04
  generalize (w8.alloc (.cells #[.int .i64 yk, .int .i64 yn, .string yt, .slice ya1 yn1 yc1, .slice ya2 yn2 yc2] 25)) = w9 at HT HBv HIv HBx HIx HBo HIo HBy HIy ⊢
  generalize w8.heap.size = gy at HT HBv HIv HBx HIx HBo HIo HBy HIy ⊢
  refine (get_all HIv.out OTH (Nat.le_trans HLv.out (by decide))).mono ?_
  rintro e w10 ⟨rak, ran, rat, raa1, ran1, rac1, raa2, ran2, rac2, ia, rfl, hia, hra, bra⟩
  have bb := bthen bra (below_alloc w10 (.cells #[.int .i64 rak, .int .i64 ran, .string rat, .slice raa1 ran1 rac1, .slice raa2 ran2 rac2] 25))
  replace HBv := hide (HBv.out.keep bb)
  replace HIv := hide (HIv.out.below bb)
  replace HBx := hide (HBx.out.keep bb)
  replace HIx := hide (HIx.out.below bb)
  replace HBo := hide (HBo.out.keep bb)
  replace HIo := hide (HIo.out.below bb)
  replace HBy := hide (HBy.out.keep bb)
  replace HIy := hide (HIy.out.below bb)
  have HBra := hide (box5_new w10 (.int .i64 rak) (.int .i64 ran) (.string rat) (.slice raa1 ran1 rac1) (.slice raa2 ran2 rac2) 25)
  have HIra := hide ((hra.weak (S' := fun _ => True) (fun _ _ _ => trivial)).below (below_alloc w10 (.cells #[.int .i64 rak, .int .i64 ran, .string rat, .slice raa1 ran1 rac1, .slice raa2 ran2 rac2] 25)))
  replace HT := hide (bthen HT.out bb)
  clear hra bra bb
  obtain ⟨y00, y01, y02, y03, y04⟩ := id HBo.out
  have HEa := hide hia
  clear hia
  go_wp2_with fail
  clear y00 y01 y02 y03 y04
  generalize (w10.alloc (.cells #[.int .i64 rak, .int .i64 ran, .string rat, .slice raa1 ran1 rac1, .slice raa2 ran2 rac2] 25)) = w11 at HT HBv HIv HBx HIx HBo HIo HBy HIy HBra HIra ⊢
  generalize w10.heap.size = gra at HT HBv HIv HBx HIx HBo HIo HBy HIy HBra HIra ⊢
  refine (get_all HIo.out OTH (Nat.le_trans HLo.out (by decide))).mono ?_
  rintro e w12 ⟨rbk, rbn, rbt, rba1, rbn1, rbc1, rba2, rbn2, rbc2, ib, rfl, hib, hrb, brb⟩
  have bb := bthen brb (below_alloc w12 (.cells #[.int .i64 rbk, .int .i64 rbn, .string rbt, .slice rba1 rbn1 rbc1, .slice rba2 rbn2 rbc2] 25))
  replace HBv := hide (HBv.out.keep bb)
  replace HIv := hide (HIv.out.below bb)
  replace HBx := hide (HBx.out.keep bb)
  replace HIx := hide (HIx.out.below bb)
  replace HBo := hide (HBo.out.keep bb)
  replace HIo := hide (HIo.out.below bb)
  replace HBy := hide (HBy.out.keep bb)
  replace HIy := hide (HIy.out.below bb)
  replace HBra := hide (HBra.out.keep bb)
  replace HIra := hide (HIra.out.below bb)
  have HBrb := hide (box5_new w12 (.int .i64 rbk) (.int .i64 rbn) (.string rbt) (.slice rba1 rbn1 rbc1) (.slice rba2 rbn2 rbc2) 25)
  have HIrb := hide ((hrb.weak (S' := fun _ => True) (fun _ _ _ => trivial)).below (below_alloc w12 (.cells #[.int .i64 rbk, .int .i64 rbn, .string rbt, .slice rba1 rbn1 rbc1, .slice rba2 rbn2 rbc2] 25)))
  replace HT := hide (bthen HT.out bb)
  clear hrb brb bb
  obtain ⟨y00, y01, y02, y03, y04⟩ := id HBo.out
  have HEb := hide hib
  clear hib
  go_wp2_with fail
  clear y00 y01 y02 y03 y04
  generalize (w12.alloc (.cells #[.int .i64 rbk, .int .i64 rbn, .string rbt, .slice rba1 rbn1 rbc1, .slice rba2 rbn2 rbc2] 25)) = w13 at HT HBv HIv HBx HIx HBo HIo HBy HIy HBra HIra HBrb HIrb ⊢
  generalize w12.heap.size = grb at HT HBv HIv HBx HIx HBo HIo HBy HIy HBra HIra HBrb HIrb ⊢
  refine (without_any HIo.out HLo.out KEY).mono ?_
  rintro e w14 ⟨uk, un, ut, ua1, un1, uc1, ua2, un2, uc2, rfl, hu, bu⟩
  have bb := bthen bu (below_alloc w14 (.cells #[.int .i64 uk, .int .i64 un, .string ut, .slice ua1 un1 uc1, .slice ua2 un2 uc2] 25))
  replace HBv := hide (HBv.out.keep bb)
  replace HIv := hide (HIv.out.below bb)
  replace HBx := hide (HBx.out.keep bb)
  replace HIx := hide (HIx.out.below bb)
  replace HBo := hide (HBo.out.keep bb)
  replace HIo := hide (HIo.out.below bb)
  replace HBy := hide (HBy.out.keep bb)
  replace HIy := hide (HIy.out.below bb)
  replace HBra := hide (HBra.out.keep bb)
  replace HIra := hide (HIra.out.below bb)
  replace HBrb := hide (HBrb.out.keep bb)
  replace HIrb := hide (HIrb.out.below bb)
  have HBu := hide (box5_new w14 (.int .i64 uk) (.int .i64 un) (.string ut) (.slice ua1 un1 uc1) (.slice ua2 un2 uc2) 25)
  have HIu := hide ((hu.weak (S' := fun _ => True) (fun _ _ _ => trivial)).below (below_alloc w14 (.cells #[.int .i64 uk, .int .i64 un, .string ut, .slice ua1 un1 uc1, .slice ua2 un2 uc2] 25)))
  replace HT := hide (bthen HT.out bb)
  clear hu bu bb
  obtain ⟨y00, y01, y02, y03, y04⟩ := id HBu.out
  rw [HLD.out.same] at HIu
  go_wp2_with fail
  clear y00 y01 y02 y03 y04
  generalize (w14.alloc (.cells #[.int .i64 uk, .int .i64 un, .string ut, .slice ua1 un1 uc1, .slice ua2 un2 uc2] 25)) = w15 at HT HBv HIv HBx HIx HBo HIo HBy HIy HBra HIra HBrb HIrb HBu HIu ⊢
  generalize w14.heap.size = gu at HT HBv HIv HBx HIx HBo HIo HBy HIy HBra HIra HBrb HIrb HBu HIu ⊢
  refine (get_all HIu.out KEY (Nat.le_trans HLu.out (by decide))).mono ?_
  rintro e w16 ⟨qk, qn, qt, qa1, qn1, qc1, qa2, qn2, qc2, iq, rfl, hiq, hq, bq⟩
  have bb := bthen bq (below_alloc w16 (.cells #[.int .i64 qk, .int .i64 qn, .string qt, .slice qa1 qn1 qc1, .slice qa2 qn2 qc2] 25))
  replace HBv := hide (HBv.out.keep bb)
  replace HIv := hide (HIv.out.below bb)
  replace HBx := hide (HBx.out.keep bb)
  replace HIx := hide (HIx.out.below bb)
  replace HBo := hide (HBo.out.keep bb)
  replace HIo := hide (HIo.out.below bb)
  replace HBy := hide (HBy.out.keep bb)
  replace HIy := hide (HIy.out.below bb)
  replace HBra := hide (HBra.out.keep bb)
  replace HIra := hide (HIra.out.below bb)
  replace HBrb := hide (HBrb.out.keep bb)
  replace HIrb := hide (HIrb.out.below bb)
  replace HBu := hide (HBu.out.keep bb)
  replace HIu := hide (HIu.out.below bb)
  have HBq := hide (box5_new w16 (.int .i64 qk) (.int .i64 qn) (.string qt) (.slice qa1 qn1 qc1) (.slice qa2 qn2 qc2) 25)
  have HIq := hide ((hq.weak (S' := fun _ => True) (fun _ _ _ => trivial)).below (below_alloc w16 (.cells #[.int .i64 qk, .int .i64 qn, .string qt, .slice qa1 qn1 qc1, .slice qa2 qn2 qc2] 25)))
  replace HT := hide (bthen HT.out bb)
  clear hq bq bb
  obtain ⟨y00, y01, y02, y03, y04⟩ := id HBu.out
  rw [V.get_gone HLD.out] at hiq HIq
  subst hiq
  clear y00 y01 y02 y03 y04
  go_upto_region 14 with fail
  generalize (w16.alloc (.cells #[.int .i64 qk, .int .i64 qn, .string qt, .slice qa1 qn1 qc1, .slice qa2 qn2 qc2] 25)) = w17 at HT HBv HIv HBx HIx HBo HIo HBy HIy HBra HIra HBrb HIrb HBu HIu HBq HIq ⊢
  generalize w16.heap.size = gq at HT HBv HIv HBx HIx HBo HIo HBy HIy HBra HIra HBrb HIrb HBu HIu HBq HIq ⊢
  have HRo := hide HLD.out.rw
  have HRu := hide HLD.out.ru
  have HQ1 := hide HLD.out.twice
  have HQ2 := hide HLD.out.again
  have HLg0 := hide (V.wt_got PV OTH)
  cases tko : (OTH.toList == KEY.toList) with
  | true =>
    have eko : OTH.toList = KEY.toList := by simpa using tko
    clear tko
    refine' wp_region_facts [(fun _ _ v _ => v = (.bool true)), (fun _ _ v _ => v = (.bool true)), (fun _ _ v _ => v = (.bool true)), (fun _ _ v _ => v = (.bool true)), (fun _ _ v _ => v = (.bool true)), (fun _ _ v _ => v = (.agg #[.int .i64 yk, .int .i64 yn, .string yt, .slice ya1 yn1 yc1, .slice ya2 yn2 yc2])), (fun _ _ v _ => v = (.agg #[.int .i64 xk, .int .i64 xn, .string xt, .slice xa1 xn1 xc1, .slice xa2 xn2 xc2])), (fun _ _ v _ => v = (.bool true)), (fun _ _ v _ => v = (.bool true)), (fun _ _ v _ => v = (.bool true)), (fun _ _ v _ => v = (.string OTH)), (fun _ _ v _ => v = (.string KEY)), (fun _ _ v _ => v = (.bool true)), (fun _ _ v _ => v = (.bool true)), (fun _ _ v _ => v = undef), (fun _ _ v _ => v = undef), (fun _ _ v _ => v = undef), (fun _ _ v _ => v = undef), (fun _ _ v _ => v = undef), (fun _ _ v _ => v = undef), (fun _ _ v _ => v = undef), (fun _ _ v _ => v = undef), (fun _ _ v _ => v = (.bool true)), (fun _ _ v _ => v = (.bool true)), (fun _ _ v _ => v = (.bool true)), (fun _ _ v _ => v = (.bool false)), (fun _ _ v _ => v = (.bool true)), (fun _ _ v _ => v = (.bool true)), (fun _ _ v _ => v = (.bool true)), (fun _ _ v _ => v = (.agg #[.int .i64 ok, .int .i64 on, .string ot, .slice oa1 on1 oc1, .slice oa2 on2 oc2])), (fun _ _ v _ => v = (.bool true)), (fun _ _ v _ => v = (.bool true)), (fun _ _ v _ => v = (.bool true)), (fun _ _ v _ => v = (.agg #[.int .i64 uk, .int .i64 un, .string ut, .slice ua1 un1 uc1, .slice ua2 un2 uc2])), (fun _ _ v _ => v = (.bool true)), (fun _ _ v _ => v = (.bool true)), (fun _ _ v _ => v = (.bool true)), (fun _ _ v _ => v = (.agg #[.int .i64 uk, .int .i64 un, .string ut, .slice ua1 un1 uc1, .slice ua2 un2 uc2])), (fun _ _ v _ => v = (.string KEY)), (WithF (V.without (V.without PV KEY) KEY)), (fun _ _ v _ => v = (.agg #[.int .i64 uk, .int .i64 un, .string ut, .slice ua1 un1 uc1, .slice ua2 un2 uc2])), (fun _ _ v _ => v = (.bool true)), (fun _ _ v _ => v = (.bool true)), (fun _ _ v _ => v = (.bool true)), (fun _ _ v _ => v = (.agg #[.int .i64 ok, .int .i64 on, .string ot, .slice oa1 on1 oc1, .slice oa2 on2 oc2])), (fun _ _ v _ => v = (.string KEY)), (fun _ _ v _ => v = (.agg #[.int .i64 xk, .int .i64 xn, .string xt, .slice xa1 xn1 xc1, .slice xa2 xn2 xc2])), (WithF (V.withV (V.withV PV KEY PZ) KEY PZ)), (fun _ _ v _ => v = (.agg #[.int .i64 ok, .int .i64 on, .string ot, .slice oa1 on1 oc1, .slice oa2 on2 oc2])), (fun _ _ v _ => v = (.bool true)), (fun _ _ v _ => v = (.bool true)), (fun _ _ v _ => v = (.bool true)), (fun _ _ v _ => v = (.agg #[.int .i64 uk, .int .i64 un, .string ut, .slice ua1 un1 uc1, .slice ua2 un2 uc2])), (fun _ _ v _ => v = (.agg #[.int .i64 5, .int .i64 vn, .string vt, .slice va1 vn1 vc1, .slice va2 vn2 vc2])), (fun _ _ v _ => v = (.string KEY)), (WithF (V.without PV KEY)), (fun _ _ v _ => v = (.bool true)), (fun _ _ v _ => v = (.bool true))] (by kernel_rfl) rfl ?hA (by kernel_rfl) (by kernel_rfl) (by kernel_rfl) rfl ?mono ?steps ?last
    case hA =>
      intro vs
      simp only [puts, Act.put, List.setIfInBounds_toArray, List.set_cons_zero, List.set_cons_succ, Nat.zero_add, Nat.reduceAdd]
      rfl
    case mono => exact ⟨mono_eq _, mono_eq _, mono_eq _, mono_eq _, mono_eq _, mono_eq _, mono_eq _, mono_eq _, mono_eq _, mono_eq _, mono_eq _, mono_eq _, mono_eq _, mono_eq _, mono_eq _, mono_eq _, mono_eq _, mono_eq _, mono_eq _, mono_eq _, mono_eq _, mono_eq _, mono_eq _, mono_eq _, mono_eq _, mono_eq _, mono_eq _, mono_eq _, mono_eq _, mono_eq _, mono_eq _, mono_eq _, mono_eq _, mono_eq _, mono_eq _, mono_eq _, mono_eq _, mono_eq _, mono_eq _, mono_with _, mono_eq _, mono_eq _, mono_eq _, mono_eq _, mono_eq _, mono_eq _, mono_eq _, mono_with _, mono_eq _, mono_eq _, mono_eq _, mono_eq _, mono_eq _, mono_eq _, mono_eq _, mono_with _, mono_eq _, mono_eq _, trivial⟩
    case steps =>
      intro Q'
      refine And.intro ?_ ?_
      · intro vs lo hi w' hM hd K' hK
        dsimp only at hK ⊢
        simp only [Act.put, List.setIfInBounds_toArray, List.set_cons_zero, List.set_cons_succ] at hK
        go_simp
        refine (known_any _).mono ?_
        rintro e w7 ⟨rfl, b7⟩
        exact hK.out _ _ rfl b7
      refine And.intro ?_ ?_
      · intro vs lo hi w' hM hd K' hK
        dsimp only at hK ⊢
        simp only [Act.put, List.setIfInBounds_toArray, List.set_cons_zero, List.set_cons_succ] at hK
        have e0 : vs 0 = (.bool true) := hd 0 (by kernel_rfl)
        simp only [e0] at hK ⊢
        clear e0
        go_simp
        exact hK.out _ _ rfl (Below.refl _ _)
      refine And.intro ?_ ?_
      · intro vs lo hi w' hM hd K' hK
        dsimp only at hK ⊢
        simp only [Act.put, List.setIfInBounds_toArray, List.set_cons_zero, List.set_cons_succ] at hK
        have e1 : vs 1 = (.bool true) := hd 1 (by kernel_rfl)
        simp only [e1] at hK ⊢
        clear e1
        go_simp
        exact hK.out _ _ rfl (Below.refl _ _)
      refine And.intro ?_ ?_
      · intro vs lo hi w' hM hd K' hK
        dsimp only at hK ⊢
        simp only [Act.put, List.setIfInBounds_toArray, List.set_cons_zero, List.set_cons_succ] at hK
        have e1 : vs 1 = (.bool true) := hd 1 (by kernel_rfl)
        have e2 : vs 2 = (.bool true) := hd 2 (by kernel_rfl)
        simp only [e1, e2] at hK ⊢
        clear e1 e2
        go_simp
        exact hK.out _ _ rfl (Below.refl _ _)
      refine And.intro ?_ ?_
      · intro vs lo hi w' hM hd K' hK
        dsimp only at hK ⊢
        simp only [Act.put, List.setIfInBounds_toArray, List.set_cons_zero, List.set_cons_succ] at hK
        have e3 : vs 3 = (.bool true) := hd 3 (by kernel_rfl)
        simp only [e3] at hK ⊢
        clear e3
        go_simp
        exact hK.out _ _ rfl (Below.refl _ _)
      refine And.intro ?_ ?_
      · intro vs lo hi w' hM hd K' hK
        dsimp only at hK ⊢
        simp only [Act.put, List.setIfInBounds_toArray, List.set_cons_zero, List.set_cons_succ] at hK
        have e4 : vs 4 = (.bool true) := hd 4 (by kernel_rfl)
        simp only [e4] at hK ⊢
        clear e4
        obtain ⟨y0, y1, y2, y3, y4⟩ := HBy.out.keep hM
        go_simp
        exact hK.out _ _ rfl (Below.refl _ _)
      refine And.intro ?_ ?_
      · intro vs lo hi w' hM hd K' hK
        dsimp only at hK ⊢
        simp only [Act.put, List.setIfInBounds_toArray, List.set_cons_zero, List.set_cons_succ] at hK
        have e4 : vs 4 = (.bool true) := hd 4 (by kernel_rfl)
        simp only [e4] at hK ⊢
        clear e4
        obtain ⟨y0, y1, y2, y3, y4⟩ := HBx.out.keep hM
        go_simp
        exact hK.out _ _ rfl (Below.refl _ _)
      refine And.intro ?_ ?_
      · intro vs lo hi w' hM hd K' hK
        dsimp only at hK ⊢
        simp only [Act.put, List.setIfInBounds_toArray, List.set_cons_zero, List.set_cons_succ] at hK
        have e5 : vs 5 = (.agg #[.int .i64 yk, .int .i64 yn, .string yt, .slice ya1 yn1 yc1, .slice ya2 yn2 yc2]) := hd 5 (by kernel_rfl)
        have e6 : vs 6 = (.agg #[.int .i64 xk, .int .i64 xn, .string xt, .slice xa1 xn1 xc1, .slice xa2 xn2 xc2]) := hd 6 (by kernel_rfl)
        have e4 : vs 4 = (.bool true) := hd 4 (by kernel_rfl)
        simp only [e5, e6, e4] at hK ⊢
        clear e5 e6 e4
        go_simp
        refine (same_any (HIy.out.below hM) (HIx.out.below hM) HLx.out HLx.out true ⟨fun _ => rfl, fun _ => rfl⟩).mono ?_
        rintro e w7 ⟨rfl, b7⟩
        exact hK.out _ _ rfl b7
      refine And.intro ?_ ?_
      · intro vs lo hi w' hM hd K' hK
        dsimp only at hK ⊢
        simp only [Act.put, List.setIfInBounds_toArray, List.set_cons_zero, List.set_cons_succ] at hK
        have e4 : vs 4 = (.bool true) := hd 4 (by kernel_rfl)
        have e7 : vs 7 = (.bool true) := hd 7 (by kernel_rfl)
        simp only [e4, e7] at hK ⊢
        clear e4 e7
        go_simp
        exact hK.out _ _ rfl (Below.refl _ _)
      refine And.intro ?_ ?_
      · intro vs lo hi w' hM hd K' hK
        dsimp only at hK ⊢
        simp only [Act.put, List.setIfInBounds_toArray, List.set_cons_zero, List.set_cons_succ] at hK
        have e8 : vs 8 = (.bool true) := hd 8 (by kernel_rfl)
        simp only [e8] at hK ⊢
        clear e8
        go_simp
        exact hK.out _ _ rfl (Below.refl _ _)
      refine And.intro ?_ ?_
      · intro vs lo hi w' hM hd K' hK
        dsimp only at hK ⊢
        simp only [Act.put, List.setIfInBounds_toArray, List.set_cons_zero, List.set_cons_succ] at hK
        have e9 : vs 9 = (.bool true) := hd 9 (by kernel_rfl)
        simp only [e9] at hK ⊢
        clear e9
        go_simp
        exact hK.out _ _ rfl (Below.refl _ _)
      refine And.intro ?_ ?_
      · intro vs lo hi w' hM hd K' hK
        dsimp only at hK ⊢
        simp only [Act.put, List.setIfInBounds_toArray, List.set_cons_zero, List.set_cons_succ] at hK
        have e9 : vs 9 = (.bool true) := hd 9 (by kernel_rfl)
        simp only [e9] at hK ⊢
        clear e9
        go_simp
        exact hK.out _ _ rfl (Below.refl _ _)
      refine And.intro ?_ ?_
      · intro vs lo hi w' hM hd K' hK
        dsimp only at hK ⊢
        simp only [Act.put, List.setIfInBounds_toArray, List.set_cons_zero, List.set_cons_succ] at hK
        have e10 : vs 10 = (.string OTH) := hd 10 (by kernel_rfl)
        have e11 : vs 11 = (.string KEY) := hd 11 (by kernel_rfl)
        have e9 : vs 9 = (.bool true) := hd 9 (by kernel_rfl)
        simp only [e10, e11, e9] at hK ⊢
        clear e10 e11 e9
        go_simp
        exact hK.out _ _ rfl (Below.refl _ _)
      refine And.intro ?_ ?_
      · intro vs lo hi w' hM hd K' hK
        dsimp only at hK ⊢
        simp only [Act.put, List.setIfInBounds_toArray, List.set_cons_zero, List.set_cons_succ] at hK
        have e12 : vs 12 = (.bool true) := hd 12 (by kernel_rfl)
        have e9 : vs 9 = (.bool true) := hd 9 (by kernel_rfl)
        simp only [e12, e9] at hK ⊢
        clear e12 e9
        go_simp
        exact hK.out _ _ rfl (Below.refl _ _)
      refine And.intro ?_ ?_
      · intro vs lo hi w' hM hd K' hK
        dsimp only at hK ⊢
        simp only [Act.put, List.setIfInBounds_toArray, List.set_cons_zero, List.set_cons_succ] at hK
        have e13 : vs 13 = (.bool true) := hd 13 (by kernel_rfl)
        simp only [e13] at hK ⊢
        clear e13
        go_simp
        exact hK.out _ _ rfl (Below.refl _ _)
      refine And.intro ?_ ?_
      · intro vs lo hi w' hM hd K' hK
        dsimp only at hK ⊢
        simp only [Act.put, List.setIfInBounds_toArray, List.set_cons_zero, List.set_cons_succ] at hK
        have e13 : vs 13 = (.bool true) := hd 13 (by kernel_rfl)
        simp only [e13] at hK ⊢
        clear e13
        go_simp
        exact hK.out _ _ rfl (Below.refl _ _)
      refine And.intro ?_ ?_
      · intro vs lo hi w' hM hd K' hK
        dsimp only at hK ⊢
        simp only [Act.put, List.setIfInBounds_toArray, List.set_cons_zero, List.set_cons_succ] at hK
        have e14 : vs 14 = undef := hd 14 (by kernel_rfl)
        have e15 : vs 15 = undef := hd 15 (by kernel_rfl)
        have e13 : vs 13 = (.bool true) := hd 13 (by kernel_rfl)
        simp only [e14, e15, e13] at hK ⊢
        clear e14 e15 e13
        go_simp
        exact hK.out _ _ rfl (Below.refl _ _)
      refine And.intro ?_ ?_
      · intro vs lo hi w' hM hd K' hK
        dsimp only at hK ⊢
        simp only [Act.put, List.setIfInBounds_toArray, List.set_cons_zero, List.set_cons_succ] at hK
        have e16 : vs 16 = undef := hd 16 (by kernel_rfl)
        have e13 : vs 13 = (.bool true) := hd 13 (by kernel_rfl)
        simp only [e16, e13] at hK ⊢
        clear e16 e13
        go_simp
        exact hK.out _ _ rfl (Below.refl _ _)
      refine And.intro ?_ ?_
      · intro vs lo hi w' hM hd K' hK
        dsimp only at hK ⊢
        simp only [Act.put, List.setIfInBounds_toArray, List.set_cons_zero, List.set_cons_succ] at hK
        have e17 : vs 17 = undef := hd 17 (by kernel_rfl)
        simp only [e17] at hK ⊢
        clear e17
        go_simp
        exact hK.out _ _ rfl (Below.refl _ _)
      refine And.intro ?_ ?_
      · intro vs lo hi w' hM hd K' hK
        dsimp only at hK ⊢
        simp only [Act.put, List.setIfInBounds_toArray, List.set_cons_zero, List.set_cons_succ] at hK
        have e17 : vs 17 = undef := hd 17 (by kernel_rfl)
        simp only [e17] at hK ⊢
        clear e17
        go_simp
        exact hK.out _ _ rfl (Below.refl _ _)
      refine And.intro ?_ ?_
      · intro vs lo hi w' hM hd K' hK
        dsimp only at hK ⊢
        simp only [Act.put, List.setIfInBounds_toArray, List.set_cons_zero, List.set_cons_succ] at hK
        have e18 : vs 18 = undef := hd 18 (by kernel_rfl)
        have e19 : vs 19 = undef := hd 19 (by kernel_rfl)
        have e17 : vs 17 = undef := hd 17 (by kernel_rfl)
        simp only [e18, e19, e17] at hK ⊢
        clear e18 e19 e17
        go_simp
        exact hK.out _ _ rfl (Below.refl _ _)
      refine And.intro ?_ ?_
      · intro vs lo hi w' hM hd K' hK
        dsimp only at hK ⊢
        simp only [Act.put, List.setIfInBounds_toArray, List.set_cons_zero, List.set_cons_succ] at hK
        have e17 : vs 17 = undef := hd 17 (by kernel_rfl)
        have e20 : vs 20 = undef := hd 20 (by kernel_rfl)
        have e13 : vs 13 = (.bool true) := hd 13 (by kernel_rfl)
        simp only [e17, e20, e13] at hK ⊢
        clear e17 e20 e13
        go_simp
        exact hK.out _ _ rfl (Below.refl _ _)
      refine And.intro ?_ ?_
      · intro vs lo hi w' hM hd K' hK
        dsimp only at hK ⊢
        simp only [Act.put, List.setIfInBounds_toArray, List.set_cons_zero, List.set_cons_succ] at hK
        have e13 : vs 13 = (.bool true) := hd 13 (by kernel_rfl)
        have e21 : vs 21 = undef := hd 21 (by kernel_rfl)
        have e9 : vs 9 = (.bool true) := hd 9 (by kernel_rfl)
        simp only [e13, e21, e9] at hK ⊢
        clear e13 e21 e9
        go_simp
        exact hK.out _ _ rfl (Below.refl _ _)
      refine And.intro ?_ ?_
      · intro vs lo hi w' hM hd K' hK
        dsimp only at hK ⊢
        simp only [Act.put, List.setIfInBounds_toArray, List.set_cons_zero, List.set_cons_succ] at hK
        have e9 : vs 9 = (.bool true) := hd 9 (by kernel_rfl)
        have e22 : vs 22 = (.bool true) := hd 22 (by kernel_rfl)
        simp only [e9, e22] at hK ⊢
        clear e9 e22
        go_simp
        exact hK.out _ _ rfl (Below.refl _ _)
      refine And.intro ?_ ?_
      · intro vs lo hi w' hM hd K' hK
        dsimp only at hK ⊢
        simp only [Act.put, List.setIfInBounds_toArray, List.set_cons_zero, List.set_cons_succ] at hK
        have e23 : vs 23 = (.bool true) := hd 23 (by kernel_rfl)
        simp only [e23] at hK ⊢
        clear e23
        go_simp
        exact hK.out _ _ rfl (Below.refl _ _)
      refine And.intro ?_ ?_
      · intro vs lo hi w' hM hd K' hK
        dsimp only at hK ⊢
        simp only [Act.put, List.setIfInBounds_toArray, List.set_cons_zero, List.set_cons_succ] at hK
        have e24 : vs 24 = (.bool true) := hd 24 (by kernel_rfl)
        simp only [e24] at hK ⊢
        clear e24
        go_simp
        exact hK.out _ _ rfl (Below.refl _ _)
      refine And.intro ?_ ?_
      · intro vs lo hi w' hM hd K' hK
        dsimp only at hK ⊢
        simp only [Act.put, List.setIfInBounds_toArray, List.set_cons_zero, List.set_cons_succ] at hK
        have e25 : vs 25 = (.bool false) := hd 25 (by kernel_rfl)
        have e24 : vs 24 = (.bool true) := hd 24 (by kernel_rfl)
        simp only [e25, e24] at hK ⊢
        clear e25 e24
        go_simp
        exact hK.out _ _ rfl (Below.refl _ _)
      refine And.intro ?_ ?_
      · intro vs lo hi w' hM hd K' hK
        dsimp only at hK ⊢
        simp only [Act.put, List.setIfInBounds_toArray, List.set_cons_zero, List.set_cons_succ] at hK
        have e24 : vs 24 = (.bool true) := hd 24 (by kernel_rfl)
        have e26 : vs 26 = (.bool true) := hd 26 (by kernel_rfl)
        simp only [e24, e26] at hK ⊢
        clear e24 e26
        go_simp
        exact hK.out _ _ rfl (Below.refl _ _)
      refine And.intro ?_ ?_
      · intro vs lo hi w' hM hd K' hK
        dsimp only at hK ⊢
        simp only [Act.put, List.setIfInBounds_toArray, List.set_cons_zero, List.set_cons_succ] at hK
        have e27 : vs 27 = (.bool true) := hd 27 (by kernel_rfl)
        simp only [e27] at hK ⊢
        clear e27
        go_simp
        exact hK.out _ _ rfl (Below.refl _ _)
      refine And.intro ?_ ?_
      · intro vs lo hi w' hM hd K' hK
        dsimp only at hK ⊢
        simp only [Act.put, List.setIfInBounds_toArray, List.set_cons_zero, List.set_cons_succ] at hK
        have e28 : vs 28 = (.bool true) := hd 28 (by kernel_rfl)
        simp only [e28] at hK ⊢
        clear e28
        obtain ⟨y0, y1, y2, y3, y4⟩ := HBo.out.keep hM
        go_simp
        exact hK.out _ _ rfl (Below.refl _ _)
      refine And.intro ?_ ?_
      · intro vs lo hi w' hM hd K' hK
        dsimp only at hK ⊢
        simp only [Act.put, List.setIfInBounds_toArray, List.set_cons_zero, List.set_cons_succ] at hK
        have e29 : vs 29 = (.agg #[.int .i64 ok, .int .i64 on, .string ot, .slice oa1 on1 oc1, .slice oa2 on2 oc2]) := hd 29 (by kernel_rfl)
        have e28 : vs 28 = (.bool true) := hd 28 (by kernel_rfl)
        simp only [e29, e28] at hK ⊢
        clear e29 e28
        go_simp
        refine (right_any (HIo.out.below hM) (Nat.le_trans HLo.out (by decide)) _ HRo.out).mono ?_
        rintro e w7 ⟨rfl, b7⟩
        exact hK.out _ _ rfl b7
      refine And.intro ?_ ?_
      · intro vs lo hi w' hM hd K' hK
        dsimp only at hK ⊢
        simp only [Act.put, List.setIfInBounds_toArray, List.set_cons_zero, List.set_cons_succ] at hK
        have e28 : vs 28 = (.bool true) := hd 28 (by kernel_rfl)
        have e30 : vs 30 = (.bool true) := hd 30 (by kernel_rfl)
        simp only [e28, e30] at hK ⊢
        clear e28 e30
        go_simp
        exact hK.out _ _ rfl (Below.refl _ _)
      refine And.intro ?_ ?_
      · intro vs lo hi w' hM hd K' hK
        dsimp only at hK ⊢
        simp only [Act.put, List.setIfInBounds_toArray, List.set_cons_zero, List.set_cons_succ] at hK
        have e31 : vs 31 = (.bool true) := hd 31 (by kernel_rfl)
        simp only [e31] at hK ⊢
        clear e31
        go_simp
        exact hK.out _ _ rfl (Below.refl _ _)
      refine And.intro ?_ ?_
      · intro vs lo hi w' hM hd K' hK
        dsimp only at hK ⊢
        simp only [Act.put, List.setIfInBounds_toArray, List.set_cons_zero, List.set_cons_succ] at hK
        have e32 : vs 32 = (.bool true) := hd 32 (by kernel_rfl)
        simp only [e32] at hK ⊢
        clear e32
        obtain ⟨y0, y1, y2, y3, y4⟩ := HBu.out.keep hM
        go_simp
        exact hK.out _ _ rfl (Below.refl _ _)
      refine And.intro ?_ ?_
      · intro vs lo hi w' hM hd K' hK
        dsimp only at hK ⊢
        simp only [Act.put, List.setIfInBounds_toArray, List.set_cons_zero, List.set_cons_succ] at hK
        have e33 : vs 33 = (.agg #[.int .i64 uk, .int .i64 un, .string ut, .slice ua1 un1 uc1, .slice ua2 un2 uc2]) := hd 33 (by kernel_rfl)
        have e32 : vs 32 = (.bool true) := hd 32 (by kernel_rfl)
        simp only [e33, e32] at hK ⊢
        clear e33 e32
        go_simp
        refine (right_any (HIu.out.below hM) (Nat.le_trans HLu.out (by decide)) _ HRu.out).mono ?_
        rintro e w7 ⟨rfl, b7⟩
        exact hK.out _ _ rfl b7
      refine And.intro ?_ ?_
      · intro vs lo hi w' hM hd K' hK
        dsimp only at hK ⊢
        simp only [Act.put, List.setIfInBounds_toArray, List.set_cons_zero, List.set_cons_succ] at hK
        have e32 : vs 32 = (.bool true) := hd 32 (by kernel_rfl)
        have e34 : vs 34 = (.bool true) := hd 34 (by kernel_rfl)
        simp only [e32, e34] at hK ⊢
        clear e32 e34
        go_simp
        exact hK.out _ _ rfl (Below.refl _ _)
      refine And.intro ?_ ?_
      · intro vs lo hi w' hM hd K' hK
        dsimp only at hK ⊢
        simp only [Act.put, List.setIfInBounds_toArray, List.set_cons_zero, List.set_cons_succ] at hK
        have e35 : vs 35 = (.bool true) := hd 35 (by kernel_rfl)
        simp only [e35] at hK ⊢
        clear e35
        go_simp
        exact hK.out _ _ rfl (Below.refl _ _)
      refine And.intro ?_ ?_
      · intro vs lo hi w' hM hd K' hK
        dsimp only at hK ⊢
        simp only [Act.put, List.setIfInBounds_toArray, List.set_cons_zero, List.set_cons_succ] at hK
        have e36 : vs 36 = (.bool true) := hd 36 (by kernel_rfl)
        simp only [e36] at hK ⊢
        clear e36
        obtain ⟨y0, y1, y2, y3, y4⟩ := HBu.out.keep hM
        go_simp
        exact hK.out _ _ rfl (Below.refl _ _)
      refine And.intro ?_ ?_
      · intro vs lo hi w' hM hd K' hK
        dsimp only at hK ⊢
        simp only [Act.put, List.setIfInBounds_toArray, List.set_cons_zero, List.set_cons_succ] at hK
        have e36 : vs 36 = (.bool true) := hd 36 (by kernel_rfl)
        simp only [e36] at hK ⊢
        clear e36
        go_simp
        exact hK.out _ _ rfl (Below.refl _ _)
      refine And.intro ?_ ?_
      · intro vs lo hi w' hM hd K' hK
        dsimp only at hK ⊢
        simp only [Act.put, List.setIfInBounds_toArray, List.set_cons_zero, List.set_cons_succ] at hK
        have e37 : vs 37 = (.agg #[.int .i64 uk, .int .i64 un, .string ut, .slice ua1 un1 uc1, .slice ua2 un2 uc2]) := hd 37 (by kernel_rfl)
        have e38 : vs 38 = (.string KEY) := hd 38 (by kernel_rfl)
        have e36 : vs 36 = (.bool true) := hd 36 (by kernel_rfl)
        simp only [e37, e38, e36] at hK ⊢
        clear e37 e38 e36
        go_simp
        refine (without_any (HIu.out.below hM) HLu.out KEY).mono ?_
        rintro e w7 ⟨k7, n7, t7, a17, n17, c17, a27, n27, c27, rfl, h7, b7⟩
        exact hK.out _ _ (with_fact h7) b7
      refine And.intro ?_ ?_
      · intro vs lo hi w' hM hd K' hK
        dsimp only at hK ⊢
        simp only [Act.put, List.setIfInBounds_toArray, List.set_cons_zero, List.set_cons_succ] at hK
        have e36 : vs 36 = (.bool true) := hd 36 (by kernel_rfl)
        simp only [e36] at hK ⊢
        clear e36
        obtain ⟨y0, y1, y2, y3, y4⟩ := HBu.out.keep hM
        go_simp
        exact hK.out _ _ rfl (Below.refl _ _)
      refine And.intro ?_ ?_
      · intro vs lo hi w' hM hd K' hK
        dsimp only at hK ⊢
        simp only [Act.put, List.setIfInBounds_toArray, List.set_cons_zero, List.set_cons_succ] at hK
        obtain ⟨k39, n39, t39, a139, n139, c139, a239, n239, c239, e39, H39⟩ := hd 39 (by kernel_rfl)
        have e40 : vs 40 = (.agg #[.int .i64 uk, .int .i64 un, .string ut, .slice ua1 un1 uc1, .slice ua2 un2 uc2]) := hd 40 (by kernel_rfl)
        have e36 : vs 36 = (.bool true) := hd 36 (by kernel_rfl)
        simp only [e39, e40, e36] at hK ⊢
        clear e39 e40 e36
        go_simp
        refine (same_any H39.out (HIu.out.below hM) HLuu.out (Nat.le_trans HLu.out (by decide)) true ⟨fun _ => HQ1.out, fun _ => rfl⟩).mono ?_
        rintro e w7 ⟨rfl, b7⟩
        exact hK.out _ _ rfl b7
      refine And.intro ?_ ?_
      · intro vs lo hi w' hM hd K' hK
        dsimp only at hK ⊢
        simp only [Act.put, List.setIfInBounds_toArray, List.set_cons_zero, List.set_cons_succ] at hK
        have e36 : vs 36 = (.bool true) := hd 36 (by kernel_rfl)
        have e41 : vs 41 = (.bool true) := hd 41 (by kernel_rfl)
        simp only [e36, e41] at hK ⊢
        clear e36 e41
        go_simp
        exact hK.out _ _ rfl (Below.refl _ _)
      refine And.intro ?_ ?_
      · intro vs lo hi w' hM hd K' hK
        dsimp only at hK ⊢
        simp only [Act.put, List.setIfInBounds_toArray, List.set_cons_zero, List.set_cons_succ] at hK
        have e42 : vs 42 = (.bool true) := hd 42 (by kernel_rfl)
        simp only [e42] at hK ⊢
        clear e42
        go_simp
        exact hK.out _ _ rfl (Below.refl _ _)
      refine And.intro ?_ ?_
      · intro vs lo hi w' hM hd K' hK
        dsimp only at hK ⊢
        simp only [Act.put, List.setIfInBounds_toArray, List.set_cons_zero, List.set_cons_succ] at hK
        have e43 : vs 43 = (.bool true) := hd 43 (by kernel_rfl)
        simp only [e43] at hK ⊢
        clear e43
        obtain ⟨y0, y1, y2, y3, y4⟩ := HBo.out.keep hM
        go_simp
        exact hK.out _ _ rfl (Below.refl _ _)
      refine And.intro ?_ ?_
      · intro vs lo hi w' hM hd K' hK
        dsimp only at hK ⊢
        simp only [Act.put, List.setIfInBounds_toArray, List.set_cons_zero, List.set_cons_succ] at hK
        have e43 : vs 43 = (.bool true) := hd 43 (by kernel_rfl)
        simp only [e43] at hK ⊢
        clear e43
        go_simp
        exact hK.out _ _ rfl (Below.refl _ _)
      refine And.intro ?_ ?_
      · intro vs lo hi w' hM hd K' hK
        dsimp only at hK ⊢
        simp only [Act.put, List.setIfInBounds_toArray, List.set_cons_zero, List.set_cons_succ] at hK
        have e43 : vs 43 = (.bool true) := hd 43 (by kernel_rfl)
        simp only [e43] at hK ⊢
        clear e43
        obtain ⟨y0, y1, y2, y3, y4⟩ := HBx.out.keep hM
        go_simp
        exact hK.out _ _ rfl (Below.refl _ _)
      refine And.intro ?_ ?_
      · intro vs lo hi w' hM hd K' hK
        dsimp only at hK ⊢
        simp only [Act.put, List.setIfInBounds_toArray, List.set_cons_zero, List.set_cons_succ] at hK
        have e44 : vs 44 = (.agg #[.int .i64 ok, .int .i64 on, .string ot, .slice oa1 on1 oc1, .slice oa2 on2 oc2]) := hd 44 (by kernel_rfl)
        have e45 : vs 45 = (.string KEY) := hd 45 (by kernel_rfl)
        have e46 : vs 46 = (.agg #[.int .i64 xk, .int .i64 xn, .string xt, .slice xa1 xn1 xc1, .slice xa2 xn2 xc2]) := hd 46 (by kernel_rfl)
        have e43 : vs 43 = (.bool true) := hd 43 (by kernel_rfl)
        simp only [e44, e45, e46, e43] at hK ⊢
        clear e44 e45 e46 e43
        go_simp
        refine (with_any (HIo.out.below hM) (HIx.out.below hM) HLo.out (Nat.le_trans HLx0.out (by decide)) KEY HLk.out).mono ?_
        rintro e w7 ⟨k7, n7, t7, a17, n17, c17, a27, n27, c27, rfl, h7, b7⟩
        exact hK.out _ _ (with_fact h7) b7
      refine And.intro ?_ ?_
      · intro vs lo hi w' hM hd K' hK
        dsimp only at hK ⊢
        simp only [Act.put, List.setIfInBounds_toArray, List.set_cons_zero, List.set_cons_succ] at hK
        have e43 : vs 43 = (.bool true) := hd 43 (by kernel_rfl)
        simp only [e43] at hK ⊢
        clear e43
        obtain ⟨y0, y1, y2, y3, y4⟩ := HBo.out.keep hM
        go_simp
        exact hK.out _ _ rfl (Below.refl _ _)
      refine And.intro ?_ ?_
      · intro vs lo hi w' hM hd K' hK
        dsimp only at hK ⊢
        simp only [Act.put, List.setIfInBounds_toArray, List.set_cons_zero, List.set_cons_succ] at hK
        obtain ⟨k47, n47, t47, a147, n147, c147, a247, n247, c247, e47, H47⟩ := hd 47 (by kernel_rfl)
        have e48 : vs 48 = (.agg #[.int .i64 ok, .int .i64 on, .string ot, .slice oa1 on1 oc1, .slice oa2 on2 oc2]) := hd 48 (by kernel_rfl)
        have e43 : vs 43 = (.bool true) := hd 43 (by kernel_rfl)
        simp only [e47, e48, e43] at hK ⊢
        clear e47 e48 e43
        go_simp
        refine (same_any H47.out (HIo.out.below hM) HLoo.out (Nat.le_trans HLo.out (by decide)) true ⟨fun _ => HQ2.out, fun _ => rfl⟩).mono ?_
        rintro e w7 ⟨rfl, b7⟩
        exact hK.out _ _ rfl b7
      refine And.intro ?_ ?_
      · intro vs lo hi w' hM hd K' hK
        dsimp only at hK ⊢
        simp only [Act.put, List.setIfInBounds_toArray, List.set_cons_zero, List.set_cons_succ] at hK
        have e43 : vs 43 = (.bool true) := hd 43 (by kernel_rfl)
        have e49 : vs 49 = (.bool true) := hd 49 (by kernel_rfl)
        simp only [e43, e49] at hK ⊢
        clear e43 e49
        go_simp
        exact hK.out _ _ rfl (Below.refl _ _)
      refine And.intro ?_ ?_
      · intro vs lo hi w' hM hd K' hK
        dsimp only at hK ⊢
        simp only [Act.put, List.setIfInBounds_toArray, List.set_cons_zero, List.set_cons_succ] at hK
        have e50 : vs 50 = (.bool true) := hd 50 (by kernel_rfl)
        simp only [e50] at hK ⊢
        clear e50
        go_simp
        exact hK.out _ _ rfl (Below.refl _ _)
      refine And.intro ?_ ?_
      · intro vs lo hi w' hM hd K' hK
        dsimp only at hK ⊢
        simp only [Act.put, List.setIfInBounds_toArray, List.set_cons_zero, List.set_cons_succ] at hK
        have e51 : vs 51 = (.bool true) := hd 51 (by kernel_rfl)
        simp only [e51] at hK ⊢
        clear e51
        obtain ⟨y0, y1, y2, y3, y4⟩ := HBu.out.keep hM
        go_simp
        exact hK.out _ _ rfl (Below.refl _ _)
      refine And.intro ?_ ?_
      · intro vs lo hi w' hM hd K' hK
        dsimp only at hK ⊢
        simp only [Act.put, List.setIfInBounds_toArray, List.set_cons_zero, List.set_cons_succ] at hK
        have e51 : vs 51 = (.bool true) := hd 51 (by kernel_rfl)
        simp only [e51] at hK ⊢
        clear e51
        obtain ⟨y0, y1, y2, y3, y4⟩ := HBv.out.keep hM
        go_simp
        exact hK.out _ _ rfl (Below.refl _ _)
      refine And.intro ?_ ?_
      · intro vs lo hi w' hM hd K' hK
        dsimp only at hK ⊢
        simp only [Act.put, List.setIfInBounds_toArray, List.set_cons_zero, List.set_cons_succ] at hK
        have e51 : vs 51 = (.bool true) := hd 51 (by kernel_rfl)
        simp only [e51] at hK ⊢
        clear e51
        go_simp
        exact hK.out _ _ rfl (Below.refl _ _)
      refine And.intro ?_ ?_
      · intro vs lo hi w' hM hd K' hK
        dsimp only at hK ⊢
        simp only [Act.put, List.setIfInBounds_toArray, List.set_cons_zero, List.set_cons_succ] at hK
        have e53 : vs 53 = (.agg #[.int .i64 5, .int .i64 vn, .string vt, .slice va1 vn1 vc1, .slice va2 vn2 vc2]) := hd 53 (by kernel_rfl)
        have e54 : vs 54 = (.string KEY) := hd 54 (by kernel_rfl)
        have e51 : vs 51 = (.bool true) := hd 51 (by kernel_rfl)
        simp only [e53, e54, e51] at hK ⊢
        clear e53 e54 e51
        go_simp
        refine (without_any (HIv.out.below hM) (Nat.le_trans HLv.out (by decide)) KEY).mono ?_
        rintro e w7 ⟨k7, n7, t7, a17, n17, c17, a27, n27, c27, rfl, h7, b7⟩
        exact hK.out _ _ (with_fact h7) b7
      refine And.intro ?_ ?_
      · intro vs lo hi w' hM hd K' hK
        dsimp only at hK ⊢
        simp only [Act.put, List.setIfInBounds_toArray, List.set_cons_zero, List.set_cons_succ] at hK
        have e52 : vs 52 = (.agg #[.int .i64 uk, .int .i64 un, .string ut, .slice ua1 un1 uc1, .slice ua2 un2 uc2]) := hd 52 (by kernel_rfl)
        obtain ⟨k55, n55, t55, a155, n155, c155, a255, n255, c255, e55, H55⟩ := hd 55 (by kernel_rfl)
        have e51 : vs 51 = (.bool true) := hd 51 (by kernel_rfl)
        simp only [e52, e55, e51] at hK ⊢
        clear e52 e55 e51
        go_simp
        refine (same_any (HIu.out.below hM) H55.out (Nat.le_trans HLu.out (by decide)) (Nat.le_trans HLu.out (by decide)) true ⟨fun _ => rfl, fun _ => rfl⟩).mono ?_
        rintro e w7 ⟨rfl, b7⟩
        exact hK.out _ _ rfl b7
      refine And.intro ?_ ?_
      · intro vs lo hi w' hM hd K' hK
        dsimp only at hK ⊢
        simp only [Act.put, List.setIfInBounds_toArray, List.set_cons_zero, List.set_cons_succ] at hK
        have e51 : vs 51 = (.bool true) := hd 51 (by kernel_rfl)
        have e56 : vs 56 = (.bool true) := hd 56 (by kernel_rfl)
        simp only [e51, e56] at hK ⊢
        clear e51 e56
        go_simp
        exact hK.out _ _ rfl (Below.refl _ _)
      exact trivial
    case last =>
      intro vs lo hi w' hM hlo hap hall K' Q' hK
      have h57 : vs 57 = .bool true := hall.2.2.2.2.2.2.2.2.2.2.2.2.2.2.2.2.2.2.2.2.2.2.2.2.2.2.2.2.2.2.2.2.2.2.2.2.2.2.2.2.2.2.2.2.2.2.2.2.2.2.2.2.2.2.2.2.2.1
      dsimp only
      simp only [h57]
      clear h57 hall hap hlo
      go_simp
      refine hK.out _ _ ?_
      clear hK
      go_wp2_with fail
      go_ret
      exact ⟨rfl, bthen HT.out hM⟩
  | false =>
    have eko : ¬ OTH.toList = KEY.toList := by simpa using tko
    have HTK := hide tko
    clear tko
    have hsame := V.get_rest HLD.out (fun h => eko (by rw [h]))
    have hib := HEb.out
    have hia := HEa.out
    rw [← hsame, ← hia] at hib
    rw [← hsame] at HIrb
    clear HEa HEb hia
    subst hib
    clear hsame eko
    have HLg : Hid (V.wt ((V.get PV OTH).getD V.nul) ≤ 4294967296) := hide (by have h1 := HLg0.out; have h2 := HLv.out; omega)
    generalize (V.get PV OTH).getD V.nul = GG at HIra HIrb HLg
    refine' wp_region_facts [(fun _ _ v _ => v = (.bool true)), (fun _ _ v _ => v = (.bool true)), (fun _ _ v _ => v = (.bool true)), (fun _ _ v _ => v = (.bool true)), (fun _ _ v _ => v = (.bool true)), (fun _ _ v _ => v = (.agg #[.int .i64 yk, .int .i64 yn, .string yt, .slice ya1 yn1 yc1, .slice ya2 yn2 yc2])), (fun _ _ v _ => v = (.agg #[.int .i64 xk, .int .i64 xn, .string xt, .slice xa1 xn1 xc1, .slice xa2 xn2 xc2])), (fun _ _ v _ => v = (.bool true)), (fun _ _ v _ => v = (.bool true)), (fun _ _ v _ => v = (.bool true)), (fun _ _ v _ => v = (.string OTH)), (fun _ _ v _ => v = (.string KEY)), (fun _ _ v _ => v = (.bool false)), (fun _ _ v _ => v = (.bool false)), (fun _ _ v _ => v = (.bool ib)), (fun _ _ v _ => v = (.bool ib)), (fun _ _ v _ => v = (.bool true)), (fun _ _ v _ => v = (.bool true)), (fun _ _ v _ => v = (.agg #[.int .i64 rak, .int .i64 ran, .string rat, .slice raa1 ran1 rac1, .slice raa2 ran2 rac2])), (fun _ _ v _ => v = (.agg #[.int .i64 rbk, .int .i64 rbn, .string rbt, .slice rba1 rbn1 rbc1, .slice rba2 rbn2 rbc2])), (fun _ _ v _ => v = (.bool true)), (fun _ _ v _ => v = (.bool true)), (fun _ _ v _ => v = (.bool true)), (fun _ _ v _ => v = (.bool true)), (fun _ _ v _ => v = (.bool true)), (fun _ _ v _ => v = (.bool false)), (fun _ _ v _ => v = (.bool true)), (fun _ _ v _ => v = (.bool true)), (fun _ _ v _ => v = (.bool true)), (fun _ _ v _ => v = (.agg #[.int .i64 ok, .int .i64 on, .string ot, .slice oa1 on1 oc1, .slice oa2 on2 oc2])), (fun _ _ v _ => v = (.bool true)), (fun _ _ v _ => v = (.bool true)), (fun _ _ v _ => v = (.bool true)), (fun _ _ v _ => v = (.agg #[.int .i64 uk, .int .i64 un, .string ut, .slice ua1 un1 uc1, .slice ua2 un2 uc2])), (fun _ _ v _ => v = (.bool true)), (fun _ _ v _ => v = (.bool true)), (fun _ _ v _ => v = (.bool true)), (fun _ _ v _ => v = (.agg #[.int .i64 uk, .int .i64 un, .string ut, .slice ua1 un1 uc1, .slice ua2 un2 uc2])), (fun _ _ v _ => v = (.string KEY)), (WithF (V.without (V.without PV KEY) KEY)), (fun _ _ v _ => v = (.agg #[.int .i64 uk, .int .i64 un, .string ut, .slice ua1 un1 uc1, .slice ua2 un2 uc2])), (fun _ _ v _ => v = (.bool true)), (fun _ _ v _ => v = (.bool true)), (fun _ _ v _ => v = (.bool true)), (fun _ _ v _ => v = (.agg #[.int .i64 ok, .int .i64 on, .string ot, .slice oa1 on1 oc1, .slice oa2 on2 oc2])), (fun _ _ v _ => v = (.string KEY)), (fun _ _ v _ => v = (.agg #[.int .i64 xk, .int .i64 xn, .string xt, .slice xa1 xn1 xc1, .slice xa2 xn2 xc2])), (WithF (V.withV (V.withV PV KEY PZ) KEY PZ)), (fun _ _ v _ => v = (.agg #[.int .i64 ok, .int .i64 on, .string ot, .slice oa1 on1 oc1, .slice oa2 on2 oc2])), (fun _ _ v _ => v = (.bool true)), (fun _ _ v _ => v = (.bool true)), (fun _ _ v _ => v = (.bool true)), (fun _ _ v _ => v = (.agg #[.int .i64 uk, .int .i64 un, .string ut, .slice ua1 un1 uc1, .slice ua2 un2 uc2])), (fun _ _ v _ => v = (.agg #[.int .i64 5, .int .i64 vn, .string vt, .slice va1 vn1 vc1, .slice va2 vn2 vc2])), (fun _ _ v _ => v = (.string KEY)), (WithF (V.without PV KEY)), (fun _ _ v _ => v = (.bool true)), (fun _ _ v _ => v = (.bool true))] (by kernel_rfl) rfl ?hA (by kernel_rfl) (by kernel_rfl) (by kernel_rfl) rfl ?mono ?steps ?last
    case hA =>
      intro vs
      simp only [puts, Act.put, List.setIfInBounds_toArray, List.set_cons_zero, List.set_cons_succ, Nat.zero_add, Nat.reduceAdd]
      rfl
    case mono => exact ⟨mono_eq _, mono_eq _, mono_eq _, mono_eq _, mono_eq _, mono_eq _, mono_eq _, mono_eq _, mono_eq _, mono_eq _, mono_eq _, mono_eq _, mono_eq _, mono_eq _, mono_eq _, mono_eq _, mono_eq _, mono_eq _, mono_eq _, mono_eq _, mono_eq _, mono_eq _, mono_eq _, mono_eq _, mono_eq _, mono_eq _, mono_eq _, mono_eq _, mono_eq _, mono_eq _, mono_eq _, mono_eq _, mono_eq _, mono_eq _, mono_eq _, mono_eq _, mono_eq _, mono_eq _, mono_eq _, mono_with _, mono_eq _, mono_eq _, mono_eq _, mono_eq _, mono_eq _, mono_eq _, mono_eq _, mono_with _, mono_eq _, mono_eq _, mono_eq _, mono_eq _, mono_eq _, mono_eq _, mono_eq _, mono_with _, mono_eq _, mono_eq _, trivial⟩
    case steps =>
      intro Q'
      refine And.intro ?_ ?_
      · intro vs lo hi w' hM hd K' hK
        dsimp only at hK ⊢
        simp only [Act.put, List.setIfInBounds_toArray, List.set_cons_zero, List.set_cons_succ] at hK
        go_simp
        refine (known_any _).mono ?_
        rintro e w7 ⟨rfl, b7⟩
        exact hK.out _ _ rfl b7
      refine And.intro ?_ ?_
      · intro vs lo hi w' hM hd K' hK
        dsimp only at hK ⊢
        simp only [Act.put, List.setIfInBounds_toArray, List.set_cons_zero, List.set_cons_succ] at hK
        have e0 : vs 0 = (.bool true) := hd 0 (by kernel_rfl)
        simp only [e0] at hK ⊢
        clear e0
        go_simp
        exact hK.out _ _ rfl (Below.refl _ _)
      refine And.intro ?_ ?_
      · intro vs lo hi w' hM hd K' hK
        dsimp only at hK ⊢
        simp only [Act.put, List.setIfInBounds_toArray, List.set_cons_zero, List.set_cons_succ] at hK
        have e1 : vs 1 = (.bool true) := hd 1 (by kernel_rfl)
        simp only [e1] at hK ⊢
        clear e1
        go_simp
        exact hK.out _ _ rfl (Below.refl _ _)
      refine And.intro ?_ ?_
      · intro vs lo hi w' hM hd K' hK
        dsimp only at hK ⊢
        simp only [Act.put, List.setIfInBounds_toArray, List.set_cons_zero, List.set_cons_succ] at hK
        have e1 : vs 1 = (.bool true) := hd 1 (by kernel_rfl)
        have e2 : vs 2 = (.bool true) := hd 2 (by kernel_rfl)
        simp only [e1, e2] at hK ⊢
        clear e1 e2
        go_simp
        exact hK.out _ _ rfl (Below.refl _ _)
      refine And.intro ?_ ?_
      · intro vs lo hi w' hM hd K' hK
        dsimp only at hK ⊢
        simp only [Act.put, List.setIfInBounds_toArray, List.set_cons_zero, List.set_cons_succ] at hK
        have e3 : vs 3 = (.bool true) := hd 3 (by kernel_rfl)
        simp only [e3] at hK ⊢
        clear e3
        go_simp
        exact hK.out _ _ rfl (Below.refl _ _)
      refine And.intro ?_ ?_
      · intro vs lo hi w' hM hd K' hK
        dsimp only at hK ⊢
        simp only [Act.put, List.setIfInBounds_toArray, List.set_cons_zero, List.set_cons_succ] at hK
        have e4 : vs 4 = (.bool true) := hd 4 (by kernel_rfl)
        simp only [e4] at hK ⊢
        clear e4
        obtain ⟨y0, y1, y2, y3, y4⟩ := HBy.out.keep hM
        go_simp
        exact hK.out _ _ rfl (Below.refl _ _)
      refine And.intro ?_ ?_
      · intro vs lo hi w' hM hd K' hK
        dsimp only at hK ⊢
        simp only [Act.put, List.setIfInBounds_toArray, List.set_cons_zero, List.set_cons_succ] at hK
        have e4 : vs 4 = (.bool true) := hd 4 (by kernel_rfl)
        simp only [e4] at hK ⊢
        clear e4
        obtain ⟨y0, y1, y2, y3, y4⟩ := HBx.out.keep hM
        go_simp
        exact hK.out _ _ rfl (Below.refl _ _)
      refine And.intro ?_ ?_
      · intro vs lo hi w' hM hd K' hK
        dsimp only at hK ⊢
        simp only [Act.put, List.setIfInBounds_toArray, List.set_cons_zero, List.set_cons_succ] at hK
        have e5 : vs 5 = (.agg #[.int .i64 yk, .int .i64 yn, .string yt, .slice ya1 yn1 yc1, .slice ya2 yn2 yc2]) := hd 5 (by kernel_rfl)
        have e6 : vs 6 = (.agg #[.int .i64 xk, .int .i64 xn, .string xt, .slice xa1 xn1 xc1, .slice xa2 xn2 xc2]) := hd 6 (by kernel_rfl)
        have e4 : vs 4 = (.bool true) := hd 4 (by kernel_rfl)
        simp only [e5, e6, e4] at hK ⊢
        clear e5 e6 e4
        go_simp
        refine (same_any (HIy.out.below hM) (HIx.out.below hM) HLx.out HLx.out true ⟨fun _ => rfl, fun _ => rfl⟩).mono ?_
        rintro e w7 ⟨rfl, b7⟩
        exact hK.out _ _ rfl b7
      refine And.intro ?_ ?_
      · intro vs lo hi w' hM hd K' hK
        dsimp only at hK ⊢
        simp only [Act.put, List.setIfInBounds_toArray, List.set_cons_zero, List.set_cons_succ] at hK
        have e4 : vs 4 = (.bool true) := hd 4 (by kernel_rfl)
        have e7 : vs 7 = (.bool true) := hd 7 (by kernel_rfl)
        simp only [e4, e7] at hK ⊢
        clear e4 e7
        go_simp
        exact hK.out _ _ rfl (Below.refl _ _)
      refine And.intro ?_ ?_
      · intro vs lo hi w' hM hd K' hK
        dsimp only at hK ⊢
        simp only [Act.put, List.setIfInBounds_toArray, List.set_cons_zero, List.set_cons_succ] at hK
        have e8 : vs 8 = (.bool true) := hd 8 (by kernel_rfl)
        simp only [e8] at hK ⊢
        clear e8
        go_simp
        exact hK.out _ _ rfl (Below.refl _ _)
      refine And.intro ?_ ?_
      · intro vs lo hi w' hM hd K' hK
        dsimp only at hK ⊢
        simp only [Act.put, List.setIfInBounds_toArray, List.set_cons_zero, List.set_cons_succ] at hK
        have e9 : vs 9 = (.bool true) := hd 9 (by kernel_rfl)
        simp only [e9] at hK ⊢
        clear e9
        go_simp
        exact hK.out _ _ rfl (Below.refl _ _)
      refine And.intro ?_ ?_
      · intro vs lo hi w' hM hd K' hK
        dsimp only at hK ⊢
        simp only [Act.put, List.setIfInBounds_toArray, List.set_cons_zero, List.set_cons_succ] at hK
        have e9 : vs 9 = (.bool true) := hd 9 (by kernel_rfl)
        simp only [e9] at hK ⊢
        clear e9
        go_simp
        exact hK.out _ _ rfl (Below.refl _ _)
      refine And.intro ?_ ?_
      · intro vs lo hi w' hM hd K' hK
        dsimp only at hK ⊢
        simp only [Act.put, List.setIfInBounds_toArray, List.set_cons_zero, List.set_cons_succ] at hK
        have e10 : vs 10 = (.string OTH) := hd 10 (by kernel_rfl)
        have e11 : vs 11 = (.string KEY) := hd 11 (by kernel_rfl)
        have e9 : vs 9 = (.bool true) := hd 9 (by kernel_rfl)
        simp only [e10, e11, e9] at hK ⊢
        clear e10 e11 e9
        have tko := HTK.out
        go_simp
        exact hK.out _ _ rfl (Below.refl _ _)
      refine And.intro ?_ ?_
      · intro vs lo hi w' hM hd K' hK
        dsimp only at hK ⊢
        simp only [Act.put, List.setIfInBounds_toArray, List.set_cons_zero, List.set_cons_succ] at hK
        have e12 : vs 12 = (.bool false) := hd 12 (by kernel_rfl)
        have e9 : vs 9 = (.bool true) := hd 9 (by kernel_rfl)
        simp only [e12, e9] at hK ⊢
        clear e12 e9
        go_simp
        exact hK.out _ _ rfl (Below.refl _ _)
      refine And.intro ?_ ?_
      · intro vs lo hi w' hM hd K' hK
        dsimp only at hK ⊢
        simp only [Act.put, List.setIfInBounds_toArray, List.set_cons_zero, List.set_cons_succ] at hK
        have e13 : vs 13 = (.bool false) := hd 13 (by kernel_rfl)
        simp only [e13] at hK ⊢
        clear e13
        go_simp
        exact hK.out _ _ rfl (Below.refl _ _)
      refine And.intro ?_ ?_
      · intro vs lo hi w' hM hd K' hK
        dsimp only at hK ⊢
        simp only [Act.put, List.setIfInBounds_toArray, List.set_cons_zero, List.set_cons_succ] at hK
        have e13 : vs 13 = (.bool false) := hd 13 (by kernel_rfl)
        simp only [e13] at hK ⊢
        clear e13
        go_simp
        exact hK.out _ _ rfl (Below.refl _ _)
      refine And.intro ?_ ?_
      · intro vs lo hi w' hM hd K' hK
        dsimp only at hK ⊢
        simp only [Act.put, List.setIfInBounds_toArray, List.set_cons_zero, List.set_cons_succ] at hK
        have e14 : vs 14 = (.bool ib) := hd 14 (by kernel_rfl)
        have e15 : vs 15 = (.bool ib) := hd 15 (by kernel_rfl)
        have e13 : vs 13 = (.bool false) := hd 13 (by kernel_rfl)
        simp only [e14, e15, e13] at hK ⊢
        clear e14 e15 e13
        go_simp
        exact hK.out _ _ rfl (Below.refl _ _)
      refine And.intro ?_ ?_
      · intro vs lo hi w' hM hd K' hK
        dsimp only at hK ⊢
        simp only [Act.put, List.setIfInBounds_toArray, List.set_cons_zero, List.set_cons_succ] at hK
        have e16 : vs 16 = (.bool true) := hd 16 (by kernel_rfl)
        have e13 : vs 13 = (.bool false) := hd 13 (by kernel_rfl)
        simp only [e16, e13] at hK ⊢
        clear e16 e13
        go_simp
        exact hK.out _ _ rfl (Below.refl _ _)
      refine And.intro ?_ ?_
      · intro vs lo hi w' hM hd K' hK
        dsimp only at hK ⊢
        simp only [Act.put, List.setIfInBounds_toArray, List.set_cons_zero, List.set_cons_succ] at hK
        have e17 : vs 17 = (.bool true) := hd 17 (by kernel_rfl)
        simp only [e17] at hK ⊢
        clear e17
        obtain ⟨y0, y1, y2, y3, y4⟩ := HBra.out.keep hM
        go_simp
        exact hK.out _ _ rfl (Below.refl _ _)
      refine And.intro ?_ ?_
      · intro vs lo hi w' hM hd K' hK
        dsimp only at hK ⊢
        simp only [Act.put, List.setIfInBounds_toArray, List.set_cons_zero, List.set_cons_succ] at hK
        have e17 : vs 17 = (.bool true) := hd 17 (by kernel_rfl)
        simp only [e17] at hK ⊢
        clear e17
        obtain ⟨y0, y1, y2, y3, y4⟩ := HBrb.out.keep hM
        go_simp
        exact hK.out _ _ rfl (Below.refl _ _)
      refine And.intro ?_ ?_
      · intro vs lo hi w' hM hd K' hK
        dsimp only at hK ⊢
        simp only [Act.put, List.setIfInBounds_toArray, List.set_cons_zero, List.set_cons_succ] at hK
        have e18 : vs 18 = (.agg #[.int .i64 rak, .int .i64 ran, .string rat, .slice raa1 ran1 rac1, .slice raa2 ran2 rac2]) := hd 18 (by kernel_rfl)
        have e19 : vs 19 = (.agg #[.int .i64 rbk, .int .i64 rbn, .string rbt, .slice rba1 rbn1 rbc1, .slice rba2 rbn2 rbc2]) := hd 19 (by kernel_rfl)
        have e17 : vs 17 = (.bool true) := hd 17 (by kernel_rfl)
        simp only [e18, e19, e17] at hK ⊢
        clear e18 e19 e17
        go_simp
        refine (same_any (HIra.out.below hM) (HIrb.out.below hM) HLg.out HLg.out true ⟨fun _ => rfl, fun _ => rfl⟩).mono ?_
        rintro e w7 ⟨rfl, b7⟩
        exact hK.out _ _ rfl b7
      refine And.intro ?_ ?_
      · intro vs lo hi w' hM hd K' hK
        dsimp only at hK ⊢
        simp only [Act.put, List.setIfInBounds_toArray, List.set_cons_zero, List.set_cons_succ] at hK
        have e17 : vs 17 = (.bool true) := hd 17 (by kernel_rfl)
        have e20 : vs 20 = (.bool true) := hd 20 (by kernel_rfl)
        have e13 : vs 13 = (.bool false) := hd 13 (by kernel_rfl)
        simp only [e17, e20, e13] at hK ⊢
        clear e17 e20 e13
        go_simp
        exact hK.out _ _ rfl (Below.refl _ _)
      refine And.intro ?_ ?_
      · intro vs lo hi w' hM hd K' hK
        dsimp only at hK ⊢
        simp only [Act.put, List.setIfInBounds_toArray, List.set_cons_zero, List.set_cons_succ] at hK
        have e13 : vs 13 = (.bool false) := hd 13 (by kernel_rfl)
        have e21 : vs 21 = (.bool true) := hd 21 (by kernel_rfl)
        have e9 : vs 9 = (.bool true) := hd 9 (by kernel_rfl)
        simp only [e13, e21, e9] at hK ⊢
        clear e13 e21 e9
        go_simp
        exact hK.out _ _ rfl (Below.refl _ _)
      refine And.intro ?_ ?_
      · intro vs lo hi w' hM hd K' hK
        dsimp only at hK ⊢
        simp only [Act.put, List.setIfInBounds_toArray, List.set_cons_zero, List.set_cons_succ] at hK
        have e9 : vs 9 = (.bool true) := hd 9 (by kernel_rfl)
        have e22 : vs 22 = (.bool true) := hd 22 (by kernel_rfl)
        simp only [e9, e22] at hK ⊢
        clear e9 e22
        go_simp
        exact hK.out _ _ rfl (Below.refl _ _)
      refine And.intro ?_ ?_
      · intro vs lo hi w' hM hd K' hK
        dsimp only at hK ⊢
        simp only [Act.put, List.setIfInBounds_toArray, List.set_cons_zero, List.set_cons_succ] at hK
        have e23 : vs 23 = (.bool true) := hd 23 (by kernel_rfl)
        simp only [e23] at hK ⊢
        clear e23
        go_simp
        exact hK.out _ _ rfl (Below.refl _ _)
      refine And.intro ?_ ?_
      · intro vs lo hi w' hM hd K' hK
        dsimp only at hK ⊢
        simp only [Act.put, List.setIfInBounds_toArray, List.set_cons_zero, List.set_cons_succ] at hK
        have e24 : vs 24 = (.bool true) := hd 24 (by kernel_rfl)
        simp only [e24] at hK ⊢
        clear e24
        go_simp
        exact hK.out _ _ rfl (Below.refl _ _)
      refine And.intro ?_ ?_
      · intro vs lo hi w' hM hd K' hK
        dsimp only at hK ⊢
        simp only [Act.put, List.setIfInBounds_toArray, List.set_cons_zero, List.set_cons_succ] at hK
        have e25 : vs 25 = (.bool false) := hd 25 (by kernel_rfl)
        have e24 : vs 24 = (.bool true) := hd 24 (by kernel_rfl)
        simp only [e25, e24] at hK ⊢
        clear e25 e24
        go_simp
        exact hK.out _ _ rfl (Below.refl _ _)
      refine And.intro ?_ ?_
      · intro vs lo hi w' hM hd K' hK
        dsimp only at hK ⊢
        simp only [Act.put, List.setIfInBounds_toArray, List.set_cons_zero, List.set_cons_succ] at hK
        have e24 : vs 24 = (.bool true) := hd 24 (by kernel_rfl)
        have e26 : vs 26 = (.bool true) := hd 26 (by kernel_rfl)
        simp only [e24, e26] at hK ⊢
        clear e24 e26
        go_simp
        exact hK.out _ _ rfl (Below.refl _ _)
      refine And.intro ?_ ?_
      · intro vs lo hi w' hM hd K' hK
        dsimp only at hK ⊢
        simp only [Act.put, List.setIfInBounds_toArray, List.set_cons_zero, List.set_cons_succ] at hK
        have e27 : vs 27 = (.bool true) := hd 27 (by kernel_rfl)
        simp only [e27] at hK ⊢
        clear e27
        go_simp
        exact hK.out _ _ rfl (Below.refl _ _)
      refine And.intro ?_ ?_
      · intro vs lo hi w' hM hd K' hK
        dsimp only at hK ⊢
        simp only [Act.put, List.setIfInBounds_toArray, List.set_cons_zero, List.set_cons_succ] at hK
        have e28 : vs 28 = (.bool true) := hd 28 (by kernel_rfl)
        simp only [e28] at hK ⊢
        clear e28
        obtain ⟨y0, y1, y2, y3, y4⟩ := HBo.out.keep hM
        go_simp
        exact hK.out _ _ rfl (Below.refl _ _)
      refine And.intro ?_ ?_
      · intro vs lo hi w' hM hd K' hK
        dsimp only at hK ⊢
        simp only [Act.put, List.setIfInBounds_toArray, List.set_cons_zero, List.set_cons_succ] at hK
        have e29 : vs 29 = (.agg #[.int .i64 ok, .int .i64 on, .string ot, .slice oa1 on1 oc1, .slice oa2 on2 oc2]) := hd 29 (by kernel_rfl)
        have e28 : vs 28 = (.bool true) := hd 28 (by kernel_rfl)
        simp only [e29, e28] at hK ⊢
        clear e29 e28
        go_simp
        refine (right_any (HIo.out.below hM) (Nat.le_trans HLo.out (by decide)) _ HRo.out).mono ?_
        rintro e w7 ⟨rfl, b7⟩
        exact hK.out _ _ rfl b7
      refine And.intro ?_ ?_
      · intro vs lo hi w' hM hd K' hK
        dsimp only at hK ⊢
        simp only [Act.put, List.setIfInBounds_toArray, List.set_cons_zero, List.set_cons_succ] at hK
        have e28 : vs 28 = (.bool true) := hd 28 (by kernel_rfl)
        have e30 : vs 30 = (.bool true) := hd 30 (by kernel_rfl)
        simp only [e28, e30] at hK ⊢
        clear e28 e30
        go_simp
        exact hK.out _ _ rfl (Below.refl _ _)
      refine And.intro ?_ ?_
      · intro vs lo hi w' hM hd K' hK
        dsimp only at hK ⊢
        simp only [Act.put, List.setIfInBounds_toArray, List.set_cons_zero, List.set_cons_succ] at hK
        have e31 : vs 31 = (.bool true) := hd 31 (by kernel_rfl)
        simp only [e31] at hK ⊢
        clear e31
        go_simp
        exact hK.out _ _ rfl (Below.refl _ _)
      refine And.intro ?_ ?_
      · intro vs lo hi w' hM hd K' hK
        dsimp only at hK ⊢
        simp only [Act.put, List.setIfInBounds_toArray, List.set_cons_zero, List.set_cons_succ] at hK
        have e32 : vs 32 = (.bool true) := hd 32 (by kernel_rfl)
        simp only [e32] at hK ⊢
        clear e32
        obtain ⟨y0, y1, y2, y3, y4⟩ := HBu.out.keep hM
        go_simp
        exact hK.out _ _ rfl (Below.refl _ _)
      refine And.intro ?_ ?_
      · intro vs lo hi w' hM hd K' hK
        dsimp only at hK ⊢
        simp only [Act.put, List.setIfInBounds_toArray, List.set_cons_zero, List.set_cons_succ] at hK
        have e33 : vs 33 = (.agg #[.int .i64 uk, .int .i64 un, .string ut, .slice ua1 un1 uc1, .slice ua2 un2 uc2]) := hd 33 (by kernel_rfl)
        have e32 : vs 32 = (.bool true) := hd 32 (by kernel_rfl)
        simp only [e33, e32] at hK ⊢
        clear e33 e32
        go_simp
        refine (right_any (HIu.out.below hM) (Nat.le_trans HLu.out (by decide)) _ HRu.out).mono ?_
        rintro e w7 ⟨rfl, b7⟩
        exact hK.out _ _ rfl b7
      refine And.intro ?_ ?_
      · intro vs lo hi w' hM hd K' hK
        dsimp only at hK ⊢
        simp only [Act.put, List.setIfInBounds_toArray, List.set_cons_zero, List.set_cons_succ] at hK
        have e32 : vs 32 = (.bool true) := hd 32 (by kernel_rfl)
        have e34 : vs 34 = (.bool true) := hd 34 (by kernel_rfl)
        simp only [e32, e34] at hK ⊢
        clear e32 e34
        go_simp
        exact hK.out _ _ rfl (Below.refl _ _)
      refine And.intro ?_ ?_
      · intro vs lo hi w' hM hd K' hK
        dsimp only at hK ⊢
        simp only [Act.put, List.setIfInBounds_toArray, List.set_cons_zero, List.set_cons_succ] at hK
        have e35 : vs 35 = (.bool true) := hd 35 (by kernel_rfl)
        simp only [e35] at hK ⊢
        clear e35
        go_simp
        exact hK.out _ _ rfl (Below.refl _ _)
      refine And.intro ?_ ?_
      · intro vs lo hi w' hM hd K' hK
        dsimp only at hK ⊢
        simp only [Act.put, List.setIfInBounds_toArray, List.set_cons_zero, List.set_cons_succ] at hK
        have e36 : vs 36 = (.bool true) := hd 36 (by kernel_rfl)
        simp only [e36] at hK ⊢
        clear e36
        obtain ⟨y0, y1, y2, y3, y4⟩ := HBu.out.keep hM
        go_simp
        exact hK.out _ _ rfl (Below.refl _ _)
      refine And.intro ?_ ?_
      · intro vs lo hi w' hM hd K' hK
        dsimp only at hK ⊢
        simp only [Act.put, List.setIfInBounds_toArray, List.set_cons_zero, List.set_cons_succ] at hK
        have e36 : vs 36 = (.bool true) := hd 36 (by kernel_rfl)
        simp only [e36] at hK ⊢
        clear e36
        go_simp
        exact hK.out _ _ rfl (Below.refl _ _)
      refine And.intro ?_ ?_
      · intro vs lo hi w' hM hd K' hK
        dsimp only at hK ⊢
        simp only [Act.put, List.setIfInBounds_toArray, List.set_cons_zero, List.set_cons_succ] at hK
        have e37 : vs 37 = (.agg #[.int .i64 uk, .int .i64 un, .string ut, .slice ua1 un1 uc1, .slice ua2 un2 uc2]) := hd 37 (by kernel_rfl)
        have e38 : vs 38 = (.string KEY) := hd 38 (by kernel_rfl)
        have e36 : vs 36 = (.bool true) := hd 36 (by kernel_rfl)
        simp only [e37, e38, e36] at hK ⊢
        clear e37 e38 e36
        go_simp
        refine (without_any (HIu.out.below hM) HLu.out KEY).mono ?_
        rintro e w7 ⟨k7, n7, t7, a17, n17, c17, a27, n27, c27, rfl, h7, b7⟩
        exact hK.out _ _ (with_fact h7) b7
      refine And.intro ?_ ?_
      · intro vs lo hi w' hM hd K' hK
        dsimp only at hK ⊢
        simp only [Act.put, List.setIfInBounds_toArray, List.set_cons_zero, List.set_cons_succ] at hK
        have e36 : vs 36 = (.bool true) := hd 36 (by kernel_rfl)
        simp only [e36] at hK ⊢
        clear e36
        obtain ⟨y0, y1, y2, y3, y4⟩ := HBu.out.keep hM
        go_simp
        exact hK.out _ _ rfl (Below.refl _ _)
      refine And.intro ?_ ?_
      · intro vs lo hi w' hM hd K' hK
        dsimp only at hK ⊢
        simp only [Act.put, List.setIfInBounds_toArray, List.set_cons_zero, List.set_cons_succ] at hK
        obtain ⟨k39, n39, t39, a139, n139, c139, a239, n239, c239, e39, H39⟩ := hd 39 (by kernel_rfl)
        have e40 : vs 40 = (.agg #[.int .i64 uk, .int .i64 un, .string ut, .slice ua1 un1 uc1, .slice ua2 un2 uc2]) := hd 40 (by kernel_rfl)
        have e36 : vs 36 = (.bool true) := hd 36 (by kernel_rfl)
        simp only [e39, e40, e36] at hK ⊢
        clear e39 e40 e36
        go_simp
        refine (same_any H39.out (HIu.out.below hM) HLuu.out (Nat.le_trans HLu.out (by decide)) true ⟨fun _ => HQ1.out, fun _ => rfl⟩).mono ?_
        rintro e w7 ⟨rfl, b7⟩
        exact hK.out _ _ rfl b7
      refine And.intro ?_ ?_
      · intro vs lo hi w' hM hd K' hK
        dsimp only at hK ⊢
        simp only [Act.put, List.setIfInBounds_toArray, List.set_cons_zero, List.set_cons_succ] at hK
        have e36 : vs 36 = (.bool true) := hd 36 (by kernel_rfl)
        have e41 : vs 41 = (.bool true) := hd 41 (by kernel_rfl)
        simp only [e36, e41] at hK ⊢
        clear e36 e41
        go_simp
        exact hK.out _ _ rfl (Below.refl _ _)
      refine And.intro ?_ ?_
      · intro vs lo hi w' hM hd K' hK
        dsimp only at hK ⊢
        simp only [Act.put, List.setIfInBounds_toArray, List.set_cons_zero, List.set_cons_succ] at hK
        have e42 : vs 42 = (.bool true) := hd 42 (by kernel_rfl)
        simp only [e42] at hK ⊢
        clear e42
        go_simp
        exact hK.out _ _ rfl (Below.refl _ _)
      refine And.intro ?_ ?_
      · intro vs lo hi w' hM hd K' hK
        dsimp only at hK ⊢
        simp only [Act.put, List.setIfInBounds_toArray, List.set_cons_zero, List.set_cons_succ] at hK
        have e43 : vs 43 = (.bool true) := hd 43 (by kernel_rfl)
        simp only [e43] at hK ⊢
        clear e43
        obtain ⟨y0, y1, y2, y3, y4⟩ := HBo.out.keep hM
        go_simp
        exact hK.out _ _ rfl (Below.refl _ _)
      refine And.intro ?_ ?_
      · intro vs lo hi w' hM hd K' hK
        dsimp only at hK ⊢
        simp only [Act.put, List.setIfInBounds_toArray, List.set_cons_zero, List.set_cons_succ] at hK
        have e43 : vs 43 = (.bool true) := hd 43 (by kernel_rfl)
        simp only [e43] at hK ⊢
        clear e43
        go_simp
        exact hK.out _ _ rfl (Below.refl _ _)
      refine And.intro ?_ ?_
      · intro vs lo hi w' hM hd K' hK
        dsimp only at hK ⊢
        simp only [Act.put, List.setIfInBounds_toArray, List.set_cons_zero, List.set_cons_succ] at hK
        have e43 : vs 43 = (.bool true) := hd 43 (by kernel_rfl)
        simp only [e43] at hK ⊢
        clear e43
        obtain ⟨y0, y1, y2, y3, y4⟩ := HBx.out.keep hM
        go_simp
        exact hK.out _ _ rfl (Below.refl _ _)
      refine And.intro ?_ ?_
      · intro vs lo hi w' hM hd K' hK
        dsimp only at hK ⊢
        simp only [Act.put, List.setIfInBounds_toArray, List.set_cons_zero, List.set_cons_succ] at hK
        have e44 : vs 44 = (.agg #[.int .i64 ok, .int .i64 on, .string ot, .slice oa1 on1 oc1, .slice oa2 on2 oc2]) := hd 44 (by kernel_rfl)
        have e45 : vs 45 = (.string KEY) := hd 45 (by kernel_rfl)
        have e46 : vs 46 = (.agg #[.int .i64 xk, .int .i64 xn, .string xt, .slice xa1 xn1 xc1, .slice xa2 xn2 xc2]) := hd 46 (by kernel_rfl)
        have e43 : vs 43 = (.bool true) := hd 43 (by kernel_rfl)
        simp only [e44, e45, e46, e43] at hK ⊢
        clear e44 e45 e46 e43
        go_simp
        refine (with_any (HIo.out.below hM) (HIx.out.below hM) HLo.out (Nat.le_trans HLx0.out (by decide)) KEY HLk.out).mono ?_
        rintro e w7 ⟨k7, n7, t7, a17, n17, c17, a27, n27, c27, rfl, h7, b7⟩
        exact hK.out _ _ (with_fact h7) b7
      refine And.intro ?_ ?_
      · intro vs lo hi w' hM hd K' hK
        dsimp only at hK ⊢
        simp only [Act.put, List.setIfInBounds_toArray, List.set_cons_zero, List.set_cons_succ] at hK
        have e43 : vs 43 = (.bool true) := hd 43 (by kernel_rfl)
        simp only [e43] at hK ⊢
        clear e43
        obtain ⟨y0, y1, y2, y3, y4⟩ := HBo.out.keep hM
        go_simp
        exact hK.out _ _ rfl (Below.refl _ _)
      refine And.intro ?_ ?_
      · intro vs lo hi w' hM hd K' hK
        dsimp only at hK ⊢
        simp only [Act.put, List.setIfInBounds_toArray, List.set_cons_zero, List.set_cons_succ] at hK
        obtain ⟨k47, n47, t47, a147, n147, c147, a247, n247, c247, e47, H47⟩ := hd 47 (by kernel_rfl)
        have e48 : vs 48 = (.agg #[.int .i64 ok, .int .i64 on, .string ot, .slice oa1 on1 oc1, .slice oa2 on2 oc2]) := hd 48 (by kernel_rfl)
        have e43 : vs 43 = (.bool true) := hd 43 (by kernel_rfl)
        simp only [e47, e48, e43] at hK ⊢
        clear e47 e48 e43
        go_simp
        refine (same_any H47.out (HIo.out.below hM) HLoo.out (Nat.le_trans HLo.out (by decide)) true ⟨fun _ => HQ2.out, fun _ => rfl⟩).mono ?_
        rintro e w7 ⟨rfl, b7⟩
        exact hK.out _ _ rfl b7
      refine And.intro ?_ ?_
      · intro vs lo hi w' hM hd K' hK
        dsimp only at hK ⊢
        simp only [Act.put, List.setIfInBounds_toArray, List.set_cons_zero, List.set_cons_succ] at hK
        have e43 : vs 43 = (.bool true) := hd 43 (by kernel_rfl)
        have e49 : vs 49 = (.bool true) := hd 49 (by kernel_rfl)
        simp only [e43, e49] at hK ⊢
        clear e43 e49
        go_simp
        exact hK.out _ _ rfl (Below.refl _ _)
      refine And.intro ?_ ?_
      · intro vs lo hi w' hM hd K' hK
        dsimp only at hK ⊢
        simp only [Act.put, List.setIfInBounds_toArray, List.set_cons_zero, List.set_cons_succ] at hK
        have e50 : vs 50 = (.bool true) := hd 50 (by kernel_rfl)
        simp only [e50] at hK ⊢
        clear e50
        go_simp
        exact hK.out _ _ rfl (Below.refl _ _)
      refine And.intro ?_ ?_
      · intro vs lo hi w' hM hd K' hK
        dsimp only at hK ⊢
        simp only [Act.put, List.setIfInBounds_toArray, List.set_cons_zero, List.set_cons_succ] at hK
        have e51 : vs 51 = (.bool true) := hd 51 (by kernel_rfl)
        simp only [e51] at hK ⊢
        clear e51
        obtain ⟨y0, y1, y2, y3, y4⟩ := HBu.out.keep hM
        go_simp
        exact hK.out _ _ rfl (Below.refl _ _)
      refine And.intro ?_ ?_
      · intro vs lo hi w' hM hd K' hK
        dsimp only at hK ⊢
        simp only [Act.put, List.setIfInBounds_toArray, List.set_cons_zero, List.set_cons_succ] at hK
        have e51 : vs 51 = (.bool true) := hd 51 (by kernel_rfl)
        simp only [e51] at hK ⊢
        clear e51
        obtain ⟨y0, y1, y2, y3, y4⟩ := HBv.out.keep hM
        go_simp
        exact hK.out _ _ rfl (Below.refl _ _)
      refine And.intro ?_ ?_
      · intro vs lo hi w' hM hd K' hK
        dsimp only at hK ⊢
        simp only [Act.put, List.setIfInBounds_toArray, List.set_cons_zero, List.set_cons_succ] at hK
        have e51 : vs 51 = (.bool true) := hd 51 (by kernel_rfl)
        simp only [e51] at hK ⊢
        clear e51
        go_simp
        exact hK.out _ _ rfl (Below.refl _ _)
      refine And.intro ?_ ?_
      · intro vs lo hi w' hM hd K' hK
        dsimp only at hK ⊢
        simp only [Act.put, List.setIfInBounds_toArray, List.set_cons_zero, List.set_cons_succ] at hK
        have e53 : vs 53 = (.agg #[.int .i64 5, .int .i64 vn, .string vt, .slice va1 vn1 vc1, .slice va2 vn2 vc2]) := hd 53 (by kernel_rfl)
        have e54 : vs 54 = (.string KEY) := hd 54 (by kernel_rfl)
        have e51 : vs 51 = (.bool true) := hd 51 (by kernel_rfl)
        simp only [e53, e54, e51] at hK ⊢
        clear e53 e54 e51
        go_simp
        refine (without_any (HIv.out.below hM) (Nat.le_trans HLv.out (by decide)) KEY).mono ?_
        rintro e w7 ⟨k7, n7, t7, a17, n17, c17, a27, n27, c27, rfl, h7, b7⟩
        exact hK.out _ _ (with_fact h7) b7
      refine And.intro ?_ ?_
      · intro vs lo hi w' hM hd K' hK
        dsimp only at hK ⊢
        simp only [Act.put, List.setIfInBounds_toArray, List.set_cons_zero, List.set_cons_succ] at hK
        have e52 : vs 52 = (.agg #[.int .i64 uk, .int .i64 un, .string ut, .slice ua1 un1 uc1, .slice ua2 un2 uc2]) := hd 52 (by kernel_rfl)
        obtain ⟨k55, n55, t55, a155, n155, c155, a255, n255, c255, e55, H55⟩ := hd 55 (by kernel_rfl)
        have e51 : vs 51 = (.bool true) := hd 51 (by kernel_rfl)
        simp only [e52, e55, e51] at hK ⊢
        clear e52 e55 e51
        go_simp
        refine (same_any (HIu.out.below hM) H55.out (Nat.le_trans HLu.out (by decide)) (Nat.le_trans HLu.out (by decide)) true ⟨fun _ => rfl, fun _ => rfl⟩).mono ?_
        rintro e w7 ⟨rfl, b7⟩
        exact hK.out _ _ rfl b7
      refine And.intro ?_ ?_
      · intro vs lo hi w' hM hd K' hK
        dsimp only at hK ⊢
        simp only [Act.put, List.setIfInBounds_toArray, List.set_cons_zero, List.set_cons_succ] at hK
        have e51 : vs 51 = (.bool true) := hd 51 (by kernel_rfl)
        have e56 : vs 56 = (.bool true) := hd 56 (by kernel_rfl)
        simp only [e51, e56] at hK ⊢
        clear e51 e56
        go_simp
        exact hK.out _ _ rfl (Below.refl _ _)
      exact trivial
    case last =>
      intro vs lo hi w' hM hlo hap hall K' Q' hK
      have h57 : vs 57 = .bool true := hall.2.2.2.2.2.2.2.2.2.2.2.2.2.2.2.2.2.2.2.2.2.2.2.2.2.2.2.2.2.2.2.2.2.2.2.2.2.2.2.2.2.2.2.2.2.2.2.2.2.2.2.2.2.2.2.2.2.1
      dsimp only
      simp only [h57]
      clear h57 hall hap hlo
      go_simp
      refine hK.out _ _ ?_
      clear hK
      go_wp2_with fail
      go_ret
      exact ⟨rfl, bthen HT.out hM⟩

end Go.Proofs.Yteijnkdfacndoaa
