/-
  What this claim takes of the earlier layers' texts: XRed CBuild CPrint CPrintB.
-/
import Derived.Test.YtapcmbbhhclepaaGreatDoorS17
import Derived.Shelf.Strings.Builder1
import Derived.Lib.Builder
import Derived.Lib.AppendStr
import Derived.Lib.AppendZeros
import Derived.OwnWalk
import Derived.BigRegion
import Derived.Test.YtapcmbbhhclepaaGreatDoorChecked
set_option linter.unusedVariables false
set_option linter.unusedSimpArgs false
set_option maxRecDepth 100000
namespace Go.Proofs.YtapcmbbhhclepaaGreatDoor
open Go.RowKit
def EvF : Fact := fun lo hi v w => ∃ a,v = .slice a 10 10 ∧ Hid (Strs w (fun _ => True) (.slice a 10 10) lEvent)
theorem mono_ev : Mono EvF := by
  rintro lo hi v w w' ⟨a,h1,h2⟩ b
  exact ⟨a,h1,hide (h2.out.below b)⟩
def TakenF (B : Nat) (x : V) : Fact := fun lo hi v w => ∃ ka kn kc la ln lc,v = .agg #[.int .i64 5,.int .i64 0,.string ⟨#[]⟩,.slice ka kn kc,.slice la ln lc] ∧ Hid (Is w (fun b => b < B ∨ (lo ≤ b ∧ b < hi)) (.agg #[.int .i64 5,.int .i64 0,.string ⟨#[]⟩,.slice ka kn kc,.slice la ln lc]) x)
theorem mono_taken (B : Nat) (x : V) : Mono (TakenF B x) := by
  rintro lo hi v w w' ⟨a1,a2,a3,a4,a5,a6,h1,h2⟩ b
  exact ⟨a1,a2,a3,a4,a5,a6,h1,hide (h2.out.below b)⟩
def AnyF (x : V) : Fact := fun lo hi v w => ∃ k n t a1 n1 c1 a2 n2 c2,v = .agg #[.int .i64 k,.int .i64 n,.string t,.slice a1 n1 c1,.slice a2 n2 c2] ∧ Hid (Is w (fun _ => True) (.agg #[.int .i64 k,.int .i64 n,.string t,.slice a1 n1 c1,.slice a2 n2 c2]) x)
theorem mono_any (x : V) : Mono (AnyF x) := by
  rintro lo hi v w w' ⟨k,n,t,a1,n1,c1,a2,n2,c2,h1,h2⟩ b
  exact ⟨k,n,t,a1,n1,c1,a2,n2,c2,h1,hide (h2.out.below b)⟩
def BoxZ : Fact := fun lo hi v w => v = .pointer (some ⟨lo,0,none⟩) ∧ lo < hi ∧ Hid (B5 w lo (.int .i64 0) (.int .i64 0) (.string ⟨#[]⟩) (.slice none 0 0) (.slice none 0 0))
theorem mono_boxZ : Mono BoxZ := by
  rintro lo hi v w w' ⟨h1,h2,h3⟩ b
  exact ⟨h1,h2,hide (h3.out.keep b)⟩
theorem boxZ_fact (w : World) : BoxZ w.heap.size (w.alloc (.cells #[.int .i64 0,.int .i64 0,.string ⟨#[]⟩,.slice none 0 0,.slice none 0 0] 27)).heap.size (.pointer (some ⟨w.heap.size,0,none⟩)) (w.alloc (.cells #[.int .i64 0,.int .i64 0,.string ⟨#[]⟩,.slice none 0 0,.slice none 0 0] 27)) :=
  ⟨rfl,by simp,hide (b5_new _ _ _ _ _ _ _ rfl)⟩
theorem keeps_chain {S : Nat → Prop} {w : World} {g : Nat} (h : ¬ S g) (v0 v1 v2 v3 v4 : Value) : Keeps S w (((((w.setCell ⟨g,0,none⟩ v0).setCell ⟨g,1,none⟩ v1).setCell ⟨g,2,none⟩ v2).setCell ⟨g,3,none⟩ v3).setCell ⟨g,4,none⟩ v4) := fun b hb _ => by
  have hne : ∀ o : Nat,b ≠ (⟨g,o,none⟩ : Addr).block := fun o e => h (by simp only at e; rw [← e]; exact hb)
  rw [Below.heap_setCell _ _ _ _ (hne 4),Below.heap_setCell _ _ _ _ (hne 3),Below.heap_setCell _ _ _ _ (hne 2),Below.heap_setCell _ _ _ _ (hne 1),Below.heap_setCell _ _ _ _ (hne 0)]
set_option maxHeartbeats 4000000 in
theorem redact_any {v : Value} {x : V} {w : World} {S : Nat → Prop} (h : Is w S v x) (hwt : V.wt x ≤ 100000000) :
    Calls Tryz.prog 18 #[v] w fun e w' => ∃ k n t a1 n1 c1 a2 n2 c2,e = .returned (.agg #[.int .i64 k,.int .i64 n,.string t,.slice a1 n1 c1,.slice a2 n2 c2]) ∧ Is w' (fun b => w.heap.size ≤ b) (.agg #[.int .i64 k,.int .i64 n,.string t,.slice a1 n1 c1,.slice a2 n2 c2]) (Xr.redact x) ∧ Below w.heap.size w w' := by
  obtain ⟨kv,lv,rfl,h2,h8,_⟩ := id h.open
  obtain ⟨a1,c1,rfl,_⟩ := id h2
  obtain ⟨a2,c2,_,rfl,_⟩ := id h8
  clear h2 h8
  have HW : Hid (V.wt x ≤ 4294967296) := hide (by omega)
  have HWT := hide hwt
  clear hwt
  have bA := below_alloc w (.cells #[.int .i64 x.kind,.int .i64 x.num,.string x.text,.slice a1 x.keys.length c1,.slice a2 x.list.length c2] 27)
  have bB := below_alloc (w.alloc (.cells #[.int .i64 x.kind,.int .i64 x.num,.string x.text,.slice a1 x.keys.length c1,.slice a2 x.list.length c2] 27)) (.cells #[.int .i64 0,.int .i64 0,.string ⟨#[]⟩,.slice none 0 0,.slice none 0 0] 27)
  have b0 := bthen bA bB
  have h' := h.weak (S' := fun b => b < w.heap.size) (fun b hb _ => hb)
  have HI := hide (h'.below b0)
  have B0 := hide b0
  have x0 := hide ((b5_new w (.int .i64 x.kind) (.int .i64 x.num) (.string x.text) (.slice a1 x.keys.length c1) (.slice a2 x.list.length c2) w.heap.size rfl).keep bB)
  have u0 := hide (b5_new (w.alloc (.cells #[.int .i64 x.kind,.int .i64 x.num,.string x.text,.slice a1 x.keys.length c1,.slice a2 x.list.length c2] 27)) (.int .i64 0) (.int .i64 0) (.string ⟨#[]⟩) (.slice none 0 0) (.slice none 0 0) (w.heap.size + 1) (by simp))
  have n0 : Hid (w.heap.size + 2 ≤ ((w.alloc (.cells #[.int .i64 x.kind,.int .i64 x.num,.string x.text,.slice a1 x.keys.length c1,.slice a2 x.list.length c2] 27)).alloc (.cells #[.int .i64 0,.int .i64 0,.string ⟨#[]⟩,.slice none 0 0,.slice none 0 0] 27)).heap.size) := hide (by simp)
  obtain ⟨w0,hw0⟩ : ∃ w0,w0 = (w.alloc (.cells #[.int .i64 x.kind,.int .i64 x.num,.string x.text,.slice a1 x.keys.length c1,.slice a2 x.list.length c2] 27)).alloc (.cells #[.int .i64 0,.int .i64 0,.string ⟨#[]⟩,.slice none 0 0,.slice none 0 0] 27) := ⟨_,rfl⟩
  rw [← hw0] at B0 HI x0 u0 n0
  have W0 := hide hw0
  clear bA bB b0 h h' hw0
  obtain ⟨p0,p1,p2,p3,p4⟩ := x0.out.cells
  by_cases h5 : x.kind = 5
  · have hR : Xr.redact x = if (Xr.content x).kind = 5 then V.withV (Xr.taken x lEvent) kContent (Xr.ofContent (Xr.content x) (Xr.kindOf x)) else Xr.taken x lEvent := by unfold Xr.redact; rw [if_pos h5]
    rw [hR]
    have H5 := hide h5
    have hcy : (V.get x kContent).getD V.nul = Xr.content x := rfl
    have hyw : V.wt (Xr.content x) ≤ V.wt x := Xr.wt_content x
    generalize Xr.content x = y at hcy hyw ⊢
    have HCY := hide hcy
    have HYW := hide hyw
    clear hcy hyw
    obtain ⟨R,hRR⟩ : ∃ R,(if y.kind = 5 then V.withV (Xr.taken x lEvent) kContent (Xr.ofContent y (Xr.kindOf x)) else Xr.taken x lEvent) = R := ⟨_,rfl⟩
    rw [hRR]
    have HRR := hide hRR
    clear hRR hR h5
    go_enter Tryz.func18,Tryz.ntmps18
    go_upto_region 1 with fail
    rw [← W0.out]
    have h5 := H5.out
    go_upto_region 3 with fail
    clear p0 p1 p2 p3 p4 h5
    refine' wp_region_facts [(fun _ _ v _ => v = (.agg #[.int .i64 x.kind,.int .i64 x.num,.string x.text,.slice a1 x.keys.length c1,.slice a2 x.list.length c2])),EvF,(TakenF w.heap.size (Xr.taken x lEvent)),BoxZ] (by kernel_rfl) rfl ?hA (by kernel_rfl) (by kernel_rfl) (by kernel_rfl) rfl ?mono ?steps ?last
    case hA =>
      intro vs
      simp only [puts,Act.put,List.setIfInBounds_toArray,List.set_cons_zero,List.set_cons_succ,Nat.zero_add,Nat.reduceAdd]
      rfl
    case mono => exact ⟨mono_eq _,mono_ev,mono_taken _ _,mono_boxZ,trivial⟩
    case steps =>
      intro Q'
      refine And.intro ?_ ?_
      · intro vs lo hi w' hM hd K' hK
        dsimp only at hK ⊢
        simp only [Act.put,List.setIfInBounds_toArray,List.set_cons_zero,List.set_cons_succ] at hK
        obtain ⟨p0,p1,p2,p3,p4⟩ := (x0.out.keep hM).cells
        go_simp
        exact hK.out _ _ rfl (Below.refl _ _)
      refine And.intro ?_ ?_
      · intro vs lo hi w' hM hd K' hK
        dsimp only at hK ⊢
        simp only [Act.put,List.setIfInBounds_toArray,List.set_cons_zero,List.set_cons_succ] at hK
        go_simp
        refine (ofEvent_any _).mono ?_
        rintro e w7 ⟨a7,rfl,hs,b7⟩
        exact hK.out _ _ ⟨_,rfl,hide (hs.weak (fun _ _ _ => trivial))⟩ b7
      refine And.intro ?_ ?_
      · intro vs lo hi w' hM hd K' hK
        dsimp only at hK ⊢
        simp only [Act.put,List.setIfInBounds_toArray,List.set_cons_zero,List.set_cons_succ] at hK
        have e0 : vs 0 = (.agg #[.int .i64 x.kind,.int .i64 x.num,.string x.text,.slice a1 x.keys.length c1,.slice a2 x.list.length c2]) := hd 0 (by kernel_rfl)
        obtain ⟨a1,e1,HS1⟩ := hd 1 (by kernel_rfl)
        simp only [e0,e1] at hK ⊢
        clear e0 e1
        go_simp
        refine (taken_any _ _ _ _ _ _ _ _ _ x lEvent _ _ _ _ w.heap.size (fun _ => True) (by have h1 := n0.out; have h2 := hM.size; omega) (HI.out.below hM) HW.out HS1.out).mono ?_
        rintro e w7 ⟨ka,kn,kc,la,ln,lc,rfl,hT,b7⟩
        exact hK.out _ _ ⟨_,_,_,_,_,_,rfl,hide (hT.weak (fun b hb hs => hs.elim .inl (fun h => .inr ⟨h,hb⟩)))⟩ b7
      refine And.intro ?_ ?_
      · intro vs lo hi w' hM hd K' hK
        dsimp only at hK ⊢
        simp only [Act.put,List.setIfInBounds_toArray,List.set_cons_zero,List.set_cons_succ] at hK
        go_simp
        exact hK.out _ _ (boxZ_fact _) (below_alloc _ _)
      exact trivial
    case last =>
      intro vs lo hi w' hM hlo hap hall K' Q' hK
      obtain ⟨_,_,h2,h3,_⟩ := hall
      obtain ⟨ka,kn,kc,la,ln,lc,e2,HT⟩ := h2
      obtain ⟨e3,hlt,HBX⟩ := h3
      have hap' := hap 2 3 (by decide) (by decide) (by decide)
      have hz3 := (hlo 3 (by decide)).1
      have hh3 := (hlo 3 (by decide)).2
      dsimp only
      simp only [e2,e3]
      generalize lo 3 = g3 at HBX hlt hap' hz3 ⊢
      generalize hi 3 = gh at hlt hap' hh3
      clear e2 e3 hap hlo
      obtain ⟨y0,y1,y2,y3,y4⟩ := HBX.out.cells
      have fu0 := HBX.out.free 0
      have fu1 := HBX.out.free 1
      have fu2 := HBX.out.free 2
      have fu3 := HBX.out.free 3
      have fu4 := HBX.out.free 4
      go_simp
      refine hK.out _ _ ?_
      clear y0 y1 y2 y3 y4 fu0 fu1 fu2 fu3 fu4 hK
      have hn0 := n0.out
      have hx : w.heap.size < g3 := by omega
      have hx1 : w.heap.size + 1 < g3 := by omega
      have B3 := hide (HBX.out.all (.int .i64 5) (.int .i64 0) (.string ⟨#[]⟩) (.slice ka kn kc) (.slice la ln lc))
      have X3 := hide ((x0.out.keep hM).past5 (g' := g3) (by omega) (.int .i64 5) (.int .i64 0) (.string ⟨#[]⟩) (.slice ka kn kc) (.slice la ln lc))
      have U3 := hide ((u0.out.keep hM).past5 (g' := g3) (by omega) (.int .i64 5) (.int .i64 0) (.string ⟨#[]⟩) (.slice ka kn kc) (.slice la ln lc))
      have K3 : ∀ {S : Nat → Prop},¬ S g3 → Keeps S w' (((((w'.setCell ⟨g3,0,none⟩ (.int .i64 5)).setCell ⟨g3,1,none⟩ (.int .i64 0)).setCell ⟨g3,2,none⟩ (.string ⟨#[]⟩)).setCell ⟨g3,3,none⟩ (.slice ka kn kc)).setCell ⟨g3,4,none⟩ (.slice la ln lc)) := fun hS => keeps_chain hS _ _ _ _ _
      have I3 := hide ((HI.out.below hM).keep (K3 (by show ¬ (g3 < w.heap.size); omega)))
      have T3 := hide (HT.out.keep (K3 (by show ¬ (g3 < w.heap.size ∨ (lo 2 ≤ g3 ∧ g3 < hi 2)); omega)))
      have L3 := hide (bthen B0.out (hM.trans (below5 (by omega) (.int .i64 5) (.int .i64 0) (.string ⟨#[]⟩) (.slice ka kn kc) (.slice la ln lc))))
      have N3 : Hid (g3 < (((((w'.setCell ⟨g3,0,none⟩ (.int .i64 5)).setCell ⟨g3,1,none⟩ (.int .i64 0)).setCell ⟨g3,2,none⟩ (.string ⟨#[]⟩)).setCell ⟨g3,3,none⟩ (.slice ka kn kc)).setCell ⟨g3,4,none⟩ (.slice la ln lc)).heap.size) := hide (by simp; omega)
      clear K3 hap' hlt hh3 HT HBX
      generalize (((((w'.setCell ⟨g3,0,none⟩ (.int .i64 5)).setCell ⟨g3,1,none⟩ (.int .i64 0)).setCell ⟨g3,2,none⟩ (.string ⟨#[]⟩)).setCell ⟨g3,3,none⟩ (.slice ka kn kc)).setCell ⟨g3,4,none⟩ (.slice la ln lc)) = w3 at B3 X3 U3 I3 T3 L3 N3 ⊢
      clear hM x0 u0 HI B0
      obtain ⟨p0,p1,p2,p3,p4⟩ := X3.out.cells
      go_wp2_with fail
      clear p0 p1 p2 p3 p4
      refine (getX_all I3.out kContent HW.out).mono ?_
      rintro e w4 ⟨k,n,t,d1,n1,e1,d2,n2,e2,is,rfl,_,his,b4⟩
      rw [HCY.out] at his
      obtain ⟨kv,lv,hv,hks,hls,_⟩ := his.open
      obtain ⟨ax,cx,hks2,_⟩ := hks
      obtain ⟨ay,cy,_,hls2,_⟩ := hls
      subst hks2 hls2
      simp only [Value.agg.injEq,Array.mk.injEq,List.cons.injEq,and_true,Value.int.injEq,Value.string.injEq,true_and,Value.slice.injEq] at hv
      obtain ⟨rfl,rfl,rfl,⟨rfl,rfl,rfl⟩,rfl,rfl,rfl⟩ := hv
      have b45 := below_alloc w4 (.cells #[.int .i64 y.kind,.int .i64 y.num,.string y.text,.slice d1 y.keys.length e1,.slice d2 y.list.length e2] 27)
      have b5 := bthen b4 b45
      have X5 := hide (X3.out.keep b5)
      have U5 := hide (U3.out.keep b5)
      have B5b := hide (B3.out.keep b5)
      have I5 := hide (I3.out.below b5)
      have T5 := hide (T3.out.below b5)
      have L5 := hide (bthen L3.out b5)
      have YI := hide (his.below b45)
      have Y5 := hide (b5_new w4 (.int .i64 y.kind) (.int .i64 y.num) (.string y.text) (.slice d1 y.keys.length e1) (.slice d2 y.list.length e2) _ rfl)
      have N5 : Hid (w.heap.size + 2 ≤ (w4.alloc (.cells #[.int .i64 y.kind,.int .i64 y.num,.string y.text,.slice d1 y.keys.length e1,.slice d2 y.list.length e2] 27)).heap.size) := hide (by have := b4.size; have := N3.out; simp; omega)
      have N5b : Hid (g3 < (w4.alloc (.cells #[.int .i64 y.kind,.int .i64 y.num,.string y.text,.slice d1 y.keys.length e1,.slice d2 y.list.length e2] 27)).heap.size) := hide (by have := b4.size; have := N3.out; simp; omega)
      have YW : Hid (V.wt y ≤ 4294967296) := hide (by have := HW.out; have := HYW.out; omega)
      have KM : Hid ((Xr.kindOf x).size ≤ maxLen) := hide (by have := Xr.kindOf_size x; have := HW.out; unfold maxLen; omega)
      have TW : Hid (V.wt (Xr.taken x lEvent) ≤ 1000000000) := hide (by have := Xr.wt_taken x lEvent; have := HWT.out; omega)
      have OW : Hid (V.wt (Xr.ofContent y (Xr.kindOf x)) ≤ 1000000000) := hide (by have := Xr.wt_ofContent y (Xr.kindOf x); have := HWT.out; have := HYW.out; omega)
      clear b45 b5 b4 his hx hx1 hz3 hn0
      go_upto_region 5 with fail
      generalize w4.alloc (.cells #[.int .i64 y.kind,.int .i64 y.num,.string y.text,.slice d1 y.keys.length e1,.slice d2 y.list.length e2] 27) = w5 at X5 U5 B5b I5 T5 L5 YI Y5 N5 N5b ⊢
      generalize w4.heap.size = g4 at Y5 ⊢
      by_cases hc : y.kind = 5
      · have hRR := HRR.out
        rw [if_pos hc] at hRR
        have HC := hide hc
        have HRS := hide hRR
        clear hRR
        obtain ⟨p0,p1,p2,p3,p4⟩ := Y5.out.cells
        go_upto_region 7 with fail
        clear p0 p1 p2 p3 p4 hc
        refine' wp_region_facts [(fun _ _ v _ => v = (.agg #[.int .i64 5,.int .i64 0,.string ⟨#[]⟩,.slice ka kn kc,.slice la ln lc])),(fun _ _ v _ => v = (.agg #[.int .i64 y.kind,.int .i64 y.num,.string y.text,.slice d1 y.keys.length e1,.slice d2 y.list.length e2])),(fun _ _ v _ => v = (.agg #[.int .i64 x.kind,.int .i64 x.num,.string x.text,.slice a1 x.keys.length c1,.slice a2 x.list.length c2])),(fun _ _ v _ => v = (.string (Xr.kindOf x))),(AnyF (Xr.ofContent y (Xr.kindOf x))),(WithF (V.withV (Xr.taken x lEvent) kContent (Xr.ofContent y (Xr.kindOf x))))] (by kernel_rfl) rfl ?hA (by kernel_rfl) (by kernel_rfl) (by kernel_rfl) rfl ?mono ?steps ?last
        case hA =>
          intro vs
          simp only [puts,Act.put,List.setIfInBounds_toArray,List.set_cons_zero,List.set_cons_succ,Nat.zero_add,Nat.reduceAdd]
          rfl
        case mono => exact ⟨mono_eq _,mono_eq _,mono_eq _,mono_eq _,mono_any _,mono_with _,trivial⟩
        case steps =>
          intro Q'
          refine And.intro ?_ ?_
          · intro vs lo hi w' hM hd K' hK
            dsimp only at hK ⊢
            simp only [Act.put,List.setIfInBounds_toArray,List.set_cons_zero,List.set_cons_succ] at hK
            obtain ⟨p0,p1,p2,p3,p4⟩ := (B5b.out.keep hM).cells
            go_simp
            exact hK.out _ _ rfl (Below.refl _ _)
          refine And.intro ?_ ?_
          · intro vs lo hi w' hM hd K' hK
            dsimp only at hK ⊢
            simp only [Act.put,List.setIfInBounds_toArray,List.set_cons_zero,List.set_cons_succ] at hK
            obtain ⟨p0,p1,p2,p3,p4⟩ := (Y5.out.keep hM).cells
            go_simp
            exact hK.out _ _ rfl (Below.refl _ _)
          refine And.intro ?_ ?_
          · intro vs lo hi w' hM hd K' hK
            dsimp only at hK ⊢
            simp only [Act.put,List.setIfInBounds_toArray,List.set_cons_zero,List.set_cons_succ] at hK
            obtain ⟨p0,p1,p2,p3,p4⟩ := (X5.out.keep hM).cells
            go_simp
            exact hK.out _ _ rfl (Below.refl _ _)
          refine And.intro ?_ ?_
          · intro vs lo hi w' hM hd K' hK
            dsimp only at hK ⊢
            simp only [Act.put,List.setIfInBounds_toArray,List.set_cons_zero,List.set_cons_succ] at hK
            have e2 : vs 2 = (.agg #[.int .i64 x.kind,.int .i64 x.num,.string x.text,.slice a1 x.keys.length c1,.slice a2 x.list.length c2]) := hd 2 (by kernel_rfl)
            simp only [e2] at hK ⊢
            clear e2
            go_simp
            refine (kindOf_any (I5.out.below hM) HW.out).mono ?_
            rintro e w7 ⟨rfl,b7⟩
            exact hK.out _ _ rfl b7
          refine And.intro ?_ ?_
          · intro vs lo hi w' hM hd K' hK
            dsimp only at hK ⊢
            simp only [Act.put,List.setIfInBounds_toArray,List.set_cons_zero,List.set_cons_succ] at hK
            have e1 : vs 1 = (.agg #[.int .i64 y.kind,.int .i64 y.num,.string y.text,.slice d1 y.keys.length e1,.slice d2 y.list.length e2]) := hd 1 (by kernel_rfl)
            have e3 : vs 3 = (.string (Xr.kindOf x)) := hd 3 (by kernel_rfl)
            simp only [e1,e3] at hK ⊢
            clear e1 e3
            go_simp
            refine (ofContent_any (YI.out.below hM) YW.out (Xr.kindOf x) KM.out).mono ?_
            rintro e w7 ⟨k7,n7,t7,a17,n17,c17,a27,n27,c27,rfl,h7,b7⟩
            exact hK.out _ _ ⟨_,_,_,_,_,_,_,_,_,rfl,hide h7⟩ b7
          refine And.intro ?_ ?_
          · intro vs lo hi w' hM hd K' hK
            dsimp only at hK ⊢
            simp only [Act.put,List.setIfInBounds_toArray,List.set_cons_zero,List.set_cons_succ] at hK
            have e0 : vs 0 = (.agg #[.int .i64 5,.int .i64 0,.string ⟨#[]⟩,.slice ka kn kc,.slice la ln lc]) := hd 0 (by kernel_rfl)
            obtain ⟨k4,n4,t4,a14,n14,c14,a24,n24,c24,e4,H4⟩ := hd 4 (by kernel_rfl)
            simp only [e0,e4] at hK ⊢
            clear e0 e4
            go_simp
            refine (with_any (T5.out.below hM) H4.out TW.out OW.out kContent (by decide)).mono ?_
            rintro e w7 ⟨k7,n7,t7,a17,n17,c17,a27,n27,c27,rfl,h7,b7⟩
            exact hK.out _ _ (with_fact h7) b7
          exact trivial
        case last =>
          intro vs lo hi w' hM hlo hap hall K' Q' hK
          obtain ⟨_,_,_,_,_,h5',_⟩ := hall
          obtain ⟨k5,n5,t5,a15,n15,c15,a25,n25,c25,e5',H5⟩ := h5'
          have hz5 := (hlo 5 (by decide)).1
          dsimp only
          simp only [e5']
          clear e5' hap hlo
          obtain ⟨y0,y1,y2,y3,y4⟩ := (U5.out.keep hM).cells
          have fu0 := (U5.out.keep hM).free 0
          have fu1 := (U5.out.keep hM).free 1
          have fu2 := (U5.out.keep hM).free 2
          have fu3 := (U5.out.keep hM).free 3
          have fu4 := (U5.out.keep hM).free 4
          go_simp
          refine hK.out _ _ ?_
          clear hK
          try go_wp2_with fail
          have hu := (U5.out.keep hM).all (.int .i64 k5) (.int .i64 n5) (.string t5) (.slice a15 n15 c15) (.slice a25 n25 c25)
          clear y0 y1 y2 y3 y4 fu0 fu1 fu2 fu3 fu4
          obtain ⟨p0,p1,p2,p3,p4⟩ := hu.cells
          have l5 := L5.out.size
          have n5' := N5.out
          refine bodyPost_ret (v := .agg #[.int .i64 k5,.int .i64 n5,.string t5,.slice a15 n15 c15,.slice a25 n25 c25]) (by simp [results,Tryz.results18,go_sem,p0,p1,p2,p3,p4]) rfl ⟨_,_,_,_,_,_,_,_,_,rfl,?_,(bthen L5.out hM).trans (below5 (by omega) _ _ _ _ _)⟩
          rw [← HRS.out]
          exact (H5.out.keep (keeps_chain (by show ¬ (lo 5 ≤ w.heap.size + 1 ∧ w.heap.size + 1 < hi 5); omega) _ _ _ _ _)).weak (fun b _ hb => by have h1 : lo 5 ≤ b := hb.1; show w.heap.size ≤ b; omega)
      · have hRR := HRR.out
        rw [if_neg hc] at hRR
        obtain ⟨p0,p1,p2,p3,p4⟩ := Y5.out.cells
        obtain ⟨q0,q1,q2,q3,q4⟩ := B5b.out.cells
        go_wp2_with fail
        clear p0 p1 p2 p3 p4 q0 q1 q2 q3 q4
        refine (copy_any T5.out (Nat.le_trans TW.out (by decide))).mono ?_
        rintro e w6 ⟨k5,n5,t5,a15,n15,c15,a25,n25,c25,rfl,h7,b7⟩
        have U6 := hide (U5.out.keep b7)
        obtain ⟨q0,q1,q2,q3,q4⟩ := U6.out.cells
        have fu0 := U6.out.free 0
        have fu1 := U6.out.free 1
        have fu2 := U6.out.free 2
        have fu3 := U6.out.free 3
        have fu4 := U6.out.free 4
        go_wp2_with fail
        have hu := U6.out.all (.int .i64 k5) (.int .i64 n5) (.string t5) (.slice a15 n15 c15) (.slice a25 n25 c25)
        clear q0 q1 q2 q3 q4 fu0 fu1 fu2 fu3 fu4
        obtain ⟨p0,p1,p2,p3,p4⟩ := hu.cells
        have n5' := N5.out
        have l5 := b7.size
        refine bodyPost_ret (v := .agg #[.int .i64 k5,.int .i64 n5,.string t5,.slice a15 n15 c15,.slice a25 n25 c25]) (by simp [results,Tryz.results18,go_sem,p0,p1,p2,p3,p4]) rfl ⟨_,_,_,_,_,_,_,_,_,rfl,?_,(bthen L5.out b7).trans (below5 (by omega) _ _ _ _ _)⟩
        rw [← hRR]
        exact (h7.keep (keeps_chain (by show ¬ (w5.heap.size ≤ w.heap.size + 1); omega) _ _ _ _ _)).weak (fun b _ hb => by have h1 : w5.heap.size ≤ b := hb; show w.heap.size ≤ b; omega)
  · have hR : Xr.redact x = V.nul := by unfold Xr.redact; rw [if_neg h5]
    rw [hR]
    have H5 := hide h5
    clear hR h5
    go_enter Tryz.func18,Tryz.ntmps18
    go_upto_region 1 with fail
    rw [← W0.out]
    have h5 := H5.out
    obtain ⟨q0,q1,q2,q3,q4⟩ := u0.out.cells
    have fu0 := u0.out.free 0
    have fu1 := u0.out.free 1
    have fu2 := u0.out.free 2
    have fu3 := u0.out.free 3
    have fu4 := u0.out.free 4
    go_wp2_with fail
    have hu := u0.out.all (.int .i64 0) (.int .i64 0) (.string ⟨#[]⟩) (.slice none 0 0) (.slice none 0 0)
    clear q0 q1 q2 q3 q4 fu0 fu1 fu2 fu3 fu4 p0 p1 p2 p3 p4
    obtain ⟨p0,p1,p2,p3,p4⟩ := hu.cells
    refine bodyPost_ret (v := .agg #[.int .i64 0,.int .i64 0,.string ⟨#[]⟩,.slice none 0 0,.slice none 0 0]) (by simp [results,Tryz.results18,go_sem,p0,p1,p2,p3,p4]) rfl ⟨_,_,_,_,_,_,_,_,_,rfl,is_plain _ _ 0 0 ⟨#[]⟩ (by decide),B0.out.trans (below5 (by omega) _ _ _ _ _)⟩
end Go.Proofs.YtapcmbbhhclepaaGreatDoor
namespace Go.Proofs.YtapcmbbhhclepaaGreatDoor
open Go.RowKit
abbrev Pr (B b : Nat) (l : List UInt8) (W : World) : Prop := Lib.IsBuilder 84 5 B b (Lib.byteCells l) W
theorem pr_info : (Tryz.prog.info? 5).map (fun i => (i.zero,i.size,i.bytes)) = some (some (.int .u8 0),1,1) := by kernel_rfl
theorem pr_size : (Tryz.prog.info? 82).map (·.size) = some 2 := by kernel_rfl
theorem pr_lies : liesAt Tryz.prog Tryz.prog.depth 84 (2 / Tryz.prog.cellsOf 84) 0 82 1 = true := by kernel_rfl
theorem pr_ne : (84 : TypeId) ≠ 5 := by decide
def Oth (b : Nat) (w w' : World) : Prop := ∀ k cs T fr,w.heap[k]? = some (.cells cs T fr) → T ≠ 5 → k ≠ b → w'.heap[k]? = w.heap[k]?
def Pw (B b : Nat) (w w' : World) : Prop := Below B w w' ∧ Oth b w w'
theorem Oth.refl (b : Nat) (w : World) : Oth b w w := fun _ _ _ _ _ _ _ => rfl
theorem Oth.trans {b : Nat} {w w1 w2 : World} (h : Oth b w w1) (k : Oth b w1 w2) : Oth b w w2 := fun i cs T fr hi hT hb => by
  have e := h i cs T fr hi hT hb
  rw [k i cs T fr (by rw [e]; exact hi) hT hb,e]
theorem Oth.of_below {b : Nat} {w w' : World} (h : Below w.heap.size w w') : Oth b w w' := fun i cs T fr hi _ _ => h.block i (Array.getElem?_eq_some_iff.1 hi).1
theorem Oth.grown {b B : Nat} {w w' : World} {v : Value} {n : Nat} {xs : List Value} (hown : w.ownsRow B 5 1 v n xs) (h : w.grownBy w' v.ownBlock) : Oth b w w' := fun i cs T fr hi hT _ =>
  h.block i (Array.getElem?_eq_some_iff.1 hi).1 (fun e => Lib.ownBlock_ne hown hi hT e.symm)
theorem Oth.set {b : Nat} (w : World) (o : Nat) (v : Value) : Oth b w (w.setCell ⟨b,o,none⟩ v) := fun i cs T fr hi hT hb => by
  simp only [World.setCell]
  rw [Array.getElem?_modify,if_neg (fun e => hb e.symm)]
theorem Pw.refl (B b : Nat) (w : World) : Pw B b w w := ⟨Below.refl B w,Oth.refl b w⟩
theorem Pw.trans {B b : Nat} {w w1 w2 : World} (h : Pw B b w w1) (k : Pw B b w1 w2) : Pw B b w w2 := ⟨h.1.trans k.1,h.2.trans k.2⟩
theorem Pw.of_below {B b : Nat} {w w' : World} (h : Below w.heap.size w w') (hB : B ≤ w.heap.size) : Pw B b w w' := ⟨h.mono hB,Oth.of_below h⟩
set_option maxHeartbeats 1000000 in
set_option maxRecDepth 100000 in
theorem pCheck_used (b : Nat) (w : World) (h0 : w.cell? ⟨b,0,none⟩ = some (.pointer (some ⟨b,0,none⟩))) :
    Calls Tryz.prog 116 #[.pointer (some ⟨b,0,none⟩)] w fun e w' => e = .returned (.tuple #[]) ∧ w' = w := by
  obtain ⟨j,hj,hjs⟩ := Option.map_eq_some_iff.1 pr_size
  go_enter Tryz.func116,Tryz.ntmps116
  go_wp2
  rw [Lib.run_neq_ptr_same w _ Tryz.underlying80 hj]
  go_wp2
  go_end0
  exact ⟨rfl,rfl⟩
set_option maxHeartbeats 1000000 in
set_option maxRecDepth 100000 in
theorem pCheck_fresh (b : Nat) (w : World) (h0 : w.cell? ⟨b,0,none⟩ = some (.pointer none)) (hsh : w.shape? b = some (84,2)) (hfz : w.frozen? ⟨b,0,none⟩ = false) :
    Calls Tryz.prog 116 #[.pointer (some ⟨b,0,none⟩)] w fun e w' => e = .returned (.tuple #[]) ∧ w' = w.setCell ⟨b,0,none⟩ (.pointer (some ⟨b,0,none⟩)) := by
  obtain ⟨j,hj,hjs⟩ := Option.map_eq_some_iff.1 pr_size
  go_enter Tryz.func116,Tryz.ntmps116
  go_wp2
  rw [Lib.run_to_unsafe w ⟨b,0,none⟩ Tryz.underlying80 Tryz.underlying143 hj (by rw [hjs]; decide) hsh (Nat.zero_lt_succ 1)]
  simp only [Result.andThen]
  rw [Oper.upon_value]
  go_wp2
  rw [run_callFunc_extern Tryz.func136 (by kernel_rfl) (by kernel_rfl) (by kernel_rfl) (e := Extern.AbiNoEscape.same) (by kernel_rfl)]
  rw [Lib.run_noEscape]
  simp only [Result.andThen]
  rw [Oper.upon_value]
  go_wp2
  rw [Lib.run_from_unsafe w ⟨b,0,none⟩ Tryz.underlying143 Tryz.underlying80 hj hsh pr_lies]
  simp only [Result.andThen]
  rw [Oper.upon_value]
  go_wp2
  go_end0
  exact ⟨rfl,rfl⟩
theorem pCheck (B b : Nat) (bs : List Value) (w : World) (h : Lib.IsBuilder 84 5 B b bs w) :
    Calls Tryz.prog 116 #[.pointer (some ⟨b,0,none⟩)] w fun e w' => e = .returned (.tuple #[]) ∧ Lib.BuilderAt 84 5 B b (.pointer (some ⟨b,0,none⟩)) bs w' ∧ Pw B b w w' := by
  rcases h with h | h
  · refine (pCheck_fresh b w h.cell0 h.shape h.frozen0).mono ?_
    rintro e w' ⟨rfl,rfl⟩
    exact ⟨rfl,h.used _,(Below.refl B w).setCell (p := ⟨b,0,none⟩) h.1 _,Oth.set w 0 _⟩
  · refine (pCheck_used b w h.cell0).mono ?_
    rintro e w ⟨rfl,rfl⟩
    exact ⟨rfl,h,Pw.refl B b _⟩
theorem snoc_cells (l : List UInt8) (c : UInt8) : Lib.byteCells l ++ [.int .u8 (c.toNat : Int)] = Lib.byteCells (l ++ [c]) := by simp [Lib.byteCells]
set_option maxHeartbeats 2000000 in
set_option maxRecDepth 100000 in
theorem pByte (B b : Nat) (l : List UInt8) (c : UInt8) (w : World) (h : Pr B b l w) (hlen : l.length + 1 ≤ 140737488355328) (hBw : B ≤ w.heap.size) :
    Calls Tryz.prog 89 #[.pointer (some ⟨b,0,none⟩),.int .u8 (c.toNat : Int)] w fun e w' => e = .returned .nilIface ∧ Pr B b (l ++ [c]) w' ∧ Pw B b w w' := by
  obtain ⟨i0,hi,hz0,hz1,hz2⟩ := info_parts pr_info
  go_enter Tryz.func89,Tryz.ntmps89
  go_wp2_with fail
  refine (pCheck B b _ _ h).mono ?_
  rintro e w1 ⟨rfl,h1,hb1,ho1⟩
  obtain ⟨hB,v,hbk,hown,hne⟩ := h1
  have c0 : w1.cell? ⟨b,0,none⟩ = some (.pointer (some ⟨b,0,none⟩)) := by rw [Lib.cell_of_heap hbk]; rfl
  have c1 : w1.cell? ⟨b,1,none⟩ = some v := by rw [Lib.cell_of_heap hbk]; rfl
  have hz1s := hb1.size
  obtain ⟨v',w2,hrun,hown',hgrow,_⟩ := run_append_own (P := Tryz.prog) (w1.alloc (.cells #[.int .u8 (c.toNat : Int)] 5)) B 22 22 5 i0 (.int .u8 0) 1 1 Tryz.underlying22 hi hz0 hz1 hz2 rfl (by decide) v _ _ (hown.alloc _) ⟨w1.heap.size,0,none⟩ 1 1 [.int .u8 (c.toNat : Int)] rfl (fun j u hj => by
      match j,hj with
      | 0,hj => simp at hj; subst hj; simp [Addr.add]) (by intro u hu; simp at hu; subst hu; rfl) (by unfold maxLen; rw [Lib.byteCells_length]; omega) (by rw [Lib.byteCells_length]; omega) (by simp; omega)
  have hlt : b < w1.heap.size := (Array.getElem?_eq_some_iff.1 hbk).1
  have hb2 : w2.heap[b]? = some (.cells #[.pointer (some ⟨b,0,none⟩),v] 84 (0,0)) := by
    rw [hgrow.block b (by simp; omega) (fun e => hne e.symm),Lib.alloc_old w1 _ b hlt]
    exact hbk
  have d0 : w2.cell? ⟨b,0,none⟩ = some (.pointer (some ⟨b,0,none⟩)) := by rw [Lib.cell_of_heap hb2]; rfl
  have d1 : w2.cell? ⟨b,1,none⟩ = some v := by rw [Lib.cell_of_heap hb2]; rfl
  have f1 : w2.frozen? ⟨b,1,none⟩ = false := Lib.frozen_of_heap hb2 1
  obtain ⟨ao,n',cap,rfl⟩ : ∃ ao n' cap,v' = .slice ao n' cap := by
    rcases hown'.2 with ⟨hv,_⟩ | ⟨g,cap,cur,hv,_⟩
    · exact ⟨_,_,_,hv⟩
    · exact ⟨_,_,_,hv⟩
  have HPut : Hid (Pr B b (l ++ [c]) (w2.setCell ⟨b,1,none⟩ (.slice ao n' cap))) := by
    show Lib.IsBuilder _ _ _ _ _ _
    rw [← snoc_cells]
    exact .inr (Lib.BuilderAt.put hB hb2 (by simpa using hown') pr_ne)
  have HBel : Hid (Pw B b w (w2.setCell ⟨b,1,none⟩ (.slice ao n' cap))) := ⟨((hb1.alloc (by omega) _).grown hgrow (by simp; omega) (fun k hk => (hown.lt k hk).1)).setCell (p := ⟨b,1,none⟩) hB _,
    ((ho1.trans (Oth.of_below ((Below.refl _ _).alloc (Nat.le_refl _) _))).trans (Oth.grown (hown.alloc _) hgrow)).trans (Oth.set w2 1 _)⟩
  clear hown hown' hgrow hbk hb2
  go_wp2_with (at_builtin; refine Lib.wpList_append_run _ rfl _ _ _ _ rfl _ _ rfl rfl _ _ hrun ?_)
  go_ret
  exact ⟨rfl,HPut.out,HBel.out⟩
theorem str_cells (l : List UInt8) (s : ByteArray) : Lib.byteCells l ++ Lib.strCells s = Lib.byteCells (l ++ s.data.toList) := by
  simp [Lib.byteCells,Lib.strCells]
set_option maxHeartbeats 2000000 in
set_option maxRecDepth 100000 in
theorem pString (B b : Nat) (l : List UInt8) (s : ByteArray) (w : World) (h : Pr B b l w) (hlen : l.length + s.size ≤ 140737488355328) (hBw : B ≤ w.heap.size) :
    Calls Tryz.prog 109 #[.pointer (some ⟨b,0,none⟩),.string s] w fun e w' => e = .returned (.tuple #[.int .i64 s.size,.nilIface]) ∧ Pr B b (l ++ s.data.toList) w' ∧ Pw B b w w' := by
  obtain ⟨i0,hi,hz0,hz1,hz2⟩ := info_parts pr_info
  go_enter Tryz.func109,Tryz.ntmps109
  go_wp2_with fail
  refine (pCheck B b _ _ h).mono ?_
  rintro e w1 ⟨rfl,h1,hb1,ho1⟩
  obtain ⟨hB,v,hbk,hown,hne⟩ := h1
  have c0 : w1.cell? ⟨b,0,none⟩ = some (.pointer (some ⟨b,0,none⟩)) := by rw [Lib.cell_of_heap hbk]; rfl
  have c1 : w1.cell? ⟨b,1,none⟩ = some v := by rw [Lib.cell_of_heap hbk]; rfl
  have hz1s := hb1.size
  go_wp2_with (at_builtin; refine Lib.wpList_append_own_string _ rfl _ _ 22 9 rfl B 5 i0 Tryz.underlying22 Tryz.underlying9 hi hz0 hz1 hz2 _ _ _ rfl hown s rfl ?c3 ?c4 ?c5 ?_)
  case c3 => unfold maxLen; rw [Lib.byteCells_length]; omega
  case c4 => rw [Lib.byteCells_length]; omega
  case c5 => omega
  intro v' w2 hown' hgrow _
  have hlt : b < w1.heap.size := (Array.getElem?_eq_some_iff.1 hbk).1
  have hb2 : w2.heap[b]? = some (.cells #[.pointer (some ⟨b,0,none⟩),v] 84 (0,0)) := by
    rw [hgrow.block b hlt (fun e => hne e.symm)]
    exact hbk
  have d0 : w2.cell? ⟨b,0,none⟩ = some (.pointer (some ⟨b,0,none⟩)) := by rw [Lib.cell_of_heap hb2]; rfl
  have d1 : w2.cell? ⟨b,1,none⟩ = some v := by rw [Lib.cell_of_heap hb2]; rfl
  have f1 : w2.frozen? ⟨b,1,none⟩ = false := Lib.frozen_of_heap hb2 1
  obtain ⟨ao,n',cap,rfl⟩ : ∃ ao n' cap,v' = .slice ao n' cap := by
    rcases hown'.2 with ⟨hv,_⟩ | ⟨g,cap,cur,hv,_⟩
    · exact ⟨_,_,_,hv⟩
    · exact ⟨_,_,_,hv⟩
  have HPut : Hid (Pr B b (l ++ s.data.toList) (w2.setCell ⟨b,1,none⟩ (.slice ao n' cap))) := by
    show Lib.IsBuilder _ _ _ _ _ _
    rw [← str_cells]
    exact .inr (Lib.BuilderAt.put hB hb2 (by simpa [Lib.strCells_length] using hown') pr_ne)
  have HBel : Hid (Pw B b w (w2.setCell ⟨b,1,none⟩ (.slice ao n' cap))) := ⟨(hb1.grown hgrow (by omega) (fun k hk => (hown.lt k hk).1)).setCell (p := ⟨b,1,none⟩) hB _,
    (ho1.trans (Oth.grown hown hgrow)).trans (Oth.set w2 1 _)⟩
  clear hown hown' hgrow hbk hb2
  go_wp2
  go_ret2
  exact ⟨rfl,HPut.out,HBel.out⟩
set_option maxHeartbeats 2000000 in
set_option maxRecDepth 100000 in
theorem pStr (B b : Nat) (l : List UInt8) (w : World) (h : Pr B b l w) (h0 : l ≠ []) :
    Calls Tryz.prog 83 #[.pointer (some ⟨b,0,none⟩)] w fun e w' => e = .returned (.string ⟨l.toArray⟩) ∧ Below B w w' := by
  obtain ⟨p,hB,v,hbk,hown,hne⟩ : ∃ p,Lib.BuilderAt 84 5 B b p (Lib.byteCells l) w := by
    rcases h with h | h
    · exact ⟨_,h⟩
    · exact ⟨_,h⟩
  have hl0 : l.length ≠ 0 := by simpa using h0
  rw [Lib.byteCells_length] at hown
  rcases hown.2 with ⟨_,hz⟩ | ⟨g,cap,cur,rfl,hbg,hg,hnc,hcm,hcs,htake⟩
  · exact absurd hz hl0
  have c1 : w.drew.cell? ⟨b,1,none⟩ = some (.slice (some ⟨g,0,none⟩) l.length cap) := by
    have h1 : w.drew.heap[b]? = some (.cells #[p,.slice (some ⟨g,0,none⟩) l.length cap] 84 (0,0)) := hbk
    rw [Lib.cell_of_heap h1]
    rfl
  have hSD : (Builtin.unsafeSliceData_ #[22] 120 #[.slice (some ⟨g,0,none⟩) l.length cap]).run Tryz.prog w.drew = .ok (.pointer (some ⟨g,0,none⟩)) w.drew :=
    Lib.run_unsafeSliceData_row _ _ _ _ _ _ (by omega)
  have hUS : (Builtin.unsafeString_ #[120,3] 9 #[.pointer (some ⟨g,0,none⟩),.int .i64 l.length]).run Tryz.prog w.drew = .ok (.string ⟨l.toArray⟩) (w.drew.freeze ⟨g,0,none⟩ l.length) := by
    refine Lib.run_unsafeString_row w.drew 120 3 9 5 Tryz.underlying120 (by kernel_rfl) g cur.size (by have hg' : w.drew.heap[g]? = some (.cells cur 5 (0,0)) := hg; simp [World.shape?,hg']) l h0 (by omega) (by unfold maxLen at hcm; omega) ?_
    intro j x hx
    exact hown.cells (g := g) rfl j (.int .u8 x.toNat) (by simp [Lib.byteCells,hx])
  go_enter Tryz.func83,Tryz.ntmps83
  go_wp2
  go_region
  all_goals (go_wp2; go_ret; exact ⟨rfl,Lib.below_freeze (Below.drew (Below.refl B w)) (p := ⟨g,0,none⟩) hbg _⟩)
end Go.Proofs.YtapcmbbhhclepaaGreatDoor
namespace Go.Proofs.YtapcmbbhhclepaaGreatDoor
open Go.RowKit
theorem p_own_below {w w' : World} {base : Nat} {e : TypeId} {sz : Nat} {v : Value} {n : Nat} {xs : List Value} (h : w.ownsRow base e sz v n xs) (b : Below w.heap.size w w') : w'.ownsRow base e sz v n xs := by
  refine ⟨h.1,?_⟩
  rcases h.2 with h0 | ⟨g,cap,cur,h1,h2,h3,h4⟩
  · exact .inl h0
  · refine .inr ⟨g,cap,cur,h1,h2,?_,h4⟩
    rw [b.block g (Array.getElem?_eq_some_iff.1 h3).1]
    exact h3
theorem prAt_later {B b : Nat} {p : Value} {bs : List Value} {w w' : World} (h : Lib.BuilderAt 84 5 B b p bs w) (k : Below w.heap.size w w') : Lib.BuilderAt 84 5 B b p bs w' := by
  obtain ⟨hB,v,hbk,hown,hne⟩ := h
  refine ⟨hB,v,?_,p_own_below hown k,hne⟩
  rw [k.block b (Array.getElem?_eq_some_iff.1 hbk).1]
  exact hbk
theorem pr_later {B b : Nat} {l : List UInt8} {w w' : World} (h : Pr B b l w) (k : Below w.heap.size w w') : Pr B b l w' := by
  rcases h with h | h
  · exact .inl (prAt_later h k)
  · exact .inr (prAt_later h k)
theorem keeps_lt {B : Nat} {w w' : World} (k : Below B w w') : Keeps (· < B) w w' := fun b hb _ => k.block b hb
def Box (w : World) (g : Nat) (c0 c1 c2 c3 c4 : Value) : Prop := w.heap[g]? = some (.cells #[c0,c1,c2,c3,c4] 27 (0,0))
theorem Box.to5 {w : World} {g : Nat} {c0 c1 c2 c3 c4 : Value} (h : Box w g c0 c1 c2 c3 c4) : Box5 w g c0 c1 c2 c3 c4 := by
  refine ⟨?_,?_,?_,?_,?_⟩ <;> (rw [Lib.cell_of_heap h]; rfl)
theorem box_new (w : World) (c0 c1 c2 c3 c4 : Value) (g : Nat) (hg : g = w.heap.size) : Box (w.alloc (.cells #[c0,c1,c2,c3,c4] 27)) g c0 c1 c2 c3 c4 := by
  subst hg
  simp only [Box,World.alloc,Array.getElem?_push_size]
theorem box_ty : (27 : TypeId) ≠ 5 := by decide
theorem Box.pw {B b : Nat} {w w' : World} {g : Nat} {c0 c1 c2 c3 c4 : Value} (h : Box w g c0 c1 c2 c3 c4) (k : Pw B b w w') (hb : g ≠ b) : Box w' g c0 c1 c2 c3 c4 := by
  unfold Box
  rw [k.2 g _ _ _ h box_ty hb]
  exact h
theorem pr_lt {B b : Nat} {l : List UInt8} {w : World} (h : Pr B b l w) : b < w.heap.size := by
  rcases h with h | h <;> exact h.lt
theorem elem_openK {w w' : World} {S : Nat → Prop} {a : Option Addr} {n d : Nat} {c : Nat → Value} {x : V} (h : Cells w S a (n * 5) c) (k : Keeps S w w') {i : Nat} (hi : i < n) (hx : IsD w S d (elemV c i) x) :
    ∃ b off k n t a1 n1 c1 a2 n2 c2,a = some ⟨b,off,none⟩ ∧ IsD w' S d (.agg #[.int .i64 k,.int .i64 n,.string t,.slice a1 n1 c1,.slice a2 n2 c2]) x ∧ w'.cell? ⟨b,off + i * 5,none⟩ = some (.int .i64 k) ∧ w'.cell? ⟨b,off + i * 5 + 1,none⟩ = some (.int .i64 n) ∧ w'.cell? ⟨b,off + i * 5 + 2,none⟩ = some (.string t) ∧ w'.cell? ⟨b,off + i * 5 + 3,none⟩ = some (.slice a1 n1 c1) ∧ w'.cell? ⟨b,off + i * 5 + 4,none⟩ = some (.slice a2 n2 c2) := by
  obtain ⟨b,off,ha,hb,e0,e1,e2,e3,e4⟩ := elem_cells (h.keep k) hi
  have hx' := hx.keep k
  cases d with
  | zero => exact hx.elim
  | succ d =>
    obtain ⟨kv,a2,c2,cc,q,⟨a1,c1,rfl,_⟩,_⟩ := hx
    have hq := q
    unfold elemV at hq hx'
    simp only [Value.agg.injEq,Array.mk.injEq,List.cons.injEq,and_true] at hq
    obtain ⟨q0,q1,q2,q3,q4⟩ := hq
    rw [q0] at e0; rw [q1] at e1; rw [q2] at e2; rw [q3] at e3; rw [q4] at e4
    rw [q0,q1,q2,q3,q4] at hx'
    exact ⟨b,off,_,_,_,_,_,_,_,_,_,ha,hx',e0,e1,e2,e3,e4⟩
def comOf (i : Nat) : List UInt8 := if i = 0 then [] else [44]
set_option maxHeartbeats 1000000 in
set_option maxRecDepth 100000 in
theorem comma_any (B b : Nat) (l : List UInt8) (i : Nat) (w : World) (h : Pr B b l w) (hi : i ≤ 4294967296) (hlen : l.length + 1 ≤ 140737488355328) (hBw : B ≤ w.heap.size) (l' : List UInt8) (hl' : l' = l ++ comOf i) :
    Calls Tryz.prog 135 #[.pointer (some ⟨b,0,none⟩),.int .i64 (i : Nat)] w fun e w' => e = .returned (.tuple #[]) ∧ Pr B b l' w' ∧ Pw B b w w' := by
  subst hl'
  by_cases h0 : i = 0
  · subst h0
    have e : l ++ comOf 0 = l := by simp [comOf]
    rw [e]
    go_enter Tryz.func135,Tryz.ntmps135
    go_wp2
    go_end0
    exact ⟨rfl,h,Pw.refl _ _ _⟩
  · have e : l ++ comOf i = l ++ [44] := by simp [comOf,h0]
    rw [e]
    have hp : 0 < i := by omega
    go_enter Tryz.func135,Tryz.ntmps135
    go_wp2_with fail
    refine (pByte B b l 44 _ h hlen hBw).mono ?_
    rintro e w1 ⟨rfl,h1,b1⟩
    go_wp2
    go_end0
    exact ⟨rfl,h1,b1⟩
def com (rows : Nat → List UInt8) : Nat → List UInt8
  | 0 => []
  | j + 1 => com rows j ++ comOf j ++ rows j
theorem com_le (rows : Nat → List UInt8) (j : Nat) : ∀ n,j ≤ n → (com rows j).length ≤ (com rows n).length := by
  intro n hn
  induction n with
  | zero => have : j = 0 := by omega
            subst this; exact Nat.le_refl _
  | succ n ih =>
    rcases Nat.lt_or_ge n j with h | h
    · have : j = n + 1 := by omega
      subst this; exact Nat.le_refl _
    · have := ih h
      simp only [com,List.length_append]
      omega
def Tab (B : Nat) (w : World) : Prop := ∀ w', Below B w w' → Lib.TabIs Tryz.prog w' "internal/strconv.uint64pow10" .u64 Lib.pow10Tab
theorem Tab.keep {B : Nat} {w w' : World} (h : Tab B w) (k : Below B w w') : Tab B w' := fun w2 k2 => h w2 (k.trans k2)
def PrintsAt (B b d : Nat) (pf : V → List UInt8) : Prop :=
  ∀ (v : Value) (x : V) (w : World) (l : List UInt8),IsD w (· < B) d v x → V.right x = true → V.wt x ≤ 4294967296 → Pr B b l w → Tab B w → B ≤ w.heap.size → l.length + (pf x).length ≤ 70368744177664 →
    Calls Tryz.prog 82 #[.pointer (some ⟨b,0,none⟩),v] w fun e w' => e = .returned (.tuple #[]) ∧ Pr B b (l ++ pf x) w' ∧ Pw B b w w'
set_option maxHeartbeats 2000000 in
set_option maxRecDepth 100000 in
theorem list_of (B b d : Nat) (pf : V → List UInt8) (ih : PrintsAt B b d pf) (k n : Int) (t : ByteArray) (kv : Value) (a : Option Addr) (cap : Nat) (c : Nat → Value) (ls : List V) (w : World) (l : List UInt8)
    (hls : V.wtL ls ≤ 4294967296) (hok : Hid (∀ x ∈ ls,V.right x = true)) (hc : ls.length ≤ cap) (hm : cap ≤ maxLen) (hcells : Cells w (· < B) a (ls.length * 5) c) (hel : ∀ i (h : i < ls.length),IsD w (· < B) d (elemV c i) ls[i])
    (h : Pr B b l w) (hT : Hid (Tab B w)) (hBw : B ≤ w.heap.size) (rows : Nat → List UInt8) (hrows : ∀ i (h : i < ls.length),rows i = pf ls[i]) (hlen : l.length + (com rows ls.length).length + 2 ≤ 70368744177664) :
    Calls Tryz.prog 113 #[.pointer (some ⟨b,0,none⟩),.agg #[.int .i64 k,.int .i64 n,.string t,kv,.slice a ls.length cap]] w fun e w' => e = .returned (.tuple #[]) ∧ Pr B b (l ++ 91 :: (com rows ls.length ++ [93])) w' ∧ Pw B b w w' := by
  have hlsl : ls.length ≤ 4294967296 := Nat.le_trans (V.wtL_len ls) hls
  go_enter Tryz.func113,Tryz.ntmps113
  go_wp2_with fail
  have hbs := pr_lt h
  have hal := below_alloc w (.cells #[.int .i64 k,.int .i64 n,.string t,kv,.slice a ls.length cap] 27)
  refine (pByte B b l 91 _ (pr_later h hal) (by omega) (by have := hal.size; omega)).mono ?_
  rintro e w1 ⟨rfl,h1,p1⟩
  obtain ⟨x0,x1,x2,x3,x4⟩ := ((box_new w (.int .i64 k) (.int .i64 n) (.string t) kv (.slice a ls.length cap) w.heap.size rfl).pw p1 (by omega)).to5
  have pw1 : Pw B b w w1 := (Pw.of_below hal hBw).trans p1
  have P1 : Hid (Pw B b w w1) := pw1
  have H1 : Hid (Pr B b (l ++ [91]) w1) := h1
  clear h1 pw1 p1 hal
  go_wp2_with fail
  go_loopg [13] ls.length (fun g i wr => ∃ j : Nat,j + g = ls.length ∧ i = .int .i64 j ∧ Pr B b (l ++ [91] ++ com rows j) wr ∧ Pw B b w wr)
  case atStart => exact ⟨0,by omega,rfl,by simpa [com] using H1.out,P1.out⟩
  case round =>
    obtain ⟨j,hj,rfl,hpr,hpw⟩ := hrel
    by_cases hlt : j < ls.length
    · obtain ⟨b',off,k',n',t',a1,n1,c1,a2,n2,c2,rfl,helj,e0,e1,e2,e3,e4⟩ := elem_openK hcells (keeps_lt hpw.1) hlt (hel j hlt)
      have hbj := pr_lt hpr
      have hsz := hpw.1.size
      have hwx := V.wtL_mem (List.getElem_mem hlt)
      have hcom := com_le rows (j + 1) ls.length (by omega)
      have hrj := hrows j hlt
      simp only [com,List.length_append] at hcom
      rw [hrj] at hcom
      have HC : Hid _ := hcom
      have HR : Hid _ := hrj
      have HW : Hid _ := hwx
      have HP : Hid _ := hpr
      have HPW : Hid _ := hpw
      have HE : Hid _ := helj
      clear hcom hrj hwx hpr hpw helj
      go_wp2_with fail
      have hal := below_alloc wr (.cells #[.int .i64 k',.int .i64 n',.string t',.slice a1 n1 c1,.slice a2 n2 c2] 27)
      have hals := hal.size
      refine (comma_any B b (l ++ [91] ++ com rows j) j _ (pr_later HP.out hal) (by omega) (by have := HC.out; simp only [List.length_append,List.length_cons,List.length_nil]; omega) (by omega) _ rfl).mono ?_
      rintro e w2 ⟨rfl,h2,p2⟩
      obtain ⟨y0,y1,y2,y3,y4⟩ := ((box_new wr (.int .i64 k') (.int .i64 n') (.string t') (.slice a1 n1 c1) (.slice a2 n2 c2) wr.heap.size rfl).pw p2 (by omega)).to5
      have P2 : Hid (Pw B b wr w2) := (Pw.of_below hal (by omega)).trans p2
      have H2 : Hid _ := h2
      have hs2 := p2.1.size
      clear hal p2 h2
      go_wp2_with fail
      refine (ih _ _ _ _ (HE.out.keep (keeps_lt P2.out.1)) (hok.out _ (List.getElem_mem hlt)) (Nat.le_trans HW.out hls) H2.out (hT.out.keep (Pw.trans HPW.out P2.out).1) (by omega) (by have := HC.out; simp only [List.length_append,List.length_cons,List.length_nil]; omega)).mono ?_
      rintro e w3 ⟨rfl,h3,p3⟩
      have P3 : Hid (Pw B b w w3) := Pw.trans (Pw.trans HPW.out P2.out) p3
      have H3 : Hid (Pr B b (l ++ [91] ++ com rows (j + 1)) w3) := by
        show Pr B b _ _
        simp only [com]
        rw [HR.out]
        simpa [List.append_assoc] using h3
      clear h3 p3
      go_wp2
      go_roundg (gk - 1)
      case measure => omega
      case rel => exact ⟨j + 1,by omega,rfl,H3.out,P3.out⟩
    · have hje : j = ls.length := by omega
      subst hje
      go_wp2_with fail
      have hsz := hpw.1.size
      refine (pByte B b _ 93 _ hpr (by simp only [List.length_append,List.length_cons,List.length_nil]; omega) (by omega)).mono ?_
      rintro e w2 ⟨rfl,h2,p2⟩
      have P2 : Hid (Pw B b w w2) := hpw.trans p2
      have H2 : Hid (Pr B b (l ++ 91 :: (com rows ls.length ++ [93])) w2) := by
        show Pr B b _ _
        simpa [List.append_assoc] using h2
      clear h2 p2
      go_wp2
      go_end0
      exact ⟨rfl,H2.out,P2.out⟩
end Go.Proofs.YtapcmbbhhclepaaGreatDoor
namespace Go.Proofs.YtapcmbbhhclepaaGreatDoor
open Go.RowKit
set_option maxHeartbeats 2000000 in
set_option maxRecDepth 100000 in
theorem object_of (B b d : Nat) (pf : V → List UInt8) (ih : PrintsAt B b d pf) (k n : Int) (t : ByteArray) (a1 : Option Addr) (cap1 : Nat) (ks : List ByteArray) (a : Option Addr) (cap : Nat) (c : Nat → Value) (ls : List V) (w : World) (l : List UInt8) (N : Nat)
    (hls : V.wtL ls ≤ 4294967296) (hok : Hid (∀ x ∈ ls,V.right x = true)) (hwk : V.wtK ks ≤ 4294967296) (hkl : Hid (ks.length = N)) (hll : Hid (ls.length = N)) (hc1 : N ≤ cap1) (hm1 : cap1 ≤ maxLen) (hkc : Cells w (· < B) a1 N (fun i => .string (ks.getD i ByteArray.empty)))
    (hc : N ≤ cap) (hm : cap ≤ maxLen) (hcells : Cells w (· < B) a (N * 5) c) (hel : ∀ i (h : i < ls.length),IsD w (· < B) d (elemV c i) ls[i])
    (h : Pr B b l w) (hT : Hid (Tab B w)) (hBw : B ≤ w.heap.size) (rows : Nat → List UInt8) (hrows : ∀ i (h : i < ls.length),rows i = Gm.quote (ks.getD i ByteArray.empty).data.toList ++ 58 :: pf ls[i]) (hlen : l.length + (com rows N).length + 2 ≤ 70368744177664) :
    Calls Tryz.prog 114 #[.pointer (some ⟨b,0,none⟩),.agg #[.int .i64 k,.int .i64 n,.string t,.slice a1 N cap1,.slice a N cap]] w fun e w' => e = .returned (.tuple #[]) ∧ Pr B b (l ++ 123 :: (com rows N ++ [125])) w' ∧ Pw B b w w' := by
  have hlsl : N ≤ 4294967296 := by rw [← hll.out]; exact Nat.le_trans (V.wtL_len ls) hls
  go_enter Tryz.func114,Tryz.ntmps114
  go_wp2_with fail
  have hbs := pr_lt h
  have hal := below_alloc w (.cells #[.int .i64 k,.int .i64 n,.string t,.slice a1 N cap1,.slice a N cap] 27)
  refine (pByte B b l 123 _ (pr_later h hal) (by omega) (by have := hal.size; omega)).mono ?_
  rintro e w1 ⟨rfl,h1,p1⟩
  have hbx := (box_new w (.int .i64 k) (.int .i64 n) (.string t) (.slice a1 N cap1) (.slice a N cap) w.heap.size rfl).pw p1 (by omega)
  obtain ⟨x0,x1,x2,x3,x4⟩ := hbx.to5
  have P1 : Hid (Pw B b w w1) := (Pw.of_below hal hBw).trans p1
  have H1 : Hid (Pr B b (l ++ [123]) w1) := h1
  have BX : Hid _ := hbx
  clear h1 p1 hal hbx
  go_wp2_with fail
  go_loopg [16] N (fun g i wr => ∃ j : Nat,j + g = N ∧ i = .int .i64 j ∧ Pr B b (l ++ [123] ++ com rows j) wr ∧ Pw B b w wr ∧ Box wr w.heap.size (.int .i64 k) (.int .i64 n) (.string t) (.slice a1 N cap1) (.slice a N cap))
  case atStart => exact ⟨0,by omega,rfl,by simpa [com] using H1.out,P1.out,BX.out⟩
  case round =>
    obtain ⟨j,hj,rfl,hpr,hpw,hbj⟩ := hrel
    have hsz := hpw.1.size
    by_cases hlt : j < N
    · have hjl : j < ls.length := by rw [hll.out]; exact hlt
      have hjk : j < ks.length := by rw [hkl.out]; exact hlt
      have hwx := V.wtL_mem (List.getElem_mem hjl)
      have hex := hel j hjl
      have hrx := hok.out _ (List.getElem_mem hjl)
      have hwy := getD_wt hwk hjk
      have hcom := com_le rows (j + 1) N (by omega)
      have hrj := hrows j hjl
      generalize ls[j] = X at hwx hex hrj hrx
      simp only [com,List.length_append] at hcom
      rw [hrj] at hcom
      simp only [List.length_append,List.length_cons] at hcom
      have HC : Hid _ := hcom
      have HR : Hid _ := hrj
      have HW : Hid _ := hwx
      have HP : Hid _ := hpr
      have HPW : Hid (Pw B b w wr) := hpw
      have HB : Hid (Box wr w.heap.size (.int .i64 k) (.int .i64 n) (.string t) (.slice a1 N cap1) (.slice a N cap)) := hbj
      have HRX : Hid (V.right X = true) := hrx
      have HEX : Hid (IsD w (· < B) d (elemV c j) X) := hex
      clear hcom hrj hwx hpr hpw hbj hjl hjk hex hrx
      go_wp2_with fail
      refine (comma_any B b (l ++ [123] ++ com rows j) j _ HP.out (by omega) (by have := HC.out; simp only [List.length_append,List.length_cons,List.length_nil]; omega) (by omega) _ rfl).mono ?_
      rintro e w2 ⟨rfl,h2,p2⟩
      have hs2 := p2.1.size
      have P2 : Hid (Pw B b w w2) := Pw.trans HPW.out p2
      have H2 : Hid (Pr B b (l ++ [123] ++ com rows j ++ comOf j) w2) := h2
      have BX2 : Hid (Box w2 w.heap.size (.int .i64 k) (.int .i64 n) (.string t) (.slice a1 N cap1) (.slice a N cap)) := Box.pw HB.out p2 (by omega)
      obtain ⟨kb,ko,ha1,_,hkk⟩ := hkc.keep (keeps_lt P2.out.1) (by omega)
      have hkj : w2.cell? ⟨kb,ko + j,none⟩ = some (.string (ks.getD j ByteArray.empty)) := hkk j hlt
      clear hkk
      obtain ⟨KK,hKK⟩ : ∃ KK,KK = ks.getD j ByteArray.empty := ⟨_,rfl⟩
      rw [← hKK] at hkj hwy
      have HKK : Hid (KK = ks.getD j ByteArray.empty) := hKK
      have hk2 : Hid (w2.cell? ⟨kb,ko + j,none⟩ = some (.string KK)) := hkj
      have HKS : Hid (KK.size ≤ 17592186044416) := by show KK.size ≤ _; omega
      obtain ⟨QK,hQK⟩ : ∃ QK : ByteArray,QK = ⟨(Gm.quote KK.data.toList).toArray⟩ := ⟨_,rfl⟩
      have HQ : Hid (QK = ⟨(Gm.quote KK.data.toList).toArray⟩) := hQK
      have HQL : Hid (QK.data.toList = Gm.quote KK.data.toList) := by show _ = _; rw [hQK]
      have HQS : Hid (QK.size = (Gm.quote (ks.getD j ByteArray.empty).data.toList).length) := by show _ = _; rw [hQK,hKK]; rfl
      clear hKK hQK hkj h2 p2 hwy
      subst ha1
      go_wp2_with fail
      refine' wp_region_facts [(fun _ _ v _ => v = .pointer (some ⟨b,0,none⟩)),(fun _ _ v _ => v = .pointer (some ⟨b,0,none⟩)),(fun _ _ v _ => v = .pointer (some ⟨b,0,none⟩)),(fun _ _ v _ => v = .pointer (some ⟨w.heap.size,3,none⟩)),(fun _ _ v _ => v = .slice (some ⟨kb,ko,none⟩) N cap1),(fun _ _ v _ => v = .int .i64 (j : Int)),(fun _ _ v _ => v = .pointer (some ⟨kb,ko + j,none⟩)),(fun _ _ v _ => v = .string KK),(fun _ _ v _ => v = .string QK)] (by kernel_rfl) rfl ?hA (by kernel_rfl) (by kernel_rfl) (by kernel_rfl) rfl ?mono ?steps ?last
      case hA =>
        intro vs
        simp only [puts,Act.put,List.setIfInBounds_toArray,List.set_cons_zero,List.set_cons_succ,Nat.zero_add,Nat.reduceAdd]
        rfl
      case mono => exact ⟨mono_eq _,mono_eq _,mono_eq _,mono_eq _,mono_eq _,mono_eq _,mono_eq _,mono_eq _,mono_eq _,trivial⟩
      case steps =>
        intro Q'
        refine And.intro ?_ ?_
        · intro vs lo hi w' hM hd K' hK
          dsimp only at hK ⊢
          simp only [Act.put,List.setIfInBounds_toArray,List.set_cons_zero,List.set_cons_succ] at hK
          go_simp
          exact hK.out _ _ rfl (Below.refl _ _)
        refine And.intro ?_ ?_
        · intro vs lo hi w' hM hd K' hK
          dsimp only at hK ⊢
          simp only [Act.put,List.setIfInBounds_toArray,List.set_cons_zero,List.set_cons_succ] at hK
          have e0 : vs 0 = .pointer (some ⟨b,0,none⟩) := hd 0 (by kernel_rfl)
          simp only [e0] at hK ⊢
          clear e0
          go_simp
          exact hK.out _ _ rfl (Below.refl _ _)
        refine And.intro ?_ ?_
        · intro vs lo hi w' hM hd K' hK
          dsimp only at hK ⊢
          simp only [Act.put,List.setIfInBounds_toArray,List.set_cons_zero,List.set_cons_succ] at hK
          have e1 : vs 1 = .pointer (some ⟨b,0,none⟩) := hd 1 (by kernel_rfl)
          simp only [e1] at hK ⊢
          clear e1
          go_simp
          exact hK.out _ _ rfl (Below.refl _ _)
        refine And.intro ?_ ?_
        · intro vs lo hi w' hM hd K' hK
          dsimp only at hK ⊢
          simp only [Act.put,List.setIfInBounds_toArray,List.set_cons_zero,List.set_cons_succ] at hK
          go_simp
          exact hK.out _ _ rfl (Below.refl _ _)
        refine And.intro ?_ ?_
        · intro vs lo hi w' hM hd K' hK
          dsimp only at hK ⊢
          simp only [Act.put,List.setIfInBounds_toArray,List.set_cons_zero,List.set_cons_succ] at hK
          have e3 : vs 3 = .pointer (some ⟨w.heap.size,3,none⟩) := hd 3 (by kernel_rfl)
          simp only [e3] at hK ⊢
          clear e3
          obtain ⟨y0,y1,y2,y3,y4⟩ := BX2.out.to5.keep hM
          go_simp
          exact hK.out _ _ rfl (Below.refl _ _)
        refine And.intro ?_ ?_
        · intro vs lo hi w' hM hd K' hK
          dsimp only at hK ⊢
          simp only [Act.put,List.setIfInBounds_toArray,List.set_cons_zero,List.set_cons_succ] at hK
          go_simp
          exact hK.out _ _ rfl (Below.refl _ _)
        refine And.intro ?_ ?_
        · intro vs lo hi w' hM hd K' hK
          dsimp only at hK ⊢
          simp only [Act.put,List.setIfInBounds_toArray,List.set_cons_zero,List.set_cons_succ] at hK
          have e4 : vs 4 = .slice (some ⟨kb,ko,none⟩) N cap1 := hd 4 (by kernel_rfl)
          have e5 : vs 5 = .int .i64 (j : Int) := hd 5 (by kernel_rfl)
          simp only [e4,e5] at hK ⊢
          clear e4 e5
          go_simp
          exact hK.out _ _ rfl (Below.refl _ _)
        refine And.intro ?_ ?_
        · intro vs lo hi w' hM hd K' hK
          dsimp only at hK ⊢
          simp only [Act.put,List.setIfInBounds_toArray,List.set_cons_zero,List.set_cons_succ] at hK
          have e6 : vs 6 = .pointer (some ⟨kb,ko + j,none⟩) := hd 6 (by kernel_rfl)
          simp only [e6] at hK ⊢
          clear e6
          have hkey := cell_keep hk2.out hM
          go_simp
          exact hK.out _ _ rfl (Below.refl _ _)
        refine And.intro ?_ ?_
        · intro vs lo hi w' hM hd K' hK
          dsimp only at hK ⊢
          simp only [Act.put,List.setIfInBounds_toArray,List.set_cons_zero,List.set_cons_succ] at hK
          have e7 : vs 7 = .string KK := hd 7 (by kernel_rfl)
          simp only [e7] at hK ⊢
          clear e7
          go_simp
          refine (quote_any KK w' HKS.out).mono ?_
          rintro e w7 ⟨rfl,b7⟩
          rw [← HQ.out]
          exact hK.out _ _ rfl b7
        exact trivial
      case last =>
        intro vs lo hi w' hM hlo hap hall K' Q' hK
        have e2 : vs 2 = .pointer (some ⟨b,0,none⟩) := hall.2.2.1
        have e8 : vs 8 = .string QK := hall.2.2.2.2.2.2.2.2.1
        dsimp only
        simp only [e2,e8]
        clear e2 e8 hall hap hlo
        go_simp
        have hsM := hM.size
        refine (pString B b _ QK _ (pr_later H2.out hM) (by have := HC.out; have := HQS.out; simp only [List.length_append,List.length_cons,List.length_nil]; omega) (by omega)).mono ?_
        rintro e w3 ⟨rfl,h3,p3⟩
        refine hK.out _ _ ?_
        clear hK
        have hs3 := p3.1.size
        have P3 : Hid (Pw B b w w3) := Pw.trans (Pw.trans P2.out (Pw.of_below hM (by omega))) p3
        have H3 : Hid (Pr B b (l ++ [123] ++ com rows j ++ comOf j ++ Gm.quote (ks.getD j ByteArray.empty).data.toList) w3) := by
          show Pr B b _ _
          rw [← HKK.out,← HQL.out]
          exact h3
        have BX3 : Hid (Box w3 w.heap.size (.int .i64 k) (.int .i64 n) (.string t) (.slice (some ⟨kb,ko,none⟩) N cap1) (.slice a N cap)) := Box.pw (Box.pw BX2.out (Pw.of_below (B := B) (b := b) hM (by omega)) (by omega)) p3 (by omega)
        clear h3 p3 hM
        go_wp2_with fail
        refine (pByte B b _ 58 _ H3.out (by have := HC.out; simp only [List.length_append,List.length_cons,List.length_nil]; omega) (by omega)).mono ?_
        rintro e w4 ⟨rfl,h4,p4⟩
        have hs4 := p4.1.size
        have P4 : Hid (Pw B b w w4) := Pw.trans P3.out p4
        have H4 : Hid (Pr B b (l ++ [123] ++ com rows j ++ comOf j ++ Gm.quote (ks.getD j ByteArray.empty).data.toList ++ [58]) w4) := h4
        have hbx4 := Box.pw BX3.out p4 (by omega)
        have BX4 : Hid (Box w4 w.heap.size (.int .i64 k) (.int .i64 n) (.string t) (.slice (some ⟨kb,ko,none⟩) N cap1) (.slice a N cap)) := hbx4
        obtain ⟨z0,z1,z2,z3,z4⟩ := hbx4.to5
        obtain ⟨b',off,k',n',t',a1',n1,c1,a2,n2,c2,ha,helj,e0,e1,e2,e3,e4⟩ := elem_openK hcells (keeps_lt P4.out.1) hlt HEX.out
        subst ha
        have HE : Hid _ := helj
        clear h4 p4 hbx4 helj
        go_wp2_with fail
        refine (ih _ _ _ _ HE.out HRX.out (Nat.le_trans HW.out hls) H4.out (hT.out.keep P4.out.1) (by omega) (by have := HC.out; simp only [List.length_append,List.length_cons,List.length_nil]; omega)).mono ?_
        rintro e w5 ⟨rfl,h5,p5⟩
        have P5 : Hid (Pw B b w w5) := Pw.trans P4.out p5
        have H5 : Hid (Pr B b (l ++ [123] ++ com rows (j + 1)) w5) := by
          show Pr B b _ _
          simp only [com]
          rw [HR.out]
          simpa [List.append_assoc] using h5
        have BX5 : Hid (Box w5 w.heap.size (.int .i64 k) (.int .i64 n) (.string t) (.slice (some ⟨kb,ko,none⟩) N cap1) (.slice (some ⟨b',off,none⟩) N cap)) := Box.pw BX4.out p5 (by omega)
        clear h5 p5
        go_wp2
        go_roundg (gk - 1)
        case measure => omega
        case rel => exact ⟨j + 1,by omega,rfl,H5.out,P5.out,BX5.out⟩
    · have hje : j = N := by omega
      subst hje
      go_wp2_with fail
      refine (pByte B b _ 125 _ hpr (by simp only [List.length_append,List.length_cons,List.length_nil]; omega) (by omega)).mono ?_
      rintro e w2 ⟨rfl,h2,p2⟩
      have P2 : Hid (Pw B b w w2) := hpw.trans p2
      have H2 : Hid (Pr B b (l ++ 123 :: (com rows j ++ [125])) w2) := by
        show Pr B b _ _
        simpa [List.append_assoc] using h2
      clear h2 p2
      go_wp2
      go_end0
      exact ⟨rfl,H2.out,P2.out⟩
end Go.Proofs.YtapcmbbhhclepaaGreatDoor
