/-
  THE WALKS of the law RedactMakes (layer 7).
-/
import Derived.Test.YtapcmbbhhclepaaGreatDoorMxXRef7R
import Derived.Test.YtapcmbbhhclepaaGreatDoorMxXRef7H
import Derived.Test.YtapcmbbhhclepaaGreatDoorMxXWide
set_option linter.unusedVariables false
set_option linter.unusedSimpArgs false
set_option maxRecDepth 100000
namespace Go.Proofs.YtapcmbbhhclepaaGreatDoor
open Go.RowKit

set_option maxHeartbeats 4000000 in
theorem makes_any {v:Value} {x:V} {w:World} {S:Nat→Prop} (h:Is w S v x) (hr:V.right x=true) (hwt:V.wt x≤10000000) (hc:Xr.cost x≤900000) (hT:Tabs w) :
    Calls Tryz.prog 12 #[v] w fun e w'=>e=.returned (.bool true)∧Below w.heap.size w w':=by
  obtain ⟨kv,lv,rfl,h2,h8,_⟩:=id h.open;obtain ⟨a1,c1,rfl,_⟩:=id h2;obtain ⟨a2,c2,_,rfl,_⟩:=id h8;clear h2 h8;have b0:=below_alloc w (.cells #[.int .i64 x.kind,.int .i64 x.num,.string x.text,.slice a1 x.keys.length c1,.slice a2 x.list.length c2] 27);have X0:=hide (b5_new w (.int .i64 x.kind) (.int .i64 x.num) (.string x.text) (.slice a1 x.keys.length c1) (.slice a2 x.list.length c2) w.heap.size rfl);have HI:=hide (h.below b0);have HT:=hide (hT.below b0);have B0:=hide b0;have HWT:=hide hwt;have HR:=hide hr;have HC:=hide hc;have HWS:Hid (V.wt (Xr.sealed x)≤4294967296):=hide (by have:=Xr.wt_sealed x;omega);have HWR:Hid (V.wt (Xr.redact x)≤4294967296):=hide (by have:=Xr.wt_redact x;omega);obtain ⟨HV,hHV⟩:∃ H,Xr.hash x=H:=⟨_,rfl⟩;have HHV:=hide hHV;obtain ⟨IV,hIV⟩:∃ H,Xr.ident x=H:=⟨_,rfl⟩;have HIV:=hide hIV;obtain ⟨q,hqq⟩:∃ q,Xr.hashed x=q:=⟨_,rfl⟩;have HHQ:=hide hqq;have HQ1:Hid ((HV.toList == HV.toList)=true):=hide (by simp);have HQ2:Hid ((q == q)=true):=hide (by simp);have HQ3:Hid ((IV.toList == IV.toList)=true):=hide (by simp);clear b0 h hT hr hwt hc hHV hIV hqq;go_enter Tryz.func12,Tryz.ntmps12
  go_upto_region 1 with fail
  generalize w.alloc (.cells #[.int .i64 x.kind,.int .i64 x.num,.string x.text,.slice a1 x.keys.length c1,.slice a2 x.list.length c2] 27)=w0 at X0 HI HT B0 ⊢;refine' wp_region_facts [(fun _ _ v _=>v=(.agg #[.int .i64 x.kind,.int .i64 x.num,.string x.text,.slice a1 x.keys.length c1,.slice a2 x.list.length c2])),(fun _ _ v _=>v=(.string HV)),(fun _ _ v _=>v=(.agg #[.int .i64 x.kind,.int .i64 x.num,.string x.text,.slice a1 x.keys.length c1,.slice a2 x.list.length c2])),(fun _ _ v _=>v=(.string HV)),(fun _ _ v _=>v=(.bool true)),(fun _ _ v _=>v=(.bool true)),(fun _ _ v _=>v=(.agg #[.int .i64 x.kind,.int .i64 x.num,.string x.text,.slice a1 x.keys.length c1,.slice a2 x.list.length c2])),(AnyF (Xr.sealed x)),(fun _ _ v _=>v=(.agg #[.int .i64 x.kind,.int .i64 x.num,.string x.text,.slice a1 x.keys.length c1,.slice a2 x.list.length c2])),(AnyF (Xr.sealed x)),(fun _ _ v _=>v=(.bool true)),(fun _ _ v _=>v=(.bool true)),(fun _ _ v _=>v=(.bool true)),(fun _ _ v _=>v=(.agg #[.int .i64 x.kind,.int .i64 x.num,.string x.text,.slice a1 x.keys.length c1,.slice a2 x.list.length c2])),(fun _ _ v _=>v=(.bool q)),(fun _ _ v _=>v=(.agg #[.int .i64 x.kind,.int .i64 x.num,.string x.text,.slice a1 x.keys.length c1,.slice a2 x.list.length c2])),(fun _ _ v _=>v=(.bool q)),(fun _ _ v _=>v=(.bool true)),(fun _ _ v _=>v=(.bool true)),(fun _ _ v _=>v=(.bool true)),(fun _ _ v _=>v=(.agg #[.int .i64 x.kind,.int .i64 x.num,.string x.text,.slice a1 x.keys.length c1,.slice a2 x.list.length c2])),(AnyF (Xr.redact x)),(fun _ _ v _=>v=(.agg #[.int .i64 x.kind,.int .i64 x.num,.string x.text,.slice a1 x.keys.length c1,.slice a2 x.list.length c2])),(AnyF (Xr.redact x)),(fun _ _ v _=>v=(.bool true)),(fun _ _ v _=>v=(.bool true)),(fun _ _ v _=>v=(.bool true)),(fun _ _ v _=>v=(.agg #[.int .i64 x.kind,.int .i64 x.num,.string x.text,.slice a1 x.keys.length c1,.slice a2 x.list.length c2])),(fun _ _ v _=>v=(.string IV)),(fun _ _ v _=>v=(.agg #[.int .i64 x.kind,.int .i64 x.num,.string x.text,.slice a1 x.keys.length c1,.slice a2 x.list.length c2])),(fun _ _ v _=>v=(.string IV)),(fun _ _ v _=>v=(.bool true)),(fun _ _ v _=>v=(.bool true))] (by kernel_rfl) rfl ?hA (by kernel_rfl) (by kernel_rfl) (by kernel_rfl) rfl ?mono ?steps ?last
  case hA =>
    intro vs;simp only [puts,Act.put,List.setIfInBounds_toArray,List.set_cons_zero,List.set_cons_succ,Nat.zero_add,Nat.reduceAdd];rfl
  case mono=>exact ⟨mono_eq _,mono_eq _,mono_eq _,mono_eq _,mono_eq _,mono_eq _,mono_eq _,mono_any _,mono_eq _,mono_any _,mono_eq _,mono_eq _,mono_eq _,mono_eq _,mono_eq _,mono_eq _,mono_eq _,mono_eq _,mono_eq _,mono_eq _,mono_eq _,mono_any _,mono_eq _,mono_any _,mono_eq _,mono_eq _,mono_eq _,mono_eq _,mono_eq _,mono_eq _,mono_eq _,mono_eq _,mono_eq _,trivial⟩
  case steps =>
    intro Q';refine And.intro ?_ <| And.intro ?_ <| And.intro ?_ <| And.intro ?_ <| And.intro ?_ <| And.intro ?_ <| And.intro ?_ <| And.intro ?_ <| And.intro ?_ <| And.intro ?_ <| And.intro ?_ <| And.intro ?_ <| And.intro ?_ <| And.intro ?_ <| And.intro ?_ <| And.intro ?_ <| And.intro ?_ <| And.intro ?_ <| And.intro ?_ <| And.intro ?_ <| And.intro ?_ <| And.intro ?_ <| And.intro ?_ <| And.intro ?_ <| And.intro ?_ <| And.intro ?_ <| And.intro ?_ <| And.intro ?_ <| And.intro ?_ <| And.intro ?_ <| And.intro ?_ <| And.intro ?_ <| And.intro ?_ <| trivial
    all_goals
      intro vs lo hi w' hM hd K' hK;dsimp only at hK ⊢;simp only [Act.put,List.setIfInBounds_toArray,List.set_cons_zero,List.set_cons_succ] at hK
    · obtain ⟨p0,p1,p2,p3,p4⟩:=(X0.out.keep hM).cells
      go_simp;exact hK.out _ _ rfl (Below.refl _ _)
    · have e0:vs 0=(.agg #[.int .i64 x.kind,.int .i64 x.num,.string x.text,.slice a1 x.keys.length c1,.slice a2 x.list.length c2]):=hd 0 (by kernel_rfl)
      simp only [e0] at hK ⊢;clear e0;go_simp;refine (hash_any (HI.out.below hM) HR.out HWT.out HC.out (HT.out.below hM)).mono ?_;rintro e w7 ⟨rfl,b7⟩;rw [HHV.out];exact hK.out _ _ rfl b7
    · obtain ⟨p0,p1,p2,p3,p4⟩:=(X0.out.keep hM).cells
      go_simp;exact hK.out _ _ rfl (Below.refl _ _)
    · have e2:vs 2=(.agg #[.int .i64 x.kind,.int .i64 x.num,.string x.text,.slice a1 x.keys.length c1,.slice a2 x.list.length c2]):=hd 2 (by kernel_rfl)
      simp only [e2] at hK ⊢;clear e2;go_simp;refine (ref7Hash_any (HI.out.below hM) HR.out HWT.out HC.out).mono ?_;rintro e w7 ⟨rfl,b7⟩;rw [HHV.out];exact hK.out _ _ rfl b7
    · have e1:vs 1=(.string HV):=hd 1 (by kernel_rfl)
      have e3:vs 3=(.string HV):=hd 3 (by kernel_rfl);simp only [e1,e3] at hK ⊢;clear e1 e3;have hq:=HQ1.out;go_simp;exact hK.out _ _ rfl (Below.refl _ _)
    · have e4:vs 4=(.bool true):=hd 4 (by kernel_rfl)
      simp only [e4] at hK ⊢;clear e4;go_simp;exact hK.out _ _ rfl (Below.refl _ _)
    · have e5:vs 5=(.bool true):=hd 5 (by kernel_rfl)
      simp only [e5] at hK ⊢;clear e5;obtain ⟨p0,p1,p2,p3,p4⟩:=(X0.out.keep hM).cells;go_simp;exact hK.out _ _ rfl (Below.refl _ _)
    · have e6:vs 6=(.agg #[.int .i64 x.kind,.int .i64 x.num,.string x.text,.slice a1 x.keys.length c1,.slice a2 x.list.length c2]):=hd 6 (by kernel_rfl)
      have e5:vs 5=(.bool true):=hd 5 (by kernel_rfl);simp only [e6,e5] at hK ⊢;clear e6 e5;go_simp;refine (sealed_any (HI.out.below hM) HR.out HWT.out HC.out (HT.out.below hM)).mono ?_;rintro e w7 ⟨k7,n7,t7,a17,n17,c17,a27,n27,c27,rfl,h7,b7⟩;exact hK.out _ _ ⟨_,_,_,_,_,_,_,_,_,rfl,hide (h7.weak (fun _ _ _=>trivial))⟩ b7
    · have e5:vs 5=(.bool true):=hd 5 (by kernel_rfl)
      simp only [e5] at hK ⊢;clear e5;obtain ⟨p0,p1,p2,p3,p4⟩:=(X0.out.keep hM).cells;go_simp;exact hK.out _ _ rfl (Below.refl _ _)
    · have e8:vs 8=(.agg #[.int .i64 x.kind,.int .i64 x.num,.string x.text,.slice a1 x.keys.length c1,.slice a2 x.list.length c2]):=hd 8 (by kernel_rfl)
      have e5:vs 5=(.bool true):=hd 5 (by kernel_rfl);simp only [e8,e5] at hK ⊢;clear e8 e5;go_simp;refine (ref7Sealed_any (HI.out.below hM) HR.out HWT.out HC.out).mono ?_;rintro e w7 ⟨k7,n7,t7,a17,n17,c17,a27,n27,c27,rfl,h7,b7⟩;exact hK.out _ _ ⟨_,_,_,_,_,_,_,_,_,rfl,hide (h7.weak (fun _ _ _=>trivial))⟩ b7
    · obtain ⟨k7,n7,t7,a17,n17,c17,a27,n27,c27,e7,H7⟩:=hd 7 (by kernel_rfl)
      obtain ⟨k9,n9,t9,a19,n19,c19,a29,n29,c29,e9,H9⟩:=hd 9 (by kernel_rfl);have e5:vs 5=(.bool true):=hd 5 (by kernel_rfl);simp only [e7,e9,e5] at hK ⊢;clear e7 e9 e5;go_simp;refine (refSame_any H7.out H9.out HWS.out HWS.out true ⟨fun _=>rfl,fun _=>rfl⟩).mono ?_;rintro e w7 ⟨rfl,b7⟩;exact hK.out _ _ rfl b7
    · have e5:vs 5=(.bool true):=hd 5 (by kernel_rfl)
      have e10:vs 10=(.bool true):=hd 10 (by kernel_rfl);simp only [e5,e10] at hK ⊢;clear e5 e10;go_simp;exact hK.out _ _ rfl (Below.refl _ _)
    · have e11:vs 11=(.bool true):=hd 11 (by kernel_rfl)
      simp only [e11] at hK ⊢;clear e11;go_simp;exact hK.out _ _ rfl (Below.refl _ _)
    · have e12:vs 12=(.bool true):=hd 12 (by kernel_rfl)
      simp only [e12] at hK ⊢;clear e12;obtain ⟨p0,p1,p2,p3,p4⟩:=(X0.out.keep hM).cells;go_simp;exact hK.out _ _ rfl (Below.refl _ _)
    · have e13:vs 13=(.agg #[.int .i64 x.kind,.int .i64 x.num,.string x.text,.slice a1 x.keys.length c1,.slice a2 x.list.length c2]):=hd 13 (by kernel_rfl)
      have e12:vs 12=(.bool true):=hd 12 (by kernel_rfl);simp only [e13,e12] at hK ⊢;clear e13 e12;go_simp;refine (hashed_any (HI.out.below hM) HR.out HWT.out HC.out (HT.out.below hM)).mono ?_;rintro e w7 ⟨rfl,b7⟩;rw [HHQ.out];exact hK.out _ _ rfl b7
    · have e12:vs 12=(.bool true):=hd 12 (by kernel_rfl)
      simp only [e12] at hK ⊢;clear e12;obtain ⟨p0,p1,p2,p3,p4⟩:=(X0.out.keep hM).cells;go_simp;exact hK.out _ _ rfl (Below.refl _ _)
    · have e15:vs 15=(.agg #[.int .i64 x.kind,.int .i64 x.num,.string x.text,.slice a1 x.keys.length c1,.slice a2 x.list.length c2]):=hd 15 (by kernel_rfl)
      have e12:vs 12=(.bool true):=hd 12 (by kernel_rfl);simp only [e15,e12] at hK ⊢;clear e15 e12;go_simp;refine (ref7Hashed_any (HI.out.below hM) HR.out HWT.out HC.out).mono ?_;rintro e w7 ⟨rfl,b7⟩;rw [HHQ.out];exact hK.out _ _ rfl b7
    · have e14:vs 14=(.bool q):=hd 14 (by kernel_rfl)
      have e16:vs 16=(.bool q):=hd 16 (by kernel_rfl);have e12:vs 12=(.bool true):=hd 12 (by kernel_rfl);simp only [e14,e16,e12] at hK ⊢;clear e14 e16 e12;have hq:=HQ2.out;go_simp;exact hK.out _ _ rfl (Below.refl _ _)
    · have e12:vs 12=(.bool true):=hd 12 (by kernel_rfl)
      have e17:vs 17=(.bool true):=hd 17 (by kernel_rfl);simp only [e12,e17] at hK ⊢;clear e12 e17;go_simp;exact hK.out _ _ rfl (Below.refl _ _)
    · have e18:vs 18=(.bool true):=hd 18 (by kernel_rfl)
      simp only [e18] at hK ⊢;clear e18;go_simp;exact hK.out _ _ rfl (Below.refl _ _)
    · have e19:vs 19=(.bool true):=hd 19 (by kernel_rfl)
      simp only [e19] at hK ⊢;clear e19;obtain ⟨p0,p1,p2,p3,p4⟩:=(X0.out.keep hM).cells;go_simp;exact hK.out _ _ rfl (Below.refl _ _)
    · have e20:vs 20=(.agg #[.int .i64 x.kind,.int .i64 x.num,.string x.text,.slice a1 x.keys.length c1,.slice a2 x.list.length c2]):=hd 20 (by kernel_rfl)
      have e19:vs 19=(.bool true):=hd 19 (by kernel_rfl);simp only [e20,e19] at hK ⊢;clear e20 e19;go_simp;refine (redact_any (HI.out.below hM) (Nat.le_trans HWT.out (by decide))).mono ?_;rintro e w7 ⟨k7,n7,t7,a17,n17,c17,a27,n27,c27,rfl,h7,b7⟩;exact hK.out _ _ ⟨_,_,_,_,_,_,_,_,_,rfl,hide (h7.weak (fun _ _ _=>trivial))⟩ b7
    · have e19:vs 19=(.bool true):=hd 19 (by kernel_rfl)
      simp only [e19] at hK ⊢;clear e19;obtain ⟨p0,p1,p2,p3,p4⟩:=(X0.out.keep hM).cells;go_simp;exact hK.out _ _ rfl (Below.refl _ _)
    · have e22:vs 22=(.agg #[.int .i64 x.kind,.int .i64 x.num,.string x.text,.slice a1 x.keys.length c1,.slice a2 x.list.length c2]):=hd 22 (by kernel_rfl)
      have e19:vs 19=(.bool true):=hd 19 (by kernel_rfl);simp only [e22,e19] at hK ⊢;clear e22 e19;go_simp;refine (ref7Redact_any (HI.out.below hM) HR.out HWT.out).mono ?_;rintro e w7 ⟨k7,n7,t7,a17,n17,c17,a27,n27,c27,rfl,h7,b7⟩;exact hK.out _ _ ⟨_,_,_,_,_,_,_,_,_,rfl,hide (h7.weak (fun _ _ _=>trivial))⟩ b7
    · obtain ⟨k21,n21,t21,a121,n121,c121,a221,n221,c221,e21,H21⟩:=hd 21 (by kernel_rfl)
      obtain ⟨k23,n23,t23,a123,n123,c123,a223,n223,c223,e23,H23⟩:=hd 23 (by kernel_rfl);have e19:vs 19=(.bool true):=hd 19 (by kernel_rfl);simp only [e21,e23,e19] at hK ⊢;clear e21 e23 e19;go_simp;refine (refSame_any H21.out H23.out HWR.out HWR.out true ⟨fun _=>rfl,fun _=>rfl⟩).mono ?_;rintro e w7 ⟨rfl,b7⟩;exact hK.out _ _ rfl b7
    · have e19:vs 19=(.bool true):=hd 19 (by kernel_rfl)
      have e24:vs 24=(.bool true):=hd 24 (by kernel_rfl);simp only [e19,e24] at hK ⊢;clear e19 e24;go_simp;exact hK.out _ _ rfl (Below.refl _ _)
    · have e25:vs 25=(.bool true):=hd 25 (by kernel_rfl)
      simp only [e25] at hK ⊢;clear e25;go_simp;exact hK.out _ _ rfl (Below.refl _ _)
    · have e26:vs 26=(.bool true):=hd 26 (by kernel_rfl)
      simp only [e26] at hK ⊢;clear e26;obtain ⟨p0,p1,p2,p3,p4⟩:=(X0.out.keep hM).cells;go_simp;exact hK.out _ _ rfl (Below.refl _ _)
    · have e27:vs 27=(.agg #[.int .i64 x.kind,.int .i64 x.num,.string x.text,.slice a1 x.keys.length c1,.slice a2 x.list.length c2]):=hd 27 (by kernel_rfl)
      have e26:vs 26=(.bool true):=hd 26 (by kernel_rfl);simp only [e27,e26] at hK ⊢;clear e27 e26;go_simp;refine (id_any2 (HI.out.below hM) HR.out HWT.out HC.out (HT.out.below hM)).mono ?_;rintro e w7 ⟨rfl,b7⟩;rw [HIV.out];exact hK.out _ _ rfl b7
    · have e26:vs 26=(.bool true):=hd 26 (by kernel_rfl)
      simp only [e26] at hK ⊢;clear e26;obtain ⟨p0,p1,p2,p3,p4⟩:=(X0.out.keep hM).cells;go_simp;exact hK.out _ _ rfl (Below.refl _ _)
    · have e29:vs 29=(.agg #[.int .i64 x.kind,.int .i64 x.num,.string x.text,.slice a1 x.keys.length c1,.slice a2 x.list.length c2]):=hd 29 (by kernel_rfl)
      have e26:vs 26=(.bool true):=hd 26 (by kernel_rfl);simp only [e29,e26] at hK ⊢;clear e29 e26;go_simp;refine (ref7ID_any (HI.out.below hM) HR.out HWT.out HC.out).mono ?_;rintro e w7 ⟨rfl,b7⟩;rw [HIV.out];exact hK.out _ _ rfl b7
    · have e28:vs 28=(.string IV):=hd 28 (by kernel_rfl)
      have e30:vs 30=(.string IV):=hd 30 (by kernel_rfl);have e26:vs 26=(.bool true):=hd 26 (by kernel_rfl);simp only [e28,e30,e26] at hK ⊢;clear e28 e30 e26;have hq:=HQ3.out;go_simp;exact hK.out _ _ rfl (Below.refl _ _)
    · have e26:vs 26=(.bool true):=hd 26 (by kernel_rfl)
      have e31:vs 31=(.bool true):=hd 31 (by kernel_rfl);simp only [e26,e31] at hK ⊢;clear e26 e31;go_simp;exact hK.out _ _ rfl (Below.refl _ _)
  case last =>
    intro vs lo hi w' hM hlo hap hall K' Q' hK;have h32:vs 32=.bool true:=hall.2.2.2.2.2.2.2.2.2.2.2.2.2.2.2.2.2.2.2.2.2.2.2.2.2.2.2.2.2.2.2.2.1;dsimp only;simp only [h32];clear h32 hall hap hlo;go_simp;refine hK.out _ _ ?_;clear hK
    try go_wp2_with fail
    go_ret
    exact ⟨rfl,bthen B0.out hM⟩
theorem u8_wrap_id {x:Int} (h0:0≤x) (h1:x≤255):IntKind.u8.wrap x=x:=by
  have h:IntKind.u8.wrap x=x % 256:=by simp [IntKind.wrap,IntKind.signed,IntKind.bits]
  omega
namespace Xr
def makesK:List ByteArray:=[⟨#[109,101,109,98,101,114,115,104,105,112]⟩,⟨#[98,97,110]⟩,⟨#[106,111,105,110,95,114,117,108,101]⟩,⟨#[97,108,108,111,119]⟩,⟨#[117,115,101,114,115]⟩,⟨#[120]⟩]
end Xr
/-- what the law RedactMakes asks of its value -/
structure Fm (VV:V):Prop where
  vr:V.right VV=true
  vw:V.wt VV≤10000000
  vc:Xr.cost VV≤900000
  sr:V.right (Xr.sealed VV)=true
  sw:V.wt (Xr.sealed VV)≤10000000
  sc:Xr.cost (Xr.sealed VV)≤900000
theorem makes_facts {zs:List Int} (hz:∀ n ∈ zs,(Lit.int .u8 n).wf=true) (len:Nat) (k:Int):Fm (Xr.wide zs len k):=by
  have vr:=Xr.wide_right hz len k;have v5:=Xr.wide_5 zs len k;have vw:=Xr.wide_wt zs len k;have vc:=Xr.wide_cost zs len k;have s1:=Xr.sealed_right' vr v5;have s2:=Xr.wt_sealed (Xr.wide zs len k);have s3:=Xr.cost_sealed (Xr.wide zs len k);exact ⟨vr,by omega,by omega,s1.1,by omega,by omega⟩

set_option maxHeartbeats 4000000 in
theorem redactMakes_walk (s0 s1:ByteArray) (a2:Option Addr) (len2 cap2:Nat) (z2:List Int) (a3:Int) (w:World) (w0:s0.size≤maxLen) (w1:s1.size≤maxLen) (w2:IsRow .u8 w a2 len2 cap2 z2) (w3:(Lit.int .u8 a3).wf=true) (hT:Tabs w) (z0:s0.size≤140737488355328) (z1:s1.size≤140737488355328) (z3:len2≤140737488355328) :
    Calls Tryz.prog 3 #[.string s0,.string s1,.slice a2 len2 cap2,.int .u8 a3] w fun e w'=>e=.returned (.bool true)∧Below w.heap.size w w':=by
  have HT:=hide hT;have HR0:=hide w2;obtain ⟨hk0,hk1⟩:=wf_u8 w3;have hz0:=(IsRow.view w2).2.2.1;have HF:=hide (makes_facts hz0 len2 a3);have HSZ:Hid (s0.size≤maxLen):=hide w0;clear hT w2 w3 hz0
  by_cases hb:200 < s0.size+s1.size
  · go_enter Tryz.func3,Tryz.ntmps3
    go_wp2_with fail
    refine (xknown_any w HT.out).mono ?_;rintro e w3 ⟨rfl,b3⟩
    go_wp2_with fail
    go_ret
    exact ⟨rfl,b3⟩
  · go_enter Tryz.func3,Tryz.ntmps3
    go_wp2_with fail
    refine (xknown_any w HT.out).mono ?_;rintro e w3 ⟨rfl,b3⟩;replace HT:=hide (HT.out.below b3);replace HR0:=hide (isRow_keep HR0.out b3);have L:=hide b3;have bR:=below_alloc w3 (.cells (Xr.makesK.map Value.string).toArray 9);have RK:=hide (rowS_new w3 Xr.makesK w3.heap.size rfl);simp only [Xr.makesK,List.map_cons,List.map_nil] at bR;replace HT:=hide (HT.out.below bR);replace HR0:=hide (isRow_keep HR0.out bR);replace L:=hide (bthen L.out bR);have NR:Hid (w3.heap.size < (w3.alloc (.cells #[.string ⟨#[109,101,109,98,101,114,115,104,105,112]⟩,.string ⟨#[98,97,110]⟩,.string ⟨#[106,111,105,110,95,114,117,108,101]⟩,.string ⟨#[97,108,108,111,119]⟩,.string ⟨#[117,115,101,114,115]⟩,.string ⟨#[120]⟩] 9)).heap.size):=hide (by simp);have RK2:Hid (RowS (w3.alloc (.cells #[.string ⟨#[109,101,109,98,101,114,115,104,105,112]⟩,.string ⟨#[98,97,110]⟩,.string ⟨#[106,111,105,110,95,114,117,108,101]⟩,.string ⟨#[97,108,108,111,119]⟩,.string ⟨#[117,115,101,114,115]⟩,.string ⟨#[120]⟩] 9)) w3.heap.size Xr.makesK):=hide RK.out;clear b3 bR hb w0 w1 z0 z1 z3 RK
    go_wp2_with fail
    generalize w3.alloc (.cells #[.string ⟨#[109,101,109,98,101,114,115,104,105,112]⟩,.string ⟨#[98,97,110]⟩,.string ⟨#[106,111,105,110,95,114,117,108,101]⟩,.string ⟨#[97,108,108,111,119]⟩,.string ⟨#[117,115,101,114,115]⟩,.string ⟨#[120]⟩] 9)=wR at HT HR0 L NR RK2 ⊢;generalize w3.heap.size=gk at NR RK2 ⊢;refine (wide_any a2 len2 cap2 z2 a3 wR HR0.out hk0 hk1).mono ?_;rintro e v1 ⟨vk,vn,vt,va1,vn1,vc1,va2,vn2,vc2,rfl,h1,b1⟩;have bA:=below_alloc v1 (.cells #[.int .i64 vk,.int .i64 vn,.string vt,.slice va1 vn1 vc1,.slice va2 vn2 vc2] 27);have bb:=bthen b1 bA;replace HT:=hide (HT.out.below bb);replace HR0:=hide (isRow_keep HR0.out bb);replace L:=hide (bthen L.out bb);have RK:=hide (RK2.out.keep NR.out bb);have Iv:=hide ((h1.below bA).weak (S':=fun _=>True) (fun _ _ _=>trivial));have Xv:=hide (b5_new v1 (.int .i64 vk) (.int .i64 vn) (.string vt) (.slice va1 vn1 vc1) (.slice va2 vn2 vc2) v1.heap.size rfl);have NK:Hid (gk < (v1.alloc (.cells #[.int .i64 vk,.int .i64 vn,.string vt,.slice va1 vn1 vc1,.slice va2 vn2 vc2] 27)).heap.size):=hide (Nat.lt_of_lt_of_le NR.out bb.size);clear h1 bA b1 bb NR RK2;obtain ⟨VV,hVV⟩:∃ v,Xr.wide z2 len2 a3=v:=⟨_,rfl⟩;rw [hVV] at Iv HF;clear hVV
    go_upto_region 5 with fail
    generalize v1.alloc (.cells #[.int .i64 vk,.int .i64 vn,.string vt,.slice va1 vn1 vc1,.slice va2 vn2 vc2] 27)=w5 at HT HR0 L RK Iv Xv NK ⊢;generalize v1.heap.size=gv at Xv ⊢;obtain ⟨p,hp,hp6⟩:∃ p:Nat,a3 / 7 % 6=(p:Int)∧p < 6:=⟨(a3 / 7 % 6).toNat,by omega,by omega⟩;have HP:=hide hp;have hky:=RK.out p hp6;have HPZ:Hid (V.right (V.part z2 len2 a3)=true∧V.wt (V.part z2 len2 a3)≤10000000∧Xr.cost (V.part z2 len2 a3)≤900000):=hide ⟨V.right_part _ _ _,Nat.le_trans (V.wt_part _ _ _) (by decide),Nat.le_trans (Xr.cost_part _ _ _) (by decide)⟩;obtain ⟨KD,hKD⟩:∃ K,Xr.kindN a3=K:=⟨_,rfl⟩;have hks:=Xr.kindN_size a3;rw [hKD] at hks;have HKD:=hide hKD;have HKS:Hid (KD.size≤maxLen):=hide (Nat.le_trans hks (by decide));generalize Xr.makesK.getD p ByteArray.empty=KY at hky;have HKY:=hide hky;obtain ⟨r1,hr1⟩:∃ q,keptB s0 s1=q:=⟨_,rfl⟩;obtain ⟨r2,hr2⟩:∃ q,keptB KD KY=q:=⟨_,rfl⟩;have HR1:=hide hr1;have HR2:=hide hr2;have HE1:Hid ((r1 == r1)=true):=hide (by simp);have HE2:Hid ((r2 == r2)=true):=hide (by simp);have HK0:=hide (And.intro hk0 hk1);have HP6:=hide hp6;clear hp hp6 hky hks hKD hr1 hr2 hk0 hk1 RK;refine' wp_region_facts [(fun _ _ v _=>v=(.agg #[.int .i64 vk,.int .i64 vn,.string vt,.slice va1 vn1 vc1,.slice va2 vn2 vc2])),(fun _ _ v _=>v=(.bool true)),(fun _ _ v _=>v=(.bool true)),(fun _ _ v _=>v=(.agg #[.int .i64 vk,.int .i64 vn,.string vt,.slice va1 vn1 vc1,.slice va2 vn2 vc2])),(AnyF (Xr.sealed VV)),(fun _ _ v _=>v=(.bool true)),(fun _ _ v _=>v=(.bool true)),(fun _ _ v _=>v=(.bool true)),(fun _ _ v _=>v=(.slice a2 len2 cap2)),(fun _ _ v _=>v=(.int .u8 a3)),(AnyF (V.part z2 len2 a3)),(fun _ _ v _=>v=(.bool true)),(fun _ _ v _=>v=(.bool true)),(fun _ _ v _=>v=(.bool true)),(fun _ _ v _=>v=(.string s0)),(fun _ _ v _=>v=(.string s1)),(fun _ _ v _=>v=(.bool r1)),(fun _ _ v _=>v=(.string s0)),(fun _ _ v _=>v=(.string s1)),(fun _ _ v _=>v=(.bool r1)),(fun _ _ v _=>v=(.bool true)),(fun _ _ v _=>v=(.bool true)),(fun _ _ v _=>v=(.bool true)),(fun _ _ v _=>v=(.int .u8 a3)),(fun _ _ v _=>v=(.string KD)),(fun _ _ v _=>v=(.slice (some ⟨gk,0,none⟩) 6 6)),(fun _ _ v _=>v=(.int .u8 a3)),(fun _ _ v _=>v=(.int .u8 (a3 / 7))),(fun _ _ v _=>v=(.int .u8 (p:Int))),(fun _ _ v _=>v=(.pointer (some ⟨gk,p,none⟩))),(fun _ _ v _=>v=(.string KY)),(fun _ _ v _=>v=(.bool r2)),(fun _ _ v _=>v=(.int .u8 a3)),(fun _ _ v _=>v=(.string KD)),(fun _ _ v _=>v=(.slice (some ⟨gk,0,none⟩) 6 6)),(fun _ _ v _=>v=(.int .u8 a3)),(fun _ _ v _=>v=(.int .u8 (a3 / 7))),(fun _ _ v _=>v=(.int .u8 (p:Int))),(fun _ _ v _=>v=(.pointer (some ⟨gk,p,none⟩))),(fun _ _ v _=>v=(.string KY)),(fun _ _ v _=>v=(.bool r2)),(fun _ _ v _=>v=(.bool true)),(fun _ _ v _=>v=(.bool true))] (by kernel_rfl) rfl ?hA (by kernel_rfl) (by kernel_rfl) (by kernel_rfl) rfl ?mono ?steps ?last
    case hA =>
      intro vs;simp only [puts,Act.put,List.setIfInBounds_toArray,List.set_cons_zero,List.set_cons_succ,Nat.zero_add,Nat.reduceAdd];rfl
    case mono=>exact ⟨mono_eq _,mono_eq _,mono_eq _,mono_eq _,mono_any _,mono_eq _,mono_eq _,mono_eq _,mono_eq _,mono_eq _,mono_any _,mono_eq _,mono_eq _,mono_eq _,mono_eq _,mono_eq _,mono_eq _,mono_eq _,mono_eq _,mono_eq _,mono_eq _,mono_eq _,mono_eq _,mono_eq _,mono_eq _,mono_eq _,mono_eq _,mono_eq _,mono_eq _,mono_eq _,mono_eq _,mono_eq _,mono_eq _,mono_eq _,mono_eq _,mono_eq _,mono_eq _,mono_eq _,mono_eq _,mono_eq _,mono_eq _,mono_eq _,mono_eq _,trivial⟩
    case steps =>
      intro Q';refine And.intro ?_ <| And.intro ?_ <| And.intro ?_ <| And.intro ?_ <| And.intro ?_ <| And.intro ?_ <| And.intro ?_ <| And.intro ?_ <| And.intro ?_ <| And.intro ?_ <| And.intro ?_ <| And.intro ?_ <| And.intro ?_ <| And.intro ?_ <| And.intro ?_ <| And.intro ?_ <| And.intro ?_ <| And.intro ?_ <| And.intro ?_ <| And.intro ?_ <| And.intro ?_ <| And.intro ?_ <| And.intro ?_ <| And.intro ?_ <| And.intro ?_ <| And.intro ?_ <| And.intro ?_ <| And.intro ?_ <| And.intro ?_ <| And.intro ?_ <| And.intro ?_ <| And.intro ?_ <| And.intro ?_ <| And.intro ?_ <| And.intro ?_ <| And.intro ?_ <| And.intro ?_ <| And.intro ?_ <| And.intro ?_ <| And.intro ?_ <| And.intro ?_ <| And.intro ?_ <| And.intro ?_ <| trivial
      all_goals
        intro vs lo hi w' hM hd K' hK;dsimp only at hK ⊢;simp only [Act.put,List.setIfInBounds_toArray,List.set_cons_zero,List.set_cons_succ] at hK
      · obtain ⟨p0,p1,p2,p3,p4⟩:=(Xv.out.keep hM).cells
        go_simp;exact hK.out _ _ rfl (Below.refl _ _)
      · have e0:vs 0=(.agg #[.int .i64 vk,.int .i64 vn,.string vt,.slice va1 vn1 vc1,.slice va2 vn2 vc2]):=hd 0 (by kernel_rfl)
        simp only [e0] at hK ⊢;clear e0;go_simp;refine (makes_any (Iv.out.below hM) HF.out.vr HF.out.vw HF.out.vc (HT.out.below hM)).mono ?_;rintro e w7 ⟨rfl,b7⟩;exact hK.out _ _ rfl b7
      · have e1:vs 1=(.bool true):=hd 1 (by kernel_rfl)
        simp only [e1] at hK ⊢;clear e1;go_simp;exact hK.out _ _ rfl (Below.refl _ _)
      · have e2:vs 2=(.bool true):=hd 2 (by kernel_rfl)
        simp only [e2] at hK ⊢;clear e2;obtain ⟨p0,p1,p2,p3,p4⟩:=(Xv.out.keep hM).cells;go_simp;exact hK.out _ _ rfl (Below.refl _ _)
      · have e3:vs 3=(.agg #[.int .i64 vk,.int .i64 vn,.string vt,.slice va1 vn1 vc1,.slice va2 vn2 vc2]):=hd 3 (by kernel_rfl)
        have e2:vs 2=(.bool true):=hd 2 (by kernel_rfl);simp only [e3,e2] at hK ⊢;clear e3 e2;go_simp;refine (ref7Sealed_any (Iv.out.below hM) HF.out.vr HF.out.vw HF.out.vc).mono ?_;rintro e w7 ⟨k7,n7,t7,a17,n17,c17,a27,n27,c27,rfl,h7,b7⟩;exact hK.out _ _ ⟨_,_,_,_,_,_,_,_,_,rfl,hide (h7.weak (fun _ _ _=>trivial))⟩ b7
      · obtain ⟨k4,n4,t4,a14,n14,c14,a24,n24,c24,e4,H4⟩:=hd 4 (by kernel_rfl)
        have e2:vs 2=(.bool true):=hd 2 (by kernel_rfl);simp only [e4,e2] at hK ⊢;clear e4 e2;go_simp;refine (makes_any H4.out HF.out.sr HF.out.sw HF.out.sc (HT.out.below hM)).mono ?_;rintro e w7 ⟨rfl,b7⟩;exact hK.out _ _ rfl b7
      · have e2:vs 2=(.bool true):=hd 2 (by kernel_rfl)
        have e5:vs 5=(.bool true):=hd 5 (by kernel_rfl);simp only [e2,e5] at hK ⊢;clear e2 e5;go_simp;exact hK.out _ _ rfl (Below.refl _ _)
      · have e6:vs 6=(.bool true):=hd 6 (by kernel_rfl)
        simp only [e6] at hK ⊢;clear e6;go_simp;exact hK.out _ _ rfl (Below.refl _ _)
      · have e7:vs 7=(.bool true):=hd 7 (by kernel_rfl)
        simp only [e7] at hK ⊢;clear e7;go_simp;exact hK.out _ _ rfl (Below.refl _ _)
      · have e7:vs 7=(.bool true):=hd 7 (by kernel_rfl)
        simp only [e7] at hK ⊢;clear e7;go_simp;exact hK.out _ _ rfl (Below.refl _ _)
      · have e8:vs 8=(.slice a2 len2 cap2):=hd 8 (by kernel_rfl)
        have e9:vs 9=(.int .u8 a3):=hd 9 (by kernel_rfl);have e7:vs 7=(.bool true):=hd 7 (by kernel_rfl);simp only [e8,e9,e7] at hK ⊢;clear e8 e9 e7;go_simp;refine (part_any a2 len2 cap2 z2 a3 w' (isRow_keep HR0.out hM) HK0.out.1 HK0.out.2).mono ?_;rintro e w7 ⟨k7,n7,t7,a17,n17,c17,a27,n27,c27,rfl,h7,b7⟩;exact hK.out _ _ ⟨_,_,_,_,_,_,_,_,_,rfl,hide (h7.weak (fun _ _ _=>trivial))⟩ b7
      · obtain ⟨k10,n10,t10,a110,n110,c110,a210,n210,c210,e10,H10⟩:=hd 10 (by kernel_rfl)
        have e7:vs 7=(.bool true):=hd 7 (by kernel_rfl);simp only [e10,e7] at hK ⊢;clear e10 e7;go_simp;refine (makes_any H10.out HPZ.out.1 HPZ.out.2.1 HPZ.out.2.2 (HT.out.below hM)).mono ?_;rintro e w7 ⟨rfl,b7⟩;exact hK.out _ _ rfl b7
      · have e7:vs 7=(.bool true):=hd 7 (by kernel_rfl)
        have e11:vs 11=(.bool true):=hd 11 (by kernel_rfl);simp only [e7,e11] at hK ⊢;clear e7 e11;go_simp;exact hK.out _ _ rfl (Below.refl _ _)
      · have e12:vs 12=(.bool true):=hd 12 (by kernel_rfl)
        simp only [e12] at hK ⊢;clear e12;go_simp;exact hK.out _ _ rfl (Below.refl _ _)
      · have e13:vs 13=(.bool true):=hd 13 (by kernel_rfl)
        simp only [e13] at hK ⊢;clear e13;go_simp;exact hK.out _ _ rfl (Below.refl _ _)
      · have e13:vs 13=(.bool true):=hd 13 (by kernel_rfl)
        simp only [e13] at hK ⊢;clear e13;go_simp;exact hK.out _ _ rfl (Below.refl _ _)
      · have e14:vs 14=(.string s0):=hd 14 (by kernel_rfl)
        have e15:vs 15=(.string s1):=hd 15 (by kernel_rfl);have e13:vs 13=(.bool true):=hd 13 (by kernel_rfl);simp only [e14,e15,e13] at hK ⊢;clear e14 e15 e13;go_simp;refine (Kept_any s0 s1 _ HSZ.out).mono ?_;rintro e w7 ⟨rfl,b7⟩;rw [HR1.out];exact hK.out _ _ rfl b7
      · have e13:vs 13=(.bool true):=hd 13 (by kernel_rfl)
        simp only [e13] at hK ⊢;clear e13;go_simp;exact hK.out _ _ rfl (Below.refl _ _)
      · have e13:vs 13=(.bool true):=hd 13 (by kernel_rfl)
        simp only [e13] at hK ⊢;clear e13;go_simp;exact hK.out _ _ rfl (Below.refl _ _)
      · have e17:vs 17=(.string s0):=hd 17 (by kernel_rfl)
        have e18:vs 18=(.string s1):=hd 18 (by kernel_rfl);have e13:vs 13=(.bool true):=hd 13 (by kernel_rfl);simp only [e17,e18,e13] at hK ⊢;clear e17 e18 e13;go_simp;refine (ref7Kept_any s0 s1 _).mono ?_;rintro e w7 ⟨rfl,b7⟩;rw [HR1.out];exact hK.out _ _ rfl b7
      · have e16:vs 16=(.bool r1):=hd 16 (by kernel_rfl)
        have e19:vs 19=(.bool r1):=hd 19 (by kernel_rfl);have e13:vs 13=(.bool true):=hd 13 (by kernel_rfl);simp only [e16,e19,e13] at hK ⊢;clear e16 e19 e13;have hq:=HE1.out;go_simp;exact hK.out _ _ rfl (Below.refl _ _)
      · have e13:vs 13=(.bool true):=hd 13 (by kernel_rfl)
        have e20:vs 20=(.bool true):=hd 20 (by kernel_rfl);simp only [e13,e20] at hK ⊢;clear e13 e20;go_simp;exact hK.out _ _ rfl (Below.refl _ _)
      · have e21:vs 21=(.bool true):=hd 21 (by kernel_rfl)
        simp only [e21] at hK ⊢;clear e21;go_simp;exact hK.out _ _ rfl (Below.refl _ _)
      · have e22:vs 22=(.bool true):=hd 22 (by kernel_rfl)
        simp only [e22] at hK ⊢;clear e22;go_simp;exact hK.out _ _ rfl (Below.refl _ _)
      · have e23:vs 23=(.int .u8 a3):=hd 23 (by kernel_rfl)
        have e22:vs 22=(.bool true):=hd 22 (by kernel_rfl);simp only [e23,e22] at hK ⊢;clear e23 e22;go_simp;refine (kind_any a3 w' HK0.out.1 HK0.out.2).mono ?_;rintro e w7 ⟨rfl,b7⟩;rw [HKD.out];exact hK.out _ _ rfl b7
      · have e22:vs 22=(.bool true):=hd 22 (by kernel_rfl)
        simp only [e22] at hK ⊢;clear e22;go_simp;exact hK.out _ _ rfl (Below.refl _ _)
      · have e22:vs 22=(.bool true):=hd 22 (by kernel_rfl)
        simp only [e22] at hK ⊢;clear e22;go_simp;exact hK.out _ _ rfl (Below.refl _ _)
      · have e26:vs 26=(.int .u8 a3):=hd 26 (by kernel_rfl)
        have e22:vs 22=(.bool true):=hd 22 (by kernel_rfl);simp only [e26,e22] at hK ⊢;clear e26 e22;obtain ⟨hk0,hk1⟩:=HK0.out;have ht:=Int.tdiv_eq_ediv_of_nonneg (b:=7) hk0;have hd0:0≤a3 / 7:=by omega
        have hd1:a3 / 7≤255:=by omega
        have hw:=u8_wrap_id hd0 hd1;go_simp;exact hK.out _ _ rfl (Below.refl _ _)
      · have e27:vs 27=(.int .u8 (a3 / 7)):=hd 27 (by kernel_rfl)
        have e22:vs 22=(.bool true):=hd 22 (by kernel_rfl);simp only [e27,e22] at hK ⊢;clear e27 e22;obtain ⟨hk0,hk1⟩:=HK0.out;have hd0:0≤a3 / 7:=by omega
        have ht:=Int.tmod_eq_emod_of_nonneg (b:=6) hd0;have hp:=HP.out;go_simp;exact hK.out _ _ rfl (Below.refl _ _)
      · have e25:vs 25=(.slice (some ⟨gk,0,none⟩) 6 6):=hd 25 (by kernel_rfl)
        have e28:vs 28=(.int .u8 (p:Int)):=hd 28 (by kernel_rfl);have e22:vs 22=(.bool true):=hd 22 (by kernel_rfl);simp only [e25,e28,e22] at hK ⊢;clear e25 e28 e22;have hp6:=HP6.out;have hp7:(p:Int) < 6:=by omega
        go_simp;exact hK.out _ _ rfl (Below.refl _ _)
      · have e29:vs 29=(.pointer (some ⟨gk,p,none⟩)):=hd 29 (by kernel_rfl)
        have e22:vs 22=(.bool true):=hd 22 (by kernel_rfl);simp only [e29,e22] at hK ⊢;clear e29 e22;have q0:=cell_keep HKY.out hM;go_simp;exact hK.out _ _ rfl (Below.refl _ _)
      · have e24:vs 24=(.string KD):=hd 24 (by kernel_rfl)
        have e30:vs 30=(.string KY):=hd 30 (by kernel_rfl);have e22:vs 22=(.bool true):=hd 22 (by kernel_rfl);simp only [e24,e30,e22] at hK ⊢;clear e24 e30 e22;go_simp;refine (Kept_any KD KY _ HKS.out).mono ?_;rintro e w7 ⟨rfl,b7⟩;rw [HR2.out];exact hK.out _ _ rfl b7
      · have e22:vs 22=(.bool true):=hd 22 (by kernel_rfl)
        simp only [e22] at hK ⊢;clear e22;go_simp;exact hK.out _ _ rfl (Below.refl _ _)
      · have e32:vs 32=(.int .u8 a3):=hd 32 (by kernel_rfl)
        have e22:vs 22=(.bool true):=hd 22 (by kernel_rfl);simp only [e32,e22] at hK ⊢;clear e32 e22;go_simp;refine (kind_any a3 w' HK0.out.1 HK0.out.2).mono ?_;rintro e w7 ⟨rfl,b7⟩;rw [HKD.out];exact hK.out _ _ rfl b7
      · have e22:vs 22=(.bool true):=hd 22 (by kernel_rfl)
        simp only [e22] at hK ⊢;clear e22;go_simp;exact hK.out _ _ rfl (Below.refl _ _)
      · have e22:vs 22=(.bool true):=hd 22 (by kernel_rfl)
        simp only [e22] at hK ⊢;clear e22;go_simp;exact hK.out _ _ rfl (Below.refl _ _)
      · have e35:vs 35=(.int .u8 a3):=hd 35 (by kernel_rfl)
        have e22:vs 22=(.bool true):=hd 22 (by kernel_rfl);simp only [e35,e22] at hK ⊢;clear e35 e22;obtain ⟨hk0,hk1⟩:=HK0.out;have ht:=Int.tdiv_eq_ediv_of_nonneg (b:=7) hk0;have hd0:0≤a3 / 7:=by omega
        have hd1:a3 / 7≤255:=by omega
        have hw:=u8_wrap_id hd0 hd1;go_simp;exact hK.out _ _ rfl (Below.refl _ _)
      · have e36:vs 36=(.int .u8 (a3 / 7)):=hd 36 (by kernel_rfl)
        have e22:vs 22=(.bool true):=hd 22 (by kernel_rfl);simp only [e36,e22] at hK ⊢;clear e36 e22;obtain ⟨hk0,hk1⟩:=HK0.out;have hd0:0≤a3 / 7:=by omega
        have ht:=Int.tmod_eq_emod_of_nonneg (b:=6) hd0;have hp:=HP.out;go_simp;exact hK.out _ _ rfl (Below.refl _ _)
      · have e34:vs 34=(.slice (some ⟨gk,0,none⟩) 6 6):=hd 34 (by kernel_rfl)
        have e37:vs 37=(.int .u8 (p:Int)):=hd 37 (by kernel_rfl);have e22:vs 22=(.bool true):=hd 22 (by kernel_rfl);simp only [e34,e37,e22] at hK ⊢;clear e34 e37 e22;have hp6:=HP6.out;have hp7:(p:Int) < 6:=by omega
        go_simp;exact hK.out _ _ rfl (Below.refl _ _)
      · have e38:vs 38=(.pointer (some ⟨gk,p,none⟩)):=hd 38 (by kernel_rfl)
        have e22:vs 22=(.bool true):=hd 22 (by kernel_rfl);simp only [e38,e22] at hK ⊢;clear e38 e22;have q0:=cell_keep HKY.out hM;go_simp;exact hK.out _ _ rfl (Below.refl _ _)
      · have e33:vs 33=(.string KD):=hd 33 (by kernel_rfl)
        have e39:vs 39=(.string KY):=hd 39 (by kernel_rfl);have e22:vs 22=(.bool true):=hd 22 (by kernel_rfl);simp only [e33,e39,e22] at hK ⊢;clear e33 e39 e22;go_simp;refine (ref7Kept_any KD KY _).mono ?_;rintro e w7 ⟨rfl,b7⟩;rw [HR2.out];exact hK.out _ _ rfl b7
      · have e31:vs 31=(.bool r2):=hd 31 (by kernel_rfl)
        have e40:vs 40=(.bool r2):=hd 40 (by kernel_rfl);have e22:vs 22=(.bool true):=hd 22 (by kernel_rfl);simp only [e31,e40,e22] at hK ⊢;clear e31 e40 e22;have hq:=HE2.out;go_simp;exact hK.out _ _ rfl (Below.refl _ _)
      · have e22:vs 22=(.bool true):=hd 22 (by kernel_rfl)
        have e41:vs 41=(.bool true):=hd 41 (by kernel_rfl);simp only [e22,e41] at hK ⊢;clear e22 e41;go_simp;exact hK.out _ _ rfl (Below.refl _ _)
    case last =>
      intro vs lo hi w' hM hlo hap hall K' Q' hK;have h42:vs 42=.bool true:=hall.2.2.2.2.2.2.2.2.2.2.2.2.2.2.2.2.2.2.2.2.2.2.2.2.2.2.2.2.2.2.2.2.2.2.2.2.2.2.2.2.2.2.1;dsimp only;simp only [h42];clear h42 hall hap hlo;go_simp;refine hK.out _ _ ?_;clear hK
      try go_wp2_with fail
      go_ret
      exact ⟨rfl,bthen L.out hM⟩
end Go.Proofs.YtapcmbbhhclepaaGreatDoor
