/-
  THE WALK of the law RedactOnce (layer 7).
-/
import Derived.Test.YtapcmbbhhclepaaGreatDoorBxXWide
import Derived.Test.YtapcmbbhhclepaaGreatDoorB25
import Derived.Deep.DeepCutAuto
import Derived.Deep.CutBlock
set_option linter.unusedVariables false
set_option linter.unusedSimpArgs false
set_option maxRecDepth 100000
namespace Go.Proofs.YtapcmbbhhclepaaGreatDoor
open Go.RowKit

def GetT (G:Nat) (x:V):Fact:=fun lo hi v w=>∃ k n t a1 n1 c1 a2 n2 c2 i,v=.tuple #[.agg #[.int .i64 k,.int .i64 n,.string t,.slice a1 n1 c1,.slice a2 n2 c2],.bool i]∧Hid (Is w (fun b=>b < G) (.agg #[.int .i64 k,.int .i64 n,.string t,.slice a1 n1 c1,.slice a2 n2 c2]) x)
theorem mono_getT (G:Nat) (x:V):Mono (GetT G x):=by
  rintro lo hi v w w' ⟨k,n,t,a1,n1,c1,a2,n2,c2,i,h1,h2⟩ b
  exact ⟨k,n,t,a1,n1,c1,a2,n2,c2,i,h1,hide (h2.out.below b)⟩
def GetV (G:Nat) (x:V):Fact:=fun lo hi v w=>∃ k n t a1 n1 c1 a2 n2 c2,v=.agg #[.int .i64 k,.int .i64 n,.string t,.slice a1 n1 c1,.slice a2 n2 c2]∧Hid (Is w (fun b=>b < G) (.agg #[.int .i64 k,.int .i64 n,.string t,.slice a1 n1 c1,.slice a2 n2 c2]) x)
theorem mono_getV (G:Nat) (x:V):Mono (GetV G x):=by
  rintro lo hi v w w' ⟨k,n,t,a1,n1,c1,a2,n2,c2,h1,h2⟩ b
  exact ⟨k,n,t,a1,n1,c1,a2,n2,c2,h1,hide (h2.out.below b)⟩
def GetB:Fact:=fun lo hi v w=>∃ i,v=.bool i
theorem mono_getB:Mono GetB:=fun _ _ _ _ _ h _=>h
namespace Xr
structure Fo (VV:V):Prop where
  vr:V.right VV=true
  v5:VV.kind=5
  vw:V.wt VV≤460000
  vx:cost VV≤900000
  rr:V.right (redact VV)=true
  rw:V.wt (redact VV)≤10000000
  rx:cost (redact VV)≤900000
  ri:redact (redact VV)=redact VV
  re:ident (redact VV)=ident VV
  nm:Dig.Sl.named (ident VV).data.toList=true
  ns:(ident VV).size≤10000
  rl:(redact VV).keys.length=(redact VV).list.length
  rg:∀ (i:Nat) (hi:i < (redact VV).keys.length) (hj:i < (redact VV).list.length),(redact VV).keys[i]≠kContent→(V.get VV (redact VV).keys[i]).getD V.nul=(redact VV).list[i]
theorem once_all {VV:V} (vr:V.right VV=true) (v5:VV.kind=5) (vw:V.wt VV≤460000) (vx:cost VV≤730000):Fo VV:=by
  have r1:=wt_redact VV
  have r2:=cost_redact_le vr
  refine ⟨vr,v5,vw,by omega,redact_right vr,by omega,by omega,redact_redact vr,?_,?_,?_,redact_len vr v5,fun i hi hj hn=>once_get vr v5 hi hj hn⟩
  · exact ident_congr (redact_redact vr)
  · unfold ident;rw [toList_str];exact Dig.named_ident _
  · unfold ident;rw [Dig.str_size];unfold Dig.Sl.ident;rw [List.length_cons,Dig.Sl.text_length,Dig.Dg.sha_length];omega
theorem once_facts {zs:List Int} (hz:∀ n ∈ zs,(Lit.int .u8 n).wf=true) (len:Nat) (k:Int):Fo (wide zs len k) :=
  once_all (wide_right hz len k) (wide_5 zs len k) (wide_wt zs len k) (wide_cost zs len k)
end Xr

set_option maxHeartbeats 4000000 in
theorem redactOnce_walk (a0:Option Addr) (len0 cap0:Nat) (z0:List Int) (a1:Int) (w:World) (w0:IsRow .u8 w a0 len0 cap0 z0) (w1:(Lit.int .u8 a1).wf=true) (hT:Tabs w) :
    Calls Tryz.prog 4 #[.slice a0 len0 cap0,.int .u8 a1] w fun e w'=>e=.returned (.bool true)∧Below w.heap.size w w':=by
  have HT:=hide hT
  have HR0:=hide w0
  obtain ⟨hk0,hk1⟩:=wf_u8 w1
  have hz0:=(IsRow.view w0).2.2.1
  have HF:=hide (Xr.once_facts hz0 len0 a1)
  have L:=hide (Below.refl w.heap.size w)
  clear hT w0 w1 hz0
  obtain ⟨VV,hVV⟩:∃ v,Xr.wide z0 len0 a1=v:=⟨_,rfl⟩
  rw [hVV] at HF
  have HVV:=hide hVV
  clear hVV
  go_enter Tryz.func4,Tryz.ntmps4
  go_wp2_with fail
  refine (wide_any a0 len0 cap0 z0 a1 w HR0.out hk0 hk1).mono ?_
  rintro e v1 ⟨vk,vn,vt,va1,vn1,vc1,va2,vn2,vc2,rfl,h1,b1⟩
  have bA:=below_alloc v1 (.cells #[.int .i64 vk,.int .i64 vn,.string vt,.slice va1 vn1 vc1,.slice va2 vn2 vc2] 27)
  have bb:=bthen b1 bA
  replace HT:=hide (HT.out.below bb)
  replace HR0:=hide (isRow_keep HR0.out bb)
  replace L:=hide (bthen L.out bb)
  have Iv:=hide ((h1.below bA).weak (S':=fun _=>True) (fun _ _ _=>trivial))
  have Xv:=hide (b5_new v1 (.int .i64 vk) (.int .i64 vn) (.string vt) (.slice va1 vn1 vc1) (.slice va2 vn2 vc2) _ rfl)
  clear h1 bA b1 bb
  go_upto_region 2 with fail
  generalize v1.alloc (.cells #[.int .i64 vk,.int .i64 vn,.string vt,.slice va1 vn1 vc1,.slice va2 vn2 vc2] 27)=w11 at HT L HR0 Iv Xv ⊢
  generalize v1.heap.size=gv at Xv ⊢
  rw [HVV.out] at Iv
  obtain ⟨p00,p01,p02,p03,p04⟩:=Xv.out.cells
  go_wp2_with fail
  clear p00 p01 p02 p03 p04
  refine (redact_any Iv.out (Nat.le_trans HF.out.vw (by decide))).mono ?_
  rintro e v2 ⟨mk,mn,mt,ma1,mn1,mc1,ma2,mn2,mc2,rfl,h1,b1⟩
  have bA:=below_alloc v2 (.cells #[.int .i64 mk,.int .i64 mn,.string mt,.slice ma1 mn1 mc1,.slice ma2 mn2 mc2] 27)
  have bb:=bthen b1 bA
  replace HT:=hide (HT.out.below bb)
  replace Iv:=hide (Iv.out.below bb)
  replace Xv:=hide (Xv.out.keep bb)
  replace HR0:=hide (isRow_keep HR0.out bb)
  replace L:=hide (bthen L.out bb)
  have Im:=hide ((h1.below bA).weak (S':=fun _=>True) (fun _ _ _=>trivial))
  have Xm:=hide (b5_new v2 (.int .i64 mk) (.int .i64 mn) (.string mt) (.slice ma1 mn1 mc1) (.slice ma2 mn2 mc2) _ rfl)
  clear h1 bA b1 bb
  go_upto_region 3 with fail
  generalize v2.alloc (.cells #[.int .i64 mk,.int .i64 mn,.string mt,.slice ma1 mn1 mc1,.slice ma2 mn2 mc2] 27)=w12 at HT L HR0 Iv Im Xv Xm ⊢
  generalize v2.heap.size=gm at Xm ⊢
  clear HR0 HVV
  have LB:=hide (Below.refl w12.heap.size w12)
  obtain ⟨RR,hRR⟩:∃ r,Xr.redact VV=r:=⟨_,rfl⟩
  have hro:=HF.out.rg
  rw [hRR] at Im hro
  have HRO:=hide hro
  have HRR:=hide hRR
  clear hRR hro
  obtain ⟨kv,lv,hv,hks,hls,_⟩:=Im.out.open
  simp only [Value.agg.injEq,Array.mk.injEq,List.cons.injEq,and_true,Value.int.injEq,Value.string.injEq,true_and] at hv
  obtain ⟨-,-,-,rfl,rfl⟩:=hv
  obtain ⟨hn1,hk2,hk3,hkz,hkc⟩:=hks.out
  obtain ⟨hn2,hl2,hl3⟩:=isL_len hls
  subst hn1
  subst hn2
  have HKC:=hide hkc
  have HLS:=hide hls
  have HKL:Hid (RR.keys.length≤4294967296):=hide (by have h1:=Nat.le_trans (V.wtK_len RR.keys) (Nat.le_of_lt (V.wtK_keys RR));have h2:=HF.out.rw;rw [HRR.out] at h2;omega)
  have HKM:Hid (RR.keys.length≤maxLen∧RR.list.length≤maxLen):=hide ⟨Nat.le_trans hk2 hk3,Nat.le_trans hl2 hl3⟩
  have HLL:Hid (RR.keys.length=RR.list.length):=hide (by have h:=HF.out.rl;rw [HRR.out] at h;exact h)
  clear hks hls hkc hkz hk2 hk3 hl2 hl3
  go_wp2_with fail
  go_loopg [7] RR.keys.length (fun gg i wr=>∃ j:Nat,j+gg=RR.keys.length∧i=.int .i64 j∧Hid (Below w12.heap.size w12 wr))
  case atStart=>exact ⟨0,by omega,rfl,LB⟩
  case round =>
    obtain ⟨j,hj,rfl,H1⟩:=hrel
    have hkl:=HKL.out
    obtain ⟨hkm1,hkm2⟩:=HKM.out
    have Y1:=hide (Xm.out.keep H1.out)
    obtain ⟨x0,x1,x2,x3,x4⟩:=Y1.out.cells
    by_cases hlt:j < RR.keys.length
    · have hlt2:j < RR.list.length:=by have:=HLL.out;omega
      obtain ⟨kb,ko,KK,hka,hKK,ek⟩:=str_at' HKC.out H1.out (i:=j) hlt
      subst hka
      have hK2:KK=RR.keys[j]'hlt:=by rw [hKK.out];simp [List.getD,hlt]
      have HK2:=hide hK2
      obtain ⟨b,off,k',n',t',a1',n1',c1',a2',n2',c2',hla,hel,e0,e1,e2,e3,e4⟩:=isL_open HLS.out H1.out (i:=j) hlt2
      subst hla
      have HE:=hide (And.intro e0 (And.intro e1 (And.intro e2 (And.intro e3 e4))))
      have HEL:=hide hel
      have HEK:=hide ek
      clear hel e0 e1 e2 e3 e4 hKK hK2 ek
      go_upto_region 6 with fail
      clear x0 x1 x2 x3 x4
      obtain ⟨G,hGG⟩:∃ G,G=wr.heap.size:=⟨_,rfl⟩
      have HG:=hide hGG
      have JV:=hide ((Iv.out.below H1.out).weak (S':=fun b=>b < G) (fun b hb _=>by rw [hGG];exact hb))
      have YV:=hide (Xv.out.keep H1.out)
      clear hGG
      refine' wp_region_factsP 11 9 [(fun _ _ v _=>v=(.agg #[.int .i64 vk,.int .i64 vn,.string vt,.slice va1 vn1 vc1,.slice va2 vn2 vc2])),(fun _ _ v _=>v=(.pointer (some ⟨gm,3,none⟩))),(fun _ _ v _=>v=(.slice (some ⟨kb,ko,none⟩) RR.keys.length mc1)),(fun _ _ v _=>v=(.int .i64 (j:Int))),(fun _ _ v _=>v=(.pointer (some ⟨kb,ko+j,none⟩))),(fun _ _ v _=>v=(.string KK)),(GetT G ((V.get VV KK).getD V.nul)),(GetT G ((V.get VV KK).getD V.nul)),(GetV G ((V.get VV KK).getD V.nul)),GetB,BoxZ] (by kernel_rfl) ?hA (by kernel_rfl) rfl ?mono ?steps ?last ?last2
      case hA =>
        intro vs
        simp only [puts,Act.put,List.setIfInBounds_toArray,List.set_cons_zero,List.set_cons_succ,Nat.zero_add,Nat.reduceAdd]
        rfl
      case mono=>exact ⟨mono_eq _,mono_eq _,mono_eq _,mono_eq _,mono_eq _,mono_eq _,mono_getT _ _,mono_getT _ _,mono_getV _ _,mono_getB,mono_boxZ,trivial⟩
      case steps =>
        intro Q'
        refine And.intro ?_ <| And.intro ?_ <| And.intro ?_ <| And.intro ?_ <| And.intro ?_ <| And.intro ?_ <| And.intro ?_ <| And.intro ?_ <| And.intro ?_ <| And.intro ?_ <| And.intro ?_ <| trivial
        all_goals
          intro vs lo hi w' hM hd K' hK
          dsimp only at hK ⊢
          simp only [Act.put,List.setIfInBounds_toArray,List.set_cons_zero,List.set_cons_succ] at hK
        · obtain ⟨p0,p1,p2,p3,p4⟩:=(YV.out.keep hM).cells
          go_simp
          exact hK.out _ _ rfl (Below.refl _ _)
        · go_simp
          exact hK.out _ _ rfl (Below.refl _ _)
        · have e1:vs 1=(.pointer (some ⟨gm,3,none⟩)):=hd 1 (by kernel_rfl)
          simp only [e1] at hK ⊢
          clear e1
          obtain ⟨p0,p1,p2,p3,p4⟩:=(Y1.out.keep hM).cells
          go_simp
          exact hK.out _ _ rfl (Below.refl _ _)
        · go_simp
          exact hK.out _ _ rfl (Below.refl _ _)
        · have e2:vs 2=(.slice (some ⟨kb,ko,none⟩) RR.keys.length mc1):=hd 2 (by kernel_rfl)
          have e3:vs 3=(.int .i64 (j:Int)):=hd 3 (by kernel_rfl)
          simp only [e2,e3] at hK ⊢
          clear e2 e3
          go_simp
          exact hK.out _ _ rfl (Below.refl _ _)
        · have e4:vs 4=(.pointer (some ⟨kb,ko+j,none⟩)):=hd 4 (by kernel_rfl)
          simp only [e4] at hK ⊢
          clear e4
          have ek:=cell_keep HEK.out hM
          go_simp
          exact hK.out _ _ rfl (Below.refl _ _)
        · have e0:vs 0=(.agg #[.int .i64 vk,.int .i64 vn,.string vt,.slice va1 vn1 vc1,.slice va2 vn2 vc2]):=hd 0 (by kernel_rfl)
          have e5:vs 5=(.string KK):=hd 5 (by kernel_rfl)
          simp only [e0,e5] at hK ⊢
          clear e0 e5
          go_simp
          refine (refGet_S (JV.out.below hM) KK (Nat.le_trans HF.out.vw (by decide))).mono ?_
          rintro e w7 ⟨k7,n7,t7,a17,n17,c17,a27,n27,c27,i7,rfl,_,h7,b7⟩
          exact hK.out _ _ ⟨_,_,_,_,_,_,_,_,_,_,rfl,hide h7⟩ b7
        · obtain ⟨k6,n6,t6,a16,n16,c16,a26,n26,c26,i6,e6,H6⟩:=hd 6 (by kernel_rfl)
          simp only [e6] at hK ⊢
          clear e6
          go_simp
          exact hK.out _ _ ⟨_,_,_,_,_,_,_,_,_,_,rfl,H6⟩ (Below.refl _ _)
        · obtain ⟨k7,n7,t7,a17,n17,c17,a27,n27,c27,i7,e7,H7⟩:=hd 7 (by kernel_rfl)
          simp only [e7] at hK ⊢
          clear e7
          go_simp
          exact hK.out _ _ ⟨_,_,_,_,_,_,_,_,_,rfl,H7⟩ (Below.refl _ _)
        · obtain ⟨k7,n7,t7,a17,n17,c17,a27,n27,c27,i7,e7,H7⟩:=hd 7 (by kernel_rfl)
          simp only [e7] at hK ⊢
          clear e7
          go_simp
          exact hK.out _ _ ⟨_,rfl⟩ (Below.refl _ _)
        · go_simp
          exact hK.out _ _ (boxZ_fact _) (below_alloc _ _)
      case last =>
        intro vs lo hi w' hM hlo hall
        obtain ⟨e0,e1,e2,e3,e4,e5,⟨k6,n6,t6,a16,n16,c16,a26,n26,c26,i6,e6,H6⟩,⟨k7,n7,t7,a17,n17,c17,a27,n27,c27,i7,e7,H7⟩,⟨k8,n8,t8,a18,n18,c18,a28,n28,c28,e8,H8⟩,⟨i9,e9⟩,⟨e10,hb10,HB10⟩,_⟩:=hall
        have hlo10:=hlo 10 (by decide)
        generalize lo 10=gx at *
        simp only [List.drop_succ_cons,List.drop_zero]
        try dsimp only
        simp only [e0,e1,e2,e3,e4,e5,e6,e7,e8,e9,e10]
        clear e0 e1 e2 e3 e4 e5 e6 e7 e8 e9 e10 hlo
        obtain ⟨y0,y1,y2,y3,y4⟩:=HB10.out.cells
        have fu0:=HB10.out.free 0
        have fu1:=HB10.out.free 1
        have fu2:=HB10.out.free 2
        have fu3:=HB10.out.free 3
        have fu4:=HB10.out.free 4
        go_upto_region 7 with fail
        clear y0 y1 y2 y3 y4 fu0 fu1 fu2 fu3 fu4
        have hGs:=HG.out
        have hgx:G≤gx:=by have:=hlo10.1;omega
        have b9:Below wr.heap.size wr (((((w'.setCell ⟨gx,0,none⟩ (.int .i64 k8)).setCell ⟨gx,1,none⟩ (.int .i64 n8)).setCell ⟨gx,2,none⟩ (.string t8)).setCell ⟨gx,3,none⟩ (.slice a18 n18 c18)).setCell ⟨gx,4,none⟩ (.slice a28 n28 c28)):=hM.trans (below5 (B:=wr.heap.size) (g:=gx) (w:=w') (by omega) (.int .i64 k8) (.int .i64 n8) (.string t8) (.slice a18 n18 c18) (.slice a28 n28 c28))
        have Ix:=hide (H8.out.keep (keeps_chain (S:=fun b=>b < G) (w:=w') (g:=gx) (by show ¬ (gx < G);omega) (.int .i64 k8) (.int .i64 n8) (.string t8) (.slice a18 n18 c18) (.slice a28 n28 c28)))
        have Xx:=hide (HB10.out.all (.int .i64 k8) (.int .i64 n8) (.string t8) (.slice a18 n18 c18) (.slice a28 n28 c28))
        have LX:=hide (bthen H1.out b9)
        have Y2:=hide (Y1.out.keep b9)
        have HE2:=hide (show _∧_∧_∧_∧_ from ⟨cell_keep HE.out.1 b9,cell_keep HE.out.2.1 b9,cell_keep HE.out.2.2.1 b9,cell_keep HE.out.2.2.2.1 b9,cell_keep HE.out.2.2.2.2 b9⟩)
        have HEL2:=hide (HEL.out.below b9)
        have HEK2:=hide (cell_keep HEK.out b9)
        clear b9 hM HB10 H8 hlo10 hGs
        generalize (((((w'.setCell ⟨gx,0,none⟩ (.int .i64 k8)).setCell ⟨gx,1,none⟩ (.int .i64 n8)).setCell ⟨gx,2,none⟩ (.string t8)).setCell ⟨gx,3,none⟩ (.slice a18 n18 c18)).setCell ⟨gx,4,none⟩ (.slice a28 n28 c28))=w9 at Ix Xx LX Y2 HE2 HEL2 HEK2 ⊢
        by_cases hq:KK=kContent
        · have HNQ:Hid ((KK.toList == [99,111,110,116,101,110,116])=true):=hide (by rw [hq];kernel_rfl)
          clear hq
          refine' wp_region_facts [(fun _ _ v _=>v=(.pointer (some ⟨gm,3,none⟩))),(fun _ _ v _=>v=(.slice (some ⟨kb,ko,none⟩) RR.keys.length mc1)),(fun _ _ v _=>v=(.int .i64 (j:Int))),(fun _ _ v _=>v=(.pointer (some ⟨kb,ko+j,none⟩))),(fun _ _ v _=>v=(.string KK)),(fun _ _ v _=>v=(.bool false)),(fun _ _ v _=>v=(.bool false)),(fun _ _ v _=>v=undef),(fun _ _ v _=>v=undef),(fun _ _ v _=>v=undef),(fun _ _ v _=>v=undef),(fun _ _ v _=>v=undef),(fun _ _ v _=>v=undef),(fun _ _ v _=>v=undef),(fun _ _ v _=>v=undef)] (by kernel_rfl) rfl ?hA (by kernel_rfl) (by kernel_rfl) (by kernel_rfl) rfl ?mono ?steps ?last
          case hA =>
            intro vs
            simp only [puts,Act.put,List.setIfInBounds_toArray,List.set_cons_zero,List.set_cons_succ,Nat.zero_add,Nat.reduceAdd]
            rfl
          case mono=>exact ⟨mono_eq _,mono_eq _,mono_eq _,mono_eq _,mono_eq _,mono_eq _,mono_eq _,mono_eq _,mono_eq _,mono_eq _,mono_eq _,mono_eq _,mono_eq _,mono_eq _,mono_eq _,trivial⟩
          case steps =>
            intro Q'
            refine And.intro ?_ <| And.intro ?_ <| And.intro ?_ <| And.intro ?_ <| And.intro ?_ <| And.intro ?_ <| And.intro ?_ <| And.intro ?_ <| And.intro ?_ <| And.intro ?_ <| And.intro ?_ <| And.intro ?_ <| And.intro ?_ <| And.intro ?_ <| And.intro ?_ <| trivial
            all_goals
              intro vs lo hi w' hM hd K' hK
              dsimp only at hK ⊢
              simp only [Act.put,List.setIfInBounds_toArray,List.set_cons_zero,List.set_cons_succ] at hK
            · go_simp
              exact hK.out _ _ rfl (Below.refl _ _)
            · have e0:vs 0=(.pointer (some ⟨gm,3,none⟩)):=hd 0 (by kernel_rfl)
              simp only [e0] at hK ⊢
              clear e0
              obtain ⟨p0,p1,p2,p3,p4⟩:=(Y2.out.keep hM).cells
              go_simp
              exact hK.out _ _ rfl (Below.refl _ _)
            · go_simp
              exact hK.out _ _ rfl (Below.refl _ _)
            · have e1:vs 1=(.slice (some ⟨kb,ko,none⟩) RR.keys.length mc1):=hd 1 (by kernel_rfl)
              have e2:vs 2=(.int .i64 (j:Int)):=hd 2 (by kernel_rfl)
              simp only [e1,e2] at hK ⊢
              clear e1 e2
              go_simp
              exact hK.out _ _ rfl (Below.refl _ _)
            · have e3:vs 3=(.pointer (some ⟨kb,ko+j,none⟩)):=hd 3 (by kernel_rfl)
              simp only [e3] at hK ⊢
              clear e3
              have ek:=cell_keep HEK2.out hM
              go_simp
              exact hK.out _ _ rfl (Below.refl _ _)
            · have e4:vs 4=(.string KK):=hd 4 (by kernel_rfl)
              simp only [e4] at hK ⊢
              clear e4
              have hq:=HNQ.out
              go_simp
              exact hK.out _ _ rfl (Below.refl _ _)
            · have e5:vs 5=(.bool false):=hd 5 (by kernel_rfl)
              simp only [e5] at hK ⊢
              clear e5
              go_simp
              exact hK.out _ _ rfl (Below.refl _ _)
            · have e6:vs 6=(.bool false):=hd 6 (by kernel_rfl)
              simp only [e6] at hK ⊢
              clear e6
              go_simp
              exact hK.out _ _ rfl (Below.refl _ _)
            · have e6:vs 6=(.bool false):=hd 6 (by kernel_rfl)
              simp only [e6] at hK ⊢
              clear e6
              go_simp
              exact hK.out _ _ rfl (Below.refl _ _)
            · have e8:vs 8=undef:=hd 8 (by kernel_rfl)
              have e6:vs 6=(.bool false):=hd 6 (by kernel_rfl)
              simp only [e8,e6] at hK ⊢
              clear e8 e6
              go_simp
              exact hK.out _ _ rfl (Below.refl _ _)
            · have e6:vs 6=(.bool false):=hd 6 (by kernel_rfl)
              simp only [e6] at hK ⊢
              clear e6
              go_simp
              exact hK.out _ _ rfl (Below.refl _ _)
            · have e9:vs 9=undef:=hd 9 (by kernel_rfl)
              have e10:vs 10=undef:=hd 10 (by kernel_rfl)
              have e6:vs 6=(.bool false):=hd 6 (by kernel_rfl)
              simp only [e9,e10,e6] at hK ⊢
              clear e9 e10 e6
              go_simp
              exact hK.out _ _ rfl (Below.refl _ _)
            · have e11:vs 11=undef:=hd 11 (by kernel_rfl)
              have e6:vs 6=(.bool false):=hd 6 (by kernel_rfl)
              simp only [e11,e6] at hK ⊢
              clear e11 e6
              go_simp
              exact hK.out _ _ rfl (Below.refl _ _)
            · have e7:vs 7=undef:=hd 7 (by kernel_rfl)
              have e12:vs 12=undef:=hd 12 (by kernel_rfl)
              have e6:vs 6=(.bool false):=hd 6 (by kernel_rfl)
              simp only [e7,e12,e6] at hK ⊢
              clear e7 e12 e6
              go_simp
              exact hK.out _ _ rfl (Below.refl _ _)
            · have e13:vs 13=undef:=hd 13 (by kernel_rfl)
              have e6:vs 6=(.bool false):=hd 6 (by kernel_rfl)
              simp only [e13,e6] at hK ⊢
              clear e13 e6
              go_simp
              exact hK.out _ _ rfl (Below.refl _ _)
          case last =>
            intro vs lo hi w' hM hlo hap hall K' Q' hK
            have h6:vs 6=.bool false:=hall.2.2.2.2.2.2.1
            dsimp only
            simp only [h6]
            clear h6 hall hap hlo
            go_simp
            refine hK.out _ _ ?_
            clear hK
            go_wp2_with fail
            go_roundg (gk - 1)
            case measure=>omega
            case rel=>exact ⟨j+1,by omega,rfl,hide (bthen LX.out hM)⟩
        · have HNQ:Hid ((KK.toList == [99,111,110,116,101,110,116])=false):=hide (by rw [show ([99,111,110,116,101,110,116]:List UInt8)=kContent.toList from by kernel_rfl];rw [Bool.eq_false_iff];intro h;exact hq (Dig.ba_ext (by simpa using h)))
          have HEQ:Hid ((V.get VV KK).getD V.nul=RR.list[j]):=hide (by have h:=HRO.out j hlt hlt2 (by rw [← HK2.out];exact hq);rw [← HK2.out] at h;exact h)
          have HWY:Hid (V.wt RR.list[j]≤4294967296):=hide (by have h1:=V.wtL_mem (List.getElem_mem hlt2);have h2:=HF.out.rw;rw [HRR.out] at h2;have h3:=V.wtL_list RR;omega)
          have HWX:Hid (V.wt ((V.get VV KK).getD V.nul)≤4294967296):=hide (by rw [HEQ.out];exact HWY.out)
          clear hq
          refine' wp_region_facts [(fun _ _ v _=>v=(.pointer (some ⟨gm,3,none⟩))),(fun _ _ v _=>v=(.slice (some ⟨kb,ko,none⟩) RR.keys.length mc1)),(fun _ _ v _=>v=(.int .i64 (j:Int))),(fun _ _ v _=>v=(.pointer (some ⟨kb,ko+j,none⟩))),(fun _ _ v _=>v=(.string KK)),(fun _ _ v _=>v=(.bool true)),(fun _ _ v _=>v=(.bool true)),(fun _ _ v _=>v=(.agg #[.int .i64 k8,.int .i64 n8,.string t8,.slice a18 n18 c18,.slice a28 n28 c28])),(fun _ _ v _=>v=(.pointer (some ⟨gm,4,none⟩))),(fun _ _ v _=>v=(.slice (some ⟨b,off,none⟩) RR.list.length mc2)),(fun _ _ v _=>v=(.int .i64 (j:Int))),(fun _ _ v _=>v=(.pointer (some ⟨b,off+j * 5,none⟩))),(fun _ _ v _=>v=(.agg #[.int .i64 k',.int .i64 n',.string t',.slice a1' n1' c1',.slice a2' n2' c2'])),(fun _ _ v _=>v=(.bool true)),(fun _ _ v _=>v=(.bool false))] (by kernel_rfl) rfl ?hA (by kernel_rfl) (by kernel_rfl) (by kernel_rfl) rfl ?mono ?steps ?last
          case hA =>
            intro vs
            simp only [puts,Act.put,List.setIfInBounds_toArray,List.set_cons_zero,List.set_cons_succ,Nat.zero_add,Nat.reduceAdd]
            rfl
          case mono=>exact ⟨mono_eq _,mono_eq _,mono_eq _,mono_eq _,mono_eq _,mono_eq _,mono_eq _,mono_eq _,mono_eq _,mono_eq _,mono_eq _,mono_eq _,mono_eq _,mono_eq _,mono_eq _,trivial⟩
          case steps =>
            intro Q'
            refine And.intro ?_ <| And.intro ?_ <| And.intro ?_ <| And.intro ?_ <| And.intro ?_ <| And.intro ?_ <| And.intro ?_ <| And.intro ?_ <| And.intro ?_ <| And.intro ?_ <| And.intro ?_ <| And.intro ?_ <| And.intro ?_ <| And.intro ?_ <| And.intro ?_ <| trivial
            all_goals
              intro vs lo hi w' hM hd K' hK
              dsimp only at hK ⊢
              simp only [Act.put,List.setIfInBounds_toArray,List.set_cons_zero,List.set_cons_succ] at hK
            · go_simp
              exact hK.out _ _ rfl (Below.refl _ _)
            · have e0:vs 0=(.pointer (some ⟨gm,3,none⟩)):=hd 0 (by kernel_rfl)
              simp only [e0] at hK ⊢
              clear e0
              obtain ⟨p0,p1,p2,p3,p4⟩:=(Y2.out.keep hM).cells
              go_simp
              exact hK.out _ _ rfl (Below.refl _ _)
            · go_simp
              exact hK.out _ _ rfl (Below.refl _ _)
            · have e1:vs 1=(.slice (some ⟨kb,ko,none⟩) RR.keys.length mc1):=hd 1 (by kernel_rfl)
              have e2:vs 2=(.int .i64 (j:Int)):=hd 2 (by kernel_rfl)
              simp only [e1,e2] at hK ⊢
              clear e1 e2
              go_simp
              exact hK.out _ _ rfl (Below.refl _ _)
            · have e3:vs 3=(.pointer (some ⟨kb,ko+j,none⟩)):=hd 3 (by kernel_rfl)
              simp only [e3] at hK ⊢
              clear e3
              have ek:=cell_keep HEK2.out hM
              go_simp
              exact hK.out _ _ rfl (Below.refl _ _)
            · have e4:vs 4=(.string KK):=hd 4 (by kernel_rfl)
              simp only [e4] at hK ⊢
              clear e4
              have hq:=HNQ.out
              go_simp
              exact hK.out _ _ rfl (Below.refl _ _)
            · have e5:vs 5=(.bool true):=hd 5 (by kernel_rfl)
              simp only [e5] at hK ⊢
              clear e5
              go_simp
              exact hK.out _ _ rfl (Below.refl _ _)
            · have e6:vs 6=(.bool true):=hd 6 (by kernel_rfl)
              simp only [e6] at hK ⊢
              clear e6
              obtain ⟨p0,p1,p2,p3,p4⟩:=(Xx.out.keep hM).cells
              go_simp
              exact hK.out _ _ rfl (Below.refl _ _)
            · have e6:vs 6=(.bool true):=hd 6 (by kernel_rfl)
              simp only [e6] at hK ⊢
              clear e6
              go_simp
              exact hK.out _ _ rfl (Below.refl _ _)
            · have e8:vs 8=(.pointer (some ⟨gm,4,none⟩)):=hd 8 (by kernel_rfl)
              have e6:vs 6=(.bool true):=hd 6 (by kernel_rfl)
              simp only [e8,e6] at hK ⊢
              clear e8 e6
              obtain ⟨p0,p1,p2,p3,p4⟩:=(Y2.out.keep hM).cells
              go_simp
              exact hK.out _ _ rfl (Below.refl _ _)
            · have e6:vs 6=(.bool true):=hd 6 (by kernel_rfl)
              simp only [e6] at hK ⊢
              clear e6
              go_simp
              exact hK.out _ _ rfl (Below.refl _ _)
            · have e9:vs 9=(.slice (some ⟨b,off,none⟩) RR.list.length mc2):=hd 9 (by kernel_rfl)
              have e10:vs 10=(.int .i64 (j:Int)):=hd 10 (by kernel_rfl)
              have e6:vs 6=(.bool true):=hd 6 (by kernel_rfl)
              simp only [e9,e10,e6] at hK ⊢
              clear e9 e10 e6
              go_simp
              exact hK.out _ _ rfl (Below.refl _ _)
            · have e11:vs 11=(.pointer (some ⟨b,off+j * 5,none⟩)):=hd 11 (by kernel_rfl)
              have e6:vs 6=(.bool true):=hd 6 (by kernel_rfl)
              simp only [e11,e6] at hK ⊢
              clear e11 e6
              obtain ⟨e0,e1,e2,e3,e4⟩:=HE2.out
              replace e0:=cell_keep e0 hM
              replace e1:=cell_keep e1 hM
              replace e2:=cell_keep e2 hM
              replace e3:=cell_keep e3 hM
              replace e4:=cell_keep e4 hM
              go_simp
              exact hK.out _ _ rfl (Below.refl _ _)
            · have e7:vs 7=(.agg #[.int .i64 k8,.int .i64 n8,.string t8,.slice a18 n18 c18,.slice a28 n28 c28]):=hd 7 (by kernel_rfl)
              have e12:vs 12=(.agg #[.int .i64 k',.int .i64 n',.string t',.slice a1' n1' c1',.slice a2' n2' c2']):=hd 12 (by kernel_rfl)
              have e6:vs 6=(.bool true):=hd 6 (by kernel_rfl)
              simp only [e7,e12,e6] at hK ⊢
              clear e7 e12 e6
              go_simp
              refine (refSame_any (Ix.out.below hM) (HEL2.out.below hM) HWX.out HWY.out true ⟨fun _=>HEQ.out,fun _=>rfl⟩).mono ?_
              rintro e w7 ⟨rfl,b7⟩
              exact hK.out _ _ rfl b7
            · have e13:vs 13=(.bool true):=hd 13 (by kernel_rfl)
              have e6:vs 6=(.bool true):=hd 6 (by kernel_rfl)
              simp only [e13,e6] at hK ⊢
              clear e13 e6
              go_simp
              exact hK.out _ _ rfl (Below.refl _ _)
          case last =>
            intro vs lo hi w' hM hlo hap hall K' Q' hK
            have h6:vs 6=.bool true:=hall.2.2.2.2.2.2.1
            have h14:vs 14=.bool false:=hall.2.2.2.2.2.2.2.2.2.2.2.2.2.2.1
            dsimp only
            simp only [h6,h14]
            clear h6 h14 hall hap hlo
            go_simp
            refine hK.out _ _ ?_
            clear hK
            go_wp2_with fail
            go_roundg (gk - 1)
            case measure=>omega
            case rel=>exact ⟨j+1,by omega,rfl,hide (bthen LX.out hM)⟩
      case last2 =>
        intro vs lo hi w' hM hlo hall on op hon hop
        obtain rfl:=Option.some.inj hon
        obtain rfl:=Option.some.inj hop
        clear hon hop
        obtain e0:=(hall 0 (by decide) (by decide):_)
        obtain e1:=(hall 1 (by decide) (by decide):_)
        obtain e2:=(hall 2 (by decide) (by decide):_)
        obtain e3:=(hall 3 (by decide) (by decide):_)
        obtain e4:=(hall 4 (by decide) (by decide):_)
        obtain e5:=(hall 5 (by decide) (by decide):_)
        obtain ⟨k6,n6,t6,a16,n16,c16,a26,n26,c26,i6,e6,H6⟩:=(hall 6 (by decide) (by decide):_)
        obtain ⟨k7,n7,t7,a17,n17,c17,a27,n27,c27,i7,e7,H7⟩:=(hall 7 (by decide) (by decide):_)
        obtain ⟨k8,n8,t8,a18,n18,c18,a28,n28,c28,e8,H8⟩:=(hall 8 (by decide) (by decide):_)
        obtain ⟨e10,hb10,HB10⟩:=(hall 10 (by decide) (by decide):_)
        clear hall
        have hlo10:=hlo 10 (by decide) (by decide)
        generalize lo 10=gx at *
        simp only [List.drop_succ_cons,List.drop_zero]
        try dsimp only
        simp only [e0,e1,e2,e3,e4,e5,e6,e7,e8,e10]
        clear e0 e1 e2 e3 e4 e5 e6 e7 e8 e10 hlo
        obtain ⟨y0,y1,y2,y3,y4⟩:=HB10.out.cells
        have fu0:=HB10.out.free 0
        have fu1:=HB10.out.free 1
        have fu2:=HB10.out.free 2
        have fu3:=HB10.out.free 3
        have fu4:=HB10.out.free 4
        go_upto_region 7 with fail
        clear y0 y1 y2 y3 y4 fu0 fu1 fu2 fu3 fu4
        have hGs:=HG.out
        have hgx:G≤gx:=by have:=hlo10.1;omega
        have b9:Below wr.heap.size wr (((((w'.setCell ⟨gx,0,none⟩ (.int .i64 k8)).setCell ⟨gx,1,none⟩ (.int .i64 n8)).setCell ⟨gx,2,none⟩ (.string t8)).setCell ⟨gx,3,none⟩ (.slice a18 n18 c18)).setCell ⟨gx,4,none⟩ (.slice a28 n28 c28)):=hM.trans (below5 (B:=wr.heap.size) (g:=gx) (w:=w') (by omega) (.int .i64 k8) (.int .i64 n8) (.string t8) (.slice a18 n18 c18) (.slice a28 n28 c28))
        have Ix:=hide (H8.out.keep (keeps_chain (S:=fun b=>b < G) (w:=w') (g:=gx) (by show ¬ (gx < G);omega) (.int .i64 k8) (.int .i64 n8) (.string t8) (.slice a18 n18 c18) (.slice a28 n28 c28)))
        have Xx:=hide (HB10.out.all (.int .i64 k8) (.int .i64 n8) (.string t8) (.slice a18 n18 c18) (.slice a28 n28 c28))
        have LX:=hide (bthen H1.out b9)
        have Y2:=hide (Y1.out.keep b9)
        have HE2:=hide (show _∧_∧_∧_∧_ from ⟨cell_keep HE.out.1 b9,cell_keep HE.out.2.1 b9,cell_keep HE.out.2.2.1 b9,cell_keep HE.out.2.2.2.1 b9,cell_keep HE.out.2.2.2.2 b9⟩)
        have HEL2:=hide (HEL.out.below b9)
        have HEK2:=hide (cell_keep HEK.out b9)
        clear b9 hM HB10 H8 hlo10 hGs
        generalize (((((w'.setCell ⟨gx,0,none⟩ (.int .i64 k8)).setCell ⟨gx,1,none⟩ (.int .i64 n8)).setCell ⟨gx,2,none⟩ (.string t8)).setCell ⟨gx,3,none⟩ (.slice a18 n18 c18)).setCell ⟨gx,4,none⟩ (.slice a28 n28 c28))=w9 at Ix Xx LX Y2 HE2 HEL2 HEK2 ⊢
        by_cases hq:KK=kContent
        · have HNQ:Hid ((KK.toList == [99,111,110,116,101,110,116])=true):=hide (by rw [hq];kernel_rfl)
          clear hq
          refine' wp_region_facts [(fun _ _ v _=>v=(.pointer (some ⟨gm,3,none⟩))),(fun _ _ v _=>v=(.slice (some ⟨kb,ko,none⟩) RR.keys.length mc1)),(fun _ _ v _=>v=(.int .i64 (j:Int))),(fun _ _ v _=>v=(.pointer (some ⟨kb,ko+j,none⟩))),(fun _ _ v _=>v=(.string KK)),(fun _ _ v _=>v=(.bool false)),(fun _ _ v _=>v=(.bool false)),(fun _ _ v _=>v=undef),(fun _ _ v _=>v=undef),(fun _ _ v _=>v=undef),(fun _ _ v _=>v=undef),(fun _ _ v _=>v=undef),(fun _ _ v _=>v=undef),(fun _ _ v _=>v=undef),(fun _ _ v _=>v=undef)] (by kernel_rfl) rfl ?hA (by kernel_rfl) (by kernel_rfl) (by kernel_rfl) rfl ?mono ?steps ?last
          case hA =>
            intro vs
            simp only [puts,Act.put,List.setIfInBounds_toArray,List.set_cons_zero,List.set_cons_succ,Nat.zero_add,Nat.reduceAdd]
            rfl
          case mono=>exact ⟨mono_eq _,mono_eq _,mono_eq _,mono_eq _,mono_eq _,mono_eq _,mono_eq _,mono_eq _,mono_eq _,mono_eq _,mono_eq _,mono_eq _,mono_eq _,mono_eq _,mono_eq _,trivial⟩
          case steps =>
            intro Q'
            refine And.intro ?_ <| And.intro ?_ <| And.intro ?_ <| And.intro ?_ <| And.intro ?_ <| And.intro ?_ <| And.intro ?_ <| And.intro ?_ <| And.intro ?_ <| And.intro ?_ <| And.intro ?_ <| And.intro ?_ <| And.intro ?_ <| And.intro ?_ <| And.intro ?_ <| trivial
            all_goals
              intro vs lo hi w' hM hd K' hK
              dsimp only at hK ⊢
              simp only [Act.put,List.setIfInBounds_toArray,List.set_cons_zero,List.set_cons_succ] at hK
            · go_simp
              exact hK.out _ _ rfl (Below.refl _ _)
            · have e0:vs 0=(.pointer (some ⟨gm,3,none⟩)):=hd 0 (by kernel_rfl)
              simp only [e0] at hK ⊢
              clear e0
              obtain ⟨p0,p1,p2,p3,p4⟩:=(Y2.out.keep hM).cells
              go_simp
              exact hK.out _ _ rfl (Below.refl _ _)
            · go_simp
              exact hK.out _ _ rfl (Below.refl _ _)
            · have e1:vs 1=(.slice (some ⟨kb,ko,none⟩) RR.keys.length mc1):=hd 1 (by kernel_rfl)
              have e2:vs 2=(.int .i64 (j:Int)):=hd 2 (by kernel_rfl)
              simp only [e1,e2] at hK ⊢
              clear e1 e2
              go_simp
              exact hK.out _ _ rfl (Below.refl _ _)
            · have e3:vs 3=(.pointer (some ⟨kb,ko+j,none⟩)):=hd 3 (by kernel_rfl)
              simp only [e3] at hK ⊢
              clear e3
              have ek:=cell_keep HEK2.out hM
              go_simp
              exact hK.out _ _ rfl (Below.refl _ _)
            · have e4:vs 4=(.string KK):=hd 4 (by kernel_rfl)
              simp only [e4] at hK ⊢
              clear e4
              have hq:=HNQ.out
              go_simp
              exact hK.out _ _ rfl (Below.refl _ _)
            · have e5:vs 5=(.bool false):=hd 5 (by kernel_rfl)
              simp only [e5] at hK ⊢
              clear e5
              go_simp
              exact hK.out _ _ rfl (Below.refl _ _)
            · have e6:vs 6=(.bool false):=hd 6 (by kernel_rfl)
              simp only [e6] at hK ⊢
              clear e6
              go_simp
              exact hK.out _ _ rfl (Below.refl _ _)
            · have e6:vs 6=(.bool false):=hd 6 (by kernel_rfl)
              simp only [e6] at hK ⊢
              clear e6
              go_simp
              exact hK.out _ _ rfl (Below.refl _ _)
            · have e8:vs 8=undef:=hd 8 (by kernel_rfl)
              have e6:vs 6=(.bool false):=hd 6 (by kernel_rfl)
              simp only [e8,e6] at hK ⊢
              clear e8 e6
              go_simp
              exact hK.out _ _ rfl (Below.refl _ _)
            · have e6:vs 6=(.bool false):=hd 6 (by kernel_rfl)
              simp only [e6] at hK ⊢
              clear e6
              go_simp
              exact hK.out _ _ rfl (Below.refl _ _)
            · have e9:vs 9=undef:=hd 9 (by kernel_rfl)
              have e10:vs 10=undef:=hd 10 (by kernel_rfl)
              have e6:vs 6=(.bool false):=hd 6 (by kernel_rfl)
              simp only [e9,e10,e6] at hK ⊢
              clear e9 e10 e6
              go_simp
              exact hK.out _ _ rfl (Below.refl _ _)
            · have e11:vs 11=undef:=hd 11 (by kernel_rfl)
              have e6:vs 6=(.bool false):=hd 6 (by kernel_rfl)
              simp only [e11,e6] at hK ⊢
              clear e11 e6
              go_simp
              exact hK.out _ _ rfl (Below.refl _ _)
            · have e7:vs 7=undef:=hd 7 (by kernel_rfl)
              have e12:vs 12=undef:=hd 12 (by kernel_rfl)
              have e6:vs 6=(.bool false):=hd 6 (by kernel_rfl)
              simp only [e7,e12,e6] at hK ⊢
              clear e7 e12 e6
              go_simp
              exact hK.out _ _ rfl (Below.refl _ _)
            · have e13:vs 13=undef:=hd 13 (by kernel_rfl)
              have e6:vs 6=(.bool false):=hd 6 (by kernel_rfl)
              simp only [e13,e6] at hK ⊢
              clear e13 e6
              go_simp
              exact hK.out _ _ rfl (Below.refl _ _)
          case last =>
            intro vs lo hi w' hM hlo hap hall K' Q' hK
            have h6:vs 6=.bool false:=hall.2.2.2.2.2.2.1
            dsimp only
            simp only [h6]
            clear h6 hall hap hlo
            go_simp
            refine hK.out _ _ ?_
            clear hK
            go_wp2_with fail
            go_roundg (gk - 1)
            case measure=>omega
            case rel=>exact ⟨j+1,by omega,rfl,hide (bthen LX.out hM)⟩
        · have HNQ:Hid ((KK.toList == [99,111,110,116,101,110,116])=false):=hide (by rw [show ([99,111,110,116,101,110,116]:List UInt8)=kContent.toList from by kernel_rfl];rw [Bool.eq_false_iff];intro h;exact hq (Dig.ba_ext (by simpa using h)))
          have HEQ:Hid ((V.get VV KK).getD V.nul=RR.list[j]):=hide (by have h:=HRO.out j hlt hlt2 (by rw [← HK2.out];exact hq);rw [← HK2.out] at h;exact h)
          have HWY:Hid (V.wt RR.list[j]≤4294967296):=hide (by have h1:=V.wtL_mem (List.getElem_mem hlt2);have h2:=HF.out.rw;rw [HRR.out] at h2;have h3:=V.wtL_list RR;omega)
          have HWX:Hid (V.wt ((V.get VV KK).getD V.nul)≤4294967296):=hide (by rw [HEQ.out];exact HWY.out)
          clear hq
          refine' wp_region_facts [(fun _ _ v _=>v=(.pointer (some ⟨gm,3,none⟩))),(fun _ _ v _=>v=(.slice (some ⟨kb,ko,none⟩) RR.keys.length mc1)),(fun _ _ v _=>v=(.int .i64 (j:Int))),(fun _ _ v _=>v=(.pointer (some ⟨kb,ko+j,none⟩))),(fun _ _ v _=>v=(.string KK)),(fun _ _ v _=>v=(.bool true)),(fun _ _ v _=>v=(.bool true)),(fun _ _ v _=>v=(.agg #[.int .i64 k8,.int .i64 n8,.string t8,.slice a18 n18 c18,.slice a28 n28 c28])),(fun _ _ v _=>v=(.pointer (some ⟨gm,4,none⟩))),(fun _ _ v _=>v=(.slice (some ⟨b,off,none⟩) RR.list.length mc2)),(fun _ _ v _=>v=(.int .i64 (j:Int))),(fun _ _ v _=>v=(.pointer (some ⟨b,off+j * 5,none⟩))),(fun _ _ v _=>v=(.agg #[.int .i64 k',.int .i64 n',.string t',.slice a1' n1' c1',.slice a2' n2' c2'])),(fun _ _ v _=>v=(.bool true)),(fun _ _ v _=>v=(.bool false))] (by kernel_rfl) rfl ?hA (by kernel_rfl) (by kernel_rfl) (by kernel_rfl) rfl ?mono ?steps ?last
          case hA =>
            intro vs
            simp only [puts,Act.put,List.setIfInBounds_toArray,List.set_cons_zero,List.set_cons_succ,Nat.zero_add,Nat.reduceAdd]
            rfl
          case mono=>exact ⟨mono_eq _,mono_eq _,mono_eq _,mono_eq _,mono_eq _,mono_eq _,mono_eq _,mono_eq _,mono_eq _,mono_eq _,mono_eq _,mono_eq _,mono_eq _,mono_eq _,mono_eq _,trivial⟩
          case steps =>
            intro Q'
            refine And.intro ?_ <| And.intro ?_ <| And.intro ?_ <| And.intro ?_ <| And.intro ?_ <| And.intro ?_ <| And.intro ?_ <| And.intro ?_ <| And.intro ?_ <| And.intro ?_ <| And.intro ?_ <| And.intro ?_ <| And.intro ?_ <| And.intro ?_ <| And.intro ?_ <| trivial
            all_goals
              intro vs lo hi w' hM hd K' hK
              dsimp only at hK ⊢
              simp only [Act.put,List.setIfInBounds_toArray,List.set_cons_zero,List.set_cons_succ] at hK
            · go_simp
              exact hK.out _ _ rfl (Below.refl _ _)
            · have e0:vs 0=(.pointer (some ⟨gm,3,none⟩)):=hd 0 (by kernel_rfl)
              simp only [e0] at hK ⊢
              clear e0
              obtain ⟨p0,p1,p2,p3,p4⟩:=(Y2.out.keep hM).cells
              go_simp
              exact hK.out _ _ rfl (Below.refl _ _)
            · go_simp
              exact hK.out _ _ rfl (Below.refl _ _)
            · have e1:vs 1=(.slice (some ⟨kb,ko,none⟩) RR.keys.length mc1):=hd 1 (by kernel_rfl)
              have e2:vs 2=(.int .i64 (j:Int)):=hd 2 (by kernel_rfl)
              simp only [e1,e2] at hK ⊢
              clear e1 e2
              go_simp
              exact hK.out _ _ rfl (Below.refl _ _)
            · have e3:vs 3=(.pointer (some ⟨kb,ko+j,none⟩)):=hd 3 (by kernel_rfl)
              simp only [e3] at hK ⊢
              clear e3
              have ek:=cell_keep HEK2.out hM
              go_simp
              exact hK.out _ _ rfl (Below.refl _ _)
            · have e4:vs 4=(.string KK):=hd 4 (by kernel_rfl)
              simp only [e4] at hK ⊢
              clear e4
              have hq:=HNQ.out
              go_simp
              exact hK.out _ _ rfl (Below.refl _ _)
            · have e5:vs 5=(.bool true):=hd 5 (by kernel_rfl)
              simp only [e5] at hK ⊢
              clear e5
              go_simp
              exact hK.out _ _ rfl (Below.refl _ _)
            · have e6:vs 6=(.bool true):=hd 6 (by kernel_rfl)
              simp only [e6] at hK ⊢
              clear e6
              obtain ⟨p0,p1,p2,p3,p4⟩:=(Xx.out.keep hM).cells
              go_simp
              exact hK.out _ _ rfl (Below.refl _ _)
            · have e6:vs 6=(.bool true):=hd 6 (by kernel_rfl)
              simp only [e6] at hK ⊢
              clear e6
              go_simp
              exact hK.out _ _ rfl (Below.refl _ _)
            · have e8:vs 8=(.pointer (some ⟨gm,4,none⟩)):=hd 8 (by kernel_rfl)
              have e6:vs 6=(.bool true):=hd 6 (by kernel_rfl)
              simp only [e8,e6] at hK ⊢
              clear e8 e6
              obtain ⟨p0,p1,p2,p3,p4⟩:=(Y2.out.keep hM).cells
              go_simp
              exact hK.out _ _ rfl (Below.refl _ _)
            · have e6:vs 6=(.bool true):=hd 6 (by kernel_rfl)
              simp only [e6] at hK ⊢
              clear e6
              go_simp
              exact hK.out _ _ rfl (Below.refl _ _)
            · have e9:vs 9=(.slice (some ⟨b,off,none⟩) RR.list.length mc2):=hd 9 (by kernel_rfl)
              have e10:vs 10=(.int .i64 (j:Int)):=hd 10 (by kernel_rfl)
              have e6:vs 6=(.bool true):=hd 6 (by kernel_rfl)
              simp only [e9,e10,e6] at hK ⊢
              clear e9 e10 e6
              go_simp
              exact hK.out _ _ rfl (Below.refl _ _)
            · have e11:vs 11=(.pointer (some ⟨b,off+j * 5,none⟩)):=hd 11 (by kernel_rfl)
              have e6:vs 6=(.bool true):=hd 6 (by kernel_rfl)
              simp only [e11,e6] at hK ⊢
              clear e11 e6
              obtain ⟨e0,e1,e2,e3,e4⟩:=HE2.out
              replace e0:=cell_keep e0 hM
              replace e1:=cell_keep e1 hM
              replace e2:=cell_keep e2 hM
              replace e3:=cell_keep e3 hM
              replace e4:=cell_keep e4 hM
              go_simp
              exact hK.out _ _ rfl (Below.refl _ _)
            · have e7:vs 7=(.agg #[.int .i64 k8,.int .i64 n8,.string t8,.slice a18 n18 c18,.slice a28 n28 c28]):=hd 7 (by kernel_rfl)
              have e12:vs 12=(.agg #[.int .i64 k',.int .i64 n',.string t',.slice a1' n1' c1',.slice a2' n2' c2']):=hd 12 (by kernel_rfl)
              have e6:vs 6=(.bool true):=hd 6 (by kernel_rfl)
              simp only [e7,e12,e6] at hK ⊢
              clear e7 e12 e6
              go_simp
              refine (refSame_any (Ix.out.below hM) (HEL2.out.below hM) HWX.out HWY.out true ⟨fun _=>HEQ.out,fun _=>rfl⟩).mono ?_
              rintro e w7 ⟨rfl,b7⟩
              exact hK.out _ _ rfl b7
            · have e13:vs 13=(.bool true):=hd 13 (by kernel_rfl)
              have e6:vs 6=(.bool true):=hd 6 (by kernel_rfl)
              simp only [e13,e6] at hK ⊢
              clear e13 e6
              go_simp
              exact hK.out _ _ rfl (Below.refl _ _)
          case last =>
            intro vs lo hi w' hM hlo hap hall K' Q' hK
            have h6:vs 6=.bool true:=hall.2.2.2.2.2.2.1
            have h14:vs 14=.bool false:=hall.2.2.2.2.2.2.2.2.2.2.2.2.2.2.1
            dsimp only
            simp only [h6,h14]
            clear h6 h14 hall hap hlo
            go_simp
            refine hK.out _ _ ?_
            clear hK
            go_wp2_with fail
            go_roundg (gk - 1)
            case measure=>omega
            case rel=>exact ⟨j+1,by omega,rfl,hide (bthen LX.out hM)⟩
    · have hje:j=RR.keys.length:=by omega
      go_upto_region 9 with fail
      clear x0 x1 x2 x3 x4
      have JR:=hide (Im.out.below H1.out)
      have JV:=hide (Iv.out.below H1.out)
      have YV:=hide (Xv.out.keep H1.out)
      have HT2:=hide (HT.out.below H1.out)
      have L2:=hide (bthen L.out H1.out)
      obtain ⟨IDV,hid⟩:∃ i,Xr.ident VV=i:=⟨_,rfl⟩
      have HID:=hide hid
      have HIR:Hid (Xr.ident RR=IDV):=hide (by rw [← HRR.out,HF.out.re];exact hid)
      have HNM:Hid (Dig.Sl.named IDV.data.toList=true∧IDV.size≤10000):=hide (by rw [← hid];exact ⟨HF.out.nm,HF.out.ns⟩)
      have HQ0:Hid ((IDV.toList == IDV.toList)=true):=hide (by simp)
      have HGR:Hid (V.right RR=true∧V.wt RR≤10000000∧Xr.cost RR≤900000∧Xr.redact RR=RR):=hide (by rw [← HRR.out];exact ⟨HF.out.rr,HF.out.rw,HF.out.rx,HF.out.ri⟩)
      clear hid hje
      refine' wp_region_facts [(fun _ _ v _=>v=(.bool true)),(fun _ _ v _=>v=(.bool true)),(fun _ _ v _=>v=(.agg #[.int .i64 mk,.int .i64 mn,.string mt,.slice ma1 RR.keys.length mc1,.slice ma2 RR.list.length mc2])),(AnyF RR),(fun _ _ v _=>v=(.agg #[.int .i64 mk,.int .i64 mn,.string mt,.slice ma1 RR.keys.length mc1,.slice ma2 RR.list.length mc2])),(fun _ _ v _=>v=(.bool true)),(fun _ _ v _=>v=(.bool true)),(fun _ _ v _=>v=(.bool true)),(fun _ _ v _=>v=(.agg #[.int .i64 mk,.int .i64 mn,.string mt,.slice ma1 RR.keys.length mc1,.slice ma2 RR.list.length mc2])),(fun _ _ v _=>v=(.string IDV)),(fun _ _ v _=>v=(.agg #[.int .i64 vk,.int .i64 vn,.string vt,.slice va1 vn1 vc1,.slice va2 vn2 vc2])),(fun _ _ v _=>v=(.string IDV)),(fun _ _ v _=>v=(.bool true)),(fun _ _ v _=>v=(.bool true)),(fun _ _ v _=>v=(.bool true)),(fun _ _ v _=>v=(.agg #[.int .i64 mk,.int .i64 mn,.string mt,.slice ma1 RR.keys.length mc1,.slice ma2 RR.list.length mc2])),(fun _ _ v _=>v=(.bool true)),(fun _ _ v _=>v=(.bool true)),(fun _ _ v _=>v=(.bool true)),(fun _ _ v _=>v=(.agg #[.int .i64 vk,.int .i64 vn,.string vt,.slice va1 vn1 vc1,.slice va2 vn2 vc2])),(fun _ _ v _=>v=(.string IDV)),(fun _ _ v _=>v=(.bool true)),(fun _ _ v _=>v=(.bool true))] (by kernel_rfl) rfl ?hA (by kernel_rfl) (by kernel_rfl) (by kernel_rfl) rfl ?mono ?steps ?last
      case hA =>
        intro vs
        simp only [puts,Act.put,List.setIfInBounds_toArray,List.set_cons_zero,List.set_cons_succ,Nat.zero_add,Nat.reduceAdd]
        rfl
      case mono=>exact ⟨mono_eq _,mono_eq _,mono_eq _,mono_any _,mono_eq _,mono_eq _,mono_eq _,mono_eq _,mono_eq _,mono_eq _,mono_eq _,mono_eq _,mono_eq _,mono_eq _,mono_eq _,mono_eq _,mono_eq _,mono_eq _,mono_eq _,mono_eq _,mono_eq _,mono_eq _,mono_eq _,trivial⟩
      case steps =>
        intro Q'
        refine And.intro ?_ <| And.intro ?_ <| And.intro ?_ <| And.intro ?_ <| And.intro ?_ <| And.intro ?_ <| And.intro ?_ <| And.intro ?_ <| And.intro ?_ <| And.intro ?_ <| And.intro ?_ <| And.intro ?_ <| And.intro ?_ <| And.intro ?_ <| And.intro ?_ <| And.intro ?_ <| And.intro ?_ <| And.intro ?_ <| And.intro ?_ <| And.intro ?_ <| And.intro ?_ <| And.intro ?_ <| And.intro ?_ <| trivial
        all_goals
          intro vs lo hi w' hM hd K' hK
          dsimp only at hK ⊢
          simp only [Act.put,List.setIfInBounds_toArray,List.set_cons_zero,List.set_cons_succ] at hK
        · go_simp
          refine (xknown_any _ (HT2.out.below hM)).mono ?_
          rintro e w7 ⟨rfl,b7⟩
          exact hK.out _ _ rfl b7
        · have e0:vs 0=(.bool true):=hd 0 (by kernel_rfl)
          simp only [e0] at hK ⊢
          clear e0
          go_simp
          exact hK.out _ _ rfl (Below.refl _ _)
        · have e1:vs 1=(.bool true):=hd 1 (by kernel_rfl)
          simp only [e1] at hK ⊢
          clear e1
          obtain ⟨p0,p1,p2,p3,p4⟩:=(Y1.out.keep hM).cells
          go_simp
          exact hK.out _ _ rfl (Below.refl _ _)
        · have e2:vs 2=(.agg #[.int .i64 mk,.int .i64 mn,.string mt,.slice ma1 RR.keys.length mc1,.slice ma2 RR.list.length mc2]):=hd 2 (by kernel_rfl)
          have e1:vs 1=(.bool true):=hd 1 (by kernel_rfl)
          simp only [e2,e1] at hK ⊢
          clear e2 e1
          go_simp
          refine (redact_any (JR.out.below hM) (Nat.le_trans HGR.out.2.1 (by decide))).mono ?_
          rintro e w7 ⟨k7,n7,t7,a17,n17,c17,a27,n27,c27,rfl,h7,b7⟩
          rw [HGR.out.2.2.2] at h7
          exact hK.out _ _ ⟨_,_,_,_,_,_,_,_,_,rfl,hide (h7.weak (fun _ _ _=>trivial))⟩ b7
        · have e1:vs 1=(.bool true):=hd 1 (by kernel_rfl)
          simp only [e1] at hK ⊢
          clear e1
          obtain ⟨p0,p1,p2,p3,p4⟩:=(Y1.out.keep hM).cells
          go_simp
          exact hK.out _ _ rfl (Below.refl _ _)
        · obtain ⟨k3,n3,t3,a13,n13,c13,a23,n23,c23,e3,H3⟩:=hd 3 (by kernel_rfl)
          have e4:vs 4=(.agg #[.int .i64 mk,.int .i64 mn,.string mt,.slice ma1 RR.keys.length mc1,.slice ma2 RR.list.length mc2]):=hd 4 (by kernel_rfl)
          have e1:vs 1=(.bool true):=hd 1 (by kernel_rfl)
          simp only [e3,e4,e1] at hK ⊢
          clear e3 e4 e1
          go_simp
          refine (refSame_any H3.out (JR.out.below hM) (Nat.le_trans HGR.out.2.1 (by decide)) (Nat.le_trans HGR.out.2.1 (by decide)) true ⟨fun _=>rfl,fun _=>rfl⟩).mono ?_
          rintro e w7 ⟨rfl,b7⟩
          exact hK.out _ _ rfl b7
        · have e1:vs 1=(.bool true):=hd 1 (by kernel_rfl)
          have e5:vs 5=(.bool true):=hd 5 (by kernel_rfl)
          simp only [e1,e5] at hK ⊢
          clear e1 e5
          go_simp
          exact hK.out _ _ rfl (Below.refl _ _)
        · have e6:vs 6=(.bool true):=hd 6 (by kernel_rfl)
          simp only [e6] at hK ⊢
          clear e6
          go_simp
          exact hK.out _ _ rfl (Below.refl _ _)
        · have e7:vs 7=(.bool true):=hd 7 (by kernel_rfl)
          simp only [e7] at hK ⊢
          clear e7
          obtain ⟨p0,p1,p2,p3,p4⟩:=(Y1.out.keep hM).cells
          go_simp
          exact hK.out _ _ rfl (Below.refl _ _)
        · have e8:vs 8=(.agg #[.int .i64 mk,.int .i64 mn,.string mt,.slice ma1 RR.keys.length mc1,.slice ma2 RR.list.length mc2]):=hd 8 (by kernel_rfl)
          have e7:vs 7=(.bool true):=hd 7 (by kernel_rfl)
          simp only [e8,e7] at hK ⊢
          clear e8 e7
          go_simp
          refine (id_any2 (JR.out.below hM) HGR.out.1 HGR.out.2.1 HGR.out.2.2.1 (HT2.out.below hM)).mono ?_
          rintro e w7 ⟨rfl,b7⟩
          rw [HIR.out]
          exact hK.out _ _ rfl b7
        · have e7:vs 7=(.bool true):=hd 7 (by kernel_rfl)
          simp only [e7] at hK ⊢
          clear e7
          obtain ⟨p0,p1,p2,p3,p4⟩:=(YV.out.keep hM).cells
          go_simp
          exact hK.out _ _ rfl (Below.refl _ _)
        · have e10:vs 10=(.agg #[.int .i64 vk,.int .i64 vn,.string vt,.slice va1 vn1 vc1,.slice va2 vn2 vc2]):=hd 10 (by kernel_rfl)
          have e7:vs 7=(.bool true):=hd 7 (by kernel_rfl)
          simp only [e10,e7] at hK ⊢
          clear e10 e7
          go_simp
          refine (id_any2 (JV.out.below hM) HF.out.vr (Nat.le_trans HF.out.vw (by decide)) HF.out.vx (HT2.out.below hM)).mono ?_
          rintro e w7 ⟨rfl,b7⟩
          rw [HID.out]
          exact hK.out _ _ rfl b7
        · have e9:vs 9=(.string IDV):=hd 9 (by kernel_rfl)
          have e11:vs 11=(.string IDV):=hd 11 (by kernel_rfl)
          have e7:vs 7=(.bool true):=hd 7 (by kernel_rfl)
          simp only [e9,e11,e7] at hK ⊢
          clear e9 e11 e7
          have hq:=HQ0.out
          go_simp
          exact hK.out _ _ rfl (Below.refl _ _)
        · have e7:vs 7=(.bool true):=hd 7 (by kernel_rfl)
          have e12:vs 12=(.bool true):=hd 12 (by kernel_rfl)
          simp only [e7,e12] at hK ⊢
          clear e7 e12
          go_simp
          exact hK.out _ _ rfl (Below.refl _ _)
        · have e13:vs 13=(.bool true):=hd 13 (by kernel_rfl)
          simp only [e13] at hK ⊢
          clear e13
          go_simp
          exact hK.out _ _ rfl (Below.refl _ _)
        · have e14:vs 14=(.bool true):=hd 14 (by kernel_rfl)
          simp only [e14] at hK ⊢
          clear e14
          obtain ⟨p0,p1,p2,p3,p4⟩:=(Y1.out.keep hM).cells
          go_simp
          exact hK.out _ _ rfl (Below.refl _ _)
        · have e15:vs 15=(.agg #[.int .i64 mk,.int .i64 mn,.string mt,.slice ma1 RR.keys.length mc1,.slice ma2 RR.list.length mc2]):=hd 15 (by kernel_rfl)
          have e14:vs 14=(.bool true):=hd 14 (by kernel_rfl)
          simp only [e15,e14] at hK ⊢
          clear e15 e14
          go_simp
          refine (refRight_is (JR.out.below hM) (Nat.le_trans HGR.out.2.1 (by decide)) true HGR.out.1).mono ?_
          rintro e w7 ⟨rfl,b7⟩
          exact hK.out _ _ rfl b7
        · have e14:vs 14=(.bool true):=hd 14 (by kernel_rfl)
          have e16:vs 16=(.bool true):=hd 16 (by kernel_rfl)
          simp only [e14,e16] at hK ⊢
          clear e14 e16
          go_simp
          exact hK.out _ _ rfl (Below.refl _ _)
        · have e17:vs 17=(.bool true):=hd 17 (by kernel_rfl)
          simp only [e17] at hK ⊢
          clear e17
          go_simp
          exact hK.out _ _ rfl (Below.refl _ _)
        · have e18:vs 18=(.bool true):=hd 18 (by kernel_rfl)
          simp only [e18] at hK ⊢
          clear e18
          obtain ⟨p0,p1,p2,p3,p4⟩:=(YV.out.keep hM).cells
          go_simp
          exact hK.out _ _ rfl (Below.refl _ _)
        · have e19:vs 19=(.agg #[.int .i64 vk,.int .i64 vn,.string vt,.slice va1 vn1 vc1,.slice va2 vn2 vc2]):=hd 19 (by kernel_rfl)
          have e18:vs 18=(.bool true):=hd 18 (by kernel_rfl)
          simp only [e19,e18] at hK ⊢
          clear e19 e18
          go_simp
          refine (id_any2 (JV.out.below hM) HF.out.vr (Nat.le_trans HF.out.vw (by decide)) HF.out.vx (HT2.out.below hM)).mono ?_
          rintro e w7 ⟨rfl,b7⟩
          rw [HID.out]
          exact hK.out _ _ rfl b7
        · have e20:vs 20=(.string IDV):=hd 20 (by kernel_rfl)
          have e18:vs 18=(.bool true):=hd 18 (by kernel_rfl)
          simp only [e20,e18] at hK ⊢
          clear e20 e18
          go_simp
          refine (Dig.refNamed_any IDV _ HNM.out.2).mono ?_
          rintro e w7 ⟨rfl,b7⟩
          rw [HNM.out.1]
          exact hK.out _ _ rfl b7
        · have e18:vs 18=(.bool true):=hd 18 (by kernel_rfl)
          have e21:vs 21=(.bool true):=hd 21 (by kernel_rfl)
          simp only [e18,e21] at hK ⊢
          clear e18 e21
          go_simp
          exact hK.out _ _ rfl (Below.refl _ _)
      case last =>
        intro vs lo hi w' hM hlo hap hall K' Q' hK
        have h22:vs 22=.bool true:=hall.2.2.2.2.2.2.2.2.2.2.2.2.2.2.2.2.2.2.2.2.2.2.1
        dsimp only
        simp only [h22]
        clear h22 hall hap hlo
        go_simp
        refine hK.out _ _ ?_
        clear hK
        try go_wp2_with fail
        go_ret
        exact ⟨rfl,bthen L2.out hM⟩
end Go.Proofs.YtapcmbbhhclepaaGreatDoor
