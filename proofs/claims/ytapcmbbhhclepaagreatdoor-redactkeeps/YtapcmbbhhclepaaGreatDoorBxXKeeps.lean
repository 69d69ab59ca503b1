/-
  THE WALK of the law RedactKeeps (layer 7).
-/
import Derived.Test.YtapcmbbhhclepaaGreatDoorB25
import Derived.Deep.DeepCutAuto
import Derived.Deep.CutBlock
import Derived.Deep.LoopGhost
set_option linter.unusedVariables false
set_option linter.unusedSimpArgs false
set_option maxRecDepth 100000
namespace Go.Proofs.YtapcmbbhhclepaaGreatDoor
open Go.RowKit

namespace Kp
def GetTb (G:Nat) (x:V) (q:Bool):Fact:=fun lo hi v w=>∃ k n t a1 n1 c1 a2 n2 c2,v=.tuple #[.agg #[.int .i64 k,.int .i64 n,.string t,.slice a1 n1 c1,.slice a2 n2 c2],.bool q]∧Hid (Is w (fun b=>b < G) (.agg #[.int .i64 k,.int .i64 n,.string t,.slice a1 n1 c1,.slice a2 n2 c2]) x)
theorem mono_getTb (G:Nat) (x:V) (q:Bool):Mono (GetTb G x q):=by
  rintro lo hi v w w' ⟨k,n,t,a1,n1,c1,a2,n2,c2,h1,h2⟩ b
  exact ⟨k,n,t,a1,n1,c1,a2,n2,c2,h1,hide (h2.out.below b)⟩
def GetV (G:Nat) (x:V):Fact:=fun lo hi v w=>∃ k n t a1 n1 c1 a2 n2 c2,v=.agg #[.int .i64 k,.int .i64 n,.string t,.slice a1 n1 c1,.slice a2 n2 c2]∧Hid (Is w (fun b=>b < G) (.agg #[.int .i64 k,.int .i64 n,.string t,.slice a1 n1 c1,.slice a2 n2 c2]) x)
theorem mono_getV (G:Nat) (x:V):Mono (GetV G x):=by
  rintro lo hi v w w' ⟨k,n,t,a1,n1,c1,a2,n2,c2,h1,h2⟩ b
  exact ⟨k,n,t,a1,n1,c1,a2,n2,c2,h1,hide (h2.out.below b)⟩
end Kp
open Kp

set_option maxHeartbeats 4000000 in
theorem redactKeeps_walk (a0:Option Addr) (len0 cap0:Nat) (z0:List Int) (a1:Int) (w:World) (w0:IsRow .u8 w a0 len0 cap0 z0) (w1:(Lit.int .u8 a1).wf=true) (hT:Tabs w) :
    Calls Tryz.prog 7 #[.slice a0 len0 cap0,.int .u8 a1] w fun e w'=>e=.returned (.bool true)∧Below w.heap.size w w':=by
  have HT:=hide hT
  have HR0:=hide w0
  obtain ⟨hk0,hk1⟩:=wf_u8 w1
  have hz0:=(IsRow.view w0).2.2.1
  have HZ0:=hide hz0
  clear hT w0 w1 hz0
  go_enter Tryz.func7,Tryz.ntmps7
  go_wp2_with fail
  refine (body_any a0 len0 cap0 z0 a1 w HR0.out hk0 hk1).mono ?_
  rintro e v1 ⟨bk,bn,bt,ba1,bn1,bc1,ba2,bn2,bc2,rfl,h1,b1⟩
  have bA:=below_alloc v1 (.cells #[.int .i64 bk,.int .i64 bn,.string bt,.slice ba1 bn1 bc1,.slice ba2 bn2 bc2] 27)
  have bb:=bthen b1 bA
  have L:=hide bb
  have IB:=hide ((h1.below bA).weak (S':=fun _=>True) (fun _ _ _=>trivial))
  have XB:=hide (b5_new v1 (.int .i64 bk) (.int .i64 bn) (.string bt) (.slice ba1 bn1 bc1) (.slice ba2 bn2 bc2) _ rfl)
  replace HT:=hide (HT.out.below bb)
  clear h1 bA b1 bb HR0
  obtain ⟨B,hB⟩:∃ B,Xr.body z0 len0 a1=B:=⟨_,rfl⟩
  rw [hB] at IB
  have HB:=hide hB
  clear hB
  go_upto_region 2 with fail
  generalize v1.alloc (.cells #[.int .i64 bk,.int .i64 bn,.string bt,.slice ba1 bn1 bc1,.slice ba2 bn2 bc2] 27)=w1 at HT L IB XB ⊢
  generalize v1.heap.size=gB at XB ⊢
  go_wp2_with fail
  refine (kind_any a1 _ hk0 hk1).mono ?_
  rintro e w2 ⟨rfl,bb⟩
  replace L:=hide (bthen L.out bb)
  replace HT:=hide (HT.out.below bb)
  replace IB:=hide (IB.out.below bb)
  replace XB:=hide (XB.out.keep bb)
  clear bb
  obtain ⟨KD,hKD⟩:∃ K,Xr.kindN a1=K:=⟨_,rfl⟩
  rw [hKD]
  have HKD:=hide hKD
  have hks:=Xr.kindN_size a1
  rw [hKD] at hks
  have HKS:=hide hks
  clear hKD hks
  obtain ⟨p0,p1,p2,p3,p4⟩:=XB.out.cells
  go_wp2_with fail
  clear p0 p1 p2 p3 p4
  refine (refWith_all (is_plain w2 (fun _=>True) 0 0 ⟨#[]⟩ (by decide)) IB.out (by rw [V.wt_mk];decide) kContent (by decide)).mono ?_
  rintro e w3 ⟨uk,un,ut,ua1,un1,uc1,ua2,un2,uc2,rfl,h1,bb⟩
  replace L:=hide (bthen L.out bb)
  replace HT:=hide (HT.out.below bb)
  replace IB:=hide (IB.out.below bb)
  replace XB:=hide (XB.out.keep bb)
  have IU:=hide h1
  clear h1 bb
  go_wp2_with fail
  refine (refStr_any KD _).mono ?_
  rintro e w4 ⟨rfl,bb⟩
  replace L:=hide (bthen L.out bb)
  replace HT:=hide (HT.out.below bb)
  replace IB:=hide (IB.out.below bb)
  replace IU:=hide (IU.out.below bb)
  replace XB:=hide (XB.out.keep bb)
  clear bb
  have HWB:=hide (Xr.body_wt z0 len0 a1)
  rw [HB.out] at HWB
  have hwu:V.wt (V.withV ⟨0,0,⟨#[]⟩,[],[]⟩ kContent B)≤1000000:=by have h1:=V.wt_with_le ⟨0,0,⟨#[]⟩,[],[]⟩ kContent B;have h2:=HWB.out;have e1:kContent.size=7:=rfl;have e2:V.wt ⟨0,0,⟨#[]⟩,[],[]⟩=1:=(by rw [V.wt_mk];decide);omega
  have HWU:=hide hwu
  clear hwu
  go_wp2_with fail
  refine (refWith_all IU.out (is_plain w4 (fun _=>True) 3 0 KD (Nat.le_trans HKS.out (by decide))) (Nat.le_trans HWU.out (by decide)) kType (by decide)).mono ?_
  rintro e v5 ⟨vk,vn,vt,va1,vn1,vc1,va2,vn2,vc2,rfl,h1,b1⟩
  have bA:=below_alloc v5 (.cells #[.int .i64 vk,.int .i64 vn,.string vt,.slice va1 vn1 vc1,.slice va2 vn2 vc2] 27)
  have bb:=bthen b1 bA
  replace L:=hide (bthen L.out bb)
  replace HT:=hide (HT.out.below bb)
  replace IB:=hide (IB.out.below bb)
  replace XB:=hide (XB.out.keep bb)
  have IV:=hide (h1.below bA)
  have XV:=hide (b5_new v5 (.int .i64 vk) (.int .i64 vn) (.string vt) (.slice va1 vn1 vc1) (.slice va2 vn2 vc2) _ rfl)
  clear h1 bA b1 bb IU
  obtain ⟨VV,hVV⟩:∃ v,V.withV (V.withV ⟨0,0,⟨#[]⟩,[],[]⟩ kContent B) kType ⟨3,0,KD,[],[]⟩=v:=⟨_,rfl⟩
  rw [hVV] at IV
  obtain ⟨LV,hLV⟩:∃ v,Xr.ofContent B KD=v:=⟨_,rfl⟩
  have HF:=hide (Xr.keeps_facts HZ0.out len0 a1 a1 B HB.out KD HKD.out VV hVV LV hLV)
  clear hVV hLV
  go_upto_region 4 with fail
  generalize v5.alloc (.cells #[.int .i64 vk,.int .i64 vn,.string vt,.slice va1 vn1 vc1,.slice va2 vn2 vc2] 27)=w5 at HT L IB IV XB XV ⊢
  generalize v5.heap.size=gV at XV ⊢
  obtain ⟨p0,p1,p2,p3,p4⟩:=XV.out.cells
  go_wp2_with fail
  clear p0 p1 p2 p3 p4
  refine (redact_any IV.out (Nat.le_trans HF.out.vw (by decide))).mono ?_
  rintro e v6 ⟨mk,mn,mt,ma1,mn1,mc1,ma2,mn2,mc2,rfl,h1,b1⟩
  have bA:=below_alloc v6 (.cells #[.int .i64 mk,.int .i64 mn,.string mt,.slice ma1 mn1 mc1,.slice ma2 mn2 mc2] 27)
  have bb:=bthen b1 bA
  replace L:=hide (bthen L.out bb)
  replace HT:=hide (HT.out.below bb)
  replace IB:=hide (IB.out.below bb)
  replace IV:=hide (IV.out.below bb)
  replace XB:=hide (XB.out.keep bb)
  replace XV:=hide (XV.out.keep bb)
  have IR:=hide ((h1.below bA).weak (S':=fun _=>True) (fun _ _ _=>trivial))
  have XR:=hide (b5_new v6 (.int .i64 mk) (.int .i64 mn) (.string mt) (.slice ma1 mn1 mc1) (.slice ma2 mn2 mc2) _ rfl)
  clear h1 bA b1 bb
  go_upto_region 5 with fail
  generalize v6.alloc (.cells #[.int .i64 mk,.int .i64 mn,.string mt,.slice ma1 mn1 mc1,.slice ma2 mn2 mc2] 27)=w6 at HT L IB IV IR XB XV XR ⊢
  generalize v6.heap.size=gR at XR ⊢
  obtain ⟨p0,p1,p2,p3,p4⟩:=XR.out.cells
  go_wp2_with fail
  clear p0 p1 p2 p3 p4
  refine (refGet_all IR.out kContent HF.out.rw).mono ?_
  rintro e v7 ⟨dk,dn,dt,da1,dn1,dc1,da2,dn2,dc2,is,rfl,his,h1,b1⟩
  rw [HF.out.lg] at his h1
  simp only [Option.isSome_some,Option.getD_some] at his h1
  subst his
  have bA:=below_alloc v7 (.cells #[.int .i64 dk,.int .i64 dn,.string dt,.slice da1 dn1 dc1,.slice da2 dn2 dc2] 27)
  have bb:=bthen b1 bA
  replace L:=hide (bthen L.out bb)
  replace HT:=hide (HT.out.below bb)
  replace IB:=hide (IB.out.below bb)
  replace IV:=hide (IV.out.below bb)
  replace IR:=hide (IR.out.below bb)
  replace XB:=hide (XB.out.keep bb)
  replace XV:=hide (XV.out.keep bb)
  replace XR:=hide (XR.out.keep bb)
  have ID:=hide (h1.below bA)
  have XD:=hide (b5_new v7 (.int .i64 dk) (.int .i64 dn) (.string dt) (.slice da1 dn1 dc1) (.slice da2 dn2 dc2) _ rfl)
  clear h1 bA b1 bb
  go_upto_region 6 with fail
  generalize v7.alloc (.cells #[.int .i64 dk,.int .i64 dn,.string dt,.slice da1 dn1 dc1,.slice da2 dn2 dc2] 27)=w7 at HT L IB IV IR ID XB XV XR XD ⊢
  generalize v7.heap.size=gD at XD ⊢
  have LB:=hide (Below.refl w7.heap.size w7)
  obtain ⟨kv,lv,hv,hks,hls,_⟩:=IB.out.open
  simp only [Value.agg.injEq,Array.mk.injEq,List.cons.injEq,and_true,Value.int.injEq,Value.string.injEq,true_and] at hv
  obtain ⟨-,-,-,rfl,rfl⟩:=hv
  obtain ⟨hn1,hk2,hk3,hkz,hkc⟩:=hks.out
  obtain ⟨hn2,hl2,hl3⟩:=isL_len hls
  subst hn1
  subst hn2
  have HKC:=hide hkc
  have HLS:=hide hls
  have HKM:Hid (B.keys.length≤maxLen∧B.list.length≤maxLen):=hide ⟨Nat.le_trans hk2 hk3,Nat.le_trans hl2 hl3⟩
  clear hks hls hkc hkz hk2 hk3 hl2 hl3
  obtain ⟨kd,ld,hv,hks,_,_⟩:=ID.out.open
  simp only [Value.agg.injEq,Array.mk.injEq,List.cons.injEq,and_true,Value.int.injEq,Value.string.injEq,true_and] at hv
  obtain ⟨-,-,-,rfl,rfl⟩:=hv
  obtain ⟨hdn,_⟩:=hks.out
  have HDN:Hid (dn1=LV.keys.length):=hide hdn
  clear hks hdn
  obtain ⟨p0,p1,p2,p3,p4⟩:=XB.out.cells
  go_wp2_with fail
  clear p0 p1 p2 p3 p4
  go_loopg [11,12] B.keys.length (fun gg n i wr=>∃ j c:Nat,j+gg=B.keys.length∧c≤j∧n=.int .i64 c∧i=.int .i64 j∧Hid (c=(B.keys.take j).countP (keptB KD))∧Hid (Below w7.heap.size w7 wr))
  case atStart=>exact ⟨0,0,by omega,by omega,rfl,rfl,hide (by simp),LB⟩
  case round =>
    obtain ⟨j,c,hj,hcj,rfl,rfl,HC,H1⟩:=hrel
    have hkl:=HF.out.bn
    obtain ⟨hkm1,hkm2⟩:=HKM.out
    have Y1:=hide (XB.out.keep H1.out)
    obtain ⟨x0,x1,x2,x3,x4⟩:=Y1.out.cells
    by_cases hlt:j < B.keys.length
    · have hlt2:j < B.list.length:=by have:=HF.out.bl;omega
      obtain ⟨kb,ko,KK,hka,hKK,ek⟩:=str_at' HKC.out H1.out (i:=j) hlt
      subst hka
      have hK2:KK=B.keys[j]'hlt:=by rw [hKK.out];simp [List.getD,hlt]
      have HK2:=hide hK2
      obtain ⟨b,off,k',n',t',a1',n1',c1',a2',n2',c2',hla,hel,e0,e1,e2,e3,e4⟩:=isL_open HLS.out H1.out (i:=j) hlt2
      subst hla
      have HE:=hide (And.intro e0 (And.intro e1 (And.intro e2 (And.intro e3 e4))))
      have HEL:=hide hel
      have HEK:=hide ek
      clear hel e0 e1 e2 e3 e4 hKK hK2 ek
      go_upto_region 10 with fail
      clear x0 x1 x2 x3 x4
      have hget:=HF.out.le j hlt hlt2
      rw [← HK2.out] at hget
      obtain ⟨TH,hTH⟩:∃ q,keptB KD KK=q:=⟨_,rfl⟩
      obtain ⟨XV1,hXV⟩:∃ x,(V.get LV KK).getD V.nul=x:=⟨_,rfl⟩
      have hIS:(V.get LV KK).isSome=TH:=by rw [hget,hTH];cases TH <;> rfl
      have HIS:=hide hIS
      have HTH:=hide hTH
      have HXV:=hide hXV
      have HXE:Hid (TH=true→XV1=B.list[j]):=hide (fun h=>by rw [← hXV,hget,hTH,h];rfl)
      clear hget hIS hTH hXV
      go_cut [13,14] from 33 to 74 (fun xv tv wc=>∃ gx k n t s1 m1 u1 s2 m2 u2,xv=.pointer (some ⟨gx,0,none⟩)∧tv=.bool TH∧Hid (Below wr.heap.size wr wc∧B5 wc gx (.int .i64 k) (.int .i64 n) (.string t) (.slice s1 m1 u1) (.slice s2 m2 u2)∧Is wc (fun _=>True) (.agg #[.int .i64 k,.int .i64 n,.string t,.slice s1 m1 u1,.slice s2 m2 u2]) XV1))
      case first =>
        obtain ⟨G,hGG⟩:∃ G,G=wr.heap.size:=⟨_,rfl⟩
        have HG:=hide hGG
        have JD:=hide ((ID.out.below H1.out).weak (S':=fun b=>b < G) (fun b hb _=>by rw [hGG];exact hb))
        have YD:=hide (XD.out.keep H1.out)
        clear hGG
        refine' wp_region_factsP 11 9 [(fun _ _ v _=>v=(.agg #[.int .i64 dk,.int .i64 dn,.string dt,.slice da1 dn1 dc1,.slice da2 dn2 dc2])),(fun _ _ v _=>v=(.pointer (some ⟨gB,3,none⟩))),(fun _ _ v _=>v=(.slice (some ⟨kb,ko,none⟩) B.keys.length bc1)),(fun _ _ v _=>v=(.int .i64 (j:Int))),(fun _ _ v _=>v=(.pointer (some ⟨kb,ko+j,none⟩))),(fun _ _ v _=>v=(.string KK)),(GetTb G XV1 TH),(GetTb G XV1 TH),(GetV G XV1),(fun _ _ v _=>v=(.bool TH)),BoxZ] (by kernel_rfl) ?hA (by kernel_rfl) rfl ?mono ?steps ?last ?last2
        case hA =>
          intro vs
          simp only [puts,Act.put,List.setIfInBounds_toArray,List.set_cons_zero,List.set_cons_succ,Nat.zero_add,Nat.reduceAdd]
          rfl
        case mono=>exact ⟨mono_eq _,mono_eq _,mono_eq _,mono_eq _,mono_eq _,mono_eq _,mono_getTb _ _ _,mono_getTb _ _ _,mono_getV _ _,mono_eq _,mono_boxZ,trivial⟩
        case steps =>
          intro Q'
          refine And.intro ?_ <| And.intro ?_ <| And.intro ?_ <| And.intro ?_ <| And.intro ?_ <| And.intro ?_ <| And.intro ?_ <| And.intro ?_ <| And.intro ?_ <| And.intro ?_ <| And.intro ?_ <| trivial
          all_goals
            intro vs lo hi w' hM hd K' hK
            dsimp only at hK ⊢
            simp only [Act.put,List.setIfInBounds_toArray,List.set_cons_zero,List.set_cons_succ] at hK
          · obtain ⟨p0,p1,p2,p3,p4⟩:=(YD.out.keep hM).cells
            go_simp
            exact hK.out _ _ rfl (Below.refl _ _)
          · go_simp
            exact hK.out _ _ rfl (Below.refl _ _)
          · have e1:vs 1=(.pointer (some ⟨gB,3,none⟩)):=hd 1 (by kernel_rfl)
            simp only [e1] at hK ⊢
            clear e1
            obtain ⟨p0,p1,p2,p3,p4⟩:=(Y1.out.keep hM).cells
            go_simp
            exact hK.out _ _ rfl (Below.refl _ _)
          · go_simp
            exact hK.out _ _ rfl (Below.refl _ _)
          · have e2:vs 2=(.slice (some ⟨kb,ko,none⟩) B.keys.length bc1):=hd 2 (by kernel_rfl)
            have e3:vs 3=(.int .i64 (j:Int)):=hd 3 (by kernel_rfl)
            simp only [e2,e3] at hK ⊢
            clear e2 e3
            go_simp
            exact hK.out _ _ rfl (Below.refl _ _)
          · have e4:vs 4=(.pointer (some ⟨kb,ko+j,none⟩)):=hd 4 (by kernel_rfl)
            simp only [e4] at hK ⊢
            clear e4
            have ek:=cell_keep HEK.out hM
            go_simp
            exact hK.out _ _ rfl (Below.refl _ _)
          · have e0:vs 0=(.agg #[.int .i64 dk,.int .i64 dn,.string dt,.slice da1 dn1 dc1,.slice da2 dn2 dc2]):=hd 0 (by kernel_rfl)
            have e5:vs 5=(.string KK):=hd 5 (by kernel_rfl)
            simp only [e0,e5] at hK ⊢
            clear e0 e5
            go_simp
            refine (refGet_S (JD.out.below hM) KK HF.out.lw).mono ?_
            rintro e w8 ⟨k7,n7,t7,a17,n17,c17,a27,n27,c27,i7,rfl,h6,h7,b7⟩
            rw [HIS.out] at h6
            rw [HXV.out] at h7
            subst h6
            exact hK.out _ _ ⟨_,_,_,_,_,_,_,_,_,rfl,hide h7⟩ b7
          · obtain ⟨k6,n6,t6,a16,n16,c16,a26,n26,c26,e6,H6⟩:=hd 6 (by kernel_rfl)
            simp only [e6] at hK ⊢
            clear e6
            go_simp
            exact hK.out _ _ ⟨_,_,_,_,_,_,_,_,_,rfl,H6⟩ (Below.refl _ _)
          · obtain ⟨k7,n7,t7,a17,n17,c17,a27,n27,c27,e7,H7⟩:=hd 7 (by kernel_rfl)
            simp only [e7] at hK ⊢
            clear e7
            go_simp
            exact hK.out _ _ ⟨_,_,_,_,_,_,_,_,_,rfl,H7⟩ (Below.refl _ _)
          · obtain ⟨k7,n7,t7,a17,n17,c17,a27,n27,c27,e7,H7⟩:=hd 7 (by kernel_rfl)
            simp only [e7] at hK ⊢
            clear e7
            go_simp
            exact hK.out _ _ rfl (Below.refl _ _)
          · go_simp
            exact hK.out _ _ (boxZ_fact _) (below_alloc _ _)
        case last =>
          intro vs lo hi w' hM hlo hall
          obtain ⟨e0,e1,e2,e3,e4,e5,⟨k6,n6,t6,a16,n16,c16,a26,n26,c26,e6,H6⟩,⟨k7,n7,t7,a17,n17,c17,a27,n27,c27,e7,H7⟩,⟨k8,n8,t8,a18,n18,c18,a28,n28,c28,e8,H8⟩,e9,⟨e10,hb10,HB10⟩,_⟩:=hall
          have hlo10:=hlo 10 (by decide)
          generalize lo 10=gx at *
          simp only [List.drop_succ_cons,List.drop_zero]
          try dsimp only
          simp only [e0,e1,e2,e3,e4,e5,e6,e7,e8,e9,e10]
          clear e0 e1 e2 e3 e4 e5 e6 e7 e8 e9 e10 hlo
          obtain ⟨y0,y1,y2,y3,y4⟩:=HB10.out.cells
          have fu0:=HB10.out.free 0
          have fu1:=HB10.out.free 1
          have fu2:=HB10.out.free 2
          have fu3:=HB10.out.free 3
          have fu4:=HB10.out.free 4
          go_wp2_with fail
          clear y0 y1 y2 y3 y4 fu0 fu1 fu2 fu3 fu4
          go_meet
          have hGs:=HG.out
          have hgx:G≤gx:=by have:=hlo10.1;omega
          exact ⟨gx,_,_,_,_,_,_,_,_,_,rfl,rfl,hide ⟨hM.trans (below5 (B:=wr.heap.size) (g:=gx) (w:=w') (by omega) (.int .i64 k8) (.int .i64 n8) (.string t8) (.slice a18 n18 c18) (.slice a28 n28 c28)),HB10.out.all (.int .i64 k8) (.int .i64 n8) (.string t8) (.slice a18 n18 c18) (.slice a28 n28 c28),(H8.out.keep (keeps_chain (S:=fun b=>b < G) (w:=w') (g:=gx) (by show ¬ (gx < G);omega) (.int .i64 k8) (.int .i64 n8) (.string t8) (.slice a18 n18 c18) (.slice a28 n28 c28))).weak (S':=fun _=>True) (fun _ _ _=>trivial)⟩⟩
        case last2 =>
          intro vs lo hi w' hM hlo hall on op hon hop
          obtain rfl:=Option.some.inj hon
          obtain rfl:=Option.some.inj hop
          clear hon hop
          obtain e0:=(hall 0 (by decide) (by decide):_)
          obtain e1:=(hall 1 (by decide) (by decide):_)
          obtain e2:=(hall 2 (by decide) (by decide):_)
          obtain e3:=(hall 3 (by decide) (by decide):_)
          obtain e4:=(hall 4 (by decide) (by decide):_)
          obtain e5:=(hall 5 (by decide) (by decide):_)
          obtain ⟨k6,n6,t6,a16,n16,c16,a26,n26,c26,e6,H6⟩:=(hall 6 (by decide) (by decide):_)
          obtain ⟨k7,n7,t7,a17,n17,c17,a27,n27,c27,e7,H7⟩:=(hall 7 (by decide) (by decide):_)
          obtain ⟨k8,n8,t8,a18,n18,c18,a28,n28,c28,e8,H8⟩:=(hall 8 (by decide) (by decide):_)
          obtain ⟨e10,hb10,HB10⟩:=(hall 10 (by decide) (by decide):_)
          clear hall
          have hlo10:=hlo 10 (by decide) (by decide)
          generalize lo 10=gx at *
          simp only [List.drop_succ_cons,List.drop_zero]
          try dsimp only
          simp only [e0,e1,e2,e3,e4,e5,e6,e7,e8,e10]
          clear e0 e1 e2 e3 e4 e5 e6 e7 e8 e10 hlo
          obtain ⟨y0,y1,y2,y3,y4⟩:=HB10.out.cells
          have fu0:=HB10.out.free 0
          have fu1:=HB10.out.free 1
          have fu2:=HB10.out.free 2
          have fu3:=HB10.out.free 3
          have fu4:=HB10.out.free 4
          go_wp2_with fail
          clear y0 y1 y2 y3 y4 fu0 fu1 fu2 fu3 fu4
          go_meet
          have hGs:=HG.out
          have hgx:G≤gx:=by have:=hlo10.1;omega
          exact ⟨gx,_,_,_,_,_,_,_,_,_,rfl,rfl,hide ⟨hM.trans (below5 (B:=wr.heap.size) (g:=gx) (w:=w') (by omega) (.int .i64 k8) (.int .i64 n8) (.string t8) (.slice a18 n18 c18) (.slice a28 n28 c28)),HB10.out.all (.int .i64 k8) (.int .i64 n8) (.string t8) (.slice a18 n18 c18) (.slice a28 n28 c28),(H8.out.keep (keeps_chain (S:=fun b=>b < G) (w:=w') (g:=gx) (by show ¬ (gx < G);omega) (.int .i64 k8) (.int .i64 n8) (.string t8) (.slice a18 n18 c18) (.slice a28 n28 c28))).weak (S':=fun _=>True) (fun _ _ _=>trivial)⟩⟩
      case rest =>
        obtain ⟨gx,xk,xn,xt,xa1,xn1,xc1,xa2,xn2,xc2,rfl,rfl,HX⟩:=hcut
        have b9:=HX.out.1
        have Xx:=hide HX.out.2.1
        have Ix:=hide HX.out.2.2
        have LX:=hide (bthen H1.out b9)
        have Y2:=hide (Y1.out.keep b9)
        have HE2:=hide (show _∧_∧_∧_∧_ from ⟨cell_keep HE.out.1 b9,cell_keep HE.out.2.1 b9,cell_keep HE.out.2.2.1 b9,cell_keep HE.out.2.2.2.1 b9,cell_keep HE.out.2.2.2.2 b9⟩)
        have HEL2:=hide (HEL.out.below b9)
        have HEK2:=hide (cell_keep HEK.out b9)
        clear b9 HX H1 Y1 HE HEL HEK
        go_upto_region 11 with fail
        have HC1:Hid ((B.keys.take (j+1)).countP (keptB KD)=if TH=true then c+1 else c):=hide (by rw [HC.out,List.take_succ_eq_append_getElem hlt,List.countP_append,← HK2.out];simp only [List.countP_singleton,HTH.out];cases TH <;> rfl)
        cases TH with
        | true =>
          have HEQ:Hid (XV1=B.list[j]):=hide (HXE.out rfl)
          have HWY:Hid (V.wt B.list[j]≤4294967296):=hide (by have h1:=V.wtL_mem (List.getElem_mem hlt2);have h2:=HF.out.bw;have h3:=V.wtL_list B;omega)
          have HWX:Hid (V.wt XV1≤4294967296):=hide (by rw [HEQ.out];exact HWY.out)
          refine' wp_region_facts [(fun _ _ v _=>v=(.bool true)),(fun _ _ v _=>v=(.string KD)),(fun _ _ v _=>v=(.pointer (some ⟨gB,3,none⟩))),(fun _ _ v _=>v=(.slice (some ⟨kb,ko,none⟩) B.keys.length bc1)),(fun _ _ v _=>v=(.int .i64 (j:Int))),(fun _ _ v _=>v=(.pointer (some ⟨kb,ko+j,none⟩))),(fun _ _ v _=>v=(.string KK)),(fun _ _ v _=>v=(.bool true)),(fun _ _ v _=>v=(.bool false)),(fun _ _ v _=>v=(.bool false)),(fun _ _ v _=>v=(.bool true)),(fun _ _ v _=>v=(.bool true)),(fun _ _ v _=>v=(.agg #[.int .i64 xk,.int .i64 xn,.string xt,.slice xa1 xn1 xc1,.slice xa2 xn2 xc2])),(fun _ _ v _=>v=(.pointer (some ⟨gB,4,none⟩))),(fun _ _ v _=>v=(.slice (some ⟨b,off,none⟩) B.list.length bc2)),(fun _ _ v _=>v=(.int .i64 (j:Int))),(fun _ _ v _=>v=(.pointer (some ⟨b,off+j * 5,none⟩))),(fun _ _ v _=>v=(.agg #[.int .i64 k',.int .i64 n',.string t',.slice a1' n1' c1',.slice a2' n2' c2'])),(fun _ _ v _=>v=(.bool true)),(fun _ _ v _=>v=(.bool false)),(fun _ _ v _=>v=(.bool false))] (by kernel_rfl) rfl ?hA (by kernel_rfl) (by kernel_rfl) (by kernel_rfl) rfl ?mono ?steps ?last
          case hA =>
            intro vs
            simp only [puts,Act.put,List.setIfInBounds_toArray,List.set_cons_zero,List.set_cons_succ,Nat.zero_add,Nat.reduceAdd]
            rfl
          case mono=>exact ⟨mono_eq _,mono_eq _,mono_eq _,mono_eq _,mono_eq _,mono_eq _,mono_eq _,mono_eq _,mono_eq _,mono_eq _,mono_eq _,mono_eq _,mono_eq _,mono_eq _,mono_eq _,mono_eq _,mono_eq _,mono_eq _,mono_eq _,mono_eq _,mono_eq _,trivial⟩
          case steps =>
            intro Q'
            refine And.intro ?_ <| And.intro ?_ <| And.intro ?_ <| And.intro ?_ <| And.intro ?_ <| And.intro ?_ <| And.intro ?_ <| And.intro ?_ <| And.intro ?_ <| And.intro ?_ <| And.intro ?_ <| And.intro ?_ <| And.intro ?_ <| And.intro ?_ <| And.intro ?_ <| And.intro ?_ <| And.intro ?_ <| And.intro ?_ <| And.intro ?_ <| And.intro ?_ <| And.intro ?_ <| trivial
            all_goals
              intro vs lo hi w' hM hd K' hK
              dsimp only at hK ⊢
              simp only [Act.put,List.setIfInBounds_toArray,List.set_cons_zero,List.set_cons_succ] at hK
            · go_simp
              exact hK.out _ _ rfl (Below.refl _ _)
            · go_simp
              exact hK.out _ _ rfl (Below.refl _ _)
            · go_simp
              exact hK.out _ _ rfl (Below.refl _ _)
            · have e2:vs 2=(.pointer (some ⟨gB,3,none⟩)):=hd 2 (by kernel_rfl)
              simp only [e2] at hK ⊢
              clear e2
              obtain ⟨p0,p1,p2,p3,p4⟩:=(Y2.out.keep hM).cells
              go_simp
              exact hK.out _ _ rfl (Below.refl _ _)
            · go_simp
              exact hK.out _ _ rfl (Below.refl _ _)
            · have e3:vs 3=(.slice (some ⟨kb,ko,none⟩) B.keys.length bc1):=hd 3 (by kernel_rfl)
              have e4:vs 4=(.int .i64 (j:Int)):=hd 4 (by kernel_rfl)
              simp only [e3,e4] at hK ⊢
              clear e3 e4
              go_simp
              exact hK.out _ _ rfl (Below.refl _ _)
            · have e5:vs 5=(.pointer (some ⟨kb,ko+j,none⟩)):=hd 5 (by kernel_rfl)
              simp only [e5] at hK ⊢
              clear e5
              have ek:=cell_keep HEK2.out hM
              go_simp
              exact hK.out _ _ rfl (Below.refl _ _)
            · have e1:vs 1=(.string KD):=hd 1 (by kernel_rfl)
              have e6:vs 6=(.string KK):=hd 6 (by kernel_rfl)
              simp only [e1,e6] at hK ⊢
              clear e1 e6
              go_simp
              refine (Kept_any KD KK _ (Nat.le_trans HKS.out (by decide))).mono ?_
              rintro e w7 ⟨rfl,b7⟩
              rw [HTH.out]
              exact hK.out _ _ rfl b7
            · have e0:vs 0=(.bool true):=hd 0 (by kernel_rfl)
              have e7:vs 7=(.bool true):=hd 7 (by kernel_rfl)
              simp only [e0,e7] at hK ⊢
              clear e0 e7
              go_simp
              exact hK.out _ _ rfl (Below.refl _ _)
            · have e8:vs 8=(.bool false):=hd 8 (by kernel_rfl)
              simp only [e8] at hK ⊢
              clear e8
              go_simp
              exact hK.out _ _ rfl (Below.refl _ _)
            · have e9:vs 9=(.bool false):=hd 9 (by kernel_rfl)
              simp only [e9] at hK ⊢
              clear e9
              go_simp
              exact hK.out _ _ rfl (Below.refl _ _)
            · have e10:vs 10=(.bool true):=hd 10 (by kernel_rfl)
              have e9:vs 9=(.bool false):=hd 9 (by kernel_rfl)
              simp only [e10,e9] at hK ⊢
              clear e10 e9
              go_simp
              exact hK.out _ _ rfl (Below.refl _ _)
            · have e11:vs 11=(.bool true):=hd 11 (by kernel_rfl)
              simp only [e11] at hK ⊢
              clear e11
              obtain ⟨p0,p1,p2,p3,p4⟩:=(Xx.out.keep hM).cells
              go_simp
              exact hK.out _ _ rfl (Below.refl _ _)
            · have e11:vs 11=(.bool true):=hd 11 (by kernel_rfl)
              simp only [e11] at hK ⊢
              clear e11
              go_simp
              exact hK.out _ _ rfl (Below.refl _ _)
            · have e13:vs 13=(.pointer (some ⟨gB,4,none⟩)):=hd 13 (by kernel_rfl)
              have e11:vs 11=(.bool true):=hd 11 (by kernel_rfl)
              simp only [e13,e11] at hK ⊢
              clear e13 e11
              obtain ⟨p0,p1,p2,p3,p4⟩:=(Y2.out.keep hM).cells
              go_simp
              exact hK.out _ _ rfl (Below.refl _ _)
            · have e11:vs 11=(.bool true):=hd 11 (by kernel_rfl)
              simp only [e11] at hK ⊢
              clear e11
              go_simp
              exact hK.out _ _ rfl (Below.refl _ _)
            · have e14:vs 14=(.slice (some ⟨b,off,none⟩) B.list.length bc2):=hd 14 (by kernel_rfl)
              have e15:vs 15=(.int .i64 (j:Int)):=hd 15 (by kernel_rfl)
              have e11:vs 11=(.bool true):=hd 11 (by kernel_rfl)
              simp only [e14,e15,e11] at hK ⊢
              clear e14 e15 e11
              go_simp
              exact hK.out _ _ rfl (Below.refl _ _)
            · have e16:vs 16=(.pointer (some ⟨b,off+j * 5,none⟩)):=hd 16 (by kernel_rfl)
              have e11:vs 11=(.bool true):=hd 11 (by kernel_rfl)
              simp only [e16,e11] at hK ⊢
              clear e16 e11
              obtain ⟨e0,e1,e2,e3,e4⟩:=HE2.out
              replace e0:=cell_keep e0 hM
              replace e1:=cell_keep e1 hM
              replace e2:=cell_keep e2 hM
              replace e3:=cell_keep e3 hM
              replace e4:=cell_keep e4 hM
              go_simp
              exact hK.out _ _ rfl (Below.refl _ _)
            · have e12:vs 12=(.agg #[.int .i64 xk,.int .i64 xn,.string xt,.slice xa1 xn1 xc1,.slice xa2 xn2 xc2]):=hd 12 (by kernel_rfl)
              have e17:vs 17=(.agg #[.int .i64 k',.int .i64 n',.string t',.slice a1' n1' c1',.slice a2' n2' c2']):=hd 17 (by kernel_rfl)
              have e11:vs 11=(.bool true):=hd 11 (by kernel_rfl)
              simp only [e12,e17,e11] at hK ⊢
              clear e12 e17 e11
              go_simp
              refine (refSame_any (Ix.out.below hM) (HEL2.out.below hM) HWX.out HWY.out true ⟨fun _=>HEQ.out,fun _=>rfl⟩).mono ?_
              rintro e w7 ⟨rfl,b7⟩
              exact hK.out _ _ rfl b7
            · have e18:vs 18=(.bool true):=hd 18 (by kernel_rfl)
              have e11:vs 11=(.bool true):=hd 11 (by kernel_rfl)
              simp only [e18,e11] at hK ⊢
              clear e18 e11
              go_simp
              exact hK.out _ _ rfl (Below.refl _ _)
            · have e11:vs 11=(.bool true):=hd 11 (by kernel_rfl)
              have e19:vs 19=(.bool false):=hd 19 (by kernel_rfl)
              have e9:vs 9=(.bool false):=hd 9 (by kernel_rfl)
              simp only [e11,e19,e9] at hK ⊢
              clear e11 e19 e9
              go_simp
              exact hK.out _ _ rfl (Below.refl _ _)
          case last =>
            intro vs lo hi w' hM hlo hap hall K' Q' hK
            have h0:vs 0=.bool true:=hall.1
            have h9:vs 9=.bool false:=hall.2.2.2.2.2.2.2.2.2.1
            have h20:vs 20=.bool false:=hall.2.2.2.2.2.2.2.2.2.2.2.2.2.2.2.2.2.2.2.2.1
            dsimp only
            simp only [h9,h20]
            clear h0 h9 h20 hall hap hlo
            go_simp
            refine hK.out _ _ ?_
            clear hK
            go_wp2_with fail
            go_roundg (gk - 1)
            case measure=>omega
            case rel=>exact ⟨j+1,c+1,by omega,by omega,rfl,rfl,hide (HC1.out.symm),hide (bthen LX.out hM)⟩
        | false =>
          refine' wp_region_facts [(fun _ _ v _=>v=(.bool false)),(fun _ _ v _=>v=(.string KD)),(fun _ _ v _=>v=(.pointer (some ⟨gB,3,none⟩))),(fun _ _ v _=>v=(.slice (some ⟨kb,ko,none⟩) B.keys.length bc1)),(fun _ _ v _=>v=(.int .i64 (j:Int))),(fun _ _ v _=>v=(.pointer (some ⟨kb,ko+j,none⟩))),(fun _ _ v _=>v=(.string KK)),(fun _ _ v _=>v=(.bool false)),(fun _ _ v _=>v=(.bool false)),(fun _ _ v _=>v=(.bool false)),(fun _ _ v _=>v=(.bool false)),(fun _ _ v _=>v=(.bool false)),(fun _ _ v _=>v=undef),(fun _ _ v _=>v=undef),(fun _ _ v _=>v=undef),(fun _ _ v _=>v=undef),(fun _ _ v _=>v=undef),(fun _ _ v _=>v=undef),(fun _ _ v _=>v=undef),(fun _ _ v _=>v=undef),(fun _ _ v _=>v=(.bool false))] (by kernel_rfl) rfl ?hA (by kernel_rfl) (by kernel_rfl) (by kernel_rfl) rfl ?mono ?steps ?last
          case hA =>
            intro vs
            simp only [puts,Act.put,List.setIfInBounds_toArray,List.set_cons_zero,List.set_cons_succ,Nat.zero_add,Nat.reduceAdd]
            rfl
          case mono=>exact ⟨mono_eq _,mono_eq _,mono_eq _,mono_eq _,mono_eq _,mono_eq _,mono_eq _,mono_eq _,mono_eq _,mono_eq _,mono_eq _,mono_eq _,mono_eq _,mono_eq _,mono_eq _,mono_eq _,mono_eq _,mono_eq _,mono_eq _,mono_eq _,mono_eq _,trivial⟩
          case steps =>
            intro Q'
            refine And.intro ?_ <| And.intro ?_ <| And.intro ?_ <| And.intro ?_ <| And.intro ?_ <| And.intro ?_ <| And.intro ?_ <| And.intro ?_ <| And.intro ?_ <| And.intro ?_ <| And.intro ?_ <| And.intro ?_ <| And.intro ?_ <| And.intro ?_ <| And.intro ?_ <| And.intro ?_ <| And.intro ?_ <| And.intro ?_ <| And.intro ?_ <| And.intro ?_ <| And.intro ?_ <| trivial
            all_goals
              intro vs lo hi w' hM hd K' hK
              dsimp only at hK ⊢
              simp only [Act.put,List.setIfInBounds_toArray,List.set_cons_zero,List.set_cons_succ] at hK
            · go_simp
              exact hK.out _ _ rfl (Below.refl _ _)
            · go_simp
              exact hK.out _ _ rfl (Below.refl _ _)
            · go_simp
              exact hK.out _ _ rfl (Below.refl _ _)
            · have e2:vs 2=(.pointer (some ⟨gB,3,none⟩)):=hd 2 (by kernel_rfl)
              simp only [e2] at hK ⊢
              clear e2
              obtain ⟨p0,p1,p2,p3,p4⟩:=(Y2.out.keep hM).cells
              go_simp
              exact hK.out _ _ rfl (Below.refl _ _)
            · go_simp
              exact hK.out _ _ rfl (Below.refl _ _)
            · have e3:vs 3=(.slice (some ⟨kb,ko,none⟩) B.keys.length bc1):=hd 3 (by kernel_rfl)
              have e4:vs 4=(.int .i64 (j:Int)):=hd 4 (by kernel_rfl)
              simp only [e3,e4] at hK ⊢
              clear e3 e4
              go_simp
              exact hK.out _ _ rfl (Below.refl _ _)
            · have e5:vs 5=(.pointer (some ⟨kb,ko+j,none⟩)):=hd 5 (by kernel_rfl)
              simp only [e5] at hK ⊢
              clear e5
              have ek:=cell_keep HEK2.out hM
              go_simp
              exact hK.out _ _ rfl (Below.refl _ _)
            · have e1:vs 1=(.string KD):=hd 1 (by kernel_rfl)
              have e6:vs 6=(.string KK):=hd 6 (by kernel_rfl)
              simp only [e1,e6] at hK ⊢
              clear e1 e6
              go_simp
              refine (Kept_any KD KK _ (Nat.le_trans HKS.out (by decide))).mono ?_
              rintro e w7 ⟨rfl,b7⟩
              rw [HTH.out]
              exact hK.out _ _ rfl b7
            · have e0:vs 0=(.bool false):=hd 0 (by kernel_rfl)
              have e7:vs 7=(.bool false):=hd 7 (by kernel_rfl)
              simp only [e0,e7] at hK ⊢
              clear e0 e7
              go_simp
              exact hK.out _ _ rfl (Below.refl _ _)
            · have e8:vs 8=(.bool false):=hd 8 (by kernel_rfl)
              simp only [e8] at hK ⊢
              clear e8
              go_simp
              exact hK.out _ _ rfl (Below.refl _ _)
            · have e9:vs 9=(.bool false):=hd 9 (by kernel_rfl)
              simp only [e9] at hK ⊢
              clear e9
              go_simp
              exact hK.out _ _ rfl (Below.refl _ _)
            · have e10:vs 10=(.bool false):=hd 10 (by kernel_rfl)
              have e9:vs 9=(.bool false):=hd 9 (by kernel_rfl)
              simp only [e10,e9] at hK ⊢
              clear e10 e9
              go_simp
              exact hK.out _ _ rfl (Below.refl _ _)
            · have e11:vs 11=(.bool false):=hd 11 (by kernel_rfl)
              simp only [e11] at hK ⊢
              clear e11
              go_simp
              exact hK.out _ _ rfl (Below.refl _ _)
            · have e11:vs 11=(.bool false):=hd 11 (by kernel_rfl)
              simp only [e11] at hK ⊢
              clear e11
              go_simp
              exact hK.out _ _ rfl (Below.refl _ _)
            · have e13:vs 13=undef:=hd 13 (by kernel_rfl)
              have e11:vs 11=(.bool false):=hd 11 (by kernel_rfl)
              simp only [e13,e11] at hK ⊢
              clear e13 e11
              go_simp
              exact hK.out _ _ rfl (Below.refl _ _)
            · have e11:vs 11=(.bool false):=hd 11 (by kernel_rfl)
              simp only [e11] at hK ⊢
              clear e11
              go_simp
              exact hK.out _ _ rfl (Below.refl _ _)
            · have e14:vs 14=undef:=hd 14 (by kernel_rfl)
              have e15:vs 15=undef:=hd 15 (by kernel_rfl)
              have e11:vs 11=(.bool false):=hd 11 (by kernel_rfl)
              simp only [e14,e15,e11] at hK ⊢
              clear e14 e15 e11
              go_simp
              exact hK.out _ _ rfl (Below.refl _ _)
            · have e16:vs 16=undef:=hd 16 (by kernel_rfl)
              have e11:vs 11=(.bool false):=hd 11 (by kernel_rfl)
              simp only [e16,e11] at hK ⊢
              clear e16 e11
              go_simp
              exact hK.out _ _ rfl (Below.refl _ _)
            · have e12:vs 12=undef:=hd 12 (by kernel_rfl)
              have e17:vs 17=undef:=hd 17 (by kernel_rfl)
              have e11:vs 11=(.bool false):=hd 11 (by kernel_rfl)
              simp only [e12,e17,e11] at hK ⊢
              clear e12 e17 e11
              go_simp
              exact hK.out _ _ rfl (Below.refl _ _)
            · have e18:vs 18=undef:=hd 18 (by kernel_rfl)
              have e11:vs 11=(.bool false):=hd 11 (by kernel_rfl)
              simp only [e18,e11] at hK ⊢
              clear e18 e11
              go_simp
              exact hK.out _ _ rfl (Below.refl _ _)
            · have e11:vs 11=(.bool false):=hd 11 (by kernel_rfl)
              have e19:vs 19=undef:=hd 19 (by kernel_rfl)
              have e9:vs 9=(.bool false):=hd 9 (by kernel_rfl)
              simp only [e11,e19,e9] at hK ⊢
              clear e11 e19 e9
              go_simp
              exact hK.out _ _ rfl (Below.refl _ _)
          case last =>
            intro vs lo hi w' hM hlo hap hall K' Q' hK
            have h0:vs 0=.bool false:=hall.1
            have h9:vs 9=.bool false:=hall.2.2.2.2.2.2.2.2.2.1
            have h20:vs 20=.bool false:=hall.2.2.2.2.2.2.2.2.2.2.2.2.2.2.2.2.2.2.2.2.1
            dsimp only
            simp only [h9,h20]
            clear h0 h9 h20 hall hap hlo
            go_simp
            refine hK.out _ _ ?_
            clear hK
            go_wp2_with fail
            go_roundg (gk - 1)
            case measure=>omega
            case rel=>exact ⟨j+1,c,by omega,by omega,rfl,rfl,hide (HC1.out.symm),hide (bthen LX.out hM)⟩
    · have hje:j=B.keys.length:=by omega
      have hcl:c=LV.keys.length:=by rw [HC.out,hje,List.take_length];exact HF.out.lk.symm
      have hcd:c=dn1:=hcl.trans HDN.out.symm
      subst hcd
      clear hje hcl hcj
      go_wp2_with fail
      clear x0 x1 x2 x3 x4
      refine (xknown_any _ (HT.out.below H1.out)).mono ?_
      rintro e wk ⟨rfl,bk⟩
      have b2:=bthen H1.out bk
      have JR:=hide (IR.out.below b2)
      have JV:=hide (IV.out.below b2)
      have YV:=hide (XV.out.keep b2)
      have YR:=hide (XR.out.keep b2)
      have YD:=hide (XD.out.keep b2)
      have L2:=hide (bthen L.out b2)
      clear b2 bk
      obtain ⟨d0,d1,d2,d3,d4⟩:=YD.out.cells
      obtain ⟨q,hq⟩:∃ q,(KD.toList == [109,46,114,111,111,109,46,99,114,101,97,116,101])=q:=⟨_,rfl⟩
      cases q with
      | true =>
        have HRV:=hide (HF.out.lc (by rw [show kCreate.toList=[109,46,114,111,111,109,46,99,114,101,97,116,101] from by kernel_rfl];exact hq))
        obtain ⟨e0,e1,e2,e3,e4⟩:=YR.out.cells
        obtain ⟨f0,f1,f2,f3,f4⟩:=YV.out.cells
        go_wp2_with fail
        clear d0 d1 d2 d3 d4 e0 e1 e2 e3 e4 f0 f1 f2 f3 f4 hq
        refine (refSame_any JR.out JV.out HF.out.rw (Nat.le_trans HF.out.vw (by decide)) true ⟨fun _=>HRV.out,fun _=>rfl⟩).mono ?_
        rintro e ws ⟨rfl,bs⟩
        go_wp2_with fail
        go_ret
        exact ⟨rfl,bthen L2.out bs⟩
      | false =>
        go_wp2_with fail
        go_ret
        exact ⟨rfl,L2.out⟩
end Go.Proofs.YtapcmbbhhclepaaGreatDoor
