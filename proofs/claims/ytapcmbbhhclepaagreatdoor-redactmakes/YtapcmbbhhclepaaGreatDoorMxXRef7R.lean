/-
  THE WALKS of heliastref07's Redact and ID (layer 7).
-/
import Derived.Test.YtapcmbbhhclepaaGreatDoorMxXRef7C
import Derived.Test.YtapcmbbhhclepaaGreatDoorM25
import Derived.Deep.DeepCutAuto
import Derived.Deep.CutBlock
set_option linter.unusedVariables false
set_option linter.unusedSimpArgs false
set_option maxRecDepth 100000
namespace Go.Proofs.YtapcmbbhhclepaaGreatDoor
open Go.RowKit

def GetTq (G:Nat) (x:V) (q:Bool):Fact:=fun lo hi v w=>∃ k n t a1 n1 c1 a2 n2 c2,v=.tuple #[.agg #[.int .i64 k,.int .i64 n,.string t,.slice a1 n1 c1,.slice a2 n2 c2],.bool q]∧Hid (Is w (fun b=>b < G) (.agg #[.int .i64 k,.int .i64 n,.string t,.slice a1 n1 c1,.slice a2 n2 c2]) x)
theorem mono_getTq (G:Nat) (x:V) (q:Bool):Mono (GetTq G x q):=by
  rintro lo hi v w w' ⟨k,n,t,a1,n1,c1,a2,n2,c2,h1,h2⟩ b;exact ⟨k,n,t,a1,n1,c1,a2,n2,c2,h1,hide (h2.out.below b)⟩
namespace Xr
theorem lEvent_size (i:Nat):(lEvent.getD i ByteArray.empty).size≤20:=key_small lEvent 20 (by decide) i
theorem refTo_wt (x:V) (kind:ByteArray):∀ i,V.wt (refTo x kind i)≤1+i * (V.wt x+21)
  | 0=>by
    have e:V.wt V.none5=1:=by unfold V.none5;rw [V.wt_mk];decide
    show V.wt V.none5≤_
    omega
  | i+1=>by
    have h1:=refTo_wt x kind i;have hs:=lEvent_size i;simp only [refTo];rw [Nat.succ_mul];cases hg:V.get x (lEvent.getD i ByteArray.empty) with
    | none=>simp only;omega
    | some y =>
      simp only;have h2:=wt_get hg
      have h3:V.wt (if lEvent.getD i ByteArray.empty=kContent then keep kind y else y)≤V.wt y:=by
        split
        · exact wt_keep _ _
        · exact Nat.le_refl _
      have h4:=V.wt_with_le (refTo x kind i) (lEvent.getD i ByteArray.empty) (if lEvent.getD i ByteArray.empty=kContent then keep kind y else y);omega
end Xr

set_option maxHeartbeats 4000000 in
theorem ref7Redact_any {v:Value} {x:V} {w:World} {S:Nat→Prop} (h:Is w S v x) (hr:V.right x=true) (hwt:V.wt x≤10000000) :
    Calls Tryz.prog 34 #[v] w fun e w'=>∃ k n t a1 n1 c1 a2 n2 c2,e=.returned (.agg #[.int .i64 k,.int .i64 n,.string t,.slice a1 n1 c1,.slice a2 n2 c2])∧Is w' (fun _=>True) (.agg #[.int .i64 k,.int .i64 n,.string t,.slice a1 n1 c1,.slice a2 n2 c2]) (Xr.redact x)∧Below w.heap.size w w':=by
  replace h:=h.weak (S':=fun b=>b < w.heap.size) (fun b hb _=>hb);obtain ⟨kv,lv,rfl,h2,h8,_⟩:=id h.open;obtain ⟨a1,c1,rfl,_⟩:=id h2;obtain ⟨a2,c2,_,rfl,_⟩:=id h8;clear h2 h8;have bA:=below_alloc w (.cells #[.int .i64 x.kind,.int .i64 x.num,.string x.text,.slice a1 x.keys.length c1,.slice a2 x.list.length c2] 27);have bB:=below_alloc (w.alloc (.cells #[.int .i64 x.kind,.int .i64 x.num,.string x.text,.slice a1 x.keys.length c1,.slice a2 x.list.length c2] 27)) (.cells #[.int .i64 0,.int .i64 0,.string ⟨#[]⟩,.slice none 0 0,.slice none 0 0] 27);have x0:=hide ((b5_new w (.int .i64 x.kind) (.int .i64 x.num) (.string x.text) (.slice a1 x.keys.length c1) (.slice a2 x.list.length c2) w.heap.size rfl).keep bB);have u0:=hide (b5_new (w.alloc (.cells #[.int .i64 x.kind,.int .i64 x.num,.string x.text,.slice a1 x.keys.length c1,.slice a2 x.list.length c2] 27)) (.int .i64 0) (.int .i64 0) (.string ⟨#[]⟩) (.slice none 0 0) (.slice none 0 0) (w.heap.size+1) (by simp));have l0:=hide (bthen bA bB);have hx0:=hide (h.below l0.out);have n0:Hid (((w.alloc (.cells #[.int .i64 x.kind,.int .i64 x.num,.string x.text,.slice a1 x.keys.length c1,.slice a2 x.list.length c2] 27)).alloc (.cells #[.int .i64 0,.int .i64 0,.string ⟨#[]⟩,.slice none 0 0,.slice none 0 0] 27)).heap.size=w.heap.size+2):=hide (by simp);have HR:=hide hr;have HWT:=hide hwt;clear bA bB h hr hwt
  by_cases h5:x.kind=5
  · have k5:(x.kind != 5)=false:=by rw [h5];rfl
    have H5:=hide h5;clear h5;have bR:=below_alloc ((w.alloc (.cells #[.int .i64 x.kind,.int .i64 x.num,.string x.text,.slice a1 x.keys.length c1,.slice a2 x.list.length c2] 27)).alloc (.cells #[.int .i64 0,.int .i64 0,.string ⟨#[]⟩,.slice none 0 0,.slice none 0 0] 27)) (.cells (lEvent.map Value.string).toArray 9);have x1:=hide (x0.out.keep bR);have u1:=hide (u0.out.keep bR);have r1:=hide (rowS_new ((w.alloc (.cells #[.int .i64 x.kind,.int .i64 x.num,.string x.text,.slice a1 x.keys.length c1,.slice a2 x.list.length c2] 27)).alloc (.cells #[.int .i64 0,.int .i64 0,.string ⟨#[]⟩,.slice none 0 0,.slice none 0 0] 27)) lEvent (w.heap.size+1+1) (by simp));have l1:=hide (bthen l0.out bR);have hx1:=hide (hx0.out.below bR);have n1:Hid ((((w.alloc (.cells #[.int .i64 x.kind,.int .i64 x.num,.string x.text,.slice a1 x.keys.length c1,.slice a2 x.list.length c2] 27)).alloc (.cells #[.int .i64 0,.int .i64 0,.string ⟨#[]⟩,.slice none 0 0,.slice none 0 0] 27)).alloc (.cells (lEvent.map Value.string).toArray 9)).heap.size=w.heap.size+3):=hide (by simp);obtain ⟨p0,p1,p2,p3,p4⟩:=x0.out.cells;obtain ⟨y0,y1,y2,y3,y4⟩:=x1.out.cells;clear bR;simp only [lEvent,List.map_cons,List.map_nil] at y0 y1 y2 y3 y4;go_enter Tryz.func34,Tryz.ntmps34
    go_wp2_with fail
    clear p0 p1 p2 p3 p4 y0 y1 y2 y3 y4 k5 x0 u0 l0 hx0 n0;obtain ⟨wA,hwA⟩:∃ wA,wA=((w.alloc (.cells #[.int .i64 x.kind,.int .i64 x.num,.string x.text,.slice a1 x.keys.length c1,.slice a2 x.list.length c2] 27)).alloc (.cells #[.int .i64 0,.int .i64 0,.string ⟨#[]⟩,.slice none 0 0,.slice none 0 0] 27)).alloc (.cells (lEvent.map Value.string).toArray 9):=⟨_,rfl⟩;have hwB:((w.alloc (.cells #[.int .i64 x.kind,.int .i64 x.num,.string x.text,.slice a1 x.keys.length c1,.slice a2 x.list.length c2] 27)).alloc (.cells #[.int .i64 0,.int .i64 0,.string ⟨#[]⟩,.slice none 0 0,.slice none 0 0] 27)).alloc (.cells #[.string ⟨#[97,117,116,104,95,101,118,101,110,116,115]⟩,.string ⟨#[99,111,110,116,101,110,116]⟩,.string ⟨#[100,101,112,116,104]⟩,.string ⟨#[104,97,115,104,101,115]⟩,.string ⟨#[111,114,105,103,105,110,95,115,101,114,118,101,114,95,116,115]⟩,.string ⟨#[112,114,101,118,95,101,118,101,110,116,115]⟩,.string ⟨#[114,111,111,109,95,105,100]⟩,.string ⟨#[115,101,110,100,101,114]⟩,.string ⟨#[115,116,97,116,101,95,107,101,121]⟩,.string ⟨#[116,121,112,101]⟩] 9)=wA:=hwA.symm;rw [hwB];rw [← hwA] at x1 u1 r1 l1 hx1 n1;clear hwA hwB;obtain ⟨TV,hTV⟩:∃ y,(V.get x kType).getD V.nul=y:=⟨_,rfl⟩;obtain ⟨KD,hKD⟩:∃ K,Xr.refKind x=K:=⟨_,rfl⟩;have hTK:TV.text=KD:=by rw [← hKD,← hTV];rfl
    refine (refGet_S hx1.out kType (Nat.le_trans HWT.out (by decide))).mono ?_;rintro e w1 ⟨tk,tn,tt,ta1,tn1,tc1,ta2,tn2,tc2,is,rfl,his0,his,b1⟩;rw [hTV] at his;obtain ⟨kv,lv,hv,hks,hls,_⟩:=his.open;obtain ⟨ax,cx,hks2,hks3⟩:=hks;obtain ⟨ay,cy,_,hls2,hls3⟩:=hls;clear hks3 hls3;subst hks2 hls2;simp only [Value.agg.injEq,Array.mk.injEq,List.cons.injEq,and_true,Value.int.injEq,Value.string.injEq,true_and,Value.slice.injEq] at hv;obtain ⟨rfl,rfl,rfl,⟨rfl,rfl,rfl⟩,rfl,rfl,rfl⟩:=hv;rw [hTK];have HKD:=hide hKD;clear his his0 hTV hKD hTK;have bT:=below_alloc w1 (.cells #[.int .i64 TV.kind,.int .i64 TV.num,.string KD,.slice ta1 TV.keys.length tc1,.slice ta2 TV.list.length tc2] 27);have bO:=below_alloc (w1.alloc (.cells #[.int .i64 TV.kind,.int .i64 TV.num,.string KD,.slice ta1 TV.keys.length tc1,.slice ta2 TV.list.length tc2] 27)) (.cells #[.int .i64 5,.int .i64 0,.string ⟨#[]⟩,.slice none 0 0,.slice none 0 0] 27);have bb:=bthen b1 (bthen bT bO);have T9:=hide ((b5_new w1 (.int .i64 TV.kind) (.int .i64 TV.num) (.string KD) (.slice ta1 TV.keys.length tc1) (.slice ta2 TV.list.length tc2) w1.heap.size rfl).keep bO);have O9:=hide (b5_new (w1.alloc (.cells #[.int .i64 TV.kind,.int .i64 TV.num,.string KD,.slice ta1 TV.keys.length tc1,.slice ta2 TV.list.length tc2] 27)) (.int .i64 5) (.int .i64 0) (.string ⟨#[]⟩) (.slice none 0 0) (.slice none 0 0) (w1.heap.size+1) (by simp));have X9:=hide (x1.out.keep bb);have U9:=hide (u1.out.keep bb);have R9:=hide (r1.out.keep (by have:=n1.out;omega) bb);have L9:=hide (bthen l1.out bb);have HX9:=hide (hx1.out.below bb);have HZ1:Hid (w.heap.size+3≤w1.heap.size):=hide (by have:=n1.out;have:=b1.size;omega);have HZ9:Hid (((w1.alloc (.cells #[.int .i64 TV.kind,.int .i64 TV.num,.string KD,.slice ta1 TV.keys.length tc1,.slice ta2 TV.list.length tc2] 27)).alloc (.cells #[.int .i64 5,.int .i64 0,.string ⟨#[]⟩,.slice none 0 0,.slice none 0 0] 27)).heap.size=w1.heap.size+2):=hide (by simp);clear b1 bT bO bb x1 u1 r1 l1 hx1 n1
    go_upto_region 6 with fail
    generalize (w1.alloc (.cells #[.int .i64 TV.kind,.int .i64 TV.num,.string KD,.slice ta1 TV.keys.length tc1,.slice ta2 TV.list.length tc2] 27)).alloc (.cells #[.int .i64 5,.int .i64 0,.string ⟨#[]⟩,.slice none 0 0,.slice none 0 0] 27)=w9 at T9 O9 X9 U9 R9 L9 HX9 HZ9 ⊢;obtain ⟨gt,hgt⟩:∃ g,g=w1.heap.size:=⟨_,rfl⟩;obtain ⟨go,hgo⟩:∃ g,g=w1.heap.size+1:=⟨_,rfl⟩;rw [← hgo] at O9 ⊢;rw [← hgt] at T9 hgo HZ1 HZ9 ⊢;obtain ⟨G0,hG0⟩:∃ g,g=w9.heap.size:=⟨_,rfl⟩;have HGO:Hid (w.heap.size+3≤gt∧gt < go∧go < G0):=hide ⟨HZ1.out,by omega,by have:=HZ9.out;omega⟩;have HG9:Hid (w9.heap.size≤G0):=hide (Nat.le_of_eq hG0.symm);have HG9':Hid (G0≤w9.heap.size):=hide (Nat.le_of_eq hG0);have HFT:Hid (∀ i,i≤10→V.wt (Xr.refTo x KD i)≤1000000000):=hide (fun i hi=>by have h1:=Xr.refTo_wt x KD i;have h2:=HWT.out;have h3:i * (V.wt x+21)≤10 * (V.wt x+21):=Nat.mul_le_mul_right _ hi;omega);clear hgo HZ1 HZ9 hG0 hgt w1
    go_wp2_with fail
    go_loopg [7] 10 (fun gg i wr=>∃ (j:Nat) (ok on:Int) (ot:ByteArray) (oa1:Option Addr) (on1 oc1:Nat) (oa2:Option Addr) (on2 oc2:Nat),j+gg=10∧i=.int .i64 j∧Hid (Keeps (fun b=>b≠go) w9 wr)∧Hid (B5 wr go (.int .i64 ok) (.int .i64 on) (.string ot) (.slice oa1 on1 oc1) (.slice oa2 on2 oc2))∧Hid (Below w.heap.size w wr)∧Hid (G0≤wr.heap.size)∧Hid (Is wr (fun b=>b < w.heap.size∨G0≤b) (.agg #[.int .i64 ok,.int .i64 on,.string ot,.slice oa1 on1 oc1,.slice oa2 on2 oc2]) (Xr.refTo x KD j)))
    case atStart=>exact ⟨0,5,0,⟨#[]⟩,none,0,0,none,0,0,by omega,rfl,hide (fun _ _ _=>rfl),O9,L9,HG9',hide (is_plain _ _ 5 0 ⟨#[]⟩ (by decide))⟩
    case round =>
      obtain ⟨j,ok,on,ot,oa1,on1,oc1,oa2,on2,oc2,hj,rfl,KP5,O5,L5,N5,I5⟩:=hrel;obtain ⟨hg1,hg2,hg3⟩:=HGO.out
      by_cases hlt:j < 10
      · have X5:=hide (X9.out.keepK KP5.out (show w.heap.size≠go by omega))
        have K5:=hide (KP5.out.cell (show w.heap.size+1+1≠go by omega) (R9.out j hlt));have HX5:=hide (HX9.out.keep (fun b hb hl=>KP5.out b (show b≠go by have:b < w.heap.size:=hb;omega) hl));have hks:=Xr.lEvent_size j;have hstep:Xr.refTo x KD (j+1)=match V.get x (lEvent.getD j ByteArray.empty) with | none=>Xr.refTo x KD j | some y=>V.withV (Xr.refTo x KD j) (lEvent.getD j ByteArray.empty) (if lEvent.getD j ByteArray.empty=kContent then Xr.keep KD y else y):=rfl
        have hwo:=HFT.out j (by omega);obtain ⟨OV,hOV⟩:∃ y,Xr.refTo x KD j=y:=⟨_,rfl⟩;rw [hOV] at I5 hstep hwo;have HOV:=hide hOV;generalize lEvent.getD j ByteArray.empty=KK at K5 hks hstep;have WO:=hide hwo;have KZ:=hide hks;have HSTEP:=hide hstep;obtain ⟨q,hq⟩:∃ q,(V.get x KK).isSome=q:=⟨_,rfl⟩;obtain ⟨YV,hYV⟩:∃ y,(V.get x KK).getD V.nul=y:=⟨_,rfl⟩;have HIS:=hide hq;have HYV:=hide hYV;have IO5:=hide (I5.out.weak (S':=fun b=>(b < w.heap.size∨G0≤b)∧b < wr.heap.size) (fun b hb hs=>⟨hs,hb⟩));clear hq hYV hstep hwo hks hOV I5
        go_upto_region 9 with fail
        generalize decide ((j:Int) < 10)=dz
        go_cut [8,9] from 21 to 60 (fun xv tv wc=>∃ (gx:Nat) (yk yn:Int) (yt:ByteArray) (ya1:Option Addr) (yn1 yc1:Nat) (ya2:Option Addr) (yn2 yc2:Nat),xv=.pointer (some ⟨gx,0,none⟩)∧tv=.bool q∧Hid (Below wr.heap.size wr wc∧wr.heap.size≤gx∧B5 wc gx (.int .i64 yk) (.int .i64 yn) (.string yt) (.slice ya1 yn1 yc1) (.slice ya2 yn2 yc2)∧Is wc (fun b=>b < w.heap.size) (.agg #[.int .i64 yk,.int .i64 yn,.string yt,.slice ya1 yn1 yc1,.slice ya2 yn2 yc2]) YV))
        case first =>
          refine' wp_region_factsP 10 8 [(fun _ _ v _=>v=(.agg #[.int .i64 x.kind,.int .i64 x.num,.string x.text,.slice a1 x.keys.length c1,.slice a2 x.list.length c2])),(fun _ _ v _=>v=(.slice (some ⟨w.heap.size+1+1,0,none⟩) 10 10)),(fun _ _ v _=>v=(.int .i64 (j:Int))),(fun _ _ v _=>v=(.pointer (some ⟨w.heap.size+1+1,j,none⟩))),(fun _ _ v _=>v=(.string KK)),(GetTq w.heap.size YV q),(GetTq w.heap.size YV q),(StayS (fun b=>b < w.heap.size) YV),(fun _ _ v _=>v=(.bool q)),BoxZ] (by kernel_rfl) ?hA (by kernel_rfl) rfl ?mono ?steps ?last ?last2
          case hA =>
            intro vs;simp only [puts,Act.put,List.setIfInBounds_toArray,List.set_cons_zero,List.set_cons_succ,Nat.zero_add,Nat.reduceAdd];rfl
          case mono=>exact ⟨mono_eq _,mono_eq _,mono_eq _,mono_eq _,mono_eq _,mono_getTq _ _ _,mono_getTq _ _ _,mono_stayS _ _,mono_eq _,mono_boxZ,trivial⟩
          case steps =>
            intro Q';refine And.intro ?_ <| And.intro ?_ <| And.intro ?_ <| And.intro ?_ <| And.intro ?_ <| And.intro ?_ <| And.intro ?_ <| And.intro ?_ <| And.intro ?_ <| And.intro ?_ <| trivial
            all_goals
              intro vs lo hi w' hM hd K' hK;dsimp only at hK ⊢;simp only [Act.put,List.setIfInBounds_toArray,List.set_cons_zero,List.set_cons_succ] at hK
            · obtain ⟨p0,p1,p2,p3,p4⟩:=(X5.out.keep hM).cells
              go_simp;exact hK.out _ _ rfl (Below.refl _ _)
            · go_simp
              exact hK.out _ _ rfl (Below.refl _ _)
            · go_simp
              exact hK.out _ _ rfl (Below.refl _ _)
            · have e1:vs 1=(.slice (some ⟨w.heap.size+1+1,0,none⟩) 10 10):=hd 1 (by kernel_rfl)
              have e2:vs 2=(.int .i64 (j:Int)):=hd 2 (by kernel_rfl);simp only [e1,e2] at hK ⊢;clear e1 e2;go_simp;exact hK.out _ _ rfl (Below.refl _ _)
            · have e3:vs 3=(.pointer (some ⟨w.heap.size+1+1,j,none⟩)):=hd 3 (by kernel_rfl)
              simp only [e3] at hK ⊢;clear e3;have q0:=cell_keep K5.out hM;go_simp;exact hK.out _ _ rfl (Below.refl _ _)
            · have e0:vs 0=(.agg #[.int .i64 x.kind,.int .i64 x.num,.string x.text,.slice a1 x.keys.length c1,.slice a2 x.list.length c2]):=hd 0 (by kernel_rfl)
              have e4:vs 4=(.string KK):=hd 4 (by kernel_rfl);simp only [e0,e4] at hK ⊢;clear e0 e4;go_simp;refine (refGet_S (HX5.out.below hM) KK (Nat.le_trans HWT.out (by decide))).mono ?_;rintro e w8 ⟨k7,n7,t7,a17,n17,c17,a27,n27,c27,i7,rfl,h6,h7,b7⟩;rw [HIS.out] at h6;rw [HYV.out] at h7;subst h6;exact hK.out _ _ ⟨_,_,_,_,_,_,_,_,_,rfl,hide h7⟩ b7
            · obtain ⟨k5,n5,t5,a15,n15,c15,a25,n25,c25,e5,H5⟩:=hd 5 (by kernel_rfl)
              simp only [e5] at hK ⊢;clear e5;go_simp;exact hK.out _ _ ⟨_,_,_,_,_,_,_,_,_,rfl,H5⟩ (Below.refl _ _)
            · obtain ⟨k6,n6,t6,a16,n16,c16,a26,n26,c26,e6,H6⟩:=hd 6 (by kernel_rfl)
              simp only [e6] at hK ⊢;clear e6;go_simp;exact hK.out _ _ ⟨_,_,_,_,_,_,_,_,_,rfl,H6⟩ (Below.refl _ _)
            · obtain ⟨k6,n6,t6,a16,n16,c16,a26,n26,c26,e6,H6⟩:=hd 6 (by kernel_rfl)
              simp only [e6] at hK ⊢;clear e6;go_simp;exact hK.out _ _ rfl (Below.refl _ _)
            · go_simp
              exact hK.out _ _ (boxZ_fact _) (below_alloc _ _)
          case last =>
            intro vs lo hi w' hM hlo hall;obtain ⟨e0,e1,e2,e3,e4,⟨k5,n5,t5,a15,n15,c15,a25,n25,c25,e5,H5⟩,⟨k6,n6,t6,a16,n16,c16,a26,n26,c26,e6,H6⟩,⟨k7,n7,t7,a17,n17,c17,a27,n27,c27,e7,H7⟩,e8,⟨e9,hb9,HB9⟩,_⟩:=hall;have hlo9:=hlo 9 (by decide);generalize lo 9=gx at *;simp only [List.drop_succ_cons,List.drop_zero]
            try dsimp only
            simp only [e0,e1,e2,e3,e4,e5,e6,e7,e8,e9];clear e0 e1 e2 e3 e4 e5 e6 e7 e8 e9 hlo;obtain ⟨y0,y1,y2,y3,y4⟩:=HB9.out.cells;have fu0:=HB9.out.free 0;have fu1:=HB9.out.free 1;have fu2:=HB9.out.free 2;have fu3:=HB9.out.free 3;have fu4:=HB9.out.free 4
            go_wp2_with fail
            clear y0 y1 y2 y3 y4 fu0 fu1 fu2 fu3 fu4;go_meet
            have hgx:wr.heap.size≤gx:=hlo9.1;have hsz:=N5.out;exact ⟨gx,_,_,_,_,_,_,_,_,_,rfl,rfl,hide ⟨hM.trans (below5 (B:=wr.heap.size) (g:=gx) (w:=w') (by omega) (.int .i64 k7) (.int .i64 n7) (.string t7) (.slice a17 n17 c17) (.slice a27 n27 c27)),hgx,HB9.out.all (.int .i64 k7) (.int .i64 n7) (.string t7) (.slice a17 n17 c17) (.slice a27 n27 c27),H7.out.keep (keeps_chain (S:=fun b=>b < w.heap.size) (w:=w') (g:=gx) (by show ¬ (gx < w.heap.size);omega) (.int .i64 k7) (.int .i64 n7) (.string t7) (.slice a17 n17 c17) (.slice a27 n27 c27))⟩⟩
          case last2 =>
            intro vs lo hi w' hM hlo hall on op hon hop;obtain rfl:=Option.some.inj hon;obtain rfl:=Option.some.inj hop;clear hon hop;obtain e0:=(hall 0 (by decide) (by decide):_);obtain e1:=(hall 1 (by decide) (by decide):_);obtain e2:=(hall 2 (by decide) (by decide):_);obtain e3:=(hall 3 (by decide) (by decide):_);obtain e4:=(hall 4 (by decide) (by decide):_);obtain ⟨k5,n5,t5,a15,n15,c15,a25,n25,c25,e5,H5⟩:=(hall 5 (by decide) (by decide):_);obtain ⟨k6,n6,t6,a16,n16,c16,a26,n26,c26,e6,H6⟩:=(hall 6 (by decide) (by decide):_);obtain ⟨k7,n7,t7,a17,n17,c17,a27,n27,c27,e7,H7⟩:=(hall 7 (by decide) (by decide):_);obtain ⟨e9,hb9,HB9⟩:=(hall 9 (by decide) (by decide):_);clear hall;have hlo9:=hlo 9 (by decide) (by decide);generalize lo 9=gx at *;simp only [List.drop_succ_cons,List.drop_zero]
            try dsimp only
            simp only [e0,e1,e2,e3,e4,e5,e6,e7,e9];clear e0 e1 e2 e3 e4 e5 e6 e7 e9 hlo;obtain ⟨y0,y1,y2,y3,y4⟩:=HB9.out.cells;have fu0:=HB9.out.free 0;have fu1:=HB9.out.free 1;have fu2:=HB9.out.free 2;have fu3:=HB9.out.free 3;have fu4:=HB9.out.free 4
            go_wp2_with fail
            clear y0 y1 y2 y3 y4 fu0 fu1 fu2 fu3 fu4;go_meet
            have hgx:wr.heap.size≤gx:=hlo9.1;have hsz:=N5.out;exact ⟨gx,_,_,_,_,_,_,_,_,_,rfl,rfl,hide ⟨hM.trans (below5 (B:=wr.heap.size) (g:=gx) (w:=w') (by omega) (.int .i64 k7) (.int .i64 n7) (.string t7) (.slice a17 n17 c17) (.slice a27 n27 c27)),hgx,HB9.out.all (.int .i64 k7) (.int .i64 n7) (.string t7) (.slice a17 n17 c17) (.slice a27 n27 c27),H7.out.keep (keeps_chain (S:=fun b=>b < w.heap.size) (w:=w') (g:=gx) (by show ¬ (gx < w.heap.size);omega) (.int .i64 k7) (.int .i64 n7) (.string t7) (.slice a17 n17 c17) (.slice a27 n27 c27))⟩⟩
        case rest =>
          obtain ⟨gx,yk,yn,yt,ya1,yn1,yc1,ya2,yn2,yc2,rfl,rfl,HC⟩:=hcut;have b9:=HC.out.1;have HGX:=hide HC.out.2.1;have Y4:=hide HC.out.2.2.1;have JY:=hide HC.out.2.2.2;have O4:=hide (O5.out.keep b9);have E4:=hide (cell_keep K5.out b9);have KP4:Hid (Keeps (fun b=>b≠go) w9 wc):=hide (KP5.out.trans (Keeps.of_below b9) (Nat.le_trans HG9.out N5.out));have L4:=hide (bthen L5.out b9);have N4:Hid (G0≤wc.heap.size):=hide (Nat.le_trans N5.out b9.size);have IOc:=hide (IO5.out.below b9);have hgx0:=HGX.out;have hn5:=N5.out;have hgx1:=Y4.out.in;clear HC b9 O5 K5 KP5 L5 N5 IO5 X5 HX5;cases q with
          | false =>
            have HST:Hid (Xr.refTo x KD (j+1)=OV):=hide (by
              have h1:=HSTEP.out;have h2:=HIS.out;cases hg:V.get x KK with
              | none=>rw [hg] at h1;exact h1
              | some y=>rw [hg] at h2;cases h2)
            go_wp2_with fail
            go_roundg (gk - 1)
            case measure=>omega
            case rel=>exact ⟨j+1,_,_,_,_,_,_,_,_,_,by omega,rfl,KP4,O4,L4,N4,hide (by rw [HST.out];exact IOc.out.weak (fun b _ hb=>hb.1))⟩
          | true =>
            have hst:Xr.refTo x KD (j+1)=V.withV OV KK (if KK=kContent then Xr.keep KD YV else YV)∧V.wt YV≤10000000∧V.right YV=true:=by
              have h1:=HSTEP.out;have h2:=HIS.out;have h3:=HYV.out;have h4:=HWT.out;cases hg:V.get x KK with
              | none=>rw [hg] at h2;cases h2
              | some y =>
                rw [hg] at h1 h3;simp only [Option.getD_some] at h3;have h5:=Xr.wt_get hg;have h6:=V.get_right HR.out hg;subst h3;exact ⟨h1,by omega,h6⟩
            have HYW:=hide hst.2.1;have HYR:=hide hst.2.2;have hst1:=hst.1;clear hst
            by_cases hc:KK=kContent∧YV.kind=5
            · have HST:Hid (Xr.refTo x KD (j+1)=V.withV OV KK (Xr.ofContent YV KD)):=hide (by rw [hst1,if_pos hc.1];unfold Xr.keep;rw [if_pos hc.2])
              have HY5:=hide hc.2;have kq:(KK.toList == [99,111,110,116,101,110,116])=true:=by rw [hc.1];kernel_rfl
              obtain ⟨kv,lv,hv,_⟩:=JY.out.open;simp only [Value.agg.injEq,Array.mk.injEq,List.cons.injEq,and_true,Value.int.injEq,Value.string.injEq,true_and,Value.slice.injEq] at hv;have yk5:(yk == 5)=true:=by rw [hv.1,hc.2];rfl
              have T4:=hide (T9.out.keepK KP4.out (show gt≠go by omega));clear hst1 hc hv;have e4:=E4.out;obtain ⟨y0,y1,y2,y3,y4⟩:=Y4.out.cells;obtain ⟨z0,z1,z2,z3,z4⟩:=T4.out.cells
              go_wp2_with fail
              clear y0 y1 y2 y3 y4 z0 z1 z2 z3 z4 e4 kq yk5;refine (ref7content_any KD JY.out HYR.out HY5.out HYW.out).mono ?_;rintro e w2 ⟨zk,zn,zt,za1,zn1,zc1,za2,zn2,zc2,rfl,hz,bz⟩;have Y5:=hide (Y4.out.keep bz);obtain ⟨y0,y1,y2,y3,y4⟩:=Y5.out.cells;have fu0:=Y5.out.free 0;have fu1:=Y5.out.free 1;have fu2:=Y5.out.free 2;have fu3:=Y5.out.free 3;have fu4:=Y5.out.free 4
              go_upto_region 13 with fail
              clear y0 y1 y2 y3 y4 fu0 fu1 fu2 fu3 fu4;have hbz:=bz.size;have kp:∀ {S:Nat→Prop},¬ S gx→Keeps S w2 (((((w2.setCell ⟨gx,0,none⟩ (.int .i64 zk)).setCell ⟨gx,1,none⟩ (.int .i64 zn)).setCell ⟨gx,2,none⟩ (.string zt)).setCell ⟨gx,3,none⟩ (.slice za1 zn1 zc1)).setCell ⟨gx,4,none⟩ (.slice za2 zn2 zc2)):=fun hS=>keeps_chain hS (.int .i64 zk) (.int .i64 zn) (.string zt) (.slice za1 zn1 zc1) (.slice za2 zn2 zc2)
              have IY4:=hide ((hz.keep (kp (S:=fun b=>b < w.heap.size∨wc.heap.size≤b) (by rintro (h9 | h9) <;> omega))).weak (S':=(fun b=>b < w.heap.size∨G0≤b)) (fun b _ hb=>hb.elim Or.inl (fun h9=>Or.inr (Nat.le_trans N4.out h9))));have IO4:=hide (((IOc.out.below bz).keep (kp (S:=fun b=>(b < w.heap.size∨G0≤b)∧b < wr.heap.size) (by rintro ⟨_,h9⟩;omega))).weak (S':=(fun b=>b < w.heap.size∨G0≤b)) (fun b _ hb=>hb.1));have Y6:=hide (Y5.out.all (.int .i64 zk) (.int .i64 zn) (.string zt) (.slice za1 zn1 zc1) (.slice za2 zn2 zc2));replace O4:=hide ((O4.out.keep bz).past5 (g':=gx) (by omega) (.int .i64 zk) (.int .i64 zn) (.string zt) (.slice za1 zn1 zc1) (.slice za2 zn2 zc2));replace E4:=hide ((kp (S:=fun b=>b=w.heap.size+1+1) (by show ¬ (gx=w.heap.size+1+1);omega)).cell rfl (cell_keep E4.out bz));replace KP4:Hid (Keeps (fun b=>b≠go) w9 (((((w2.setCell ⟨gx,0,none⟩ (.int .i64 zk)).setCell ⟨gx,1,none⟩ (.int .i64 zn)).setCell ⟨gx,2,none⟩ (.string zt)).setCell ⟨gx,3,none⟩ (.slice za1 zn1 zc1)).setCell ⟨gx,4,none⟩ (.slice za2 zn2 zc2))):=hide (fun b hb hl=>((kp (S:=fun b=>b < w9.heap.size) (by show ¬ (gx < w9.heap.size);have h9:=HG9.out;omega)) b hl (by have h9:=HG9.out;have:=N4.out;omega)).trans ((KP4.out.trans (Keeps.of_below bz) (Nat.le_trans HG9.out N4.out)) b hb hl));replace L4:Hid (Below w.heap.size w (((((w2.setCell ⟨gx,0,none⟩ (.int .i64 zk)).setCell ⟨gx,1,none⟩ (.int .i64 zn)).setCell ⟨gx,2,none⟩ (.string zt)).setCell ⟨gx,3,none⟩ (.slice za1 zn1 zc1)).setCell ⟨gx,4,none⟩ (.slice za2 zn2 zc2))):=hide ((bthen L4.out bz).trans (below5 (B:=w.heap.size) (g:=gx) (w:=w2) (by omega) (.int .i64 zk) (.int .i64 zn) (.string zt) (.slice za1 zn1 zc1) (.slice za2 zn2 zc2)));replace N4:Hid (G0≤(((((w2.setCell ⟨gx,0,none⟩ (.int .i64 zk)).setCell ⟨gx,1,none⟩ (.int .i64 zn)).setCell ⟨gx,2,none⟩ (.string zt)).setCell ⟨gx,3,none⟩ (.slice za1 zn1 zc1)).setCell ⟨gx,4,none⟩ (.slice za2 zn2 zc2)).heap.size):=hide (by have:=N4.out;simp;omega);clear kp bz hz hbz IOc JY Y4 Y5;have Y4:=Y6;clear Y6;generalize (((((w2.setCell ⟨gx,0,none⟩ (.int .i64 zk)).setCell ⟨gx,1,none⟩ (.int .i64 zn)).setCell ⟨gx,2,none⟩ (.string zt)).setCell ⟨gx,3,none⟩ (.slice za1 zn1 zc1)).setCell ⟨gx,4,none⟩ (.slice za2 zn2 zc2))=w4 at IY4 IO4 Y4 O4 E4 KP4 L4 N4 ⊢;refine' wp_region_facts [(fun _ _ v _=>v=(.agg #[.int .i64 ok,.int .i64 on,.string ot,.slice oa1 on1 oc1,.slice oa2 on2 oc2])),(fun _ _ v _=>v=(.slice (some ⟨w.heap.size+1+1,0,none⟩) 10 10)),(fun _ _ v _=>v=(.int .i64 (j:Int))),(fun _ _ v _=>v=(.pointer (some ⟨w.heap.size+1+1,j,none⟩))),(fun _ _ v _=>v=(.string KK)),(fun _ _ v _=>v=(.agg #[.int .i64 zk,.int .i64 zn,.string zt,.slice za1 zn1 zc1,.slice za2 zn2 zc2])),(StayS (fun b=>b < w.heap.size∨G0≤b) (V.withV OV KK (Xr.ofContent YV KD)))] (by kernel_rfl) rfl ?hA (by kernel_rfl) (by kernel_rfl) (by kernel_rfl) rfl ?mono ?steps ?last
              case hA =>
                intro vs;simp only [puts,Act.put,List.setIfInBounds_toArray,List.set_cons_zero,List.set_cons_succ,Nat.zero_add,Nat.reduceAdd];rfl
              case mono=>exact ⟨mono_eq _,mono_eq _,mono_eq _,mono_eq _,mono_eq _,mono_eq _,mono_stayS _ _,trivial⟩
              case steps =>
                intro Q';refine And.intro ?_ <| And.intro ?_ <| And.intro ?_ <| And.intro ?_ <| And.intro ?_ <| And.intro ?_ <| And.intro ?_ <| trivial
                all_goals
                  intro vs lo hi w' hM hd K' hK;dsimp only at hK ⊢;simp only [Act.put,List.setIfInBounds_toArray,List.set_cons_zero,List.set_cons_succ] at hK
                · obtain ⟨p0,p1,p2,p3,p4⟩:=(O4.out.keep hM).cells
                  go_simp;exact hK.out _ _ rfl (Below.refl _ _)
                · go_simp
                  exact hK.out _ _ rfl (Below.refl _ _)
                · go_simp
                  exact hK.out _ _ rfl (Below.refl _ _)
                · have e1:vs 1=(.slice (some ⟨w.heap.size+1+1,0,none⟩) 10 10):=hd 1 (by kernel_rfl)
                  have e2:vs 2=(.int .i64 (j:Int)):=hd 2 (by kernel_rfl);simp only [e1,e2] at hK ⊢;clear e1 e2;go_simp;exact hK.out _ _ rfl (Below.refl _ _)
                · have e3:vs 3=(.pointer (some ⟨w.heap.size+1+1,j,none⟩)):=hd 3 (by kernel_rfl)
                  simp only [e3] at hK ⊢;clear e3;have q0:=cell_keep E4.out hM;go_simp;exact hK.out _ _ rfl (Below.refl _ _)
                · obtain ⟨p0,p1,p2,p3,p4⟩:=(Y4.out.keep hM).cells
                  go_simp;exact hK.out _ _ rfl (Below.refl _ _)
                · have e0:vs 0=(.agg #[.int .i64 ok,.int .i64 on,.string ot,.slice oa1 on1 oc1,.slice oa2 on2 oc2]):=hd 0 (by kernel_rfl)
                  have e4:vs 4=(.string KK):=hd 4 (by kernel_rfl);have e5:vs 5=(.agg #[.int .i64 zk,.int .i64 zn,.string zt,.slice za1 zn1 zc1,.slice za2 zn2 zc2]):=hd 5 (by kernel_rfl);simp only [e0,e4,e5] at hK ⊢;clear e0 e4 e5;go_simp;refine (refWith_S (IO4.out.below hM) (IY4.out.below hM) WO.out KK (by have:=KZ.out;omega)).mono ?_;rintro e w7 ⟨k7,n7,t7,a17,n17,c17,a27,n27,c27,rfl,h7,b7⟩;exact hK.out _ _ ⟨_,_,_,_,_,_,_,_,_,rfl,hide (h7.weak (fun b _ hb=>hb.elim id (fun h2=>Or.inr (by have h3:=N4.out;have h4:=hM.size;omega))))⟩ b7
              case last =>
                intro vs lo hi w' hM hlo hap hall K' Q' hK;obtain ⟨_,_,_,_,_,_,h6,_⟩:=hall;obtain ⟨k6,n6,t6,a16,n16,c16,a26,n26,c26,e6,H6⟩:=h6;dsimp only;simp only [e6];clear e6 hap hlo;have VV:=O4.out.keep hM;obtain ⟨y0,y1,y2,y3,y4⟩:=VV.cells;have fu0:=VV.free 0;have fu1:=VV.free 1;have fu2:=VV.free 2;have fu3:=VV.free 3;have fu4:=VV.free 4;go_simp;refine hK.out _ _ ?_;clear hK y0 y1 y2 y3 y4 fu0 fu1 fu2 fu3 fu4;have hgo:=HGO.out;have O7:=hide (VV.all (.int .i64 k6) (.int .i64 n6) (.string t6) (.slice a16 n16 c16) (.slice a26 n26 c26));have K7:Hid (Keeps (fun b=>b≠go) w9 (((((w'.setCell ⟨go,0,none⟩ (.int .i64 k6)).setCell ⟨go,1,none⟩ (.int .i64 n6)).setCell ⟨go,2,none⟩ (.string t6)).setCell ⟨go,3,none⟩ (.slice a16 n16 c16)).setCell ⟨go,4,none⟩ (.slice a26 n26 c26))):=hide ((KP4.out.trans (Keeps.of_below hM) (Nat.le_trans HG9.out N4.out)).trans (keeps_chain (by simp) (.int .i64 k6) (.int .i64 n6) (.string t6) (.slice a16 n16 c16) (.slice a26 n26 c26)) (Nat.le_trans HG9.out (Nat.le_trans N4.out hM.size)));have L7:Hid (Below w.heap.size w (((((w'.setCell ⟨go,0,none⟩ (.int .i64 k6)).setCell ⟨go,1,none⟩ (.int .i64 n6)).setCell ⟨go,2,none⟩ (.string t6)).setCell ⟨go,3,none⟩ (.slice a16 n16 c16)).setCell ⟨go,4,none⟩ (.slice a26 n26 c26))):=hide ((bthen L4.out hM).trans (below5 (B:=w.heap.size) (g:=go) (w:=w') (by omega) (.int .i64 k6) (.int .i64 n6) (.string t6) (.slice a16 n16 c16) (.slice a26 n26 c26)));have I7:=hide (H6.out.keep (keeps_chain (S:=(fun b=>b < w.heap.size∨G0≤b)) (w:=w') (g:=go) (by rintro (h9 | h9) <;> omega) (.int .i64 k6) (.int .i64 n6) (.string t6) (.slice a16 n16 c16) (.slice a26 n26 c26)));have N7:Hid (G0≤(((((w'.setCell ⟨go,0,none⟩ (.int .i64 k6)).setCell ⟨go,1,none⟩ (.int .i64 n6)).setCell ⟨go,2,none⟩ (.string t6)).setCell ⟨go,3,none⟩ (.slice a16 n16 c16)).setCell ⟨go,4,none⟩ (.slice a26 n26 c26)).heap.size):=hide (by have:=N4.out;have:=hM.size;simp;omega);clear VV hM
                go_wp2_with fail
                go_roundg (gk - 1)
                case measure=>omega
                case rel=>exact ⟨j+1,_,_,_,_,_,_,_,_,_,by omega,rfl,K7,O7,L7,N7,hide (by rw [HST.out];exact I7.out)⟩
            · have HST:Hid (Xr.refTo x KD (j+1)=V.withV OV KK YV):=hide (by
                rw [hst1]
                by_cases e:KK=kContent
                · rw [if_pos e]
                  unfold Xr.keep;rw [if_neg (fun e5=>hc ⟨e,e5⟩)]
                · rw [if_neg e])
              have IY4:=hide (JY.out.weak (S':=(fun b=>b < w.heap.size∨G0≤b)) (fun b _ hb=>Or.inl hb));have IO4:=hide (IOc.out.weak (S':=(fun b=>b < w.heap.size∨G0≤b)) (fun b _ hb=>hb.1));obtain ⟨kv,lv,hv,_⟩:=JY.out.open;simp only [Value.agg.injEq,Array.mk.injEq,List.cons.injEq,and_true,Value.int.injEq,Value.string.injEq,true_and,Value.slice.injEq] at hv;have hyk:=hv.1;have e4:=E4.out;obtain ⟨y0,y1,y2,y3,y4⟩:=Y4.out.cells;clear hst1 hv;obtain ⟨q1,hq1⟩:∃ q,(KK.toList == [99,111,110,116,101,110,116])=q:=⟨_,rfl⟩
              have hq2:q1=true→(yk == 5)=false:=fun h=>by
                rw [h] at hq1;have e:KK=kContent:=V.ba_ext (by rw [show kContent.toList=[99,111,110,116,101,110,116] from by kernel_rfl];simpa using hq1);rw [hyk]
                simpa using fun e5=>hc ⟨e,e5⟩
              clear hc hyk;have HQ2:=hide hq2;clear hq2;cases q1 with
              | false =>
                go_upto_region 13 with fail
                clear y0 y1 y2 y3 y4 e4 hq1;obtain ⟨w4,hw4⟩:∃ w4,w4=wc:=⟨_,rfl⟩;rw [← hw4] at IY4 IO4 Y4 O4 E4 KP4 L4 N4 ⊢;clear hw4;refine' wp_region_facts [(fun _ _ v _=>v=(.agg #[.int .i64 ok,.int .i64 on,.string ot,.slice oa1 on1 oc1,.slice oa2 on2 oc2])),(fun _ _ v _=>v=(.slice (some ⟨w.heap.size+1+1,0,none⟩) 10 10)),(fun _ _ v _=>v=(.int .i64 (j:Int))),(fun _ _ v _=>v=(.pointer (some ⟨w.heap.size+1+1,j,none⟩))),(fun _ _ v _=>v=(.string KK)),(fun _ _ v _=>v=(.agg #[.int .i64 yk,.int .i64 yn,.string yt,.slice ya1 yn1 yc1,.slice ya2 yn2 yc2])),(StayS (fun b=>b < w.heap.size∨G0≤b) (V.withV OV KK YV))] (by kernel_rfl) rfl ?hA (by kernel_rfl) (by kernel_rfl) (by kernel_rfl) rfl ?mono ?steps ?last
                case hA =>
                  intro vs;simp only [puts,Act.put,List.setIfInBounds_toArray,List.set_cons_zero,List.set_cons_succ,Nat.zero_add,Nat.reduceAdd];rfl
                case mono=>exact ⟨mono_eq _,mono_eq _,mono_eq _,mono_eq _,mono_eq _,mono_eq _,mono_stayS _ _,trivial⟩
                case steps =>
                  intro Q';refine And.intro ?_ <| And.intro ?_ <| And.intro ?_ <| And.intro ?_ <| And.intro ?_ <| And.intro ?_ <| And.intro ?_ <| trivial
                  all_goals
                    intro vs lo hi w' hM hd K' hK;dsimp only at hK ⊢;simp only [Act.put,List.setIfInBounds_toArray,List.set_cons_zero,List.set_cons_succ] at hK
                  · obtain ⟨p0,p1,p2,p3,p4⟩:=(O4.out.keep hM).cells
                    go_simp;exact hK.out _ _ rfl (Below.refl _ _)
                  · go_simp
                    exact hK.out _ _ rfl (Below.refl _ _)
                  · go_simp
                    exact hK.out _ _ rfl (Below.refl _ _)
                  · have e1:vs 1=(.slice (some ⟨w.heap.size+1+1,0,none⟩) 10 10):=hd 1 (by kernel_rfl)
                    have e2:vs 2=(.int .i64 (j:Int)):=hd 2 (by kernel_rfl);simp only [e1,e2] at hK ⊢;clear e1 e2;go_simp;exact hK.out _ _ rfl (Below.refl _ _)
                  · have e3:vs 3=(.pointer (some ⟨w.heap.size+1+1,j,none⟩)):=hd 3 (by kernel_rfl)
                    simp only [e3] at hK ⊢;clear e3;have q0:=cell_keep E4.out hM;go_simp;exact hK.out _ _ rfl (Below.refl _ _)
                  · obtain ⟨p0,p1,p2,p3,p4⟩:=(Y4.out.keep hM).cells
                    go_simp;exact hK.out _ _ rfl (Below.refl _ _)
                  · have e0:vs 0=(.agg #[.int .i64 ok,.int .i64 on,.string ot,.slice oa1 on1 oc1,.slice oa2 on2 oc2]):=hd 0 (by kernel_rfl)
                    have e4:vs 4=(.string KK):=hd 4 (by kernel_rfl);have e5:vs 5=(.agg #[.int .i64 yk,.int .i64 yn,.string yt,.slice ya1 yn1 yc1,.slice ya2 yn2 yc2]):=hd 5 (by kernel_rfl);simp only [e0,e4,e5] at hK ⊢;clear e0 e4 e5;go_simp;refine (refWith_S (IO4.out.below hM) (IY4.out.below hM) WO.out KK (by have:=KZ.out;omega)).mono ?_;rintro e w7 ⟨k7,n7,t7,a17,n17,c17,a27,n27,c27,rfl,h7,b7⟩;exact hK.out _ _ ⟨_,_,_,_,_,_,_,_,_,rfl,hide (h7.weak (fun b _ hb=>hb.elim id (fun h2=>Or.inr (by have h3:=N4.out;have h4:=hM.size;omega))))⟩ b7
                case last =>
                  intro vs lo hi w' hM hlo hap hall K' Q' hK;obtain ⟨_,_,_,_,_,_,h6,_⟩:=hall;obtain ⟨k6,n6,t6,a16,n16,c16,a26,n26,c26,e6,H6⟩:=h6;dsimp only;simp only [e6];clear e6 hap hlo;have VV:=O4.out.keep hM;obtain ⟨y0,y1,y2,y3,y4⟩:=VV.cells;have fu0:=VV.free 0;have fu1:=VV.free 1;have fu2:=VV.free 2;have fu3:=VV.free 3;have fu4:=VV.free 4;go_simp;refine hK.out _ _ ?_;clear hK y0 y1 y2 y3 y4 fu0 fu1 fu2 fu3 fu4;have hgo:=HGO.out;have O7:=hide (VV.all (.int .i64 k6) (.int .i64 n6) (.string t6) (.slice a16 n16 c16) (.slice a26 n26 c26));have K7:Hid (Keeps (fun b=>b≠go) w9 (((((w'.setCell ⟨go,0,none⟩ (.int .i64 k6)).setCell ⟨go,1,none⟩ (.int .i64 n6)).setCell ⟨go,2,none⟩ (.string t6)).setCell ⟨go,3,none⟩ (.slice a16 n16 c16)).setCell ⟨go,4,none⟩ (.slice a26 n26 c26))):=hide ((KP4.out.trans (Keeps.of_below hM) (Nat.le_trans HG9.out N4.out)).trans (keeps_chain (by simp) (.int .i64 k6) (.int .i64 n6) (.string t6) (.slice a16 n16 c16) (.slice a26 n26 c26)) (Nat.le_trans HG9.out (Nat.le_trans N4.out hM.size)));have L7:Hid (Below w.heap.size w (((((w'.setCell ⟨go,0,none⟩ (.int .i64 k6)).setCell ⟨go,1,none⟩ (.int .i64 n6)).setCell ⟨go,2,none⟩ (.string t6)).setCell ⟨go,3,none⟩ (.slice a16 n16 c16)).setCell ⟨go,4,none⟩ (.slice a26 n26 c26))):=hide ((bthen L4.out hM).trans (below5 (B:=w.heap.size) (g:=go) (w:=w') (by omega) (.int .i64 k6) (.int .i64 n6) (.string t6) (.slice a16 n16 c16) (.slice a26 n26 c26)));have I7:=hide (H6.out.keep (keeps_chain (S:=(fun b=>b < w.heap.size∨G0≤b)) (w:=w') (g:=go) (by rintro (h9 | h9) <;> omega) (.int .i64 k6) (.int .i64 n6) (.string t6) (.slice a16 n16 c16) (.slice a26 n26 c26)));have N7:Hid (G0≤(((((w'.setCell ⟨go,0,none⟩ (.int .i64 k6)).setCell ⟨go,1,none⟩ (.int .i64 n6)).setCell ⟨go,2,none⟩ (.string t6)).setCell ⟨go,3,none⟩ (.slice a16 n16 c16)).setCell ⟨go,4,none⟩ (.slice a26 n26 c26)).heap.size):=hide (by have:=N4.out;have:=hM.size;simp;omega);clear VV hM
                  go_wp2_with fail
                  go_roundg (gk - 1)
                  case measure=>omega
                  case rel=>exact ⟨j+1,_,_,_,_,_,_,_,_,_,by omega,rfl,K7,O7,L7,N7,hide (by rw [HST.out];exact I7.out)⟩
              | true =>
                have hq2:=HQ2.out rfl
                go_upto_region 13 with fail
                clear y0 y1 y2 y3 y4 e4 hq1 hq2;obtain ⟨w4,hw4⟩:∃ w4,w4=wc:=⟨_,rfl⟩;rw [← hw4] at IY4 IO4 Y4 O4 E4 KP4 L4 N4 ⊢;clear hw4;refine' wp_region_facts [(fun _ _ v _=>v=(.agg #[.int .i64 ok,.int .i64 on,.string ot,.slice oa1 on1 oc1,.slice oa2 on2 oc2])),(fun _ _ v _=>v=(.slice (some ⟨w.heap.size+1+1,0,none⟩) 10 10)),(fun _ _ v _=>v=(.int .i64 (j:Int))),(fun _ _ v _=>v=(.pointer (some ⟨w.heap.size+1+1,j,none⟩))),(fun _ _ v _=>v=(.string KK)),(fun _ _ v _=>v=(.agg #[.int .i64 yk,.int .i64 yn,.string yt,.slice ya1 yn1 yc1,.slice ya2 yn2 yc2])),(StayS (fun b=>b < w.heap.size∨G0≤b) (V.withV OV KK YV))] (by kernel_rfl) rfl ?hA (by kernel_rfl) (by kernel_rfl) (by kernel_rfl) rfl ?mono ?steps ?last
                case hA =>
                  intro vs;simp only [puts,Act.put,List.setIfInBounds_toArray,List.set_cons_zero,List.set_cons_succ,Nat.zero_add,Nat.reduceAdd];rfl
                case mono=>exact ⟨mono_eq _,mono_eq _,mono_eq _,mono_eq _,mono_eq _,mono_eq _,mono_stayS _ _,trivial⟩
                case steps =>
                  intro Q';refine And.intro ?_ <| And.intro ?_ <| And.intro ?_ <| And.intro ?_ <| And.intro ?_ <| And.intro ?_ <| And.intro ?_ <| trivial
                  all_goals
                    intro vs lo hi w' hM hd K' hK;dsimp only at hK ⊢;simp only [Act.put,List.setIfInBounds_toArray,List.set_cons_zero,List.set_cons_succ] at hK
                  · obtain ⟨p0,p1,p2,p3,p4⟩:=(O4.out.keep hM).cells
                    go_simp;exact hK.out _ _ rfl (Below.refl _ _)
                  · go_simp
                    exact hK.out _ _ rfl (Below.refl _ _)
                  · go_simp
                    exact hK.out _ _ rfl (Below.refl _ _)
                  · have e1:vs 1=(.slice (some ⟨w.heap.size+1+1,0,none⟩) 10 10):=hd 1 (by kernel_rfl)
                    have e2:vs 2=(.int .i64 (j:Int)):=hd 2 (by kernel_rfl);simp only [e1,e2] at hK ⊢;clear e1 e2;go_simp;exact hK.out _ _ rfl (Below.refl _ _)
                  · have e3:vs 3=(.pointer (some ⟨w.heap.size+1+1,j,none⟩)):=hd 3 (by kernel_rfl)
                    simp only [e3] at hK ⊢;clear e3;have q0:=cell_keep E4.out hM;go_simp;exact hK.out _ _ rfl (Below.refl _ _)
                  · obtain ⟨p0,p1,p2,p3,p4⟩:=(Y4.out.keep hM).cells
                    go_simp;exact hK.out _ _ rfl (Below.refl _ _)
                  · have e0:vs 0=(.agg #[.int .i64 ok,.int .i64 on,.string ot,.slice oa1 on1 oc1,.slice oa2 on2 oc2]):=hd 0 (by kernel_rfl)
                    have e4:vs 4=(.string KK):=hd 4 (by kernel_rfl);have e5:vs 5=(.agg #[.int .i64 yk,.int .i64 yn,.string yt,.slice ya1 yn1 yc1,.slice ya2 yn2 yc2]):=hd 5 (by kernel_rfl);simp only [e0,e4,e5] at hK ⊢;clear e0 e4 e5;go_simp;refine (refWith_S (IO4.out.below hM) (IY4.out.below hM) WO.out KK (by have:=KZ.out;omega)).mono ?_;rintro e w7 ⟨k7,n7,t7,a17,n17,c17,a27,n27,c27,rfl,h7,b7⟩;exact hK.out _ _ ⟨_,_,_,_,_,_,_,_,_,rfl,hide (h7.weak (fun b _ hb=>hb.elim id (fun h2=>Or.inr (by have h3:=N4.out;have h4:=hM.size;omega))))⟩ b7
                case last =>
                  intro vs lo hi w' hM hlo hap hall K' Q' hK;obtain ⟨_,_,_,_,_,_,h6,_⟩:=hall;obtain ⟨k6,n6,t6,a16,n16,c16,a26,n26,c26,e6,H6⟩:=h6;dsimp only;simp only [e6];clear e6 hap hlo;have VV:=O4.out.keep hM;obtain ⟨y0,y1,y2,y3,y4⟩:=VV.cells;have fu0:=VV.free 0;have fu1:=VV.free 1;have fu2:=VV.free 2;have fu3:=VV.free 3;have fu4:=VV.free 4;go_simp;refine hK.out _ _ ?_;clear hK y0 y1 y2 y3 y4 fu0 fu1 fu2 fu3 fu4;have hgo:=HGO.out;have O7:=hide (VV.all (.int .i64 k6) (.int .i64 n6) (.string t6) (.slice a16 n16 c16) (.slice a26 n26 c26));have K7:Hid (Keeps (fun b=>b≠go) w9 (((((w'.setCell ⟨go,0,none⟩ (.int .i64 k6)).setCell ⟨go,1,none⟩ (.int .i64 n6)).setCell ⟨go,2,none⟩ (.string t6)).setCell ⟨go,3,none⟩ (.slice a16 n16 c16)).setCell ⟨go,4,none⟩ (.slice a26 n26 c26))):=hide ((KP4.out.trans (Keeps.of_below hM) (Nat.le_trans HG9.out N4.out)).trans (keeps_chain (by simp) (.int .i64 k6) (.int .i64 n6) (.string t6) (.slice a16 n16 c16) (.slice a26 n26 c26)) (Nat.le_trans HG9.out (Nat.le_trans N4.out hM.size)));have L7:Hid (Below w.heap.size w (((((w'.setCell ⟨go,0,none⟩ (.int .i64 k6)).setCell ⟨go,1,none⟩ (.int .i64 n6)).setCell ⟨go,2,none⟩ (.string t6)).setCell ⟨go,3,none⟩ (.slice a16 n16 c16)).setCell ⟨go,4,none⟩ (.slice a26 n26 c26))):=hide ((bthen L4.out hM).trans (below5 (B:=w.heap.size) (g:=go) (w:=w') (by omega) (.int .i64 k6) (.int .i64 n6) (.string t6) (.slice a16 n16 c16) (.slice a26 n26 c26)));have I7:=hide (H6.out.keep (keeps_chain (S:=(fun b=>b < w.heap.size∨G0≤b)) (w:=w') (g:=go) (by rintro (h9 | h9) <;> omega) (.int .i64 k6) (.int .i64 n6) (.string t6) (.slice a16 n16 c16) (.slice a26 n26 c26)));have N7:Hid (G0≤(((((w'.setCell ⟨go,0,none⟩ (.int .i64 k6)).setCell ⟨go,1,none⟩ (.int .i64 n6)).setCell ⟨go,2,none⟩ (.string t6)).setCell ⟨go,3,none⟩ (.slice a16 n16 c16)).setCell ⟨go,4,none⟩ (.slice a26 n26 c26)).heap.size):=hide (by have:=N4.out;have:=hM.size;simp;omega);clear VV hM
                  go_wp2_with fail
                  go_roundg (gk - 1)
                  case measure=>omega
                  case rel=>exact ⟨j+1,_,_,_,_,_,_,_,_,_,by omega,rfl,K7,O7,L7,N7,hide (by rw [HST.out];exact I7.out)⟩
      · have hje:j=10:=by omega
        have hfin:Xr.refTo x KD j=Xr.redact x:=by rw [hje,← HKD.out];exact Xr.ref_redact HR.out H5.out
        have HFIN:=hide hfin;clear hfin;have U5:=hide (U9.out.keepK KP5.out (show w.heap.size+1≠go by omega));obtain ⟨v0,v1,v2,v3,v4⟩:=O5.out.cells;obtain ⟨q0,q1,q2,q3,q4⟩:=U5.out.cells;have fu0:=U5.out.free 0;have fu1:=U5.out.free 1;have fu2:=U5.out.free 2;have fu3:=U5.out.free 3;have fu4:=U5.out.free 4
        go_wp2_with fail
        have hu:=U5.out.all (.int .i64 ok) (.int .i64 on) (.string ot) (.slice oa1 on1 oc1) (.slice oa2 on2 oc2);clear q0 q1 q2 q3 q4 fu0 fu1 fu2 fu3 fu4 v0 v1 v2 v3 v4;obtain ⟨p0,p1,p2,p3,p4⟩:=hu.cells;refine bodyPost_ret (v:=(.agg #[.int .i64 ok,.int .i64 on,.string ot,.slice oa1 on1 oc1,.slice oa2 on2 oc2])) (by simp [results,Tryz.results34,go_sem,p0,p1,p2,p3,p4]) rfl ⟨_,_,_,_,_,_,_,_,_,rfl,?_,L5.out.trans (below5 (by omega) _ _ _ _ _)⟩;rw [← HFIN.out];exact (I5.out.keep (keeps_chain (S:=(fun b=>b < w.heap.size∨G0≤b)) (g:=w.heap.size+1) (by rintro (h9 | h9) <;> omega) _ _ _ _ _)).weak (fun _ _ _=>trivial)
  · have k5:(x.kind != 5)=true:=by simpa using h5
    have HN5:=hide h5;clear h5 hx0;obtain ⟨p0,p1,p2,p3,p4⟩:=x0.out.cells;obtain ⟨q0,q1,q2,q3,q4⟩:=u0.out.cells;have fu0:=u0.out.free 0;have fu1:=u0.out.free 1;have fu2:=u0.out.free 2;have fu3:=u0.out.free 3;have fu4:=u0.out.free 4;go_enter Tryz.func34,Tryz.ntmps34
    go_wp2_with fail
    refine bodyPost_ret (v:=.agg #[.int .i64 0,.int .i64 0,.string ⟨#[]⟩,.slice none 0 0,.slice none 0 0]) (by simp [results,Tryz.results34,go_sem,q0,q1,q2,q3,q4]) rfl ⟨_,_,_,_,_,_,_,_,_,rfl,?_,l0.out⟩;rw [Xr.redact_no5 HN5.out];exact is_plain _ _ 0 0 ⟨#[]⟩ (by decide)

set_option maxHeartbeats 2000000 in
theorem ref7ID_any {v:Value} {x:V} {w:World} {S:Nat→Prop} (h:Is w S v x) (hr:V.right x=true) (hwt:V.wt x≤10000000) (hc:Xr.cost x≤900000) :
    Calls Tryz.prog 35 #[v] w fun e w'=>e=.returned (.string (Xr.ident x))∧Below w.heap.size w w':=by
  obtain ⟨kv,lv,rfl,h2,h8,_⟩:=id h.open;obtain ⟨a1,c1,rfl,_⟩:=id h2;obtain ⟨a2,c2,_,rfl,_⟩:=id h8;clear h2 h8;have b0:=below_alloc w (.cells #[.int .i64 x.kind,.int .i64 x.num,.string x.text,.slice a1 x.keys.length c1,.slice a2 x.list.length c2] 27);have x0:=hide (b5_new w (.int .i64 x.kind) (.int .i64 x.num) (.string x.text) (.slice a1 x.keys.length c1) (.slice a2 x.list.length c2) w.heap.size rfl);have HI:=hide (h.below b0);have B0:=hide b0;have HWT:=hide hwt;have HR0:=hide hr;have HR:=hide (Xr.redact_right hr);have HP:Hid ((Cn.print (Xr.redact x)).length≤900000):=hide (by have h1:=Xr.print_cost (Xr.redact x);have h2:=Xr.cost_redact_le hr;omega);have HW4:Hid (V.wt (Xr.redact x)≤4294967296):=hide (by have h1:=Xr.wt_redact x;omega);unfold Xr.ident;obtain ⟨R,hR⟩:∃ R:ByteArray,R=⟨(Cn.print (Xr.redact x)).toArray⟩:=⟨_,rfl⟩;have hRl:R.data.toList=Cn.print (Xr.redact x):=by rw [hR]
  have HRS:Hid (R.size≤900000):=hide (by have h1:=HP.out;rw [← hRl,Xr.data_len] at h1;omega);rw [← hRl];have HRR:=hide hR;clear hR hRl b0 h hr hwt hc;obtain ⟨p0,p1,p2,p3,p4⟩:=x0.out.cells;go_enter Tryz.func35,Tryz.ntmps35
  go_wp2_with fail
  clear p0 p1 p2 p3 p4;refine (ref7Redact_any HI.out HR0.out HWT.out).mono ?_;rintro e w1 ⟨k3,n3,t3,a3,m3,c3,a4,m4,c4,rfl,h3,b3⟩;have I3:=hide h3;have B3:=hide (bthen B0.out b3);clear h3 b3
  go_wp2_with fail
  refine (refPrint_any I3.out HR.out HW4.out (Nat.le_trans HP.out (by decide))).mono ?_;rintro e w3 ⟨he,b7⟩;rw [← HRR.out] at he;subst he;have B8:=hide (bthen B3.out b7);clear b7
  go_wp2_with fail
  refine (Dig.refIdent_any R w3 HRS.out).mono ?_;rintro e w9 ⟨rfl,b9⟩
  go_wp2_with fail
  go_ret
  exact ⟨rfl,bthen B8.out b9⟩
end Go.Proofs.YtapcmbbhhclepaaGreatDoor
