/-
  THE WALK of heliastref07.content (layer 7).
-/
import Derived.Test.YtapcmbbhhclepaaGreatDoorMxXRef7K
set_option linter.unusedVariables false
set_option linter.unusedSimpArgs false
set_option maxRecDepth 100000
namespace Go.Proofs.YtapcmbbhhclepaaGreatDoor
open Go.RowKit

def StayS (S:Nat→Prop) (x:V):Fact:=fun lo hi v w=>∃ k n t a1 n1 c1 a2 n2 c2,v=.agg #[.int .i64 k,.int .i64 n,.string t,.slice a1 n1 c1,.slice a2 n2 c2]∧Hid (Is w S (.agg #[.int .i64 k,.int .i64 n,.string t,.slice a1 n1 c1,.slice a2 n2 c2]) x)
theorem mono_stayS (S:Nat→Prop) (x:V):Mono (StayS S x):=by
  rintro lo hi v w w' ⟨k,n,t,a1,n1,c1,a2,n2,c2,h1,h2⟩ b;exact ⟨k,n,t,a1,n1,c1,a2,n2,c2,h1,hide (h2.out.below b)⟩
theorem B5.keepK {w w':World} {S:Nat→Prop} {g:Nat} {c0 c1 c2 c3 c4:Value} (h:B5 w g c0 c1 c2 c3 c4) (k:Keeps S w w') (hg:S g):B5 w' g c0 c1 c2 c3 c4:=(k g hg (Array.getElem?_eq_some_iff.1 h).1).trans h
theorem B5.in {w:World} {g:Nat} {c0 c1 c2 c3 c4:Value} (h:B5 w g c0 c1 c2 c3 c4):g < w.heap.size:=(Array.getElem?_eq_some_iff.1 h).1
namespace Xr
theorem wt_without_r {c:V} (h:V.right c=true) (h5:c.kind=5) (key:ByteArray):V.wt (V.without c key)≤V.wt c:=by
  obtain ⟨ks,l,rfl,hu,hl,ha⟩:=V.obj_open h h5
  by_cases hin:key ∈ ks
  · obtain ⟨ka,kb,la,y,lb,rfl,rfl,h1,h2⟩:=V.split_at hl hin
    rw [V.without_hit 0 _ key y h1 h2 hu,V.wt_mk,V.wt_mk,V.wtK_append,V.wtK_append,V.wtL_append,V.wtL_append,V.wtL_cons];simp only [V.wtK];omega
  · rw [V.without_miss 0 _ key hl hin]
    exact Nat.le_refl _
theorem contentTo_wt {c:V} (h:V.right c=true) (h5:c.kind=5) (kind:ByteArray):∀ i,i≤c.keys.length→V.wt (contentTo kind c i)≤V.wt c
  | 0,_=>Nat.le_refl _
  | i+1,hi=>by
    have h1:=contentTo_wt h h5 kind i (by omega);obtain ⟨h2,h3,_⟩:=contentTo_is h h5 kind i (by omega);simp only [contentTo]
    split
    · exact h1
    · exact Nat.le_trans (wt_without_r h2 h3 _) h1
end Xr

set_option maxHeartbeats 4000000 in
theorem ref7content_any (kind:ByteArray) {v:Value} {x:V} {w:World} {S:Nat→Prop} (h:Is w S v x) (hr:V.right x=true) (h5:x.kind=5) (hwt:V.wt x≤10000000) :
    Calls Tryz.prog 69 #[.string kind,v] w fun e w'=>∃ k n t a1 n1 c1 a2 n2 c2,e=.returned (.agg #[.int .i64 k,.int .i64 n,.string t,.slice a1 n1 c1,.slice a2 n2 c2])∧Is w' (fun b=>S b∨w.heap.size≤b) (.agg #[.int .i64 k,.int .i64 n,.string t,.slice a1 n1 c1,.slice a2 n2 c2]) (Xr.ofContent x kind)∧Below w.heap.size w w':=by
  obtain ⟨kv,lv,rfl,hks,h8,_⟩:=id h.open;obtain ⟨a1,c1,rfl,_⟩:=id hks;obtain ⟨a2,c2,_,rfl,_⟩:=id h8;obtain ⟨_,hk2,hk3,_,hkc⟩:=hks.out;have HKC:=hide hkc;have HKM:Hid (x.keys.length≤maxLen∧x.keys.length≤10000000):=hide ⟨Nat.le_trans hk2 hk3,by have h1:=V.wtK_len x.keys;have h2:=V.wtK_keys x;omega⟩;have bA:=below_alloc w (.cells #[.int .i64 x.kind,.int .i64 x.num,.string x.text,.slice a1 x.keys.length c1,.slice a2 x.list.length c2] 27);have bB:=below_alloc (w.alloc (.cells #[.int .i64 x.kind,.int .i64 x.num,.string x.text,.slice a1 x.keys.length c1,.slice a2 x.list.length c2] 27)) (.cells #[.int .i64 0,.int .i64 0,.string ⟨#[]⟩,.slice none 0 0,.slice none 0 0] 27);have bC:=below_alloc ((w.alloc (.cells #[.int .i64 x.kind,.int .i64 x.num,.string x.text,.slice a1 x.keys.length c1,.slice a2 x.list.length c2] 27)).alloc (.cells #[.int .i64 0,.int .i64 0,.string ⟨#[]⟩,.slice none 0 0,.slice none 0 0] 27)) (.cells #[.int .i64 x.kind,.int .i64 x.num,.string x.text,.slice a1 x.keys.length c1,.slice a2 x.list.length c2] 27);have x0:=hide (((b5_new w (.int .i64 x.kind) (.int .i64 x.num) (.string x.text) (.slice a1 x.keys.length c1) (.slice a2 x.list.length c2) w.heap.size rfl).keep bB));have X0:=hide (x0.out.keep bC);have U0:=hide ((b5_new (w.alloc (.cells #[.int .i64 x.kind,.int .i64 x.num,.string x.text,.slice a1 x.keys.length c1,.slice a2 x.list.length c2] 27)) (.int .i64 0) (.int .i64 0) (.string ⟨#[]⟩) (.slice none 0 0) (.slice none 0 0) (w.heap.size+1) (by simp)).keep bC);have V0:=hide (b5_new ((w.alloc (.cells #[.int .i64 x.kind,.int .i64 x.num,.string x.text,.slice a1 x.keys.length c1,.slice a2 x.list.length c2] 27)).alloc (.cells #[.int .i64 0,.int .i64 0,.string ⟨#[]⟩,.slice none 0 0,.slice none 0 0] 27)) (.int .i64 x.kind) (.int .i64 x.num) (.string x.text) (.slice a1 x.keys.length c1) (.slice a2 x.list.length c2) (w.heap.size+2) (by simp));have L0:=hide (bthen bA (bthen bB bC));have I0:=hide ((h.weak (S':=(fun b=>(S b∧b < w.heap.size)∨w.heap.size+3≤b)) (fun b hb hs=>Or.inl ⟨hs,hb⟩)).below L0.out);have HR:=hide hr;have H5:=hide h5;have HWT:=hide hwt;have HCW:Hid (∀ i,i≤x.keys.length→V.wt (Xr.contentTo kind x i)≤1000000000):=hide (fun i hi=>by have:=Xr.contentTo_wt hr h5 kind i hi;omega);clear h hks h8 hkc hk2 hk3 bA bB bC hr h5 hwt;obtain ⟨p0,p1,p2,p3,p4⟩:=x0.out.cells;go_enter Tryz.func69,Tryz.ntmps69
  go_wp2_with fail
  clear p0 p1 p2 p3 p4 x0
  go_loopg [6] x.keys.length (fun gg i wr=>∃ (j:Nat) (vk vn:Int) (vt:ByteArray) (va1:Option Addr) (vn1 vc1:Nat) (va2:Option Addr) (vn2 vc2:Nat),j+gg=x.keys.length∧i=.int .i64 j∧Hid (B5 wr w.heap.size (.int .i64 x.kind) (.int .i64 x.num) (.string x.text) (.slice a1 x.keys.length c1) (.slice a2 x.list.length c2))∧Hid (B5 wr (w.heap.size+1) (.int .i64 0) (.int .i64 0) (.string ⟨#[]⟩) (.slice none 0 0) (.slice none 0 0))∧Hid (B5 wr (w.heap.size+2) (.int .i64 vk) (.int .i64 vn) (.string vt) (.slice va1 vn1 vc1) (.slice va2 vn2 vc2))∧Hid (Below w.heap.size w wr)∧Hid (w.heap.size+3≤wr.heap.size)∧Hid (Is wr (fun b=>(S b∧b < w.heap.size)∨w.heap.size+3≤b) (.agg #[.int .i64 vk,.int .i64 vn,.string vt,.slice va1 vn1 vc1,.slice va2 vn2 vc2]) (Xr.contentTo kind x j)))
  case atStart=>exact ⟨0,_,_,_,_,_,_,_,_,_,by omega,rfl,X0,U0,V0,L0,hide (by simp),I0⟩
  case round =>
    obtain ⟨j,vk,vn,vt,va1,vn1,vc1,va2,vn2,vc2,hj,rfl,X5,U5,V5,L5,N5,I5⟩:=hrel;obtain ⟨hkm1,hkm2⟩:=HKM.out;obtain ⟨p0,p1,p2,p3,p4⟩:=X5.out.cells
    by_cases hlt:j < x.keys.length
    · obtain ⟨kb,ko,KK,hka,hKK,ek⟩:=str_at' HKC.out L5.out (i:=j) hlt
      subst hka;have HEK:=hide ek;obtain ⟨q,hq⟩:∃ q,keptB kind KK=q:=⟨_,rfl⟩;have HQ:=hide hq;clear hq
      go_wp2_with fail
      clear p0 p1 p2 p3 p4 ek;refine (ref7Kept_any kind KK _).mono ?_;rintro e w1 ⟨rfl,b1⟩;rw [HQ.out];have X6:=hide (X5.out.keep b1);have U6:=hide (U5.out.keep b1);have V6:=hide (V5.out.keep b1);have L6:=hide (bthen L5.out b1);have N6:Hid (w.heap.size+3≤w1.heap.size):=hide (Nat.le_trans N5.out b1.size);have E6:=hide (cell_keep HEK.out b1);have I6:=hide (I5.out.below b1);clear X5 U5 V5 L5 N5 I5 b1 HEK;cases q with
      | true =>
        have HST:Hid (Xr.contentTo kind x (j+1)=Xr.contentTo kind x j):=hide (by simp only [Xr.contentTo];rw [← hKK.out,if_pos HQ.out])
        go_wp2_with fail
        go_roundg (gk - 1)
        case measure=>omega
        case rel=>exact ⟨j+1,_,_,_,_,_,_,_,_,_,by omega,rfl,X6,U6,V6,L6,N6,hide (by rw [HST.out];exact I6.out)⟩
      | false =>
        obtain ⟨PV,hPV⟩:∃ P,Xr.contentTo kind x j=P:=⟨_,rfl⟩;have HST:Hid (Xr.contentTo kind x (j+1)=V.without PV KK):=hide (by simp only [Xr.contentTo];rw [← hKK.out,if_neg (by rw [HQ.out];decide),hPV]);have hwv:=HCW.out j (Nat.le_of_lt hlt);rw [hPV] at I6 hwv;have WV:=hide hwv;clear hwv hPV
        go_upto_region 6 with fail
        refine' wp_region_facts [(fun _ _ v _=>v=(.agg #[.int .i64 vk,.int .i64 vn,.string vt,.slice va1 vn1 vc1,.slice va2 vn2 vc2])),(fun _ _ v _=>v=(.pointer (some ⟨w.heap.size,3,none⟩))),(fun _ _ v _=>v=(.slice (some ⟨kb,ko,none⟩) x.keys.length c1)),(fun _ _ v _=>v=(.int .i64 (j:Int))),(fun _ _ v _=>v=(.pointer (some ⟨kb,ko+j,none⟩))),(fun _ _ v _=>v=(.string KK)),(StayS (fun b=>(S b∧b < w.heap.size)∨w.heap.size+3≤b) (V.without PV KK))] (by kernel_rfl) rfl ?hA (by kernel_rfl) (by kernel_rfl) (by kernel_rfl) rfl ?mono ?steps ?last
        case hA =>
          intro vs;simp only [puts,Act.put,List.setIfInBounds_toArray,List.set_cons_zero,List.set_cons_succ,Nat.zero_add,Nat.reduceAdd];rfl
        case mono=>exact ⟨mono_eq _,mono_eq _,mono_eq _,mono_eq _,mono_eq _,mono_eq _,mono_stayS _ _,trivial⟩
        case steps =>
          intro Q';refine And.intro ?_ <| And.intro ?_ <| And.intro ?_ <| And.intro ?_ <| And.intro ?_ <| And.intro ?_ <| And.intro ?_ <| trivial
          all_goals
            intro vs lo hi w' hM hd K' hK;dsimp only at hK ⊢;simp only [Act.put,List.setIfInBounds_toArray,List.set_cons_zero,List.set_cons_succ] at hK
          · obtain ⟨p0,p1,p2,p3,p4⟩:=(V6.out.keep hM).cells
            go_simp;exact hK.out _ _ rfl (Below.refl _ _)
          · go_simp
            exact hK.out _ _ rfl (Below.refl _ _)
          · have e1:vs 1=(.pointer (some ⟨w.heap.size,3,none⟩)):=hd 1 (by kernel_rfl)
            simp only [e1] at hK ⊢;clear e1;obtain ⟨p0,p1,p2,p3,p4⟩:=(X6.out.keep hM).cells;go_simp;exact hK.out _ _ rfl (Below.refl _ _)
          · go_simp
            exact hK.out _ _ rfl (Below.refl _ _)
          · have e2:vs 2=(.slice (some ⟨kb,ko,none⟩) x.keys.length c1):=hd 2 (by kernel_rfl)
            have e3:vs 3=(.int .i64 (j:Int)):=hd 3 (by kernel_rfl);simp only [e2,e3] at hK ⊢;clear e2 e3;go_simp;exact hK.out _ _ rfl (Below.refl _ _)
          · have e4:vs 4=(.pointer (some ⟨kb,ko+j,none⟩)):=hd 4 (by kernel_rfl)
            simp only [e4] at hK ⊢;clear e4;have q0:=cell_keep E6.out hM;go_simp;exact hK.out _ _ rfl (Below.refl _ _)
          · have e0:vs 0=(.agg #[.int .i64 vk,.int .i64 vn,.string vt,.slice va1 vn1 vc1,.slice va2 vn2 vc2]):=hd 0 (by kernel_rfl)
            have e5:vs 5=(.string KK):=hd 5 (by kernel_rfl);simp only [e0,e5] at hK ⊢;clear e0 e5;go_simp;refine (refWithout_S (I6.out.below hM) KK WV.out).mono ?_;rintro e w7 ⟨k7,n7,t7,a17,n17,c17,a27,n27,c27,rfl,h7,b7⟩;exact hK.out _ _ ⟨_,_,_,_,_,_,_,_,_,rfl,hide (h7.weak (fun b _ hb=>hb.elim id (fun h2=>Or.inr (by have h3:=N6.out;have h4:=hM.size;omega))))⟩ b7
        case last =>
          intro vs lo hi w' hM hlo hap hall K' Q' hK;obtain ⟨_,_,_,_,_,_,h6,_⟩:=hall;obtain ⟨k6,n6,t6,a16,n16,c16,a26,n26,c26,e6,H6⟩:=h6;dsimp only;simp only [e6];clear e6 hap hlo;have VV:=V6.out.keep hM;obtain ⟨y0,y1,y2,y3,y4⟩:=VV.cells;have fu0:=VV.free 0;have fu1:=VV.free 1;have fu2:=VV.free 2;have fu3:=VV.free 3;have fu4:=VV.free 4;go_simp;refine hK.out _ _ ?_;clear hK y0 y1 y2 y3 y4 fu0 fu1 fu2 fu3 fu4;have V7:=hide (VV.all (.int .i64 k6) (.int .i64 n6) (.string t6) (.slice a16 n16 c16) (.slice a26 n26 c26));have X7:=hide ((X6.out.keep hM).past5 (g':=w.heap.size+2) (by omega) (.int .i64 k6) (.int .i64 n6) (.string t6) (.slice a16 n16 c16) (.slice a26 n26 c26));have U7:=hide ((U6.out.keep hM).past5 (g':=w.heap.size+2) (by omega) (.int .i64 k6) (.int .i64 n6) (.string t6) (.slice a16 n16 c16) (.slice a26 n26 c26));have L7:Hid (Below w.heap.size w (((((w'.setCell ⟨(w.heap.size+2),0,none⟩ (.int .i64 k6)).setCell ⟨(w.heap.size+2),1,none⟩ (.int .i64 n6)).setCell ⟨(w.heap.size+2),2,none⟩ (.string t6)).setCell ⟨(w.heap.size+2),3,none⟩ (.slice a16 n16 c16)).setCell ⟨(w.heap.size+2),4,none⟩ (.slice a26 n26 c26))):=hide ((bthen L6.out hM).trans (below5 (B:=w.heap.size) (g:=w.heap.size+2) (w:=w') (by omega) (.int .i64 k6) (.int .i64 n6) (.string t6) (.slice a16 n16 c16) (.slice a26 n26 c26)));have I7:=hide (H6.out.keep (keeps_chain (S:=(fun b=>(S b∧b < w.heap.size)∨w.heap.size+3≤b)) (w:=w') (g:=w.heap.size+2) (by rintro (⟨h8,h9⟩ | h9) <;> omega) (.int .i64 k6) (.int .i64 n6) (.string t6) (.slice a16 n16 c16) (.slice a26 n26 c26)));have N7:Hid (w.heap.size+3≤(((((w'.setCell ⟨(w.heap.size+2),0,none⟩ (.int .i64 k6)).setCell ⟨(w.heap.size+2),1,none⟩ (.int .i64 n6)).setCell ⟨(w.heap.size+2),2,none⟩ (.string t6)).setCell ⟨(w.heap.size+2),3,none⟩ (.slice a16 n16 c16)).setCell ⟨(w.heap.size+2),4,none⟩ (.slice a26 n26 c26)).heap.size):=hide (by have:=N6.out;have:=hM.size;simp;omega);clear VV hM
          go_wp2_with fail
          go_roundg (gk - 1)
          case measure=>omega
          case rel=>exact ⟨j+1,_,_,_,_,_,_,_,_,_,by omega,rfl,X7,U7,V7,L7,N7,hide (by rw [HST.out];exact I7.out)⟩
    · have hje:j=x.keys.length:=by omega
      have hfin:Xr.contentTo kind x j=Xr.ofContent x kind:=by rw [hje];exact Xr.contentTo_end HR.out H5.out kind
      have HFIN:=hide hfin;clear hfin hje;obtain ⟨v0,v1,v2,v3,v4⟩:=V5.out.cells;obtain ⟨q0,q1,q2,q3,q4⟩:=U5.out.cells;have fu0:=U5.out.free 0;have fu1:=U5.out.free 1;have fu2:=U5.out.free 2;have fu3:=U5.out.free 3;have fu4:=U5.out.free 4
      go_wp2_with fail
      have hu:=U5.out.all (.int .i64 vk) (.int .i64 vn) (.string vt) (.slice va1 vn1 vc1) (.slice va2 vn2 vc2);clear q0 q1 q2 q3 q4 fu0 fu1 fu2 fu3 fu4 p0 p1 p2 p3 p4 v0 v1 v2 v3 v4;obtain ⟨p0,p1,p2,p3,p4⟩:=hu.cells;refine bodyPost_ret (v:=(.agg #[.int .i64 vk,.int .i64 vn,.string vt,.slice va1 vn1 vc1,.slice va2 vn2 vc2])) (by simp [results,Tryz.results69,go_sem,p0,p1,p2,p3,p4]) rfl ⟨_,_,_,_,_,_,_,_,_,rfl,?_,L5.out.trans (below5 (by omega) _ _ _ _ _)⟩;rw [← HFIN.out];exact (I5.out.keep (keeps_chain (S:=(fun b=>(S b∧b < w.heap.size)∨w.heap.size+3≤b)) (g:=w.heap.size+1) (by rintro (⟨h8,h9⟩ | h9) <;> omega) _ _ _ _ _)).weak (fun b _ hb=>hb.elim (fun h2=>Or.inl h2.1) (fun h2=>Or.inr (by omega)))
end Go.Proofs.YtapcmbbhhclepaaGreatDoor
