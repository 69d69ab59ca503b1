/-
  THE WALK of heliastref07.Hashed (layer 7).
-/
import Derived.Test.YtapcmbbhhclepaaGreatDoorMxXRef7
import Derived.BigQuiet
set_option linter.unusedVariables false
set_option linter.unusedSimpArgs false
set_option maxRecDepth 100000
namespace Go.Proofs.YtapcmbbhhclepaaGreatDoor
open Go.RowKit

set_option maxHeartbeats 2000000 in
theorem ref7Hashed_any {v:Value} {x:V} {w:World} {S:Nat→Prop} (h:Is w S v x) (hr:V.right x=true) (hwt:V.wt x≤10000000) (hc:Xr.cost x≤900000) :
    Calls Tryz.prog 33 #[v] w fun e w'=>e=.returned (.bool (Xr.hashed x))∧Below w.heap.size w w':=by
  obtain ⟨kv,lv,rfl,h2,h8,_⟩:=id h.open;obtain ⟨a1,c1,rfl,_⟩:=id h2;obtain ⟨a2,c2,_,rfl,_⟩:=id h8;clear h2 h8;have b0:=below_alloc w (.cells #[.int .i64 x.kind,.int .i64 x.num,.string x.text,.slice a1 x.keys.length c1,.slice a2 x.list.length c2] 27);have HI:=hide (h.below b0)
  skip
  have B0:=hide b0;have x0:=hide (b5_new w (.int .i64 x.kind) (.int .i64 x.num) (.string x.text) (.slice a1 x.keys.length c1) (.slice a2 x.list.length c2) w.heap.size rfl);have HWT:=hide hwt;have HR:=hide hr;have HC:=hide hc;unfold Xr.hashed Xr.told;obtain ⟨K,hK⟩:∃ K,Xr.hash x=K:=⟨_,rfl⟩;rw [hK];have HKK:=hide hK;have hw1:=Xr.wt_getD x kHashes;clear b0 h hr hwt hc hK ;obtain ⟨y,hy⟩:∃ y,(V.get x kHashes).getD V.nul=y:=⟨_,rfl⟩;rw [hy] at hw1 ⊢;have HYY:=hide hy;have HYW:=hide hw1;clear hy hw1;obtain ⟨z,hz⟩:∃ z,(V.get y kSum).getD V.nul=z:=⟨_,rfl⟩;rw [hz];have HZZ:=hide hz;clear hz;obtain ⟨q,hq⟩:∃ q,(z.text.toList == K.toList)=q:=⟨_,rfl⟩;rw [hq];have HQ:=hide hq;clear hq;obtain ⟨R,hR⟩:∃ R,(decide (z.kind=3) && q)=R:=⟨_,rfl⟩;rw [hR];have HRR:=hide hR;clear hR;go_enter Tryz.func33,Tryz.ntmps33
  go_wp2_with fail
  refine (refGet_all HI.out kHashes (Nat.le_trans HWT.out (by decide))).mono ?_;rintro e w1 ⟨k,n,t,d1,n1,e1,d2,n2,e2,is,rfl,his0,his,b1⟩;rw [HYY.out] at his;have b12:=below_alloc w1 (.cells #[.int .i64 k,.int .i64 n,.string t,.slice d1 n1 e1,.slice d2 n2 e2] 27);have b2:=bthen b1 b12;have I2:=hide (his.below b12);have L2:=hide (bthen B0.out b2);have X2:=hide (x0.out.keep b2);have J2:=hide (HI.out.below b2)
  skip
  clear his b1 b12 b2 his0
  go_wp2_with fail
  refine (refGet_all I2.out kSum (Nat.le_trans HYW.out (Nat.le_trans HWT.out (by decide)))).mono ?_;rintro e w3 ⟨k',n',t',f1,m1,g1,f2,m2,g2,is',rfl,hiz0,hiz,b3⟩;rw [HZZ.out] at hiz;obtain ⟨kv,lv,hv,hks,hls,_⟩:=hiz.open;obtain ⟨ax,cx,hks2,_⟩:=hks;obtain ⟨ay,cy,_,hls2,_⟩:=hls;subst hks2 hls2;simp only [Value.agg.injEq,Array.mk.injEq,List.cons.injEq,and_true,Value.int.injEq,Value.string.injEq,true_and,Value.slice.injEq] at hv;obtain ⟨rfl,rfl,rfl,⟨rfl,rfl,rfl⟩,rfl,rfl,rfl⟩:=hv;have b34:=below_alloc w3 (.cells #[.int .i64 z.kind,.int .i64 z.num,.string z.text,.slice f1 z.keys.length g1,.slice f2 z.list.length g2] 27);have b4:=bthen b3 b34;have Z5:=hide (b5_new w3 (.int .i64 z.kind) (.int .i64 z.num) (.string z.text) (.slice f1 z.keys.length g1) (.slice f2 z.list.length g2) _ rfl);have L5:=hide (bthen L2.out b4);have X5:=hide (X2.out.keep b4);have J5:=hide (J2.out.below b4)
  skip
  clear hiz b3 b34 b4 hiz0
  go_upto_region 3 with fail
  generalize w3.alloc (.cells #[.int .i64 z.kind,.int .i64 z.num,.string z.text,.slice f1 z.keys.length g1,.slice f2 z.list.length g2] 27)=w5 at Z5 L5 X5 J5 ⊢;generalize w3.heap.size=gz at Z5 ⊢
  by_cases h3:z.kind=3
  · have H3:Hid ((z.kind == 3)=true):=hide (by rw [h3];rfl)
    have e1:R=q:=by rw [← HRR.out,h3];simp
    have HE:=hide e1;clear h3 e1;refine' wp_region_facts [(fun _ _ v _=>v=(.pointer (some ⟨gz,0,none⟩))),(fun _ _ v _=>v=(.int .i64 z.kind)),(fun _ _ v _=>v=(.bool true)),(fun _ _ v _=>v=(.bool true)),(fun _ _ v _=>v=(.pointer (some ⟨gz,2,none⟩))),(fun _ _ v _=>v=(.string z.text)),(fun _ _ v _=>v=(.agg #[.int .i64 x.kind,.int .i64 x.num,.string x.text,.slice a1 x.keys.length c1,.slice a2 x.list.length c2])),(fun _ _ v _=>v=(.string K)),(fun _ _ v _=>v=(.bool q)),(fun _ _ v _=>v=(.bool q))] (by kernel_rfl) rfl ?hA (by kernel_rfl) (by kernel_rfl) (by kernel_rfl) rfl ?mono ?steps ?last
    case hA =>
      intro vs;simp only [puts,Act.put,List.setIfInBounds_toArray,List.set_cons_zero,List.set_cons_succ,Nat.zero_add,Nat.reduceAdd];rfl
    case mono=>exact ⟨mono_eq _,mono_eq _,mono_eq _,mono_eq _,mono_eq _,mono_eq _,mono_eq _,mono_eq _,mono_eq _,mono_eq _,trivial⟩
    case steps =>
      intro Q';refine And.intro ?_ <| And.intro ?_ <| And.intro ?_ <| And.intro ?_ <| And.intro ?_ <| And.intro ?_ <| And.intro ?_ <| And.intro ?_ <| And.intro ?_ <| And.intro ?_ <| trivial
      all_goals
        intro vs lo hi w' hM hd K' hK;dsimp only at hK ⊢;simp only [Act.put,List.setIfInBounds_toArray,List.set_cons_zero,List.set_cons_succ] at hK
      · go_simp
        exact hK.out _ _ rfl (Below.refl _ _)
      · have e0:vs 0=(.pointer (some ⟨gz,0,none⟩)):=hd 0 (by kernel_rfl)
        simp only [e0] at hK ⊢;clear e0;obtain ⟨p0,p1,p2,p3,p4⟩:=(Z5.out.keep hM).cells;go_simp;exact hK.out _ _ rfl (Below.refl _ _)
      · have e1:vs 1=(.int .i64 z.kind):=hd 1 (by kernel_rfl)
        simp only [e1] at hK ⊢;clear e1;have h3:=H3.out;go_simp;exact hK.out _ _ rfl (Below.refl _ _)
      · have e2:vs 2=(.bool true):=hd 2 (by kernel_rfl)
        simp only [e2] at hK ⊢;clear e2;go_simp;exact hK.out _ _ rfl (Below.refl _ _)
      · have e3:vs 3=(.bool true):=hd 3 (by kernel_rfl)
        simp only [e3] at hK ⊢;clear e3;go_simp;exact hK.out _ _ rfl (Below.refl _ _)
      · have e4:vs 4=(.pointer (some ⟨gz,2,none⟩)):=hd 4 (by kernel_rfl)
        have e3:vs 3=(.bool true):=hd 3 (by kernel_rfl);simp only [e4,e3] at hK ⊢;clear e4 e3;obtain ⟨p0,p1,p2,p3,p4⟩:=(Z5.out.keep hM).cells;go_simp;exact hK.out _ _ rfl (Below.refl _ _)
      · have e3:vs 3=(.bool true):=hd 3 (by kernel_rfl)
        simp only [e3] at hK ⊢;clear e3;obtain ⟨p0,p1,p2,p3,p4⟩:=(X5.out.keep hM).cells;go_simp;exact hK.out _ _ rfl (Below.refl _ _)
      · have e6:vs 6=(.agg #[.int .i64 x.kind,.int .i64 x.num,.string x.text,.slice a1 x.keys.length c1,.slice a2 x.list.length c2]):=hd 6 (by kernel_rfl)
        have e3:vs 3=(.bool true):=hd 3 (by kernel_rfl);simp only [e6,e3] at hK ⊢;clear e6 e3;go_simp;refine (ref7Hash_any (J5.out.below hM) HR.out HWT.out HC.out).mono ?_;rintro e w7 ⟨rfl,b7⟩;rw [HKK.out];exact hK.out _ _ rfl b7
      · have e5:vs 5=(.string z.text):=hd 5 (by kernel_rfl)
        have e7:vs 7=(.string K):=hd 7 (by kernel_rfl);have e3:vs 3=(.bool true):=hd 3 (by kernel_rfl);simp only [e5,e7,e3] at hK ⊢;clear e5 e7 e3;have hq:=HQ.out;go_simp;exact hK.out _ _ rfl (Below.refl _ _)
      · have e3:vs 3=(.bool true):=hd 3 (by kernel_rfl)
        have e8:vs 8=(.bool q):=hd 8 (by kernel_rfl);simp only [e3,e8] at hK ⊢;clear e3 e8;go_simp;exact hK.out _ _ rfl (Below.refl _ _)
    case last =>
      intro vs lo hi w' hM hlo hap hall K' Q' hK;have h9:vs 9=(.bool q):=hall.2.2.2.2.2.2.2.2.2.1;dsimp only;simp only [h9];clear h9 hall hap hlo;go_simp;refine hK.out _ _ ?_;clear hK
      try go_wp2_with fail
      go_ret
      exact ⟨by rw [HE.out];rfl,bthen L5.out hM⟩
  · have H3:Hid ((z.kind == 3)=false):=hide (by simpa using h3)
    have e1:R=false:=by rw [← HRR.out];simp [h3]
    have HE:=hide e1;clear h3 e1;refine' wp_region_facts [(fun _ _ v _=>v=(.pointer (some ⟨gz,0,none⟩))),(fun _ _ v _=>v=(.int .i64 z.kind)),(fun _ _ v _=>v=(.bool false)),(fun _ _ v _=>v=(.bool false)),(fun _ _ v _=>v=undef),(fun _ _ v _=>v=undef),(fun _ _ v _=>v=undef),(fun _ _ v _=>v=undef),(fun _ _ v _=>v=undef),(fun _ _ v _=>v=(.bool false))] (by kernel_rfl) rfl ?hA (by kernel_rfl) (by kernel_rfl) (by kernel_rfl) rfl ?mono ?steps ?last
    case hA =>
      intro vs;simp only [puts,Act.put,List.setIfInBounds_toArray,List.set_cons_zero,List.set_cons_succ,Nat.zero_add,Nat.reduceAdd];rfl
    case mono=>exact ⟨mono_eq _,mono_eq _,mono_eq _,mono_eq _,mono_eq _,mono_eq _,mono_eq _,mono_eq _,mono_eq _,mono_eq _,trivial⟩
    case steps =>
      intro Q';refine And.intro ?_ <| And.intro ?_ <| And.intro ?_ <| And.intro ?_ <| And.intro ?_ <| And.intro ?_ <| And.intro ?_ <| And.intro ?_ <| And.intro ?_ <| And.intro ?_ <| trivial
      all_goals
        intro vs lo hi w' hM hd K' hK;dsimp only at hK ⊢;simp only [Act.put,List.setIfInBounds_toArray,List.set_cons_zero,List.set_cons_succ] at hK
      · go_simp
        exact hK.out _ _ rfl (Below.refl _ _)
      · have e0:vs 0=(.pointer (some ⟨gz,0,none⟩)):=hd 0 (by kernel_rfl)
        simp only [e0] at hK ⊢;clear e0;obtain ⟨p0,p1,p2,p3,p4⟩:=(Z5.out.keep hM).cells;go_simp;exact hK.out _ _ rfl (Below.refl _ _)
      · have e1:vs 1=(.int .i64 z.kind):=hd 1 (by kernel_rfl)
        simp only [e1] at hK ⊢;clear e1;have h3:=H3.out;go_simp;exact hK.out _ _ rfl (Below.refl _ _)
      · have e2:vs 2=(.bool false):=hd 2 (by kernel_rfl)
        simp only [e2] at hK ⊢;clear e2;go_simp;exact hK.out _ _ rfl (Below.refl _ _)
      · have e3:vs 3=(.bool false):=hd 3 (by kernel_rfl)
        simp only [e3] at hK ⊢;clear e3;go_simp;exact hK.out _ _ rfl (Below.refl _ _)
      · have e4:vs 4=undef:=hd 4 (by kernel_rfl)
        have e3:vs 3=(.bool false):=hd 3 (by kernel_rfl);simp only [e4,e3] at hK ⊢;clear e4 e3;go_simp;exact hK.out _ _ rfl (Below.refl _ _)
      · have e3:vs 3=(.bool false):=hd 3 (by kernel_rfl)
        simp only [e3] at hK ⊢;clear e3;go_simp;exact hK.out _ _ rfl (Below.refl _ _)
      · have e6:vs 6=undef:=hd 6 (by kernel_rfl)
        have e3:vs 3=(.bool false):=hd 3 (by kernel_rfl);simp only [e6,e3] at hK ⊢;clear e6 e3;go_simp;exact hK.out _ _ rfl (Below.refl _ _)
      · have e5:vs 5=undef:=hd 5 (by kernel_rfl)
        have e7:vs 7=undef:=hd 7 (by kernel_rfl);have e3:vs 3=(.bool false):=hd 3 (by kernel_rfl);simp only [e5,e7,e3] at hK ⊢;clear e5 e7 e3;go_simp;exact hK.out _ _ rfl (Below.refl _ _)
      · have e3:vs 3=(.bool false):=hd 3 (by kernel_rfl)
        have e8:vs 8=undef:=hd 8 (by kernel_rfl);simp only [e3,e8] at hK ⊢;clear e3 e8;go_simp;exact hK.out _ _ rfl (Below.refl _ _)
    case last =>
      intro vs lo hi w' hM hlo hap hall K' Q' hK;have h9:vs 9=(.bool false):=hall.2.2.2.2.2.2.2.2.2.1;dsimp only;simp only [h9];clear h9 hall hap hlo;go_simp;refine hK.out _ _ ?_;clear hK
      try go_wp2_with fail
      go_ret
      exact ⟨by rw [HE.out];rfl,bthen L5.out hM⟩
end Go.Proofs.YtapcmbbhhclepaaGreatDoor
