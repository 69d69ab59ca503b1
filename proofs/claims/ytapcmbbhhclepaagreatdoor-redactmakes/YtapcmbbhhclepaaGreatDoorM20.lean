/-
  What this claim takes of the earlier layers' texts: XHash XHashed CRefY CRefZ.
-/
import Derived.Test.YtapcmbbhhclepaaGreatDoorM19
import Derived.BigQuiet
set_option linter.unusedVariables false
set_option linter.unusedSimpArgs false
set_option maxRecDepth 100000
namespace Go.Proofs.YtapcmbbhhclepaaGreatDoor
open Go.RowKit
namespace Xr
def sumText (l:List UInt8):ByteArray:=⟨(Dig.Sl.text (Dig.Dg.sha (Dig.Sl.ints l))).toArray⟩
def hash (x:V):ByteArray:=sumText (Cn.print (rest x))
def ident (x:V):ByteArray:=⟨(Dig.Sl.ident (Cn.print (redact x))).toArray⟩
def sealed (x:V):V:=sealedBy (hash x) x
def hashed (x:V):Bool:=decide ((told x).kind=3) && ((told x).text.toList == (hash x).toList)
theorem sumText_size (l:List UInt8):(sumText l).size≤43:=by
  unfold sumText;rw [Dig.str_size,Dig.Sl.text_length,Dig.Dg.sha_length];omega
theorem hash_size (x:V):(hash x).size≤43:=sumText_size _
theorem toList_str (l:List UInt8):(⟨l.toArray⟩:ByteArray).data.toList=l:=by simp
end Xr
structure Tabs (w:World):Prop where
  cubes:Dig.Cubes w
  tab:Tab w.heap.size w
theorem Tabs.below {w w':World} (h:Tabs w) (b:Below w.heap.size w w'):Tabs w' :=
  ⟨h.cubes.below' b,fun w2 k2=>h.tab w2 (b.trans (k2.mono b.size))⟩
set_option maxHeartbeats 2000000 in
theorem hash_any {v:Value} {x:V} {w:World} {S:Nat→Prop} (h:Is w S v x) (hr:V.right x=true) (hwt:V.wt x≤10000000) (hc:Xr.cost x≤900000) (hT:Tabs w) :
    Calls Tryz.prog 28 #[v] w fun e w'=>e=.returned (.string (Xr.hash x))∧Below w.heap.size w w':=by
  obtain ⟨kv,lv,rfl,h2,h8,_⟩:=id h.open;obtain ⟨a1,c1,rfl,_⟩:=id h2;obtain ⟨a2,c2,_,rfl,_⟩:=id h8;clear h2 h8;have b0:=below_alloc w (.cells #[.int .i64 x.kind,.int .i64 x.num,.string x.text,.slice a1 x.keys.length c1,.slice a2 x.list.length c2] 27);have HI:=hide (h.below b0);have HT:=hide (hT.below b0);have B0:=hide b0;have HWT:=hide hwt;have HR:=hide (Xr.rest_right' hr);have HP:Hid ((Cn.print (Xr.rest x)).length≤900000):=hide (by have h1:=Xr.print_cost (Xr.rest x);have h2:=Xr.cost_rest x;omega);have HW4:Hid (V.wt (Xr.rest x)≤4294967296):=hide (by have h1:=Xr.wt_rest x;omega);have HW1:Hid (V.wt (V.without x kHashes)≤1000000000):=hide (by have h1:=V.wt_without x kHashes;omega);unfold Xr.hash;obtain ⟨R,hR⟩:∃ R:ByteArray,R=⟨(Cn.print (Xr.rest x)).toArray⟩:=⟨_,rfl⟩;have hRl:R.data.toList=Cn.print (Xr.rest x):=by rw [hR]
  have HRS:Hid (R.size≤1000000):=hide (by have h1:=HP.out;rw [← hRl,Xr.data_len] at h1;omega);rw [← hRl];have HRR:=hide hR;clear hR hRl b0 h hT hr hwt hc;go_enter Tryz.func28,Tryz.ntmps28
  go_wp2_with fail
  refine (without_any HI.out (Nat.le_trans HWT.out (by decide)) kHashes).mono ?_;rintro e w1 ⟨k3,n3,t3,a3,m3,c3,a4,m4,c4,rfl,h3,b3⟩;have I3:=hide h3;have T3:=hide (HT.out.below b3);have B3:=hide (bthen B0.out b3);clear h3 b3
  go_wp2_with fail
  refine (without_any I3.out HW1.out kUnsigned).mono ?_;rintro e w2 ⟨k5,n5,t5,a5,m5,c5,a6,m6,c6,rfl,h5,b5⟩;have b56:=below_alloc w2 (.cells #[.int .i64 k5,.int .i64 n5,.string t5,.slice a5 m5 c5,.slice a6 m6 c6] 27);have I5:Hid (Is (w2.alloc (.cells #[.int .i64 k5,.int .i64 n5,.string t5,.slice a5 m5 c5,.slice a6 m6 c6] 27)) (fun _=>True) (.agg #[.int .i64 k5,.int .i64 n5,.string t5,.slice a5 m5 c5,.slice a6 m6 c6]) (Xr.rest x)):=hide ((h5.below b56).weak (fun _ _ _=>trivial));have T5:=hide (T3.out.below (bthen b5 b56));have B5:=hide (bthen B3.out (bthen b5 b56));clear h5 b5 b56
  go_wp2_with fail
  refine (print_any I5.out HR.out HW4.out (Nat.le_trans HP.out (by decide)) T5.out.tab R HRR.out).mono ?_;rintro e w3 ⟨rfl,b7⟩;have hcv:=Lib.run_convert_string_bytes (P:=Tryz.prog) w3 9 22 5 R Tryz.underlying9 Tryz.underlying22 Tryz.underlying5;have b8:=Dig.below_bytes w3 R;have I8:=hide (Dig.bytes_isB w3 R HRS.out);have T8:=hide (T5.out.below (bthen b7 b8));have B8:=hide (bthen B5.out (bthen b7 b8));clear b7 b8;generalize Lib.bytesWorld w3 5 R=w8 at hcv I8 T8 B8;generalize grownCap w3 R.size 0 5=c8 at hcv I8
  go_wp2_with fail
  refine (Dig.digestI _ _ _ _ _ I8.out T8.out.cubes (by have:=HRS.out;omega)).mono ?_;rintro e w9 ⟨g9,rfl,h9,_,b9⟩;have I9:=hide h9;have B9:=hide (bthen B8.out b9);clear h9 b9 hcv
  go_wp2_with fail
  refine (Dig.sealText_any _ _ _ _ _ I9.out (by omega)).mono ?_;rintro e w10 ⟨rfl,b10⟩
  go_wp2_with fail
  go_ret
  exact ⟨rfl,bthen B9.out b10⟩
set_option maxHeartbeats 2000000 in
theorem sealed_any {v:Value} {x:V} {w:World} {S:Nat→Prop} (h:Is w S v x) (hr:V.right x=true) (hwt:V.wt x≤10000000) (hc:Xr.cost x≤900000) (hT:Tabs w) :
    Calls Tryz.prog 24 #[v] w fun e w'=>∃ k n t a1 n1 c1 a2 n2 c2,e=.returned (.agg #[.int .i64 k,.int .i64 n,.string t,.slice a1 n1 c1,.slice a2 n2 c2])∧Is w' (fun b=>w.heap.size≤b) (.agg #[.int .i64 k,.int .i64 n,.string t,.slice a1 n1 c1,.slice a2 n2 c2]) (Xr.sealed x)∧Below w.heap.size w w':=by
  obtain ⟨kv,lv,rfl,h2,h8,_⟩:=id h.open;obtain ⟨a1,c1,rfl,_⟩:=id h2;obtain ⟨a2,c2,_,rfl,_⟩:=id h8;clear h2 h8;have bA:=below_alloc w (.cells #[.int .i64 x.kind,.int .i64 x.num,.string x.text,.slice a1 x.keys.length c1,.slice a2 x.list.length c2] 27);have bB:=below_alloc (w.alloc (.cells #[.int .i64 x.kind,.int .i64 x.num,.string x.text,.slice a1 x.keys.length c1,.slice a2 x.list.length c2] 27)) (.cells #[.int .i64 0,.int .i64 0,.string ⟨#[]⟩,.slice none 0 0,.slice none 0 0] 27);have b0:=bthen bA bB;have HI:=hide (h.below b0);have HT:=hide (hT.below b0);have B0:=hide b0;have x0:=hide ((b5_new w (.int .i64 x.kind) (.int .i64 x.num) (.string x.text) (.slice a1 x.keys.length c1) (.slice a2 x.list.length c2) w.heap.size rfl).keep bB);have u0:=hide (b5_new (w.alloc (.cells #[.int .i64 x.kind,.int .i64 x.num,.string x.text,.slice a1 x.keys.length c1,.slice a2 x.list.length c2] 27)) (.int .i64 0) (.int .i64 0) (.string ⟨#[]⟩) (.slice none 0 0) (.slice none 0 0) (w.heap.size+1) (by simp));have n0:Hid (w.heap.size+2≤((w.alloc (.cells #[.int .i64 x.kind,.int .i64 x.num,.string x.text,.slice a1 x.keys.length c1,.slice a2 x.list.length c2] 27)).alloc (.cells #[.int .i64 0,.int .i64 0,.string ⟨#[]⟩,.slice none 0 0,.slice none 0 0] 27)).heap.size):=hide (by simp);obtain ⟨w0,hw0⟩:∃ w0,w0=(w.alloc (.cells #[.int .i64 x.kind,.int .i64 x.num,.string x.text,.slice a1 x.keys.length c1,.slice a2 x.list.length c2] 27)).alloc (.cells #[.int .i64 0,.int .i64 0,.string ⟨#[]⟩,.slice none 0 0,.slice none 0 0] 27):=⟨_,rfl⟩;rw [← hw0] at B0 HI HT x0 u0 n0;have W0:=hide hw0;have HWT:=hide hwt;have HR:=hide hr;have HC:=hide hc;have hsz:=Xr.hash_size x;unfold Xr.sealed;obtain ⟨K,hK⟩:∃ K,Xr.hash x=K:=⟨_,rfl⟩;rw [hK] at hsz ⊢;have HSZ:=hide hsz;have HKK:=hide hK;clear bA bB b0 h hw0 hT hr hwt hc hsz hK;have WS:Hid (V.wt (V.str K)≤1000000000):=hide (by unfold V.str;rw [V.wt_mk];have:=HSZ.out;simp only [V.wtK,V.wtL_nil];omega);have WM:Hid (V.wt (Xr.sumV K)≤1000000000):=hide (by unfold Xr.sumV V.str;rw [V.wt_mk,V.wtL_cons,V.wt_mk];have:=HSZ.out;have e1:kSum.size=6:=rfl;have e2:(⟨#[]⟩:ByteArray).size=0:=rfl;simp only [V.wtK,V.wtL_nil,e1,e2];omega);have WN:Hid (V.wt V.nul≤1000000000):=hide (by rw [Xr.wt_nul];decide);have EM:=hide (V.one_key kSum (V.str K));go_enter Tryz.func24,Tryz.ntmps24
  go_upto_region 1 with fail
  rw [← W0.out];obtain ⟨p0,p1,p2,p3,p4⟩:=x0.out.cells
  go_wp2_with fail
  clear p0 p1 p2 p3 p4;refine (hash_any HI.out HR.out HWT.out HC.out HT.out).mono ?_;rintro e w1 ⟨rfl,b1⟩;have L1:=hide (bthen B0.out b1);have U1:=hide (u0.out.keep b1);have X1:=hide (x0.out.keep b1);have I1:=hide (HI.out.below b1);have N1:Hid (w.heap.size+2≤w1.heap.size):=hide (by have:=n0.out;have:=b1.size;omega);clear b1;rw [HKK.out]
  go_wp2_with fail
  refine (str_any K w1 (by have:=HSZ.out;omega)).mono ?_;rintro e w2 ⟨rfl,b2⟩;have L2:=hide (bthen L1.out b2);have U2:=hide (U1.out.keep b2);have X2:=hide (X1.out.keep b2);have I2:=hide (I1.out.below b2);have N2:Hid (w.heap.size+2≤w2.heap.size):=hide (by have:=N1.out;have:=b2.size;omega);clear b2
  go_wp2_with fail
  refine (with_any (is_plain w2 (fun _=>True) 0 0 ⟨#[]⟩ (by decide)) (is_plain w2 (fun _=>True) 3 0 K (Nat.le_trans HSZ.out (by decide))) WN.out WS.out kSum (by decide)).mono ?_;rintro e w3 ⟨k3,n3,t3,a3,m3,c3,a4,m4,c4,rfl,h3,b3⟩;have b34:=below_alloc w3 (.cells #[.int .i64 k3,.int .i64 n3,.string t3,.slice a3 m3 c3,.slice a4 m4 c4] 27)
  have I3:Hid (Is (w3.alloc (.cells #[.int .i64 k3,.int .i64 n3,.string t3,.slice a3 m3 c3,.slice a4 m4 c4] 27)) (fun _=>True) (.agg #[.int .i64 k3,.int .i64 n3,.string t3,.slice a3 m3 c3,.slice a4 m4 c4]) (Xr.sumV K)):=hide (by
    have h4:=(h3.below b34).weak (S':=fun _=>True) (fun _ _ _=>trivial);have e4:V.withV ⟨0,0,⟨#[]⟩,[],[]⟩ kSum ⟨3,0,K,[],[]⟩=Xr.sumV K:=EM.out;rw [e4] at h4
    exact h4)
  have Y3:=hide (b5_new w3 (.int .i64 k3) (.int .i64 n3) (.string t3) (.slice a3 m3 c3) (.slice a4 m4 c4) _ rfl);have b35:=bthen b3 b34;have L3:=hide (bthen L2.out b35);have U3:=hide (U2.out.keep b35);have X3:=hide (X2.out.keep b35);have J3:=hide (I2.out.below b35);have N3:Hid (w.heap.size+2≤(w3.alloc (.cells #[.int .i64 k3,.int .i64 n3,.string t3,.slice a3 m3 c3,.slice a4 m4 c4] 27)).heap.size):=hide (by have:=N2.out;have:=b35.size;omega);clear b35 b34 h3 b3;obtain ⟨p0,p1,p2,p3,p4⟩:=X3.out.cells;obtain ⟨q0,q1,q2,q3,q4⟩:=Y3.out.cells
  go_wp2_with fail
  clear p0 p1 p2 p3 p4 q0 q1 q2 q3 q4;refine (with_any J3.out I3.out (Nat.le_trans HWT.out (by decide)) WM.out kHashes (by decide)).mono ?_;rintro e w6 ⟨k5,n5,t5,a15,n15,c15,a25,n25,c25,rfl,h7,b7⟩;have U6:=hide (U3.out.keep b7);obtain ⟨q0,q1,q2,q3,q4⟩:=U6.out.cells;have fu0:=U6.out.free 0;have fu1:=U6.out.free 1;have fu2:=U6.out.free 2;have fu3:=U6.out.free 3;have fu4:=U6.out.free 4
  go_wp2_with fail
  have hu:=U6.out.all (.int .i64 k5) (.int .i64 n5) (.string t5) (.slice a15 n15 c15) (.slice a25 n25 c25);clear q0 q1 q2 q3 q4 fu0 fu1 fu2 fu3 fu4;obtain ⟨p0,p1,p2,p3,p4⟩:=hu.cells;have n5':=N3.out;refine bodyPost_ret (v:=.agg #[.int .i64 k5,.int .i64 n5,.string t5,.slice a15 n15 c15,.slice a25 n25 c25]) (by simp [results,Tryz.results24,go_sem,p0,p1,p2,p3,p4]) rfl ⟨_,_,_,_,_,_,_,_,_,rfl,?_,(bthen L3.out b7).trans (below5 (by omega) _ _ _ _ _)⟩;exact (h7.keep (keeps_chain (by show ¬ ((w3.alloc (.cells #[.int .i64 k3,.int .i64 n3,.string t3,.slice a3 m3 c3,.slice a4 m4 c4] 27)).heap.size≤w.heap.size+1);omega) _ _ _ _ _)).weak (fun b _ hb=>by have h1:(w3.alloc (.cells #[.int .i64 k3,.int .i64 n3,.string t3,.slice a3 m3 c3,.slice a4 m4 c4] 27)).heap.size≤b:=hb;show w.heap.size≤b;omega)
end Go.Proofs.YtapcmbbhhclepaaGreatDoor
namespace Go.Proofs.YtapcmbbhhclepaaGreatDoor
open Go.RowKit
set_option maxHeartbeats 2000000 in
theorem hashed_any {v:Value} {x:V} {w:World} {S:Nat→Prop} (h:Is w S v x) (hr:V.right x=true) (hwt:V.wt x≤10000000) (hc:Xr.cost x≤900000) (hT:Tabs w) :
    Calls Tryz.prog 27 #[v] w fun e w'=>e=.returned (.bool (Xr.hashed x))∧Below w.heap.size w w':=by
  obtain ⟨kv,lv,rfl,h2,h8,_⟩:=id h.open;obtain ⟨a1,c1,rfl,_⟩:=id h2;obtain ⟨a2,c2,_,rfl,_⟩:=id h8;clear h2 h8;have b0:=below_alloc w (.cells #[.int .i64 x.kind,.int .i64 x.num,.string x.text,.slice a1 x.keys.length c1,.slice a2 x.list.length c2] 27);have HI:=hide (h.below b0);have HT:=hide (hT.below b0);have B0:=hide b0;have x0:=hide (b5_new w (.int .i64 x.kind) (.int .i64 x.num) (.string x.text) (.slice a1 x.keys.length c1) (.slice a2 x.list.length c2) w.heap.size rfl);have HWT:=hide hwt;have HR:=hide hr;have HC:=hide hc;unfold Xr.hashed Xr.told;obtain ⟨K,hK⟩:∃ K,Xr.hash x=K:=⟨_,rfl⟩;rw [hK];have HKK:=hide hK;have hw1:=Xr.wt_getD x kHashes;clear b0 h hr hwt hc hK hT;obtain ⟨y,hy⟩:∃ y,(V.get x kHashes).getD V.nul=y:=⟨_,rfl⟩;rw [hy] at hw1 ⊢;have HYY:=hide hy;have HYW:=hide hw1;clear hy hw1;obtain ⟨z,hz⟩:∃ z,(V.get y kSum).getD V.nul=z:=⟨_,rfl⟩;rw [hz];have HZZ:=hide hz;clear hz;obtain ⟨q,hq⟩:∃ q,(z.text.toList == K.toList)=q:=⟨_,rfl⟩;rw [hq];have HQ:=hide hq;clear hq;obtain ⟨R,hR⟩:∃ R,(decide (z.kind=3) && q)=R:=⟨_,rfl⟩;rw [hR];have HRR:=hide hR;clear hR;go_enter Tryz.func27,Tryz.ntmps27
  go_wp2_with fail
  refine (getX_all HI.out kHashes (Nat.le_trans HWT.out (by decide))).mono ?_;rintro e w1 ⟨k,n,t,d1,n1,e1,d2,n2,e2,is,rfl,his0,his,b1⟩;rw [HYY.out] at his;have b12:=below_alloc w1 (.cells #[.int .i64 k,.int .i64 n,.string t,.slice d1 n1 e1,.slice d2 n2 e2] 27);have b2:=bthen b1 b12;have I2:=hide (his.below b12);have L2:=hide (bthen B0.out b2);have X2:=hide (x0.out.keep b2);have J2:=hide (HI.out.below b2);have T2:=hide (HT.out.below b2);clear his b1 b12 b2 his0
  go_wp2_with fail
  refine (getX_all I2.out kSum (Nat.le_trans HYW.out (Nat.le_trans HWT.out (by decide)))).mono ?_;rintro e w3 ⟨k',n',t',f1,m1,g1,f2,m2,g2,is',rfl,hiz0,hiz,b3⟩;rw [HZZ.out] at hiz;obtain ⟨kv,lv,hv,hks,hls,_⟩:=hiz.open;obtain ⟨ax,cx,hks2,_⟩:=hks;obtain ⟨ay,cy,_,hls2,_⟩:=hls;subst hks2 hls2;simp only [Value.agg.injEq,Array.mk.injEq,List.cons.injEq,and_true,Value.int.injEq,Value.string.injEq,true_and,Value.slice.injEq] at hv;obtain ⟨rfl,rfl,rfl,⟨rfl,rfl,rfl⟩,rfl,rfl,rfl⟩:=hv;have b34:=below_alloc w3 (.cells #[.int .i64 z.kind,.int .i64 z.num,.string z.text,.slice f1 z.keys.length g1,.slice f2 z.list.length g2] 27);have b4:=bthen b3 b34;have Z5:=hide (b5_new w3 (.int .i64 z.kind) (.int .i64 z.num) (.string z.text) (.slice f1 z.keys.length g1) (.slice f2 z.list.length g2) _ rfl);have L5:=hide (bthen L2.out b4);have X5:=hide (X2.out.keep b4);have J5:=hide (J2.out.below b4);have T5:=hide (T2.out.below b4);clear hiz b3 b34 b4 hiz0
  go_upto_region 3 with fail
  generalize w3.alloc (.cells #[.int .i64 z.kind,.int .i64 z.num,.string z.text,.slice f1 z.keys.length g1,.slice f2 z.list.length g2] 27)=w5 at Z5 L5 X5 J5 T5 ⊢;generalize w3.heap.size=gz at Z5 ⊢
  by_cases h3:z.kind=3
  · have H3:Hid ((z.kind == 3)=true):=hide (by rw [h3];rfl)
    have e1:R=q:=by rw [← HRR.out,h3];simp
    have HE:=hide e1;clear h3 e1;refine' wp_region_facts [(fun _ _ v _=>v=(.pointer (some ⟨gz,0,none⟩))),(fun _ _ v _=>v=(.int .i64 z.kind)),(fun _ _ v _=>v=(.bool true)),(fun _ _ v _=>v=(.bool true)),(fun _ _ v _=>v=(.pointer (some ⟨gz,2,none⟩))),(fun _ _ v _=>v=(.string z.text)),(fun _ _ v _=>v=(.agg #[.int .i64 x.kind,.int .i64 x.num,.string x.text,.slice a1 x.keys.length c1,.slice a2 x.list.length c2])),(fun _ _ v _=>v=(.string K)),(fun _ _ v _=>v=(.bool q)),(fun _ _ v _=>v=(.bool q))] (by kernel_rfl) rfl ?hA (by kernel_rfl) (by kernel_rfl) (by kernel_rfl) rfl ?mono ?steps ?last
    case hA =>
      intro vs;simp only [puts,Act.put,List.setIfInBounds_toArray,List.set_cons_zero,List.set_cons_succ,Nat.zero_add,Nat.reduceAdd];rfl
    case mono=>exact ⟨mono_eq _,mono_eq _,mono_eq _,mono_eq _,mono_eq _,mono_eq _,mono_eq _,mono_eq _,mono_eq _,mono_eq _,trivial⟩
    case steps =>
      intro Q';refine And.intro ?_ <| And.intro ?_ <| And.intro ?_ <| And.intro ?_ <| And.intro ?_ <| And.intro ?_ <| And.intro ?_ <| And.intro ?_ <| And.intro ?_ <| And.intro ?_ <| trivial
      all_goals
        intro vs lo hi w' hM hd K' hK;dsimp only at hK ⊢;simp only [Act.put,List.setIfInBounds_toArray,List.set_cons_zero,List.set_cons_succ] at hK
      · go_simp
        exact hK.out _ _ rfl (Below.refl _ _)
      · have e0:vs 0=(.pointer (some ⟨gz,0,none⟩)):=hd 0 (by kernel_rfl)
        simp only [e0] at hK ⊢;clear e0;obtain ⟨p0,p1,p2,p3,p4⟩:=(Z5.out.keep hM).cells;go_simp;exact hK.out _ _ rfl (Below.refl _ _)
      · have e1:vs 1=(.int .i64 z.kind):=hd 1 (by kernel_rfl)
        simp only [e1] at hK ⊢;clear e1;have h3:=H3.out;go_simp;exact hK.out _ _ rfl (Below.refl _ _)
      · have e2:vs 2=(.bool true):=hd 2 (by kernel_rfl)
        simp only [e2] at hK ⊢;clear e2;go_simp;exact hK.out _ _ rfl (Below.refl _ _)
      · have e3:vs 3=(.bool true):=hd 3 (by kernel_rfl)
        simp only [e3] at hK ⊢;clear e3;go_simp;exact hK.out _ _ rfl (Below.refl _ _)
      · have e4:vs 4=(.pointer (some ⟨gz,2,none⟩)):=hd 4 (by kernel_rfl)
        have e3:vs 3=(.bool true):=hd 3 (by kernel_rfl);simp only [e4,e3] at hK ⊢;clear e4 e3;obtain ⟨p0,p1,p2,p3,p4⟩:=(Z5.out.keep hM).cells;go_simp;exact hK.out _ _ rfl (Below.refl _ _)
      · have e3:vs 3=(.bool true):=hd 3 (by kernel_rfl)
        simp only [e3] at hK ⊢;clear e3;obtain ⟨p0,p1,p2,p3,p4⟩:=(X5.out.keep hM).cells;go_simp;exact hK.out _ _ rfl (Below.refl _ _)
      · have e6:vs 6=(.agg #[.int .i64 x.kind,.int .i64 x.num,.string x.text,.slice a1 x.keys.length c1,.slice a2 x.list.length c2]):=hd 6 (by kernel_rfl)
        have e3:vs 3=(.bool true):=hd 3 (by kernel_rfl);simp only [e6,e3] at hK ⊢;clear e6 e3;go_simp;refine (hash_any (J5.out.below hM) HR.out HWT.out HC.out (T5.out.below hM)).mono ?_;rintro e w7 ⟨rfl,b7⟩;rw [HKK.out];exact hK.out _ _ rfl b7
      · have e5:vs 5=(.string z.text):=hd 5 (by kernel_rfl)
        have e7:vs 7=(.string K):=hd 7 (by kernel_rfl);have e3:vs 3=(.bool true):=hd 3 (by kernel_rfl);simp only [e5,e7,e3] at hK ⊢;clear e5 e7 e3;have hq:=HQ.out;go_simp;exact hK.out _ _ rfl (Below.refl _ _)
      · have e3:vs 3=(.bool true):=hd 3 (by kernel_rfl)
        have e8:vs 8=(.bool q):=hd 8 (by kernel_rfl);simp only [e3,e8] at hK ⊢;clear e3 e8;go_simp;exact hK.out _ _ rfl (Below.refl _ _)
    case last =>
      intro vs lo hi w' hM hlo hap hall K' Q' hK;have h9:vs 9=(.bool q):=hall.2.2.2.2.2.2.2.2.2.1;dsimp only;simp only [h9];clear h9 hall hap hlo;go_simp;refine hK.out _ _ ?_;clear hK
      try go_wp2_with fail
      go_ret
      exact ⟨by rw [HE.out];rfl,bthen L5.out hM⟩
  · have H3:Hid ((z.kind == 3)=false):=hide (by simpa using h3)
    have e1:R=false:=by rw [← HRR.out];simp [h3]
    have HE:=hide e1;clear h3 e1;refine' wp_region_facts [(fun _ _ v _=>v=(.pointer (some ⟨gz,0,none⟩))),(fun _ _ v _=>v=(.int .i64 z.kind)),(fun _ _ v _=>v=(.bool false)),(fun _ _ v _=>v=(.bool false)),(fun _ _ v _=>v=undef),(fun _ _ v _=>v=undef),(fun _ _ v _=>v=undef),(fun _ _ v _=>v=undef),(fun _ _ v _=>v=undef),(fun _ _ v _=>v=(.bool false))] (by kernel_rfl) rfl ?hA (by kernel_rfl) (by kernel_rfl) (by kernel_rfl) rfl ?mono ?steps ?last
    case hA =>
      intro vs;simp only [puts,Act.put,List.setIfInBounds_toArray,List.set_cons_zero,List.set_cons_succ,Nat.zero_add,Nat.reduceAdd];rfl
    case mono=>exact ⟨mono_eq _,mono_eq _,mono_eq _,mono_eq _,mono_eq _,mono_eq _,mono_eq _,mono_eq _,mono_eq _,mono_eq _,trivial⟩
    case steps =>
      intro Q';refine And.intro ?_ <| And.intro ?_ <| And.intro ?_ <| And.intro ?_ <| And.intro ?_ <| And.intro ?_ <| And.intro ?_ <| And.intro ?_ <| And.intro ?_ <| And.intro ?_ <| trivial
      all_goals
        intro vs lo hi w' hM hd K' hK;dsimp only at hK ⊢;simp only [Act.put,List.setIfInBounds_toArray,List.set_cons_zero,List.set_cons_succ] at hK
      · go_simp
        exact hK.out _ _ rfl (Below.refl _ _)
      · have e0:vs 0=(.pointer (some ⟨gz,0,none⟩)):=hd 0 (by kernel_rfl)
        simp only [e0] at hK ⊢;clear e0;obtain ⟨p0,p1,p2,p3,p4⟩:=(Z5.out.keep hM).cells;go_simp;exact hK.out _ _ rfl (Below.refl _ _)
      · have e1:vs 1=(.int .i64 z.kind):=hd 1 (by kernel_rfl)
        simp only [e1] at hK ⊢;clear e1;have h3:=H3.out;go_simp;exact hK.out _ _ rfl (Below.refl _ _)
      · have e2:vs 2=(.bool false):=hd 2 (by kernel_rfl)
        simp only [e2] at hK ⊢;clear e2;go_simp;exact hK.out _ _ rfl (Below.refl _ _)
      · have e3:vs 3=(.bool false):=hd 3 (by kernel_rfl)
        simp only [e3] at hK ⊢;clear e3;go_simp;exact hK.out _ _ rfl (Below.refl _ _)
      · have e4:vs 4=undef:=hd 4 (by kernel_rfl)
        have e3:vs 3=(.bool false):=hd 3 (by kernel_rfl);simp only [e4,e3] at hK ⊢;clear e4 e3;go_simp;exact hK.out _ _ rfl (Below.refl _ _)
      · have e3:vs 3=(.bool false):=hd 3 (by kernel_rfl)
        simp only [e3] at hK ⊢;clear e3;go_simp;exact hK.out _ _ rfl (Below.refl _ _)
      · have e6:vs 6=undef:=hd 6 (by kernel_rfl)
        have e3:vs 3=(.bool false):=hd 3 (by kernel_rfl);simp only [e6,e3] at hK ⊢;clear e6 e3;go_simp;exact hK.out _ _ rfl (Below.refl _ _)
      · have e5:vs 5=undef:=hd 5 (by kernel_rfl)
        have e7:vs 7=undef:=hd 7 (by kernel_rfl);have e3:vs 3=(.bool false):=hd 3 (by kernel_rfl);simp only [e5,e7,e3] at hK ⊢;clear e5 e7 e3;go_simp;exact hK.out _ _ rfl (Below.refl _ _)
      · have e3:vs 3=(.bool false):=hd 3 (by kernel_rfl)
        have e8:vs 8=undef:=hd 8 (by kernel_rfl);simp only [e3,e8] at hK ⊢;clear e3 e8;go_simp;exact hK.out _ _ rfl (Below.refl _ _)
    case last =>
      intro vs lo hi w' hM hlo hap hall K' Q' hK;have h9:vs 9=(.bool false):=hall.2.2.2.2.2.2.2.2.2.1;dsimp only;simp only [h9];clear h9 hall hap hlo;go_simp;refine hK.out _ _ ?_;clear hK
      try go_wp2_with fail
      go_ret
      exact ⟨by rw [HE.out];rfl,bthen L5.out hM⟩
end Go.Proofs.YtapcmbbhhclepaaGreatDoor
namespace Go.Proofs.YtapcmbbhhclepaaGreatDoor
open Go.RowKit
set_option maxHeartbeats 4000000 in
theorem val_text_yes (s:ByteArray) (a d:Nat) (u:List UInt8) (w:World) (h:At s a u) (hs:s.size≤65536) (H91:(u.head? == some 91)=false) (H123:(u.head? == some 123)=false) (H34:(u.head? == some 34)=true) (tt:List UInt8) (nn:Nat) (hun:Gm.unquote u=some (tt,nn)) :
    Calls Tryz.prog 62 #[St s a 0 d] w fun e' w'=>e'=.returned (.tuple #[St s (a+nn) 0 d,.agg #[.int .i64 3,.int .i64 0,.string ⟨tt.toArray⟩,.slice none 0 0,.slice none 0 0]])∧At s (a+nn) (u.drop nn)∧Below w.heap.size w w':=by
  have b0:=bthen (bthen (below_alloc w (.cells #[.string s,.int .i64 (a:Nat),.int .i64 0,.int .i64 (d:Nat)] 65)) (below_alloc _ (.cells #[.string ⟨#[]⟩,.int .i64 0,.int .i64 0,.int .i64 0] 65))) (below_alloc _ (.cells #[.int .i64 0,.int .i64 0,.string ⟨#[]⟩,.slice none 0 0,.slice none 0 0] 27));have x0:=((b4_new w (.string s) (.int .i64 (a:Nat)) (.int .i64 0) (.int .i64 (d:Nat)) w.heap.size rfl).keep (below_alloc _ (.cells #[.string ⟨#[]⟩,.int .i64 0,.int .i64 0,.int .i64 0] 65))).keep (below_alloc _ (.cells #[.int .i64 0,.int .i64 0,.string ⟨#[]⟩,.slice none 0 0,.slice none 0 0] 27));have y0:=(b4_new (w.alloc (.cells #[.string s,.int .i64 (a:Nat),.int .i64 0,.int .i64 (d:Nat)] 65)) (.string ⟨#[]⟩) (.int .i64 0) (.int .i64 0) (.int .i64 0) (w.heap.size+1) (by simp)).keep (below_alloc _ (.cells #[.int .i64 0,.int .i64 0,.string ⟨#[]⟩,.slice none 0 0,.slice none 0 0] 27));have v0:=b5_new ((w.alloc (.cells #[.string s,.int .i64 (a:Nat),.int .i64 0,.int .i64 (d:Nat)] 65)).alloc (.cells #[.string ⟨#[]⟩,.int .i64 0,.int .i64 0,.int .i64 0] 65)) (.int .i64 0) (.int .i64 0) (.string ⟨#[]⟩) (.slice none 0 0) (.slice none 0 0) (w.heap.size+2) (by simp);have hz0:w.heap.size+3≤(((w.alloc (.cells #[.string s,.int .i64 (a:Nat),.int .i64 0,.int .i64 (d:Nat)] 65)).alloc (.cells #[.string ⟨#[]⟩,.int .i64 0,.int .i64 0,.int .i64 0] 65)).alloc (.cells #[.int .i64 0,.int .i64 0,.string ⟨#[]⟩,.slice none 0 0,.slice none 0 0] 27)).heap.size:=by simp
  obtain ⟨w0,hw0⟩:∃ w0,w0=(((w.alloc (.cells #[.string s,.int .i64 (a:Nat),.int .i64 0,.int .i64 (d:Nat)] 65)).alloc (.cells #[.string ⟨#[]⟩,.int .i64 0,.int .i64 0,.int .i64 0] 65)).alloc (.cells #[.int .i64 0,.int .i64 0,.string ⟨#[]⟩,.slice none 0 0,.slice none 0 0] 27)):=⟨_,rfl⟩;rw [← hw0] at b0 x0 y0 v0 hz0;have W0:=hide hw0;have X0:=hide x0;have Y0:=hide y0;have U0:=hide v0;have H0:=hide b0;have N0:=hide hz0;clear x0 y0 v0 b0 hz0 hw0;go_enter Tryz.func62,Tryz.ntmps62
  go_upto_region 1 with fail
  rw [← W0.out];clear W0;obtain ⟨x0,x1,x2,x3⟩:=X0.out.cells
  go_wp2_with fail
  refine (is_any s a d 91 u _ h (by omega) false (by rw [H91])).mono ?_;rintro e w1 ⟨rfl,b1⟩;clear x0 x1 x2 x3;have X1:=hide (X0.out.keep b1);have Y1:=hide (Y0.out.keep b1);have U1:=hide (U0.out.keep b1);have H1:=hide (bthen H0.out b1);have N1:=hide (Nat.le_trans N0.out (Below.size b1));clear X0 Y0 U0 H0 N0 b1;obtain ⟨x0,x1,x2,x3⟩:=X1.out.cells
  go_wp2_with fail
  refine (is_any s a d 123 u _ h (by omega) false (by rw [H123])).mono ?_;rintro e w2 ⟨rfl,b2⟩;clear x0 x1 x2 x3;have X2:=hide (X1.out.keep b2);have Y2:=hide (Y1.out.keep b2);have U2:=hide (U1.out.keep b2);have H2:=hide (bthen H1.out b2);have N2:=hide (Nat.le_trans N1.out (Below.size b2));clear X1 Y1 U1 H1 N1 b2;obtain ⟨x0,x1,x2,x3⟩:=X2.out.cells
  go_wp2_with fail
  refine (is_any s a d 34 u _ h (by omega) true (by rw [H34])).mono ?_;rintro e w3 ⟨rfl,b3⟩;clear x0 x1 x2 x3;have X3:=hide (X2.out.keep b3);have Y3:=hide (Y2.out.keep b3);have U3:=hide (U2.out.keep b3);have H3:=hide (bthen H2.out b3);have N3:=hide (Nat.le_trans N2.out (Below.size b3));clear X2 Y2 U2 H2 N2 b3;obtain ⟨x0,x1,x2,x3⟩:=X3.out.cells
  go_wp2_with fail
  refine (str_yes s a d u tt nn _ h (by omega) hun).mono ?_;rintro e w4 ⟨rfl,hA,b4⟩;clear x0 x1 x2 x3;have X4:=hide (X3.out.keep b4);have Y4:=hide (Y3.out.keep b4);have U4:=hide (U3.out.keep b4);have H4:=hide (bthen H3.out b4);have N4:=hide (Nat.le_trans N3.out (Below.size b4));clear X3 Y3 U3 H3 N3 b4
  go_upto_region 15 with fail
  have ba:=below_alloc w4 (.cells #[.string s,.int .i64 ((a:Int)+(nn:Int)),.int .i64 0,.int .i64 (d:Nat)] 65);have S45:=hide (b4_new w4 (.string s) (.int .i64 ((a:Int)+(nn:Int))) (.int .i64 0) (.int .i64 (d:Nat)) w4.heap.size rfl);have X45:=hide (X4.out.keep ba);have Y45:=hide (Y4.out.keep ba);have U45:=hide (U4.out.keep ba);have H45:=hide (bthen H4.out ba);have N45:=hide (Nat.le_trans N4.out (Below.size ba));clear X4 Y4 U4 H4 N4 ba;obtain ⟨g9,hg9⟩:∃ g9,g9=w4.heap.size:=⟨_,rfl⟩;generalize w4.alloc (.cells #[.string s,.int .i64 ((a:Int)+(nn:Int)),.int .i64 0,.int .i64 (d:Nat)] 65)=w45 at X45 Y45 U45 H45 N45 S45 ⊢;rw [← hg9] at S45 ⊢;clear hg9;obtain ⟨KEY,hKEY⟩:∃ KEY:ByteArray,KEY=⟨tt.toArray⟩:=⟨_,rfl⟩;rw [← hKEY];have HKE:=hide hKEY;clear hKEY;refine' wp_region_factsT 3 [(fun _ _ v _=>v=.agg #[.string s,.int .i64 ((a:Int)+(nn:Int)),.int .i64 0,.int .i64 (d:Nat)]),(fun _ _ v _=>v=.string KEY),(fun _ _ v _=>v=.agg #[.int .i64 3,.int .i64 0,.string KEY,.slice none 0 0,.slice none 0 0])] (by kernel_rfl) ?hA (by kernel_rfl) rfl ?mono ?steps ?last
  case hA =>
    intro vs;simp only [puts,Act.put,List.setIfInBounds_toArray,List.set_cons_zero,List.set_cons_succ,Nat.zero_add,Nat.reduceAdd];rfl
  case mono=>exact ⟨mono_eq _,mono_eq _,mono_eq _,trivial⟩
  case steps =>
    intro Q';refine And.intro ?_ <| And.intro ?_ <| And.intro ?_ <| trivial
    all_goals
      intro vs lo hi w' hM hd K' hK;dsimp only at hK ⊢;simp only [Act.put,List.setIfInBounds_toArray,List.set_cons_zero,List.set_cons_succ] at hK
    · obtain ⟨x0,x1,x2,x3⟩:=(S45.out.keep hM).cells
      go_simp;exact hK.out _ _ rfl (Below.refl _ _)
    · go_simp
      exact hK.out _ _ rfl (Below.refl _ _)
    · have e1:vs 1=.string KEY:=hd 1 (by kernel_rfl)
      simp only [e1] at hK ⊢;clear e1;go_simp;refine (refStr_any KEY w').mono ?_;rintro e w9 ⟨rfl,b9⟩;exact hK.out _ _ rfl b9
  case last =>
    intro vs lo hi w' hM hlo hall;obtain ⟨e0,e1,e2,_⟩:=hall;simp only [List.drop_succ_cons,List.drop_zero]
    try dsimp only
    simp only [e0,e1,e2];clear e0 e1 e2 hlo;have Y46:=hide (Y45.out.keep hM);have U46:=hide (U45.out.keep hM);have H46:=hide (bthen H45.out hM);clear hM Y45 U45 H45 S45 X45;obtain ⟨z0,z1,z2,z3⟩:=Y46.out.cells;obtain ⟨q0,q1,q2,q3,q4⟩:=U46.out.cells;have fY:=Y46.out.free;have fY0:=fY 0;have fY1:=fY 1;have fY2:=fY 2;have fY3:=fY 3;clear fY;have fU:=U46.out.free;have fU0:=fU 0;have fU1:=fU 1;have fU2:=fU 2;have fU3:=fU 3;have fU4:=fU 4;clear fU
    go_wp2_with fail
    obtain ⟨hy,hu,hb⟩:=fin45 Y46.out U46.out (by omega) (B:=w.heap.size) (by omega) (by omega) (.string s) (.int .i64 ((a:Int)+(nn:Int))) (.int .i64 0) (.int .i64 (d:Nat)) (.int .i64 3) (.int .i64 0) (.string KEY) (.slice none 0 0) (.slice none 0 0);clear z0 z1 z2 z3 q0 q1 q2 q3 q4;obtain ⟨y0,y1,y2,y3⟩:=hy.cells;obtain ⟨p0,p1,p2,p3,p4⟩:=hu.cells;have hbx:=H46.out.trans hb;refine bodyPost_ret (v:=.tuple #[.agg #[.string s,.int .i64 ((a:Int)+(nn:Int)),.int .i64 0,.int .i64 (d:Nat)],.agg #[.int .i64 3,.int .i64 0,.string KEY,.slice none 0 0,.slice none 0 0]]) (by simp [results,Tryz.results62,go_sem,y0,y1,y2,y3,p0,p1,p2,p3,p4]) rfl ?_;exact ⟨by first | (rw [HKE.out];done) | (rw [HKE.out];rfl),hA,hbx⟩
end Go.Proofs.YtapcmbbhhclepaaGreatDoor
namespace Go.Proofs.YtapcmbbhhclepaaGreatDoor
open Go.RowKit
theorem keepsB (w:World) (g:Nat) (v0 v1 v2 v3:Value) {P:Nat→Prop} (h:∀ b,P b→b≠g):Keeps P w ((((w.setCell ⟨g,0,none⟩ v0).setCell ⟨g,1,none⟩ v1).setCell ⟨g,2,none⟩ v2).setCell ⟨g,3,none⟩ v3):=fun b hb _=>by
  have hne:∀ o:Nat,b≠(⟨g,o,none⟩:Addr).block:=fun o=>h b hb
  rw [Below.heap_setCell _ _ _ _ (hne 3),Below.heap_setCell _ _ _ _ (hne 2),Below.heap_setCell _ _ _ _ (hne 1),Below.heap_setCell _ _ _ _ (hne 0)]
theorem keepsV (w:World) (g:Nat) {v0 v1 v2 v3 v4:Value} {P:Nat→Prop} (h:∀ b,P b→b≠g):Keeps P w (((((w.setCell ⟨g,0,none⟩ v0).setCell ⟨g,1,none⟩ v1).setCell ⟨g,2,none⟩ v2).setCell ⟨g,3,none⟩ v3).setCell ⟨g,4,none⟩ v4):=fun b hb _=>by
  have hne:∀ o:Nat,b≠(⟨g,o,none⟩:Addr).block:=fun o=>h b hb
  rw [Below.heap_setCell _ _ _ _ (hne 4),Below.heap_setCell _ _ _ _ (hne 3),Below.heap_setCell _ _ _ _ (hne 2),Below.heap_setCell _ _ _ _ (hne 1),Below.heap_setCell _ _ _ _ (hne 0)]
end Go.Proofs.YtapcmbbhhclepaaGreatDoor
