/-
  What this claim takes of the earlier layers' texts: DRefC DRefD SRefB.
-/
import Derived.Test.YtapcmbbhhclepaaGreatDoorM5
set_option linter.unusedVariables false
set_option linter.unusedSimpArgs false
set_option maxRecDepth 100000
namespace Go.Proofs.YtapcmbbhhclepaaGreatDoor.Dig
open Go.RowKit
def RowW (w:World) (g:Nat) (l:List Int):Prop:=g < w.heap.size∧∀ i,i < 8→w.cell? ⟨g,i,none⟩=some (w32 (l[i]?.getD 0))∧w.frozen? ⟨g,i,none⟩=false
theorem RowW.below {w w':World} {g:Nat} {l:List Int} (h:RowW w g l) (b:Below w.heap.size w w'):RowW w' g l :=
  ⟨Nat.lt_of_lt_of_le h.1 b.size,fun i hi=>⟨(b.cell (p:=⟨g,i,none⟩) h.1).trans (h.2 i hi).1,(b.frozen (p:=⟨g,i,none⟩) h.1).trans (h.2 i hi).2⟩⟩
theorem RowW.set {w:World} {g:Nat} {l:List Int} (h:RowW w g l) (hl:l.length=8) (j:Nat) (hj:j < 8) (x:Int):RowW (w.setCell ⟨g,j,none⟩ (w32 x)) g (l.set j x):=by
  refine ⟨by simpa [World.setCell] using h.1,fun i hi=>⟨?_,by rw [World.frozen?_setCell];exact (h.2 i hi).2⟩⟩
  by_cases e:j=i
  · subst e
    rw [World.cell?_setCell_same _ _ _ (h.2 j hj).1,List.getElem?_set,if_pos rfl,if_pos (by omega)];rfl
  · rw [World.cell?_setCell_other _ _ _ _ (fun hh=>e (by injection hh)),List.getElem?_set,if_neg e]
    exact (h.2 i hi).1
theorem RowW.at {w:World} {g:Nat} {a b c d e f i h:Int} (r:RowW w g [a,b,c,d,e,f,i,h]) :
    w.cell? ⟨g,0,none⟩=some (.int .u32 a)∧w.cell? ⟨g,1,none⟩=some (.int .u32 b)∧w.cell? ⟨g,2,none⟩=some (.int .u32 c)∧w.cell? ⟨g,3,none⟩=some (.int .u32 d)∧w.cell? ⟨g,4,none⟩=some (.int .u32 e)∧w.cell? ⟨g,5,none⟩=some (.int .u32 f)∧w.cell? ⟨g,6,none⟩=some (.int .u32 i)∧w.cell? ⟨g,7,none⟩=some (.int .u32 h) :=
  ⟨(r.2 0 (by omega)).1,(r.2 1 (by omega)).1,(r.2 2 (by omega)).1,(r.2 3 (by omega)).1,(r.2 4 (by omega)).1,(r.2 5 (by omega)).1,(r.2 6 (by omega)).1,(r.2 7 (by omega)).1⟩
theorem own_row8 {w:World} {base c:Nat} {a:Option Addr} {l:List Int} (h:w.ownsRow base 93 1 (.slice a 8 c) 8 (l.map w32)):∃ g,a=some ⟨g,0,none⟩∧base≤g∧8≤c∧RowW w g l:=by
  obtain ⟨g,rfl,h1,h2,h3,h4,h5⟩:=own_read h (by omega);obtain ⟨_,hh⟩:=h;rcases hh with ⟨hh,_⟩ | ⟨g',cap,cur,hv,hg,hh,_⟩
  · cases hh
  · simp only [Value.slice.injEq,Option.some.injEq,Addr.mk.injEq] at hv
    obtain ⟨⟨rfl,_,_⟩,_,rfl⟩:=hv;exact ⟨g,rfl,h1,h3,h2,fun i hi=>⟨h5 i hi,frozen_of_row w g i cur _ hh⟩⟩
def plusR (n s:List Int):Nat→List Int
  | 0=>n
  | k+1=>(plusR n s k).set k (((plusR n s k)[k]?.getD 0+s[k]?.getD 0) % 4294967296)
theorem plusR_length (n s:List Int):∀ k,(plusR n s k).length=n.length
  | 0=>rfl
  | k+1=>by simp [plusR,plusR_length n s k]
theorem plusR_eq (n s:List Int) (hn:n.length=8) (hs:s.length=8):plusR n s 8=Dg.plus s n 8:=by
  obtain ⟨a,b,c,d,e,f,g,i,rfl⟩:=Dg.eight hn;obtain ⟨a',b',c',d',e',f',g',i',rfl⟩:=Dg.eight hs;simp [plusR,Dg.plus,Int.add_comm]
def EightW (l:List Int):Fact:=fun lo hi v w=>v=.slice (some ⟨lo,0,none⟩) 8 8∧Hid (RowW w lo l)
theorem eightW_fact (a b c d e f i h:Int) (w:World):EightW [a,b,c,d,e,f,i,h] w.heap.size (w.alloc (.cells #[.int .u32 a,.int .u32 b,.int .u32 c,.int .u32 d,.int .u32 e,.int .u32 f,.int .u32 i,.int .u32 h] 93)).heap.size (.slice (some ⟨w.heap.size,0,none⟩) 8 8) (w.alloc (.cells #[.int .u32 a,.int .u32 b,.int .u32 c,.int .u32 d,.int .u32 e,.int .u32 f,.int .u32 i,.int .u32 h] 93)):=by
  refine ⟨rfl,by simp,fun j hj=>?_⟩;have hb:=blk_new w 93 #[.int .u32 a,.int .u32 b,.int .u32 c,.int .u32 d,.int .u32 e,.int .u32 f,.int .u32 i,.int .u32 h];refine ⟨(hb.cell j).trans ?_,hb.frozen j⟩;have:j=0∨j=1∨j=2∨j=3∨j=4∨j=5∨j=6∨j=7:=by omega
  rcases this with rfl | rfl | rfl | rfl | rfl | rfl | rfl | rfl <;> rfl
theorem RowW.drewN {w:World} {g:Nat} {l:List Int} (h:RowW w g l) (n:Nat):RowW (w.drewN n) g l:=h
set_option maxRecDepth 100000 in
set_option maxHeartbeats 4000000 in
theorem refBlock_any (hb hcap b o cap:Nat) (s bs:List Int) (w:World) (hs:s.length=8) (hh:RowW w hb s) (hhc:8≤hcap) (hl:bs.length=64) (hcap2:64≤cap) (hr:Rd w b o bs) (h8:Dg.B8 bs) :
    Calls Tryz.prog 102 #[.slice (some ⟨hb,0,none⟩) 8 hcap,.slice (some ⟨b,o,none⟩) 64 cap] w fun e w'=>∃ g c,e=.returned (.slice (some ⟨g,0,none⟩) 8 c)∧8≤c∧w.heap.size≤g∧RowW w' g (Dg.block s bs)∧Below w.heap.size w w':=by
  have HH:=hide hh;have HS:=hide hs;have HL:=hide hl;have HR:=hide hr;have H8:=hide h8;clear hh hs hl hr h8;go_enter Tryz.func102,Tryz.ntmps102
  go_wp2_with fail
  refine (refWords_any b o cap bs _ HL.out hcap2 HR.out H8.out).mono ?_;rintro e w1 ⟨wa,wc,rfl,hown1,b1⟩;obtain ⟨W,hW⟩:∃ W,W=Dg.spread bs:=⟨_,rfl⟩;rw [← hW] at hown1;obtain ⟨wb,rfl,hwb1,hwb2,hwc,hwm,hwr⟩:=own_read hown1 (by omega);have HW:=hide hW;have HWr:=hide hwr;have HB1:=hide b1;clear hW hown1 hwr b1
  go_wp2_with fail
  refine (keys_any _).mono ?_;rintro e w2 ⟨rfl,hw2⟩;have b2:Below w1.heap.size w1 w2:=by rw [hw2];exact (Below.refl _ _).alloc (Nat.le_refl _) _
  have hk2:Blk w2 w1.heap.size 93 (wds Dg.K):=by rw [hw2];exact blk_new _ _ _
  obtain ⟨kb,hkb⟩:∃ kb,kb=w1.heap.size:=⟨_,rfl⟩;rw [← hkb] at hk2 ⊢;have HK2:=hide hk2;have HB2:=hide (bthen HB1.out b2);have HB12:=hide b2;have HH2:=hide (HH.out.below (bthen HB1.out b2));clear hw2 b2 hk2 hkb
  obtain ⟨a3,c3,w3,hrun,hown3,hgr⟩:=append_one (w:=w2) 111 93 (.int .u32 0) 4 Tryz.underlying111 infoWord rfl w.heap.size (.slice none 0 0) 0 [] (World.ownsRow_nil ..) (lo:=hb) (m:=8) (c:=hcap) (news:=s.map w32) (by rw [List.length_map,HS.out]) (fun j u hu=>by
      have hj:j < 8:=by have:=(List.getElem?_eq_some_iff.1 hu).1;rw [List.length_map,HS.out] at this;exact this
      rw [(HH2.out.2 j hj).1];rw [List.getElem?_map,List.getElem?_eq_getElem (by rw [HS.out];exact hj)] at hu;rw [← hu,List.getElem?_eq_getElem (by rw [HS.out];exact hj)]
      rfl) (fun u hu=>by simp only [List.mem_map] at hu;obtain ⟨y,_,rfl⟩:=hu;rfl) (by omega) (by omega) HB2.out.size
  rw [Nat.zero_add,List.nil_append] at hown3;rw [Nat.zero_add] at hrun
  go_wp2_with (at_builtin;refine wpList_append_run rfl _ _ 111 rfl _ _ rfl rfl hrun ?_)
  clear hrun;have b3:Below w2.heap.size w2 w3:=(Below.refl _ _).grown hgr (Nat.le_refl _) (fun q hq=>by cases hq);obtain ⟨g3,rfl,hg3,hc3,hrow3⟩:=own_row8 hown3;have HB3:=hide (bthen HB2.out b3);have HK3:=hide (HK2.out.below' b3);have HW3:Hid (∀ i,i < 64→w3.cell? ⟨wb,i,none⟩=some (w32 (W[i]?.getD 0))):=fun i hi=>((bthen HB12.out b3).cell (p:=⟨wb,i,none⟩) hwb2).trans (HWr.out i hi)
  have HH3:=hide (HH2.out.below b3);have HR3:=hide hrow3;have HWl:Hid (W.length=64):=by rw [HW.out];exact Dg.spread_length bs
  have hwb3:wb < w3.heap.size:=by have:=(bthen HB12.out b3).size;omega
  clear hown3 hgr b3 hrow3 HK2 HWr HB2 HB12
  go_loopw [7,8] (fun v i wr=>∃ (k g c:Nat),Hid (k≤64)∧i=.int .i64 k∧v=.slice (some ⟨g,0,none⟩) 8 c∧Hid (w.heap.size≤g∧8≤c)∧Hid (RowW wr g (Dg.rounds s W k))∧Hid (Below w3.heap.size w3 wr)) (fun _ i _=>64 - (intOf i).toNat)
  case atStart=>exact ⟨0,g3,c3,Nat.zero_le _,rfl,rfl,⟨hg3,hc3⟩,HR3.out,Below.refl _ _⟩
  case round =>
    obtain ⟨k,g,c,Hk,rfl,rfl,Hg,HRk,HBk⟩:=hrel
    by_cases hlt:k < 64
    · have hlen:(Dg.rounds s W k).length=8:=(Dg.rounds_length s W k).trans HS.out
      obtain ⟨xa,xb,xc,xd,xe,xf,xi,xz,h8e⟩:=Dg.eight hlen;have H8E:=hide h8e;have hrow:RowW wr g [xa,xb,xc,xd,xe,xf,xi,xz]:=by rw [← h8e];exact HRk.out
      obtain ⟨K,hK⟩:∃ K,K=Dg.K[k]?.getD 0:=⟨_,rfl⟩;obtain ⟨V,hV⟩:∃ V,V=W[k]?.getD 0:=⟨_,rfl⟩;have hck:wr.cell? ⟨kb,k,none⟩=some (.int .u32 K):=by rw [hK];exact ((HK3.out.below' HBk.out).cell k).trans (wds_at (by exact hlt))
      have hcv:wr.cell? ⟨wb,k,none⟩=some (.int .u32 V):=by rw [hV];exact (HBk.out.cell (p:=⟨wb,k,none⟩) hwb3).trans (HW3.out k hlt)
      have HKe:=hide hK;have HVe:=hide hV;have HRow:=hide hrow;obtain ⟨c0,c1,c2,c3',c4,c5,c6,c7⟩:=hrow.at;have hg8:=Hg.out.2;clear hrow h8e hlen hK hV
      go_upto_region 10 with fail
      obtain ⟨z1,hz1⟩:∃ z,z=(xz+Dg.S1 xe+Dg.ch xe xf xi+K+V) % 4294967296:=⟨_,rfl⟩;obtain ⟨z2,hz2⟩:∃ z,z=(Dg.S0 xa+Dg.maj xa xb xc) % 4294967296:=⟨_,rfl⟩;have HZ1:=hide hz1;have HZ2:=hide hz2;clear hz1 hz2
      go_cut [11] from 20 to 115 (fun v wx=>v=.int .u32 z1∧Hid (Below wr.heap.size wr wx))
      case first =>
        go_quiet ((go_at_call 129;exact Calls.quiet_of_same (refTurn_same _ _ _ (by omega) (by omega))))
        go_wp2_with fail
        go_meet
        case rel =>
          refine ⟨?_,below_drewN (Below.refl _ _) nq⟩;rw [HZ1.out];rfl
      case rest =>
        obtain ⟨rfl,hb4⟩:=hcut;have HB4:=hide (bthen HBk.out hb4.out);have HRow4:=hide (HRow.out.below hb4.out);clear c0 c1 c2 c3' c4 c5 c6 c7 hck hcv hb4 HRow HBk HRk;obtain ⟨c0,c1,c2,c3',c4,c5,c6,c7⟩:=HRow4.out.at
        go_upto_region 11 with fail
        go_cut [12] from 20 to 115 (fun v wx=>v=.int .u32 z2∧Hid (Below wc.heap.size wc wx))
        case first =>
          go_quiet ((go_at_call 129;exact Calls.quiet_of_same (refTurn_same _ _ _ (by omega) (by omega))))
          go_wp2_with fail
          go_meet
          case rel =>
            refine ⟨?_,below_drewN (Below.refl _ _) nq⟩;rw [HZ2.out];rfl
        case rest =>
          obtain ⟨rfl,hb5⟩:=hcut;have HB5:=hide (bthen HB4.out hb5.out);have HRow2:=hide (HRow4.out.below hb5.out);clear c0 c1 c2 c3' c4 c5 c6 c7 hb5 HRow4 HB4
          go_upto_region 12 with fail
          have Hlt:=hide hlt;clear hlt;refine wp_region_any (by kernel_rfl) ?_
          change wpAny _ _ _ _ _ _ _ wc.drew
          have hb6:Below wc.heap.size wc wc.drew:=(Below.refl _ _).drew;replace HB5:=hide (bthen HB5.out hb6);replace HRow2:=hide (HRow2.out.below hb6);clear hb6;generalize wc.drew=wc at HB5 HRow2 ⊢;refine' wpAny_pivot_at 22 [false] [(fun _ _ v _=>v=(.int .u32 z1)),(fun _ _ v _=>v=(.int .u32 z2)),(fun _ _ v _=>v=(.int .u32 ((z1+z2) % 4294967296))),(fun _ _ v _=>v=(.int .u32 xa)),(fun _ _ v _=>v=(.slice (some ⟨g,0,none⟩) 8 c)),(fun _ _ v _=>v=(.pointer (some ⟨g,1,none⟩))),(fun _ _ v _=>v=(.int .u32 xb)),(fun _ _ v _=>v=(.slice (some ⟨g,0,none⟩) 8 c)),(fun _ _ v _=>v=(.pointer (some ⟨g,2,none⟩))),(fun _ _ v _=>v=(.int .u32 xc)),(fun _ _ v _=>v=(.slice (some ⟨g,0,none⟩) 8 c)),(fun _ _ v _=>v=(.pointer (some ⟨g,3,none⟩))),(fun _ _ v _=>v=(.int .u32 xd)),(fun _ _ v _=>v=(.int .u32 z1)),(fun _ _ v _=>v=(.int .u32 ((xd+z1) % 4294967296))),(fun _ _ v _=>v=(.int .u32 xe)),(fun _ _ v _=>v=(.slice (some ⟨g,0,none⟩) 8 c)),(fun _ _ v _=>v=(.pointer (some ⟨g,5,none⟩))),(fun _ _ v _=>v=(.int .u32 xf)),(fun _ _ v _=>v=(.slice (some ⟨g,0,none⟩) 8 c)),(fun _ _ v _=>v=(.pointer (some ⟨g,6,none⟩))),(fun _ _ v _=>v=(.int .u32 xi))] rfl (by kernel_rfl) ?hA (by kernel_rfl) (by kernel_rfl) (by kernel_rfl) rfl rfl (by kernel_rfl) (by decide) ?mono ?steps ?last
          case hA =>
            intro vs;simp only [List.take_succ_cons,List.take_zero,puts,Act.put,List.setIfInBounds_toArray,List.set_cons_zero,List.set_cons_succ,Nat.zero_add,Nat.reduceAdd];rfl
          case mono=>exact ⟨mono_eq _,mono_eq _,mono_eq _,mono_eq _,mono_eq _,mono_eq _,mono_eq _,mono_eq _,mono_eq _,mono_eq _,mono_eq _,mono_eq _,mono_eq _,mono_eq _,mono_eq _,mono_eq _,mono_eq _,mono_eq _,mono_eq _,mono_eq _,mono_eq _,mono_eq _,trivial⟩
          case steps =>
            intro Q';refine And.intro ?_ <| And.intro ?_ <| And.intro ?_ <| And.intro ?_ <| And.intro ?_ <| And.intro ?_ <| And.intro ?_ <| And.intro ?_ <| And.intro ?_ <| And.intro ?_ <| And.intro ?_ <| And.intro ?_ <| And.intro ?_ <| And.intro ?_ <| And.intro ?_ <| And.intro ?_ <| And.intro ?_ <| And.intro ?_ <| And.intro ?_ <| And.intro ?_ <| And.intro ?_ <| And.intro ?_ <| trivial
            all_goals
              intro vs lo hi w' hM hd K' hK;dsimp only at hK ⊢;simp only [Act.put,List.setIfInBounds_toArray,List.set_cons_zero,List.set_cons_succ] at hK
            · go_simp
              exact hK.out _ _ rfl (Below.refl _ _)
            · go_simp
              exact hK.out _ _ rfl (Below.refl _ _)
            · have e0:vs 0=(.int .u32 z1):=hd 0 (by kernel_rfl)
              have e1:vs 1=(.int .u32 z2):=hd 1 (by kernel_rfl);simp only [e0,e1] at hK ⊢;clear e0 e1;go_simp;exact hK.out _ _ (int_u32 (by omega)) (Below.refl _ _)
            · go_simp
              exact hK.out _ _ rfl (Below.refl _ _)
            · go_simp
              exact hK.out _ _ rfl (Below.refl _ _)
            · have e4:vs 4=(.slice (some ⟨g,0,none⟩) 8 c):=hd 4 (by kernel_rfl)
              simp only [e4] at hK ⊢;clear e4;have g0:(1:Int) < 8:=by omega
              go_simp;exact hK.out _ _ rfl (Below.refl _ _)
            · have e5:vs 5=(.pointer (some ⟨g,1,none⟩)):=hd 5 (by kernel_rfl)
              simp only [e5] at hK ⊢;clear e5;have q0:=((HRow2.out.below hM).2 1 (by omega)).1;simp only [List.getElem?_cons_zero,List.getElem?_cons_succ,Option.getD_some] at q0;go_simp;exact hK.out _ _ rfl (Below.refl _ _)
            · go_simp
              exact hK.out _ _ rfl (Below.refl _ _)
            · have e7:vs 7=(.slice (some ⟨g,0,none⟩) 8 c):=hd 7 (by kernel_rfl)
              simp only [e7] at hK ⊢;clear e7;have g0:(2:Int) < 8:=by omega
              go_simp;exact hK.out _ _ rfl (Below.refl _ _)
            · have e8:vs 8=(.pointer (some ⟨g,2,none⟩)):=hd 8 (by kernel_rfl)
              simp only [e8] at hK ⊢;clear e8;have q0:=((HRow2.out.below hM).2 2 (by omega)).1;simp only [List.getElem?_cons_zero,List.getElem?_cons_succ,Option.getD_some] at q0;go_simp;exact hK.out _ _ rfl (Below.refl _ _)
            · go_simp
              exact hK.out _ _ rfl (Below.refl _ _)
            · have e10:vs 10=(.slice (some ⟨g,0,none⟩) 8 c):=hd 10 (by kernel_rfl)
              simp only [e10] at hK ⊢;clear e10;have g0:(3:Int) < 8:=by omega
              go_simp;exact hK.out _ _ rfl (Below.refl _ _)
            · have e11:vs 11=(.pointer (some ⟨g,3,none⟩)):=hd 11 (by kernel_rfl)
              simp only [e11] at hK ⊢;clear e11;have q0:=((HRow2.out.below hM).2 3 (by omega)).1;simp only [List.getElem?_cons_zero,List.getElem?_cons_succ,Option.getD_some] at q0;go_simp;exact hK.out _ _ rfl (Below.refl _ _)
            · go_simp
              exact hK.out _ _ rfl (Below.refl _ _)
            · have e12:vs 12=(.int .u32 xd):=hd 12 (by kernel_rfl)
              have e13:vs 13=(.int .u32 z1):=hd 13 (by kernel_rfl);simp only [e12,e13] at hK ⊢;clear e12 e13;go_simp;exact hK.out _ _ (int_u32 (by omega)) (Below.refl _ _)
            · go_simp
              exact hK.out _ _ rfl (Below.refl _ _)
            · go_simp
              exact hK.out _ _ rfl (Below.refl _ _)
            · have e16:vs 16=(.slice (some ⟨g,0,none⟩) 8 c):=hd 16 (by kernel_rfl)
              simp only [e16] at hK ⊢;clear e16;have g0:(5:Int) < 8:=by omega
              go_simp;exact hK.out _ _ rfl (Below.refl _ _)
            · have e17:vs 17=(.pointer (some ⟨g,5,none⟩)):=hd 17 (by kernel_rfl)
              simp only [e17] at hK ⊢;clear e17;have q0:=((HRow2.out.below hM).2 5 (by omega)).1;simp only [List.getElem?_cons_zero,List.getElem?_cons_succ,Option.getD_some] at q0;go_simp;exact hK.out _ _ rfl (Below.refl _ _)
            · go_simp
              exact hK.out _ _ rfl (Below.refl _ _)
            · have e19:vs 19=(.slice (some ⟨g,0,none⟩) 8 c):=hd 19 (by kernel_rfl)
              simp only [e19] at hK ⊢;clear e19;have g0:(6:Int) < 8:=by omega
              go_simp;exact hK.out _ _ rfl (Below.refl _ _)
            · have e20:vs 20=(.pointer (some ⟨g,6,none⟩)):=hd 20 (by kernel_rfl)
              simp only [e20] at hK ⊢;clear e20;have q0:=((HRow2.out.below hM).2 6 (by omega)).1;simp only [List.getElem?_cons_zero,List.getElem?_cons_succ,Option.getD_some] at q0;go_simp;exact hK.out _ _ rfl (Below.refl _ _)
          case last =>
            intro vs lo hi w' hM hlo hap hall K' Q' hK;have h2:vs 2=(.int .u32 ((z1+z2) % 4294967296)):=hall.2.2.1;have h3:vs 3=(.int .u32 xa):=hall.2.2.2.1;have h6:vs 6=(.int .u32 xb):=hall.2.2.2.2.2.2.1;have h9:vs 9=(.int .u32 xc):=hall.2.2.2.2.2.2.2.2.2.1;have h14:vs 14=(.int .u32 ((xd+z1) % 4294967296)):=hall.2.2.2.2.2.2.2.2.2.2.2.2.2.2.1;have h15:vs 15=(.int .u32 xe):=hall.2.2.2.2.2.2.2.2.2.2.2.2.2.2.2.1;have h18:vs 18=(.int .u32 xf):=hall.2.2.2.2.2.2.2.2.2.2.2.2.2.2.2.2.2.2.1;have h21:vs 21=(.int .u32 xi):=hall.2.2.2.2.2.2.2.2.2.2.2.2.2.2.2.2.2.2.2.2.2.1;dsimp only;simp only [h2,h3,h6,h9,h14,h15,h18,h21];clear h2 h3 h6 h9 h14 h15 h18 h21 hap hall hlo;go_simp;refine hK.out _ _ (fun fuel hfuel=>?_);have HE:=hide (eightW_fact ((z1+z2) % 4294967296) xa xb xc ((xd+z1) % 4294967296) xe xf xi w').2.out;have HBE:=hide (bthen hM ((Below.refl _ w').alloc (Nat.le_refl _) (.cells #[.int .u32 ((z1+z2) % 4294967296),.int .u32 xa,.int .u32 xb,.int .u32 xc,.int .u32 ((xd+z1) % 4294967296),.int .u32 xe,.int .u32 xf,.int .u32 xi] 93)));have HLo:Hid (wc.heap.size≤w'.heap.size):=hM.size;obtain ⟨f,rfl⟩:∃ f,fuel=f+1:=⟨fuel - 1,by have:1≤fuel:=hfuel;omega⟩;clear hK hM;generalize w'.alloc (.cells #[.int .u32 ((z1+z2) % 4294967296),.int .u32 xa,.int .u32 xb,.int .u32 xc,.int .u32 ((xd+z1) % 4294967296),.int .u32 xe,.int .u32 xf,.int .u32 xi] 93)=w6 at HE HBE ⊢;generalize w'.heap.size=g5 at HE HLo ⊢;refine wpAny_ready (rs:=[23]) (by kernel_rfl) (by simp) ?_;refine AllReady.cons rfl (fun K2 hK2=>?_) AllReady.nil;have HK2:=hide hK2;clear hK2;go_simp;refine HK2.out _ _ ?_;clear HK2;refine wpAny_done (by kernel_rfl) ?_ _;have hlt:=Hlt.out
            go_wp2_with fail
            go_roundw
            case rel =>
              have hb5:Below w3.heap.size w3 w6:=bthen HB5.out HBE.out;refine ⟨k+1,g5,8,hlt,by go_num,rfl,⟨?_,Nat.le_refl _⟩,?_,hb5⟩
              · have h1:=HLo.out
                have h2:=HB5.out.size;have h3:=HB3.out.size;omega
              · show RowW w6 g5 (Dg.step (Dg.rounds s W k) ((Dg.K[k]?.getD 0+W[k]?.getD 0) % 4294967296))
                rw [H8E.out,← HKe.out,← HVe.out]
                have e5:Dg.step [xa,xb,xc,xd,xe,xf,xi,xz] ((K+V) % 4294967296)=[(z1+z2) % 4294967296,xa,xb,xc,(xd+z1) % 4294967296,xe,xf,xi]:=by
                  show [Dg.nA xa xb xc xe xf xi xz _,xa,xb,xc,Dg.nE xd xe xf xi xz _,xe,xf,xi]=_
                  rw [HZ1.out,HZ2.out];unfold Dg.nA Dg.nE Dg.t1 Dg.t2
                  congr 1
                  · omega
                  · congr 4
                    omega
                rw [e5];exact HE.out
            case measure=>simp [intOf];omega
    · have hk64:k=64:=by have:=Hk.out;omega
      have HK64:=hide hk64;clear hk64
      go_wp2_with fail
      generalize decide ((k:Int) < 64)=bt0;obtain ⟨n,hn⟩:∃ n,n=Dg.rounds s W 64:=⟨_,rfl⟩
      have HNr:Hid (RowW wr g (plusR n s 0)):=by
        have:=HRk.out
        rw [HK64.out,← hn] at this;exact this
      have HN:=hide hn;have HNl:Hid (n.length=8):=by rw [hn];exact (Dg.rounds_length s W 64).trans HS.out
      clear hn HRk
      go_loopw [13] (fun i wq=>∃ j:Nat,Hid (j≤8)∧i=.int .i64 j∧Hid (RowW wq g (plusR n s j))∧Hid (But g wr wq)) (fun i _=>8 - (intOf i).toNat)
      case atStart=>exact ⟨0,Nat.zero_le _,rfl,HNr.out,But.refl _ _⟩
      case round =>
        obtain ⟨j,Hj,rfl,HRj,HBj⟩:=hrel
        by_cases hlt2:j < 8
        · obtain ⟨cx,fx⟩:=HRj.out.2 j hlt2
          have ch:=((HH3.out.below HBk.out).2 j hlt2).1;have hne:hb≠g:=by have h1:=HH.out.1;have h2:=Hg.out.1;omega
          have hbl:=(HH3.out.below HBk.out).1;have ch2:=(World.cell?_of_block (a:=⟨hb,j,none⟩) (HBj.out.block hb hbl hne)).trans ch;obtain ⟨p,hp⟩:∃ p,p=(plusR n s j)[j]?.getD 0:=⟨_,rfl⟩;obtain ⟨q,hq⟩:∃ q,q=s[j]?.getD 0:=⟨_,rfl⟩;rw [← hp] at cx;rw [← hq] at ch2;have HP:=hide hp;have HQ:=hide hq;have hg8:=Hg.out.2;clear ch hp hq
          go_wp2_with fail
          go_region
          go_wp2_with fail
          go_roundw
          case rel =>
            refine ⟨j+1,hlt2,by go_num,?_,(HBj.out.set j _).drew⟩;have:=HRj.out.set ((plusR_length n s j).trans HNl.out) j hlt2 ((p+q) % 4294967296)
            rw [HP.out,HQ.out] at this;rw [HP.out,HQ.out];exact this
          case measure=>simp [intOf];omega
        · have hj8:j=8:=by have:=Hj.out;omega
          have HJ8:=hide hj8;clear hj8
          go_wp2_with fail
          go_ret
          refine ⟨g,c,rfl,Hg.out.2,Hg.out.1,?_,?_⟩
          · have:=HRj.out
            rw [HJ8.out,plusR_eq n s HNl.out HS.out,HN.out,HW.out] at this;exact this
          · have h1:=bthen HB3.out HBk.out
            exact h1.trans (HBj.out.to_below h1.size Hg.out.1)
end Go.Proofs.YtapcmbbhhclepaaGreatDoor.Dig
namespace Go.Proofs.YtapcmbbhhclepaaGreatDoor.Dig
open Go.RowKit
theorem int_u8 {a b:Int} (h:a % 256=b):Value.int .u8 (IntKind.u8.wrap a)=.int .u8 b:=by
  rw [IntKind.wrap_u8,h]
def FourB (a b c d:Int):Fact:=fun lo hi v w=>v=.slice (some ⟨lo,0,none⟩) 4 4∧Hid (∀ j u,[b8 a,b8 b,b8 c,b8 d][j]? = some u→w.cell? ⟨lo,j,none⟩=some u)
theorem mono_fourB (a b c d:Int):Mono (FourB a b c d):=by
  rintro lo hi v w w' ⟨rfl,h⟩ b;exact ⟨rfl,fun j u hu=>(b.cell (p:=⟨lo,j,none⟩) (block_lt_of_cell (h.out j u hu))).trans (h.out j u hu)⟩
theorem fourB_fact (a b c d:Int) (w:World):FourB a b c d w.heap.size (w.alloc (.cells #[.int .u8 a,.int .u8 b,.int .u8 c,.int .u8 d] 5)).heap.size (.slice (some ⟨w.heap.size,0,none⟩) 4 4) (w.alloc (.cells #[.int .u8 a,.int .u8 b,.int .u8 c,.int .u8 d] 5)):=by
  refine ⟨rfl,fun j u hu=>?_⟩;exact ((blk_new w 5 #[.int .u8 a,.int .u8 b,.int .u8 c,.int .u8 d]).cell j).trans (by simpa [b8] using hu)
theorem RowW.belowAt {w w':World} {g B:Nat} {l:List Int} (h:RowW w g l) (b:Below B w w') (hg:g < B):RowW w' g l :=
  ⟨Nat.lt_of_lt_of_le h.1 b.size,fun i hi=>⟨(b.cell (p:=⟨g,i,none⟩) hg).trans (h.2 i hi).1,(b.frozen (p:=⟨g,i,none⟩) hg).trans (h.2 i hi).2⟩⟩
theorem b8_mem {l:List Int} (h:Dg.B8 l):∀ x ∈ l,0≤x∧x≤255:=by
  intro x hx;obtain ⟨i,hi,rfl⟩:=List.getElem_of_mem hx;have:=h i
  rw [List.getElem?_eq_getElem hi] at this;exact this
theorem b8_part {l:List Int} (h:Dg.B8 l) (i j:Nat):Dg.B8 ((l.drop i).take j):=Dg.b8_of_mem (fun x hx=>b8_mem h x (List.mem_of_mem_drop (List.mem_of_mem_take hx)))
theorem rd_part {w:World} {g q:Nat} {l:List Int} (h:Rd w g 0 l):Rd w g q ((l.drop q).take 64):=by
  intro i hi;rw [List.length_take,List.length_drop] at hi;have:=h (q+i) (by omega)
  rw [Nat.zero_add] at this;rw [this,List.getElem?_take,if_pos (by omega),List.getElem?_drop]
set_option maxRecDepth 100000 in
set_option maxHeartbeats 4000000 in
theorem refSum_own (a:Option Addr) (m cap:Nat) (bs:List Int) (w:World) (hB:IsB w a m cap bs) (hm:m≤900000) :
    Calls Tryz.prog 68 #[.slice a m cap] w fun e w'=>∃ a' c',e=.returned (.slice a' 32 c')∧w'.ownsRow w.heap.size 5 1 (.slice a' 32 c') 32 ((Dg.sha bs).map b8)∧Below w.heap.size w w':=by
  have HB:=hide hB;have HL:Hid (bs.length=m):=hB.1;have H8:Hid (Dg.B8 bs):=hB.2.2.2.1;clear hB;obtain ⟨a1,c1,w1,hrun,hown,hgrow⟩:=append_isB w.heap.size (.slice none 0 0) 0 [] (World.ownsRow_nil ..) HB.out (by omega) (Nat.le_refl _);rw [Nat.zero_add,List.nil_append] at hown;rw [Nat.zero_add] at hrun;have HB1:Hid (Below w.heap.size w w1):=(Below.refl _ _).grown hgrow (Nat.le_refl _) (fun q hq=>by cases hq);have HOw:=hide hown;clear hown hgrow;go_enter Tryz.func68,Tryz.ntmps68
  go_wp2_with (at_builtin;refine wpList_append_run rfl _ _ 22 rfl _ _ rfl rfl hrun ?_)
  clear hrun;refine (refTail_any (m:Int) w1 (by omega) (by omega)).mono ?_;rintro e w2 ⟨ta,tm,tc,Htm,rfl,hTI,b2⟩;have hL2:tm=Dg.noughts m+9:=Htm.out.trans (Dg.tail_length m);have htm:tm≤72:=by have:=Dg.noughts_le m;omega
  have hN:(m+tm) % 64=0∧0 < tm:=by
    rw [hL2];unfold Dg.noughts;omega
  obtain ⟨a2,c2,w3,hrun,hown,hgrow⟩:=append_isB w.heap.size _ m bs (own_below HOw.out b2) hTI (by omega) (by have h1:=HB1.out.size;have h2:=b2.size;omega);have HB3:Hid (Below w.heap.size w w3):=(HB1.out.trans (b2.mono HB1.out.size)).grown hgrow (by have h1:=HB1.out.size;have h2:=b2.size;omega) (own_block (own_below HOw.out b2));obtain ⟨all,hall⟩:∃ all,all=bs ++ Dg.tail m:=⟨_,rfl⟩
  have hB8:Dg.B8 all:=by
    rw [hall];refine Dg.b8_of_mem (fun x hx=>?_);rcases List.mem_append.1 hx with hx | hx
    · exact b8_mem H8.out x hx
    · exact Dg.tail_mem _ x hx
  rw [← hall] at hown;obtain ⟨hI3,hge⟩:=own_isB' hown hB8;obtain ⟨N,hNe⟩:∃ N,N=m+tm:=⟨_,rfl⟩;rw [← hNe] at hI3 hrun hown hN;have hNb:N≤1000000∧64≤N:=by omega
  obtain ⟨gA,rfl,HRd⟩:∃ gA,a2=some ⟨gA,0,none⟩∧Hid (Rd w3 gA 0 all):=by
    rcases hown.2 with ⟨h2,h3⟩ | ⟨g',cap',cur,hv,_⟩
    · simp only [Value.slice.injEq] at h2
      omega
    · simp only [Value.slice.injEq] at hv
      obtain ⟨rfl,_,rfl⟩:=hv;obtain ⟨_,_,_,_,⟨h5,_⟩ | ⟨x,h5,h6⟩⟩:=hI3
      · cases h5
      · cases h5
        obtain ⟨b,o,h7,h8⟩:=h6 (by omega);cases h7
        exact ⟨g',rfl,h8⟩
  have hNc:=hI3.2.1;have hcx:=hI3.2.2.1;have HAL:Hid (all.length=N):=hI3.1;have H8A:=hide hB8;have HAE:=hide hall;have HGA:Hid (w.heap.size≤gA):=hge _ rfl;have HNN:=hide hN;clear hall hB8 hI3 hge hown hgrow hN hNe hL2 htm Htm hTI b2 HB1 HOw
  go_wp2_with (at_builtin;refine wpList_append_run rfl _ _ 22 rfl _ _ rfl rfl hrun ?_)
  clear hrun;have HE:=hide (eightW_fact 1779033703 3144134277 1013904242 2773480762 1359893119 2600822924 528734635 1541459225 w3).2.out;have HBE:=hide ((Below.refl w3.heap.size w3).alloc (Nat.le_refl _) (.cells #[.int .u32 1779033703,.int .u32 3144134277,.int .u32 1013904242,.int .u32 2773480762,.int .u32 1359893119,.int .u32 2600822924,.int .u32 528734635,.int .u32 1541459225] 93));generalize w3.alloc (.cells #[.int .u32 1779033703,.int .u32 3144134277,.int .u32 1013904242,.int .u32 2773480762,.int .u32 1359893119,.int .u32 2600822924,.int .u32 528734635,.int .u32 1541459225] 93)=w4 at HE HBE ⊢;have HG3:Hid (w.heap.size≤w3.heap.size):=HB3.out.size
  go_loopw [5,6] (fun h i wr=>∃ k q g c:Nat,Hid (q=64 * k)∧Hid (q≤N)∧i=.int .i64 q∧h=.slice (some ⟨g,0,none⟩) 8 c∧Hid (8≤c)∧Hid (w.heap.size≤g)∧Hid (RowW wr g (Dg.sums Dg.start all k))∧Hid (Below w3.heap.size w3 wr)) (fun _ i _=>1000100 - (intOf i).toNat)
  case atStart=>exact ⟨0,0,_,_,rfl,Nat.zero_le _,rfl,rfl,Nat.le_refl _,HG3,HE.out,HBE.out⟩
  case round =>
    obtain ⟨k,q,g,c,Hq,HqN,rfl,rfl,Hc,Hg,HR,HBk⟩:=hrel
    by_cases hlt:q < N
    · have h64:q+64≤N:=by have h1:=Hq.out;have h2:=HNN.out;omega
      go_wp2_with fail
      have hlenk:((all.drop q).take 64).length=64:=by rw [List.length_take,List.length_drop,HAL.out];omega
      refine (refBlock_any g c gA q (c2 - q) (Dg.sums Dg.start all k) ((all.drop q).take 64) _ ((Dg.sums_length _ _ _).trans rfl) HR.out Hc.out hlenk (by omega) (rd_part (HRd.out.below HBk.out)) (b8_part H8A.out q 64)).mono ?_;rintro e w5 ⟨g5,c5,rfl,hc5,hg5,hR5,b5⟩
      have HR5:Hid (RowW w5 g5 (Dg.sums Dg.start all (k+1))):=by
        unfold Hid;rw [Dg.sums,← Hq.out];exact hR5
      have HB5:=hide (bthen HBk.out b5)
      have HG5:Hid (w.heap.size≤g5):=by
        have h1:=HBk.out.size;have h2:=HB3.out.size;exact Nat.le_trans (Nat.le_trans h2 h1) hg5
      clear hR5 b5 HR HBk
      go_wp2_with fail
      go_roundw
      case rel=>exact ⟨k+1,q+64,g5,c5,by have:=Hq.out;show q+64=64 * (k+1);omega,h64,by go_num,rfl,hc5,HG5.out,HR5.out,HB5.out⟩
      case measure=>simp [intOf];omega
    · have hqN:q=N:=by have:=HqN.out;omega
      obtain ⟨W,hW⟩:∃ W,W=Dg.sumOf all:=⟨_,rfl⟩
      have hk:Dg.sums Dg.start all k=W:=by
        rw [hW];unfold Dg.sumOf;rw [HAL.out,show N / 64=k by have:=Hq.out;omega]
      have HRW0:=hide HR.out;rw [hk] at HRW0;have HW:=hide hW;have HWL:Hid (W.length=8):=by rw [hW];exact Dg.sumOf_length _
      have HB5:=hide (HB3.out.trans (HBk.out.mono HB3.out.size));obtain ⟨B,hB⟩:∃ B,B=wr.heap.size:=⟨_,rfl⟩;have HBs:Hid (B≤wr.heap.size):=Nat.le_of_eq hB;have HBw:Hid (w.heap.size≤B):=by rw [hB];exact HB5.out.size
      have HGB:Hid (g < B):=by rw [hB];exact HR.out.1
      have hc8:=Hc.out;clear hW hk hB HR HBk hqN
      go_wp2_with fail
      generalize decide ((q:Int) < (N:Int))=bt0
      go_loopw [7,8] (fun v i wq=>∃ (j n:Nat) (la:Option Addr) (lc:Nat),Hid (j≤8)∧Hid (n=4 * j)∧i=.int .i64 j∧v=.slice la n lc∧Hid (wq.ownsRow B 5 1 (.slice la n lc) n (((W.take j).flatMap (Dg.be · 4)).map b8))∧Hid (RowW wq g W)∧Hid (B≤wq.heap.size)∧Hid (Below w.heap.size w wq)) (fun _ i _=>8 - (intOf i).toNat)
      case atStart=>exact ⟨0,0,none,0,Nat.zero_le _,rfl,rfl,rfl,World.ownsRow_nil ..,HRW0.out,HBs.out,HB5.out⟩
      case round =>
        clear HRW0 HB5 HBs;obtain ⟨j,n,la,lc,Hj8,HN4,rfl,rfl,HOWN,HRW,HBs,HBJ⟩:=hrel
        by_cases hlt2:j < 8
        · obtain ⟨x,hx⟩:∃ x,x=W[j]?.getD 0:=⟨_,rfl⟩
          have HXE:=hide hx;clear hx
          go_upto_region 14 with fail
          generalize decide ((j:Int) < 8)=bt;have Hj:=hide hlt2;clear hlt2;refine wp_region_any (by kernel_rfl) ?_
          change wpAny _ _ _ _ _ _ _ wr.drew
          have hb0:Below wr.heap.size wr wr.drew:=(Below.refl _ _).drew;replace HOWN:=hide (own_below HOWN.out hb0);replace HRW:=hide (HRW.out.below hb0);replace HBs:Hid (B≤wr.drew.heap.size):=HBs;replace HBJ:=hide (bthen HBJ.out hb0);clear hb0;generalize wr.drew=wq at HOWN HRW HBs HBJ ⊢;have HLT:Hid (g < wq.heap.size):=HRW.out.1;have HX:Hid (wq.cell? ⟨g,j,none⟩=some (.int .u32 x)):=by rw [HXE.out];exact (HRW.out.2 j Hj.out).1
          refine' wpAny_pivot_at 25 [false] [(fun _ _ v _=>v=(.slice la n lc)),(fun _ _ v _=>v=(.slice (some ⟨g,0,none⟩) 8 c)),(fun _ _ v _=>v=(.int .i64 (j:Int))),(fun _ _ v _=>v=(.pointer (some ⟨g,j,none⟩))),(fun _ _ v _=>v=(.int .u32 x)),(fun _ _ v _=>v=(.int .u32 (x / 16777216))),(fun _ _ v _=>v=(.int .u8 (x / 16777216 % 256))),(fun _ _ v _=>v=(.slice (some ⟨g,0,none⟩) 8 c)),(fun _ _ v _=>v=(.int .i64 (j:Int))),(fun _ _ v _=>v=(.pointer (some ⟨g,j,none⟩))),(fun _ _ v _=>v=(.int .u32 x)),(fun _ _ v _=>v=(.int .u32 (x / 65536))),(fun _ _ v _=>v=(.int .u8 (x / 65536 % 256))),(fun _ _ v _=>v=(.slice (some ⟨g,0,none⟩) 8 c)),(fun _ _ v _=>v=(.int .i64 (j:Int))),(fun _ _ v _=>v=(.pointer (some ⟨g,j,none⟩))),(fun _ _ v _=>v=(.int .u32 x)),(fun _ _ v _=>v=(.int .u32 (x / 256))),(fun _ _ v _=>v=(.int .u8 (x / 256 % 256))),(fun _ _ v _=>v=(.slice (some ⟨g,0,none⟩) 8 c)),(fun _ _ v _=>v=(.int .i64 (j:Int))),(fun _ _ v _=>v=(.pointer (some ⟨g,j,none⟩))),(fun _ _ v _=>v=(.int .u32 x)),(fun _ _ v _=>v=(.int .u8 (x % 256))),(FourB (x / 16777216 % 256) (x / 65536 % 256) (x / 256 % 256) (x % 256))] rfl (by kernel_rfl) ?hA (by kernel_rfl) (by kernel_rfl) (by kernel_rfl) rfl rfl (by kernel_rfl) (by decide) ?mono ?steps ?last
          case hA =>
            intro vs;simp only [List.take_succ_cons,List.take_zero,puts,Act.put,List.setIfInBounds_toArray,List.set_cons_zero,List.set_cons_succ,Nat.zero_add,Nat.reduceAdd];rfl
          case mono=>exact ⟨mono_eq _,mono_eq _,mono_eq _,mono_eq _,mono_eq _,mono_eq _,mono_eq _,mono_eq _,mono_eq _,mono_eq _,mono_eq _,mono_eq _,mono_eq _,mono_eq _,mono_eq _,mono_eq _,mono_eq _,mono_eq _,mono_eq _,mono_eq _,mono_eq _,mono_eq _,mono_eq _,mono_eq _,mono_fourB (x / 16777216 % 256) (x / 65536 % 256) (x / 256 % 256) (x % 256),trivial⟩
          case steps =>
            intro Q';refine And.intro ?_ <| And.intro ?_ <| And.intro ?_ <| And.intro ?_ <| And.intro ?_ <| And.intro ?_ <| And.intro ?_ <| And.intro ?_ <| And.intro ?_ <| And.intro ?_ <| And.intro ?_ <| And.intro ?_ <| And.intro ?_ <| And.intro ?_ <| And.intro ?_ <| And.intro ?_ <| And.intro ?_ <| And.intro ?_ <| And.intro ?_ <| And.intro ?_ <| And.intro ?_ <| And.intro ?_ <| And.intro ?_ <| And.intro ?_ <| And.intro ?_ <| trivial
            all_goals
              intro vs lo hi w' hM hd K' hK;dsimp only at hK ⊢;simp only [Act.put,List.setIfInBounds_toArray,List.set_cons_zero,List.set_cons_succ] at hK
            · go_simp
              exact hK.out _ _ rfl (Below.refl _ _)
            · go_simp
              exact hK.out _ _ rfl (Below.refl _ _)
            · go_simp
              exact hK.out _ _ rfl (Below.refl _ _)
            · have e1:vs 1=(.slice (some ⟨g,0,none⟩) 8 c):=hd 1 (by kernel_rfl)
              have e2:vs 2=(.int .i64 (j:Int)):=hd 2 (by kernel_rfl);simp only [e1,e2] at hK ⊢;clear e1 e2;have g0:(j:Int) < 8:=by have:=Hj.out;omega
              have g1:(0:Int)≤(j:Int):=by omega
              go_simp;exact hK.out _ _ rfl (Below.refl _ _)
            · have e3:vs 3=(.pointer (some ⟨g,j,none⟩)):=hd 3 (by kernel_rfl)
              simp only [e3] at hK ⊢;clear e3;have q0:=(hM.cell (p:=⟨g,j,none⟩) HLT.out).trans HX.out;go_simp;exact hK.out _ _ rfl (Below.refl _ _)
            · have e4:vs 4=(.int .u32 x):=hd 4 (by kernel_rfl)
              simp only [e4] at hK ⊢;clear e4;go_simp;exact hK.out _ _ rfl (Below.refl _ _)
            · have e5:vs 5=(.int .u32 (x / 16777216)):=hd 5 (by kernel_rfl)
              simp only [e5] at hK ⊢;clear e5;go_simp;exact hK.out _ _ (int_u8 rfl) (Below.refl _ _)
            · go_simp
              exact hK.out _ _ rfl (Below.refl _ _)
            · go_simp
              exact hK.out _ _ rfl (Below.refl _ _)
            · have e7:vs 7=(.slice (some ⟨g,0,none⟩) 8 c):=hd 7 (by kernel_rfl)
              have e8:vs 8=(.int .i64 (j:Int)):=hd 8 (by kernel_rfl);simp only [e7,e8] at hK ⊢;clear e7 e8;have g0:(j:Int) < 8:=by have:=Hj.out;omega
              have g1:(0:Int)≤(j:Int):=by omega
              go_simp;exact hK.out _ _ rfl (Below.refl _ _)
            · have e9:vs 9=(.pointer (some ⟨g,j,none⟩)):=hd 9 (by kernel_rfl)
              simp only [e9] at hK ⊢;clear e9;have q0:=(hM.cell (p:=⟨g,j,none⟩) HLT.out).trans HX.out;go_simp;exact hK.out _ _ rfl (Below.refl _ _)
            · have e10:vs 10=(.int .u32 x):=hd 10 (by kernel_rfl)
              simp only [e10] at hK ⊢;clear e10;go_simp;exact hK.out _ _ rfl (Below.refl _ _)
            · have e11:vs 11=(.int .u32 (x / 65536)):=hd 11 (by kernel_rfl)
              simp only [e11] at hK ⊢;clear e11;go_simp;exact hK.out _ _ (int_u8 rfl) (Below.refl _ _)
            · go_simp
              exact hK.out _ _ rfl (Below.refl _ _)
            · go_simp
              exact hK.out _ _ rfl (Below.refl _ _)
            · have e13:vs 13=(.slice (some ⟨g,0,none⟩) 8 c):=hd 13 (by kernel_rfl)
              have e14:vs 14=(.int .i64 (j:Int)):=hd 14 (by kernel_rfl);simp only [e13,e14] at hK ⊢;clear e13 e14;have g0:(j:Int) < 8:=by have:=Hj.out;omega
              have g1:(0:Int)≤(j:Int):=by omega
              go_simp;exact hK.out _ _ rfl (Below.refl _ _)
            · have e15:vs 15=(.pointer (some ⟨g,j,none⟩)):=hd 15 (by kernel_rfl)
              simp only [e15] at hK ⊢;clear e15;have q0:=(hM.cell (p:=⟨g,j,none⟩) HLT.out).trans HX.out;go_simp;exact hK.out _ _ rfl (Below.refl _ _)
            · have e16:vs 16=(.int .u32 x):=hd 16 (by kernel_rfl)
              simp only [e16] at hK ⊢;clear e16;go_simp;exact hK.out _ _ rfl (Below.refl _ _)
            · have e17:vs 17=(.int .u32 (x / 256)):=hd 17 (by kernel_rfl)
              simp only [e17] at hK ⊢;clear e17;go_simp;exact hK.out _ _ (int_u8 rfl) (Below.refl _ _)
            · go_simp
              exact hK.out _ _ rfl (Below.refl _ _)
            · go_simp
              exact hK.out _ _ rfl (Below.refl _ _)
            · have e19:vs 19=(.slice (some ⟨g,0,none⟩) 8 c):=hd 19 (by kernel_rfl)
              have e20:vs 20=(.int .i64 (j:Int)):=hd 20 (by kernel_rfl);simp only [e19,e20] at hK ⊢;clear e19 e20;have g0:(j:Int) < 8:=by have:=Hj.out;omega
              have g1:(0:Int)≤(j:Int):=by omega
              go_simp;exact hK.out _ _ rfl (Below.refl _ _)
            · have e21:vs 21=(.pointer (some ⟨g,j,none⟩)):=hd 21 (by kernel_rfl)
              simp only [e21] at hK ⊢;clear e21;have q0:=(hM.cell (p:=⟨g,j,none⟩) HLT.out).trans HX.out;go_simp;exact hK.out _ _ rfl (Below.refl _ _)
            · have e22:vs 22=(.int .u32 x):=hd 22 (by kernel_rfl)
              simp only [e22] at hK ⊢;clear e22;go_simp;exact hK.out _ _ (int_u8 rfl) (Below.refl _ _)
            · have e6:vs 6=(.int .u8 (x / 16777216 % 256)):=hd 6 (by kernel_rfl)
              have e12:vs 12=(.int .u8 (x / 65536 % 256)):=hd 12 (by kernel_rfl);have e18:vs 18=(.int .u8 (x / 256 % 256)):=hd 18 (by kernel_rfl);have e23:vs 23=(.int .u8 (x % 256)):=hd 23 (by kernel_rfl);simp only [e6,e12,e18,e23] at hK ⊢;clear e6 e12 e18 e23;go_simp;exact hK.out _ _ (fourB_fact (x / 16777216 % 256) (x / 65536 % 256) (x / 256 % 256) (x % 256) _) ((Below.refl _ _).alloc (Nat.le_refl _) _)
          case last =>
            intro vs lo hi w' hM hlo hap hall K' Q' hK;have h0:vs 0=(.slice la n lc):=hall.1;obtain ⟨e1,H1⟩:=hall.2.2.2.2.2.2.2.2.2.2.2.2.2.2.2.2.2.2.2.2.2.2.2.2.1;dsimp only;simp only [h0,e1];clear h0 e1 hap;have hown:=own_below HOWN.out hM;obtain ⟨a2,c2,wA,hrun,hown',hgr⟩:=append_one (w:=w') 22 5 (.int .u8 0) 1 Tryz.underlying22 infoByte rfl B _ _ _ hown (m:=4) (c:=4) (news:=[b8 (x / 16777216 % 256),b8 (x / 65536 % 256),b8 (x / 256 % 256),b8 (x % 256)]) rfl H1.out (by simp [Value.oneCell']) (by have:=Hj.out;have:=HN4.out;omega) (by have:=Hj.out;have:=HN4.out;omega) (by have h1:=hM.size;have h2:=HBs.out;omega);rw [if_pos (by rfl)];refine Lib.wp_append_run _ (.tmp 37) (.tmp 61) 22 22 rfl _ _ (by simp [Act.eval]) (by simp [Act.eval]) _ _ hrun ?_;have HBA:Hid (Below w.heap.size w wA):=(HBJ.out.trans (hM.mono HBJ.out.size)).grown hgr (by have h1:=hM.size;have h2:=HBJ.out.size;omega) (fun k hk=>Nat.le_trans HBw.out (own_block hown k hk));have HRA:Hid (RowW wA g W):=(HRW.out.below hM).belowAt ((Below.refl B w').grown hgr (by have h1:=hM.size;have h2:=HBs.out;omega) (own_block hown)) HGB.out;have HBsA:Hid (B≤wA.heap.size):=Nat.le_trans (Nat.le_trans HBs.out hM.size) ((Below.refl 0 w').grown hgr (Nat.zero_le _) (fun _ _=>Nat.zero_le _)).size;have HOWNA:=hide hown';clear hown hrun hown' hgr;refine hK.out _ _ (fun fuel hfuel=>?_);obtain ⟨f,rfl⟩:∃ f,fuel=f+1:=⟨fuel - 1,by have:1≤fuel:=hfuel;omega⟩;clear hK hM hlo H1 hall;simp only [Act.put,List.setIfInBounds_toArray,List.set_cons_zero,List.set_cons_succ];refine wpAny_ready (rs:=[26]) (by kernel_rfl) (by simp) ?_;refine AllReady.cons rfl (fun K2 hK2=>?_) AllReady.nil;have HK2:=hide hK2;clear hK2;go_simp;refine HK2.out _ _ ?_;clear HK2;refine wpAny_done (by kernel_rfl) ?_ _;have hj:=Hj.out
            go_wp2_with fail
            go_roundw
            case rel =>
              refine ⟨j+1,n+4,a2,c2,by show j+1≤8;omega,by have:=HN4.out;show n+4=4 * (j+1);omega,by go_num,rfl,?_,HRA,HBsA,HBA⟩;unfold Hid
              have e:W.take (j+1)=W.take j ++ [x]:=by
                rw [List.take_succ_eq_append_getElem (by rw [HWL.out];exact hj),HXE.out,List.getElem?_eq_getElem (by rw [HWL.out];exact hj)];rfl
              have e4:Dg.be x 4=[x / 16777216 % 256,x / 65536 % 256,x / 256 % 256,x % 256]:=by simp [Dg.be]
              rw [e,List.flatMap_append,List.map_append];simp only [List.flatMap_cons,List.flatMap_nil,List.append_nil,e4];exact HOWNA.out
            case measure=>simp [intOf];omega
        · have hj8:j=8:=by have:=Hj8.out;omega
          have hn32:n=32:=by have:=HN4.out;omega
          go_wp2_with fail
          go_ret
          subst hn32;have ho:=HOWN.out;rw [List.take_of_length_le (by rw [HWL.out];omega),HW.out,HAE.out,← HL.out] at ho;exact ⟨la,lc,rfl,own_base ho HBw.out,HBJ.out⟩
theorem refSum_any (a:Option Addr) (m cap:Nat) (bs:List Int) (w:World) (hB:IsB w a m cap bs) (hm:m≤900000) :
    Calls Tryz.prog 68 #[.slice a m cap] w fun e w'=>∃ a' c',e=.returned (.slice a' 32 c')∧IsB w' a' 32 c' (Dg.sha bs)∧Below w.heap.size w w' :=
  (refSum_own a m cap bs w hB hm).mono fun e w' ⟨a',c',he,ho,hb⟩=>⟨a',c',he,(own_isB' ho (Dg.b8_of_mem (Dg.sha_mem _))).1,hb⟩
end Go.Proofs.YtapcmbbhhclepaaGreatDoor.Dig
namespace Go.Proofs.YtapcmbbhhclepaaGreatDoor.Dig
open Go.RowKit
set_option maxHeartbeats 1000000 in
theorem refIdent_any (s:ByteArray) (w:World) (hs:s.size≤900000) :
    Calls Tryz.prog 70 #[.string s] w fun e w'=>e=.returned (.string ⟨(Sl.ident s.data.toList).toArray⟩)∧Below w.heap.size w w':=by
  have hcv:=Lib.run_convert_string_bytes (P:=Tryz.prog) w 9 22 5 s Tryz.underlying9 Tryz.underlying22 Tryz.underlying5;have HI:=hide (bytes_isB w s (by omega));have b0:=below_bytes w s;have HB0:=hide b0;clear b0;generalize Lib.bytesWorld w 5 s=w1 at hcv HI HB0;generalize grownCap w s.size 0 5=c1 at hcv HI;go_enter Tryz.func70,Tryz.ntmps70
  go_wp2_with fail
  refine (refSum_any _ _ _ _ _ HI.out (by omega)).mono ?_;rintro e w2 ⟨x2,c2,rfl,hI2,b2⟩;have HI2:=hide hI2;have HB2:=hide (bthen HB0.out b2);clear hI2 b2 hcv
  go_wp2_with fail
  refine (refText_any _ _ _ _ _ HI2.out (by omega)).mono ?_;rintro e w2 ⟨rfl,rfl⟩;have hl:(Sl.text (Dg.sha (Sl.ints s.data.toList))).length≤43:=by rw [Sl.text_length,Dg.sha_length];omega
  have hz:=str_size (Sl.text (Dg.sha (Sl.ints s.data.toList)));have happ:=str_app [36] (Sl.text (Dg.sha (Sl.ints s.data.toList)));have HApp:=hide happ;clear happ;generalize hT:(⟨(Sl.text (Dg.sha (Sl.ints s.data.toList))).toArray⟩:ByteArray)=T at hz HApp ⊢
  go_wp2_with fail
  go_ret
  refine ⟨?_,HB2.out⟩;show Ending.returned (.string (({ data:=#[36] }:ByteArray) ++ T))=_
  rw [show (({ data:=#[36] }:ByteArray) ++ T)=_ from HApp.out];rfl
end Go.Proofs.YtapcmbbhhclepaaGreatDoor.Dig
