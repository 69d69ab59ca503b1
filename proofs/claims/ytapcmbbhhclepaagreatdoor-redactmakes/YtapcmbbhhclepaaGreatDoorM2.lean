/-
  What this claim takes of the earlier layers' texts: DAdd DBytes DTail DHash DFill DChunk.
-/
import Derived.Test.YtapcmbbhhclepaaGreatDoorM1
import Derived.OwnWalk
import Derived.Maps.AppendAt
import Derived.RangeFuncNested
import Derived.RangeFuncBound
import Derived.RangeFuncCalls
import Derived.RangeFuncLeaves
import Derived.Shelf.Abstract
import Derived.Shelf.RegionOpen
import Derived.OwnWalkIn
import Derived.TacticsInMore
import Derived.LoopNIn
import Derived.LoopIn
import Derived.Sort.QuietIn
set_option linter.unusedVariables false
set_option linter.unusedSimpArgs false
set_option maxRecDepth 100000
namespace Go.Proofs.YtapcmbbhhclepaaGreatDoor.Dig
open Go.RowKit
def Cubes (w:World):Prop:=∀ i:Nat,i < 64→w.cell? ⟨0,i,none⟩=some (w32 (Dg.K[i]?.getD 0))
theorem Cubes.lt {w:World} (h:Cubes w):0 < w.heap.size:=block_lt_of_cell (h 0 (by omega))
theorem Cubes.below {w w':World} (h:Cubes w) {B:Nat} (b:Below B w w') (hB:0 < B):Cubes w':=fun i hi=>(b.cell (p:=⟨0,i,none⟩) hB).trans (h i hi)
theorem Cubes.below' {w w':World} (h:Cubes w) (b:Below w.heap.size w w'):Cubes w':=h.below b h.lt
theorem Cubes.but {w w':World} (h:Cubes w) {g:Nat} (b:But g w w') (hg:0≠g):Cubes w':=fun i hi=>(World.cell?_of_block (w:=w) (b.block _ h.lt hg)).trans (h i hi)
theorem step_list (g t:Nat) (s:List Int) (x:Int) (w:World) (hs:s.length=8) (hb:Blk w g t (wds s)) :
    Calls Tryz.prog 139 #[.pointer (some ⟨g,0,none⟩),.int .u32 x] w fun r w'=>(∃ v,r=.returned v)∧But g w w'∧Blk w' g t (wds (Dg.step s x)):=by
  obtain ⟨a,b,c,d,e,f,i,z,rfl⟩:=Dg.eight hs;exact step_any g t a b c d e f i z x w hb
theorem run_index_wds {P:Program} (w:World) (t e n:Nat) (l:List Int) (i:Nat) (h:P.underlying t=some (.array n e)) (d:TypeDesc) (hd:P.underlying e=some d) (he:(match d with | .struct _ | .array _ _=>true | _=>false)=false) (hs:(P.info? e).map (·.size)=some 1) (hi:i < n) (hl:i < l.length) :
    (Instr.index t (.agg (wds l)) (.int .i64 i)).run P w=.ok (w32 (l[i]?.getD 0)) w:=by
  have hin:0≤(i:Int)∧(i:Int) < n:=by omega
  have hagg:(isAgg e).run P w=.ok false w:=by
    unfold isAgg;rw [Sem.run_bind,run_underlying hd w];cases d <;> simp_all
  cases hq:P.info? e with
  | none=>simp [hq] at hs
  | some j =>
    have hj:j.size=1:=by simpa [hq] using hs
    have hc:=wds_at hl;simp [Instr.index,run_underlying h,asIntOf,part,hagg,sizeOf,typeInfo,hq,hj,hl,hi,hc,go_sem]
theorem app_at {l:List Int} {r:Array Value} {i:Nat} (h:i < l.length):(wds l ++ r)[i]? = some (w32 (l[i]?.getD 0)):=by
  rw [Array.getElem?_append_left (by rw [wds_size];exact h),wds_at h]
theorem app_set (l:List Int) (r:Array Value) (i:Nat) (h:i < l.length) (x:Int):(wds l ++ r).setIfInBounds i (w32 x)=wds (l.set i x) ++ r:=by
  rw [← wds_set]
  apply Array.ext_getElem?
  intro j
  by_cases hj:j < l.length
  · rw [Array.getElem?_append_left (by simp [wds_size];exact hj),Array.getElem?_setIfInBounds,Array.getElem?_setIfInBounds,Array.getElem?_append_left (by rw [wds_size];exact hj)]
    by_cases e:i=j
    · subst e
      simp [wds_size,h,show i < l.length+r.size by omega]
    · simp [e]
  · have hne:¬ i=j:=by omega
    rw [Array.getElem?_append_right (by simp [wds_size];omega),Array.getElem?_setIfInBounds,if_neg hne,Array.getElem?_append_right (by rw [wds_size];omega)];simp
set_option maxHeartbeats 1000000 in
set_option maxRecDepth 100000 in
theorem add_any (g t b o cap:Nat) (s bs:List Int) (rest:Array Value) (w:World) (hs:s.length=8) (hb:Blk w g t (wds s ++ rest)) (hg:0≠g) (hc:Cubes w)
    (hl:bs.length=64) (hcap:64≤cap) (hr:Rd w b o bs) (h8:∀ i:Nat,0≤bs[i]?.getD 0∧bs[i]?.getD 0≤255) :
    Calls Tryz.prog 121 #[.pointer (some ⟨g,0,none⟩),.slice (some ⟨b,o,none⟩) 64 cap] w fun e w'=>(∃ v,e=.returned v)∧But g w w'∧Blk w' g t (wds (Dg.block s bs) ++ rest):=by
  obtain ⟨s0,s1,s2,s3,s4,s5,s6,s7,e8⟩:=Dg.eight hs;have HBg:=hide hb;have c0:=(hb.cell 0).trans (app_at (by omega));have c1:=(hb.cell 1).trans (app_at (by omega));have c2:=(hb.cell 2).trans (app_at (by omega));have c3:=(hb.cell 3).trans (app_at (by omega));have c4:=(hb.cell 4).trans (app_at (by omega));have c5:=(hb.cell 5).trans (app_at (by omega));have c6:=(hb.cell 6).trans (app_at (by omega));have c7:=(hb.cell 7).trans (app_at (by omega));rw [e8] at c0 c1 c2 c3 c4 c5 c6 c7;simp only [List.getElem?_cons_zero,List.getElem?_cons_succ,Option.getD_some] at c0 c1 c2 c3 c4 c5 c6 c7;have HE8:=hide e8;have HG:=hide hg;have HC:=hide hc;have HL:=hide hl;have HR:=hide hr;have H8:=hide h8;have HS:=hide hs;clear e8 hb hg hc hl hr h8 hs;go_enter Tryz.func121,Tryz.ntmps121
  go_wp2_with fail
  have hN:Blk (w.alloc (.cells #[w32 s0,w32 s1,w32 s2,w32 s3,w32 s4,w32 s5,w32 s6,w32 s7] 125)) w.heap.size 125 (wds s):=by rw [HE8.out];exact blk_new _ _ _
  have hb1:Below w.heap.size w (w.alloc (.cells #[w32 s0,w32 s1,w32 s2,w32 s3,w32 s4,w32 s5,w32 s6,w32 s7] 125)):=(Below.refl _ _).alloc (Nat.le_refl _) _;refine (spread_any b o cap bs _ HL.out hcap (HR.out.below hb1) H8.out).mono ?_;rintro e w2 ⟨rfl,b2⟩;have HN2:=hide (hN.below' b2);have HB2:=hide (bthen hb1 b2);clear hN hb1 b2 c0 c1 c2 c3 c4 c5 c6 c7 HE8 HR H8 HL;obtain ⟨W,hW⟩:∃ W,W=Dg.spread bs:=⟨_,rfl⟩;have HWl:Hid (W.length=64):=by rw [hW];exact Dg.spread_length bs
  rw [← hW];have HW:=hide hW;clear hW
  go_wp2_with fail
  go_loopw [14] (fun i wr=>∃ k:Nat,k≤64∧i=.int .i64 k∧Blk wr w.heap.size 125 (wds (Dg.rounds s W k))∧But w.heap.size w2 wr) (fun i _=>64 - (intOf i).toNat)
  case atStart=>exact ⟨0,by omega,rfl,HN2.out,But.refl _ _⟩
  case round =>
    obtain ⟨k,hk,rfl,hB,hbut⟩:=hrel
    by_cases hlt:k < 64
    · have hcube:=((HC.out.below' HB2.out).but hbut (by have:=HC.out.lt;omega)) k hlt
      have hix:=run_index_wds (P:=Tryz.prog) wr 147 123 64 W k Tryz.underlying147 _ Tryz.underlying123 rfl (by kernel_rfl) hlt (by rw [HWl.out];exact hlt);have HBk:=hide hB;have HBu:=hide hbut;clear hB hbut
      go_wp2_with fail
      refine (step_list w.heap.size 125 (Dg.rounds s W k) _ _ (by rw [Dg.rounds_length];exact HS.out) HBk.out).mono ?_;rintro e w3 ⟨⟨v3,rfl⟩,b3,hB3⟩;clear hcube hix
      go_wp2_with fail
      go_roundw
      case rel=>exact ⟨k+1,by omega,by go_num,hB3,HBu.out.trans b3⟩
      case measure=>simp [intOf];omega
    · have HK:Hid (k=64):=by show k=64;omega
      have HBg2:Hid (Blk wr g t (wds s ++ rest)):=(hbut.other (HBg.out.below' HB2.out) (by have:=HBg.out.lt;omega));have HW2:Hid (Below w.heap.size w wr):=HB2.out.trans (hbut.to_below HB2.out.size (Nat.le_refl _));obtain ⟨n,hn⟩:∃ n,n=Dg.rounds s W 64:=⟨_,rfl⟩;have HNB:Hid (Blk wr w.heap.size 125 (wds n)):=by rw [hn,← HK.out];exact hB
      have HNn:Hid (n.length=8):=by rw [hn];exact (Dg.rounds_length s W 64).trans HS.out
      have HN:=hide hn;clear hn hB hbut HN2 HB2 HBg
      go_upto_region 6 with fail
      clear hlt hk;refine wp_region_lit ?_;refine wpList_load_row rfl _ _ rfl w.heap.size rfl 125 (wds n) (0,0) _ HNB.out Tryz.underlying125 rfl (by rw [wds_size,HNn.out];kernel_rfl) ?_;simp only [Act.put,List.setIfInBounds_toArray,List.set_cons_zero,List.set_cons_succ]
      go_wp2_with fail
      go_loopw [26] (fun i wq=>∃ k:Nat,k≤8∧i=.int .i64 k∧Blk wq g t (wds (Dg.plus s n k) ++ rest)∧But g wr wq) (fun i _=>8 - (intOf i).toNat)
      case atStart=>exact ⟨0,by omega,rfl,HBg2.out,But.refl _ _⟩
      case round =>
        rename_i wr0 _
        obtain ⟨j,hj,rfl,hB,hbut⟩:=hrel
        by_cases hlt:j < 8
        · have hix:=run_index_wds (P:=Tryz.prog) wr 125 123 8 n j Tryz.underlying125 _ Tryz.underlying123 rfl (by kernel_rfl) hlt (by rw [HNn.out];exact hlt)
          have hcell:=(hB.cell j).trans (app_at (by rw [Dg.plus_length,HS.out];exact hlt));have hfr:=hB.frozen j;have HBk:=hide hB;have HBu:=hide hbut;clear hB hbut
          go_wp2_with fail
          go_region
          go_wp2_with fail
          go_roundw
          case rel =>
            refine ⟨j+1,by omega,by go_num,?_,HBu.out.trans ((But.refl _ _).set j _).drew⟩;have h9:=(HBk.out.set j (w32 (((Dg.plus s n j)[j]?.getD 0+n[j]?.getD 0) % 4294967296))).drew;rw [app_set _ _ _ (by rw [Dg.plus_length,HS.out];exact hlt)] at h9;exact h9
          case measure=>simp [intOf];omega
        · have HJ:Hid (j=8):=by show j=8;omega
          go_wp2_with fail
          go_end0
          refine ⟨⟨_,rfl⟩,(But.of_below HW2.out).trans hbut,?_⟩;rw [HJ.out,HN.out,HW.out] at hB;exact hB
end Go.Proofs.YtapcmbbhhclepaaGreatDoor.Dig
namespace Go.Proofs.YtapcmbbhhclepaaGreatDoor.Dig
open Go.RowKit
theorem infoByte:(Tryz.prog.info? 5).map (fun i=>(i.zero,i.size,i.bytes))=some (some (.int .u8 0),1,1):=by kernel_rfl
set_option maxHeartbeats 1000000 in
theorem great_any (base g n cap:Nat) (xs:List Value) (x:Int) (k:Nat) (w:World) (hown:w.ownsRow base 5 1 (.slice (some ⟨g,0,none⟩) n cap) n xs) (hfit:n+k≤cap) (hx:0≤x) (hk:k≤8) (hb:base≤w.heap.size) (hg:base≤g) :
    Calls Tryz.prog 140 #[.slice (some ⟨g,0,none⟩) n cap,.int .u64 x,.int .i64 k] w fun e w'=>e=.returned (.slice (some ⟨g,0,none⟩) (n+k) cap) ∧
      w'.ownsRow base 5 1 (.slice (some ⟨g,0,none⟩) (n+k) cap) (n+k) (xs ++ (Dg.be x k).map b8)∧Below base w w':=by
  obtain ⟨i0,hi,hz0,hz1,hz2⟩:=info_parts infoByte;have HOW:=hide hown;clear hown;go_enter Tryz.func140,Tryz.ntmps140
  go_wp2_with fail
  go_loopw [0,7] (fun v i wr=>∃ (m j:Nat) (iv:Int) (pre:List Int),Hid (m+j=k)∧v=.slice (some ⟨g,0,none⟩) (n+j) cap∧i=.int .i64 iv∧Hid (iv=(m:Int) - 1)∧Hid (pre ++ Dg.be x m=Dg.be x k)∧Hid (pre.length=j)∧Hid (wr.ownsRow base 5 1 (.slice (some ⟨g,0,none⟩) (n+j) cap) (n+j) (xs ++ pre.map b8))∧Hid (Below base w wr)) (fun _ i _=>(intOf i+1).toNat)
  case atStart=>exact ⟨k,0,_,[],by show k+0=k;omega,rfl,rfl,rfl,rfl,rfl,by simpa using HOW,Below.refl _ _⟩
  case round =>
    obtain ⟨m,j,iv,pre,Hm,rfl,rfl,Hi,Hp,Hl,Ho,HB⟩:=hrel;have h7:iv≤7:=by have:=Hi.out;have:=Hm.out;omega
    by_cases h0:0≤iv
    · have hjc:n+j+1≤cap:=by have:=Hi.out;have:=Hm.out;omega
      go_wp2_with (at_builtin;refine wpList_append_fits _ rfl _ _ 22 rfl base 5 i0 1 Tryz.underlying22 hi hz1 g (n+j) cap (xs ++ pre.map b8) rfl (Ho.out.alloc _) ⟨wr.heap.size,0,none⟩ 1 1 [b8 (x / 2 ^ (8 * iv).toNat % 256)] rfl rfl (cell_one_new _ _ _) (by simp [Value.oneCell']) hjc ?_;intro w1 hown1 hgrow1)
      have hb1:Below base w w1:=(HB.out.alloc (Nat.le_trans hb HB.out.size) _).grown hgrow1 (by have:=HB.out.size;simp;omega) (fun q hq=>by cases hq;exact hg)
      go_roundw
      case rel =>
        obtain ⟨m',rfl⟩:∃ m',m=m'+1:=⟨m - 1,by have:=Hi.out;omega⟩;have hiv:iv=(m':Int):=by have:=Hi.out;omega
        refine ⟨m',j+1,_,pre ++ [x / 2 ^ (8 * m') % 256],by have:=Hm.out;show m'+(j+1)=k;omega,rfl,rfl,by show iv - 1=(m':Int) - 1;omega,?_,?_,?_,hb1⟩
        · show pre ++ [x / 2 ^ (8 * m') % 256] ++ Dg.be x m'=Dg.be x k
          rw [← Hp.out];simp [Dg.be]
        · show (pre ++ [_]).length=j+1
          simp [Hl.out]
        · have e8:(8 * iv).toNat=8 * m':=by omega
          rw [e8] at hown1;unfold Hid;rw [← Nat.add_assoc]
          simpa [List.append_assoc] using hown1
      case measure=>simp [intOf];omega
    · go_wp2_with fail
      go_ret
      have hm0:m=0:=by have:=Hi.out;omega
      subst hm0;have hj:j=k:=by have:=Hm.out;omega
      subst hj;have hp:=Hp.out;simp only [Dg.be,List.append_nil] at hp;rw [← hp];exact ⟨rfl,Ho.out,HB.out⟩
set_option maxHeartbeats 1000000 in
theorem bytes_any (g t:Nat) (s:List Int) (rest:Array Value) (w:World) (hs:s.length=8) (hb:Blk w g t (wds s ++ rest)) (h32:∀ i:Nat,0≤s[i]?.getD 0∧s[i]?.getD 0≤4294967295) :
    Calls Tryz.prog 123 #[.pointer (some ⟨g,0,none⟩)] w fun e w'=>∃ g',e=.returned (.slice (some ⟨g',0,none⟩) 32 32) ∧
      w'.ownsRow w.heap.size 5 1 (.slice (some ⟨g',0,none⟩) 32 32) 32 ((s.flatMap (Dg.be · 4)).map b8)∧Below w.heap.size w w':=by
  obtain ⟨i0,hi,hz0,hz1,hz2⟩:=info_parts infoByte;have HBg:=hide hb;have HS:=hide hs;clear hb hs;go_enter Tryz.func123,Tryz.ntmps123
  go_wp2_with (at_make;refine wpList_make_own _ rfl _ _ 22 rfl w.heap.size 5 i0 (.int .u8 0) 1 Tryz.underlying22 hi hz0 hz1 _ _ _ 32 rfl rfl rfl (by rw [hz2];omega) (by simp [maxLen]) (Nat.le_refl _) ?_;intro w1 hown1 hgrow1)
  have HO1:=hide hown1;have HB1:Hid (Below w.heap.size w w1):=(Below.refl _ _).grown hgrow1 (Nat.le_refl _) (fun q hq=>by cases hq);clear hown1 hgrow1
  go_loopw [3,8] (fun v i wr=>∃ k:Nat,k≤8∧i=.int .i64 k∧v=.slice (some ⟨w.heap.size,0,none⟩) (4 * k) 32∧Hid (wr.ownsRow w.heap.size 5 1 (.slice (some ⟨w.heap.size,0,none⟩) (4 * k) 32) (4 * k) (((s.take k).flatMap (Dg.be · 4)).map b8))∧Hid (Below w.heap.size w wr)) (fun _ i _=>8 - (intOf i).toNat)
  case atStart=>exact ⟨0,by omega,rfl,rfl,by simpa using HO1,HB1⟩
  case round =>
    obtain ⟨k,hk,rfl,rfl,HO,HB⟩:=hrel
    by_cases hlt:k < 8
    · have hcell:=((HBg.out.below' HB.out).cell k).trans (app_at (by rw [HS.out];exact hlt))
      have hbd:=h32 k
      go_wp2_with fail
      refine (great_any w.heap.size w.heap.size (4 * k) 32 _ (s[k]?.getD 0) 4 _ HO.out (by omega) (by omega) (by omega) HB.out.size (Nat.le_refl _)).mono ?_;rintro e w3 ⟨rfl,hown3,b3⟩;clear hcell
      go_wp2_with fail
      go_roundw
      case rel =>
        refine ⟨k+1,by omega,by go_num,by rw [Nat.mul_add],?_,HB.out.trans b3⟩;unfold Hid;rw [Nat.mul_add]
        have e:s.take (k+1)=s.take k ++ [s[k]?.getD 0]:=by
          rw [List.take_succ_eq_append_getElem (by rw [HS.out];exact hlt)];simp [show k < s.length by rw [HS.out];exact hlt]
        rw [e,List.flatMap_append,List.map_append]
        simpa using hown3
      case measure=>simp [intOf];omega
    · have hk8:k=8:=by omega
      go_wp2_with fail
      go_ret
      subst hk8;have h:=HO.out;rw [List.take_of_length_le (by rw [HS.out];omega)] at h;exact ⟨w.heap.size,rfl,h,HB.out⟩
end Go.Proofs.YtapcmbbhhclepaaGreatDoor.Dig
namespace Go.Proofs.YtapcmbbhhclepaaGreatDoor.Dig
open Go.RowKit
theorem made_at (q j:Nat) (h:j < q):(madeCells #[b8 0] q)[j]? = some (b8 0):=by
  have:=congrArg (·[j]?) (toList_madeCells_one (b8 0) q)
  simp only [Array.getElem?_toList] at this;rw [this];simp [h]
theorem tail_own (w:World) (q:Nat) (hq:q≤63) :
    (w.alloc (.cells ((madeCells #[b8 0] (9+q)).setIfInBounds 0 (b8 128)) 5)).ownsRow w.heap.size 5 1 (.slice (some ⟨w.heap.size,0,none⟩) (1+q) (9+q)) (1+q) (b8 128 :: List.replicate q (b8 0)):=by
  refine ⟨by simp;omega,.inr ⟨w.heap.size,9+q,_,rfl,Nat.le_refl _,blk_new w 5 _,by omega,by simp [maxLen];omega,by simp [size_madeCells],?_⟩⟩;rw [Array.toList_setIfInBounds,toList_madeCells_one,show 9+q=(1+q - 1+8)+1 by omega,List.replicate_succ,List.set_cons_zero,show (1+q) * 1=q+1 by omega,List.take_succ_cons,List.take_replicate];rw [show min q (1+q - 1+8)=q by omega]
theorem noughts_walk (n:Int) (h0:0≤n) (h1:n < 18446744073709551616):wrap64 ((IntKind.u64.wrap (55 - n)).tmod 64)=(Dg.noughts n:Int):=by
  unfold Dg.noughts wrap64;rw [IntKind.wrap_u64,Int.tmod_eq_emod_of_nonneg (by omega)];omega
set_option maxHeartbeats 1000000 in
theorem tail_any (n:Int) (w:World) (h0:0≤n) (h1:n < 18446744073709551616) :
    Calls Tryz.prog 122 #[.int .u64 n] w fun e w'=>∃ g m,Hid (m=(Dg.tail n).length)∧e=.returned (.slice (some ⟨g,0,none⟩) m m) ∧
      w'.ownsRow w.heap.size 5 1 (.slice (some ⟨g,0,none⟩) m m) m ((Dg.tail n).map b8)∧Below w.heap.size w w':=by
  obtain ⟨i0,hi,hz0,hz1,hz2⟩:=info_parts infoByte;obtain ⟨q,hq⟩:∃ q,Dg.noughts n=q:=⟨_,rfl⟩;have hq63:q≤63:=by rw [← hq];exact Dg.noughts_le n
  have en:=noughts_walk n h0 h1;rw [hq] at en;have HQ:=hide hq;have HEN:=hide en
  have hmk:(Instr.makeSlice 22 (.int .i64 (1+(q:Int))) (.int .i64 (1+(q:Int)+8))).run Tryz.prog w=.ok (.slice (some ⟨w.heap.size,0,none⟩) (1+q) (9+q)) (w.alloc (.cells (madeCells #[b8 0] (9+q)) 5)):=by
    have:=run_make (P:=Tryz.prog) w 22 5 i0 _ Tryz.underlying22 hi hz0 .i64 .i64 (1+(q:Int)) (1+(q:Int)+8) (by omega) (by omega) (by rw [hz2];omega) (by omega)
    rw [hz1,show (1+(q:Int)).toNat=1+q by omega,show (1+(q:Int)+8).toNat=9+q by omega,Nat.mul_one] at this;exact this
  have hB:=blk_new w 5 (madeCells #[b8 0] (9+q));have hc0:=(hB.cell 0).trans (made_at _ _ (by omega));have hf0:=hB.frozen 0;clear hq en hi hz0 hz1 hz2 hB;go_enter Tryz.func122,Tryz.ntmps122
  go_upto_region 2 with fail
  simp only [HEN.out];clear HEN
  go_wp2_with fail
  have e8:=IntKind.wrap_u64 (n * 8);rw [e8];clear e8;refine (great_any w.heap.size w.heap.size (1+q) (9+q) _ (n * 8 % 18446744073709551616) 8 _ (tail_own w q hq63) (by omega) (by omega) (by omega) (by simp) (Nat.le_refl _)).mono ?_;rintro e w3 ⟨rfl,hown3,b3⟩;clear hmk hc0 hf0
  go_wp2_with fail
  go_ret
  refine ⟨w.heap.size,9+q,by show 9+q=_;rw [Dg.tail_length,HQ.out];omega,?_,?_,?_⟩
  · rw [show 1+q+8=9+q by omega]
    rfl
  · rw [show 1+q+8=9+q by omega] at hown3
    have:(Dg.tail n).map b8=b8 128 :: List.replicate q (b8 0) ++ (Dg.be (n * 8 % 18446744073709551616) 8).map b8:=by
      unfold Dg.tail;rw [HQ.out];simp
    rw [this];exact hown3
  · exact ((Below.refl _ _).alloc (Nat.le_refl _) _).trans b3
end Go.Proofs.YtapcmbbhhclepaaGreatDoor.Dig
namespace Go.Proofs.YtapcmbbhhclepaaGreatDoor.Dig
open Go.RowKit
def hr (r:List Int) (n:Int):Array Value:=((r.map b8) ++ [Value.int .u64 n]).toArray
def hc (s r:List Int) (n:Int):Array Value:=wds s ++ hr r n
theorem hr_size (r:List Int) (n:Int):(hr r n).size=r.length+1:=by simp [hr]
theorem hc_size (s r:List Int) (n:Int):(hc s r n).size=s.length+(r.length+1):=by simp [hc,wds_size,hr_size]
theorem hc_rest {s r:List Int} {n:Int} (hs:s.length=8) {i:Nat} (h:i < r.length):(hc s r n)[8+i]? = some (b8 (r[i]?.getD 0)):=by
  unfold hc;rw [Array.getElem?_append_right (by rw [wds_size];omega),wds_size,hs,show 8+i - 8=i by omega];simp [hr,List.getElem?_append,h]
theorem hc_long {s r:List Int} {n:Int} (hs:s.length=8) (hr':r.length=64):(hc s r n)[72]? = some (.int .u64 n):=by
  unfold hc;rw [Array.getElem?_append_right (by rw [wds_size];omega),wds_size,hs];simp [hr,List.getElem?_append,hr']
theorem hc_setLong {s r:List Int} {n:Int} (hs:s.length=8) (hr':r.length=64) (m:Int):(hc s r n).setIfInBounds 72 (.int .u64 m)=hc s r m:=by
  obtain ⟨a,b,c,d,e,f,g,i,rfl⟩:=Dg.eight hs
  apply Array.ext_getElem?
  intro j;rw [Array.getElem?_setIfInBounds]
  by_cases h:72=j
  · subst h
    rw [if_pos rfl,hc_long rfl hr',hc_size,if_pos (by simp [hr'])]
  · rw [if_neg h]
    unfold hc
    by_cases h8:j < 8
    · rw [Array.getElem?_append_left (by rw [wds_size];exact h8),Array.getElem?_append_left (by rw [wds_size];exact h8)]
    · rw [Array.getElem?_append_right (by rw [wds_size];simp;omega),Array.getElem?_append_right (by rw [wds_size];simp;omega)]
      simp only [hr,wds_size,List.getElem?_toArray,List.getElem?_append,List.length_map]
      split
      · rfl
      · have:¬ j - [a,b,c,d,e,f,g,i].length - r.length=0:=by simp [hr'];omega
        rw [List.getElem?_eq_none (by simp;simp at this;omega),List.getElem?_eq_none (by simp;simp at this;omega)]
def IsB (w:World) (a:Option Addr) (len cap:Nat) (bs:List Int):Prop :=
  bs.length=len∧len≤cap∧cap≤9223372036854775807∧(∀ i:Nat,0≤bs[i]?.getD 0∧bs[i]?.getD 0≤255)∧((a=none∧cap=0)∨∃ x,a=some x∧(0 < len→∃ b o,x=⟨b,o,none⟩∧Rd w b o bs))
def Off (g:Nat) (a:Option Addr) (len:Nat):Prop:=0 < len→∀ x,a=some x→x.block≠g
theorem IsB.below {w w':World} {a:Option Addr} {len cap:Nat} {bs:List Int} (h:IsB w a len cap bs) (b:Below w.heap.size w w'):IsB w' a len cap bs:=by
  obtain ⟨h1,h2,h3,h4,h5⟩:=h;refine ⟨h1,h2,h3,h4,?_⟩;rcases h5 with h5 | ⟨x,hx,h6⟩
  · exact .inl h5
  · exact .inr ⟨x,hx,fun hl=>by obtain ⟨g,o,e,hr⟩:=h6 hl;exact ⟨g,o,e,hr.below b⟩⟩
theorem IsB.but {w w':World} {a:Option Addr} {len cap g:Nat} {bs:List Int} (h:IsB w a len cap bs) (b:But g w w') (ho:Off g a len):IsB w' a len cap bs:=by
  obtain ⟨h1,h2,h3,h4,h5⟩:=h;refine ⟨h1,h2,h3,h4,?_⟩;rcases h5 with h5 | ⟨x,hx,h6⟩
  · exact .inl h5
  · exact .inr ⟨x,hx,fun hl=>by obtain ⟨q,o,e,hr⟩:=h6 hl;exact ⟨q,o,e,hr.but b (by have:=ho hl x hx;rw [e] at this;exact this)⟩⟩
theorem IsB.off {w:World} {a:Option Addr} {len cap:Nat} {bs:List Int} (h:IsB w a len cap bs) {g:Nat} (hg:w.heap.size≤g):Off g a len:=by
  intro hl x hx;obtain ⟨h1,_,_,_,⟨rfl,_⟩ | ⟨y,rfl,h6⟩⟩:=h
  · cases hx
  · cases hx
    obtain ⟨b,o,rfl,hR⟩:=h6 hl;have:=hR.lt (by omega)
    show b≠g
    omega
theorem start_any (w:World):Calls Tryz.prog 119 #[] w fun e w'=>e=.returned (.agg (wds Dg.start))∧Below w.heap.size w w':=by
  go_enter Tryz.func119,Tryz.ntmps119
  go_wp2
  refine bodyPost_ret (v:=.agg (wds Dg.start)) ?_ rfl ⟨rfl,(Below.refl _ _).alloc (Nat.le_refl _) _⟩;exact results_cell_row rfl _ _ w.heap.size 125 (wds Dg.start) (0,0) _ rfl (blk_new w _ _) Tryz.underlying125 rfl (by kernel_rfl)
theorem new_any (w:World):Calls Tryz.prog 91 #[] w fun e w'=>e=.returned (.pointer (some ⟨w.heap.size,0,none⟩))∧Below w.heap.size w w'∧Blk w' w.heap.size 128 (hc (List.replicate 8 0) (List.replicate 64 0) 0):=by
  obtain ⟨Z,hZ⟩:∃ Z,hc (List.replicate 8 0) (List.replicate 64 0) 0=Z:=⟨_,rfl⟩;rw [hZ];go_enter Tryz.func91,Tryz.ntmps91
  go_upto_region 1 with fail
  refine wp_region_lit ?_;refine wpList_build rfl 128 #[] rfl (by kernel_rfl) ?_;have e:((Tryz.prog.built 128 (Array.map (fun (x:Nat×Operand)=>(x.1,Act.eval { tmps:=#[Value.pointer none,undef,undef],defers:=[] } x.2)) #[]).toList).getD #[])=hc (List.replicate 8 0) (List.replicate 64 0) 0:=by kernel_rfl
  simp only [Act.put,List.setIfInBounds_toArray,List.set_cons_zero,List.set_cons_succ];rw [e.trans hZ];clear e hZ
  go_wp2
  go_ret
  exact ⟨rfl,(Below.refl _ _).alloc (Nat.le_refl _) _,blk_new w _ _⟩
def splice (r bs:List Int) (k:Nat):List Int:=r.take k ++ bs ++ r.drop (k+bs.length)
theorem splice_length (r bs:List Int) (k:Nat) (h:k+bs.length≤r.length):(splice r bs k).length=r.length:=by simp [splice];omega
theorem hc_splice (s r bs:List Int) (n:Int) (k:Nat) (hs:s.length=8) (h:k+bs.length≤r.length) :
    ((hc s r n).toList.take (8+k) ++ bs.map b8 ++ (hc s r n).toList.drop (8+k+(bs.map b8).length)).toArray=hc s (splice r bs k) n:=by
  have e:(hc s r n).toList=s.map w32 ++ (r.map b8 ++ [Value.int .u64 n]):=by simp [hc,wds,hr]
  have e1:(s.map w32 ++ (r.map b8 ++ [Value.int .u64 n])).take (8+k)=s.map w32 ++ (r.take k).map b8:=by
    rw [List.take_append,List.take_of_length_le (by simp;omega),List.length_map,hs,show 8+k - 8=k by omega,List.take_append_of_le_length (by simp;omega),List.map_take]
  have e2:(s.map w32 ++ (r.map b8 ++ [Value.int .u64 n])).drop (8+k+bs.length)=(r.drop (k+bs.length)).map b8 ++ [Value.int .u64 n]:=by
    rw [List.drop_append,List.drop_eq_nil_of_le (by simp;omega),List.length_map,hs,show 8+k+bs.length - 8=k+bs.length by omega,List.drop_append_of_le_length (by simp;omega),List.map_drop];rfl
  rw [e,e1,List.length_map,e2];simp [hc,wds,hr,splice]
theorem run_copy_rest (w:World) (g q:Nat) (s r bs:List Int) (n:Int) (k dLen dCap sLen sCap:Nat) (a:Addr) (hs:s.length=8) (hb:Blk w g 128 (hc s r n)) (hl:bs.length=Nat.min sLen dLen) (hk:k+bs.length≤r.length)
    (hsrc:∃ b o,a=⟨b,o,none⟩∧Rd w b o bs) :
    (Builtin.copy_ #[22,22] 3 #[.slice (some ⟨g,8+k,none⟩) dLen dCap,.slice (some a) sLen sCap]).run Tryz.prog w=.ok (goInt bs.length) (w.setRow g (hc s (splice r bs k) n)):=by
  obtain ⟨b,o,rfl,hr'⟩:=hsrc
  have h:=run_copy_row (P:=Tryz.prog) w 22 22 3 5 g (8+k) dLen dCap ⟨b,o,none⟩ sLen sCap (hc s r n) 128 (bs.map b8) Tryz.underlying22 (by kernel_rfl) hb (by rw [List.length_map];exact hl)
    (fun j v hv=>by
      have hadd:(⟨b,o,none⟩:Addr).add j=⟨b,o+j,none⟩:=by unfold Addr.add;split <;> simp_all
      refine Eq.trans (congrArg _ hadd) ?_;have hj:j < bs.length:=by have:=(List.getElem?_eq_some_iff.1 hv).1;simpa using this
      refine (hr' j hj).trans ?_;rw [List.getElem?_map,List.getElem?_eq_getElem hj] at hv;simp at hv
      simp [hj,hv])
    (by rw [hc_size,List.length_map,hs];omega) (fun v hv=>by simp only [List.mem_map] at hv;obtain ⟨x,_,rfl⟩:=hv;rfl)
  rw [hc_splice s r bs n k hs hk,List.length_map] at h;exact h
end Go.Proofs.YtapcmbbhhclepaaGreatDoor.Dig
namespace Go.Proofs.YtapcmbbhhclepaaGreatDoor.Dig
open Go.RowKit
theorem splice_nil (r:List Int) (k:Nat):splice r [] k=r:=by simp [splice]
theorem run_copy_isB (w:World) (g:Nat) (s r bs:List Int) (n:Int) (k dLen dCap len cap m:Nat) (a:Option Addr) (hs:s.length=8) (hr':r.length=64) (hb:Blk w g 128 (hc s r n)) (hB:IsB w a len cap bs) (hm:m=Nat.min len dLen) (hk:k+m≤64) :
    (Builtin.copy_ #[22,22] 3 #[.slice (some ⟨g,8+k,none⟩) dLen dCap,.slice a len cap]).run Tryz.prog w=.ok (.int .i64 m) (w.setRow g (hc s (splice r (bs.take m) k) n)):=by
  obtain ⟨h1,h2,h3,h4,h5⟩:=hB
  by_cases h0:m=0
  · subst h0
    rw [List.take_zero,splice_nil,setRow_self w g _ _ _ hb];exact run_copy_none w 22 22 3 5 (some ⟨g,8+k,none⟩) a dLen dCap len cap Tryz.underlying22 (by kernel_rfl) hm.symm
  · have hlen : 0 < len := by rcases Nat.eq_zero_or_pos len with h | h;· subst h;simp [Nat.min_def] at hm;omega
                              · exact h
    rcases h5 with ⟨_,hc0⟩ | ⟨x,rfl,h6⟩
    · omega
    · obtain ⟨b,o,rfl,hR⟩:=h6 hlen
      have hml:m≤len:=by rw [hm];exact Nat.min_le_left _ _
      have:=run_copy_rest w g 0 s r (bs.take m) n k dLen dCap len cap ⟨b,o,none⟩ hs hb (by rw [List.length_take,h1,← hm];omega) (by rw [List.length_take];omega)
        ⟨b,o,rfl,fun i hi=>by
          rw [List.length_take] at hi;have:=hR i (by omega)
          rw [List.getElem?_take,if_pos (by omega)]
          exact this⟩
      rw [List.length_take,h1,Nat.min_eq_left hml] at this;exact this
theorem run_slice_rest (w:World) (g k:Nat) (hk:k < 64):(Instr.sliceAt 126 (.pointer (some ⟨g,8,none⟩)) (some (.int .i64 k)) none none).run Tryz.prog w=.ok (.slice (some ⟨g,8+k,none⟩) (64 - k) (64 - k)) w:=by
  have hn:¬ 64=k:=by omega
  have hu:(Tryz.prog.underlying 126)=some (.array 64 5):=Tryz.underlying126
  have hs:(sizeOf 5).run Tryz.prog w=.ok 1 w:=by
    cases hq:Tryz.prog.info? 5 with
    | none=>have:=infoByte;simp [hq] at this
    | some j =>
      have hj:j.size=1:=by have:=infoByte;simp [hq] at this;exact this.2.1
      simp [sizeOf,typeInfo,hq,hj]
  have h1:(k:Int)≤64:=by omega
  simp [Instr.sliceAt,Instr.sureAddr,run_underlying hu,Instr.sliceBounds,run_sliceBound,hs,h1,hn,Addr.add]
set_option maxHeartbeats 1000000 in
theorem fill_zero (g:Nat) (s r:List Int) (n:Int) (a:Option Addr) (len cap:Nat) (w:World) (hs:s.length=8) (hr':r.length=64) (hb:Blk w g 128 (hc s r n)) (h0:0≤n) (h1:n < 4611686018427387904) (hk:n % 64=0) :
    Calls Tryz.prog 120 #[.pointer (some ⟨g,0,none⟩),.slice a len cap] w fun e w'=>e=.returned (.slice a len cap)∧w'=w:=by
  have hl:=(hb.cell 72).trans (hc_long hs hr');clear hs hr' hb;go_enter Tryz.func120,Tryz.ntmps120
  go_wp2_with fail
  go_ret
  exact ⟨rfl,rfl⟩
theorem take_bytes {bs:List Int} (h:∀ i:Nat,0≤bs[i]?.getD 0∧bs[i]?.getD 0≤255) (m i:Nat):0≤(bs.take m)[i]?.getD 0∧(bs.take m)[i]?.getD 0≤255:=by
  rw [List.getElem?_take]
  split
  · exact h i
  · simp
theorem app_bytes {l r:List Int} (h:∀ i:Nat,0≤l[i]?.getD 0∧l[i]?.getD 0≤255) (h':∀ i:Nat,0≤r[i]?.getD 0∧r[i]?.getD 0≤255) (i:Nat):0≤(l ++ r)[i]?.getD 0∧(l ++ r)[i]?.getD 0≤255:=by
  rw [List.getElem?_append]
  split
  · exact h i
  · exact h' _
theorem splice_bytes {r bs:List Int} (h:∀ i:Nat,0≤r[i]?.getD 0∧r[i]?.getD 0≤255) (h':∀ i:Nat,0≤bs[i]?.getD 0∧bs[i]?.getD 0≤255) (k:Nat):∀ i:Nat,0≤(splice r bs k)[i]?.getD 0∧(splice r bs k)[i]?.getD 0≤255 :=
  fun i=>app_bytes (fun i=>app_bytes (fun i=>take_bytes h k i) h' i) (fun i=>by rw [List.getElem?_drop];exact h _) i
def cutA (a:Option Addr) (m cap:Nat):Option Addr:=if cap=m then a else a.map (·.add m)
theorem run_slice_cut (w:World) (a:Option Addr) (len cap m:Nat) (hm:m≤len) (hl:len≤cap):(Instr.sliceAt 22 (.slice a len cap) (some (.int .i64 m)) none none).run Tryz.prog w=.ok (.slice (cutA a m cap) (len - m) (cap - m)) w:=by
  have hu:(Tryz.prog.underlying 22)=some (.slice 5):=Tryz.underlying22
  have hs:(sizeOf 5).run Tryz.prog w=.ok 1 w:=by
    cases hq:Tryz.prog.info? 5 with
    | none=>have:=infoByte;simp [hq] at this
    | some j =>
      have hj:j.size=1:=by have:=infoByte;simp [hq] at this;exact this.2.1
      simp [sizeOf,typeInfo,hq,hj]
  have h1:(m:Int)≤len:=by omega
  simp [Instr.sliceAt,Instr.slice,run_underlying hu,Instr.sliceBounds,run_sliceBound,hs,h1,cutA]
theorem IsB.cut {w:World} {a:Option Addr} {len cap m:Nat} {bs:List Int} (h:IsB w a len cap bs) (hm:m≤len):IsB w (cutA a m cap) (len - m) (cap - m) (bs.drop m):=by
  obtain ⟨h1,h2,h3,h4,h5⟩:=h;refine ⟨by simp [h1],by omega,by omega,fun i=>by rw [List.getElem?_drop];exact h4 _,?_⟩;rcases h5 with ⟨rfl,rfl⟩ | ⟨x,rfl,h6⟩
  · exact .inl ⟨by simp [cutA],by omega⟩
  · unfold cutA
    split
    · exact .inr ⟨x,rfl,fun hl=>by omega⟩
    · refine .inr ⟨_,rfl,fun hl=>?_⟩
      obtain ⟨b,o,rfl,hR⟩:=h6 (by omega);refine ⟨b,o+m,by unfold Addr.add;split <;> simp_all,fun i hi=>?_⟩;rw [List.length_drop,h1] at hi;have:=hR (m+i) (by omega)
      rw [List.getElem?_drop,Nat.add_assoc];exact this
theorem Off.cut {g:Nat} {a:Option Addr} {len:Nat} (h:Off g a len) (m cap:Nat):Off g (cutA a m cap) (len - m):=by
  intro hl x hx;replace h:=h (by omega);unfold cutA at hx
  split at hx
  · exact h x hx
  · cases a with
    | none=>simp at hx
    | some y=>simp at hx;have:=h y rfl;rw [← hx];unfold Addr.add;split <;> simpa using this
set_option maxHeartbeats 1000000 in
theorem fill_part (g:Nat) (s r bs:List Int) (n:Int) (k:Nat) (a:Option Addr) (len cap:Nat) (w:World) (hs:s.length=8) (hr':r.length=64) (hb:Blk w g 128 (hc s r n)) (h0:0≤n) (h1:n < 4611686018427387904) (hk:n % 64=k) (hk0:0 < k)
    (hB:IsB w a len cap bs) (hlt:k+len < 64) :
    Calls Tryz.prog 120 #[.pointer (some ⟨g,0,none⟩),.slice a len cap] w fun e w'=>e=.returned (.slice (cutA a len cap) 0 (cap - len))∧But g w w'∧Blk w' g 128 (hc s (splice r bs k) n):=by
  have hl:=(hb.cell 72).trans (hc_long hs hr');have hcp:=run_copy_isB w g s r bs n k (64 - k) (64 - k) len cap len a hs hr' hb hB (by simp [Nat.min_def];omega) (by omega);have hlc:=hB.2.1;have hmx:=hB.2.2.1;have hsl:=run_slice_rest w g k (by omega);have hct:=run_slice_cut (w.setRow g (hc s (splice r bs k) n)) a len cap len (Nat.le_refl _) hlc;rw [Nat.sub_self] at hct;have hne:((k:Int)+(len:Int) == 64)=false:=by simp;omega
  have HBb:=hide hb;have HL:Hid (bs.take len=bs):=List.take_of_length_le (by rw [hB.1];exact Nat.le_refl _);rw [HL.out] at hcp;clear hb hB hs hr';go_enter Tryz.func120,Tryz.ntmps120
  go_wp2_with fail
  go_ret
  exact ⟨rfl,(But.refl _ _).row _,HBb.out.row _⟩
set_option maxHeartbeats 1000000 in
theorem fill_full (g:Nat) (s r bs:List Int) (n:Int) (k:Nat) (a:Option Addr) (len cap:Nat) (w:World) (hs:s.length=8) (hr':r.length=64) (hb:Blk w g 128 (hc s r n)) (h0:0≤n) (h1:n < 4611686018427387904) (hk:n % 64=k) (hk0:0 < k)
    (hB:IsB w a len cap bs) (hge:64≤k+len) (hg:0≠g) (hC:Cubes w) (h8:∀ i:Nat,0≤r[i]?.getD 0∧r[i]?.getD 0≤255) :
    Calls Tryz.prog 120 #[.pointer (some ⟨g,0,none⟩),.slice a len cap] w fun e w'=>e=.returned (.slice (cutA a (64 - k) cap) (len - (64 - k)) (cap - (64 - k)))∧But g w w' ∧
      Blk w' g 128 (hc (Dg.block s (splice r (bs.take (64 - k)) k)) (splice r (bs.take (64 - k)) k) n):=by
  have hk64:k < 64:=by omega
  have hl:=(hb.cell 72).trans (hc_long hs hr');obtain ⟨m,hm⟩:∃ m,m=64 - k:=⟨_,rfl⟩;have hcp:=run_copy_isB w g s r bs n k (64 - k) (64 - k) len cap m a hs hr' hb hB (by rw [hm];exact (Nat.min_eq_right (by omega)).symm) (by omega);have hlc:=hB.2.1;have hmx:=hB.2.2.1;have hsl:=run_slice_rest w g k (by omega);have hne:((k:Int)+(m:Int) == 64)=true:=by simp;omega
  have hm64:m≤64:=by omega
  have HBb:=hide hb;have HI:=hide hB;have Hr:Hid ((splice r (bs.take m) k).length=64):=(splice_length _ _ _ (by rw [List.length_take,hr',hB.1];omega)).trans hr';have Hs:=hide hs;rw [← hm];have HM:=hide hm;clear hb hB hs hr' hm;go_enter Tryz.func120,Tryz.ntmps120
  go_upto_region 6 with fail
  clear hne;generalize ((k:Int)+(m:Int) == 64)=bm;generalize ((k:Int) == 0)=bk;generalize n % 64=nk;have hb2:=HBb.out.row (hc s (splice r (bs.take m) k) n);have b2:But g w (w.setRow g (hc s (splice r (bs.take m) k) n)):=(But.refl _ _).row _;have HC2:Hid (Cubes (w.setRow g (hc s (splice r (bs.take m) k) n))):=hC.but b2 hg;have HG:=hide hg;have H82:Hid (∀ i:Nat,0≤(splice r (bs.take m) k)[i]?.getD 0∧(splice r (bs.take m) k)[i]?.getD 0≤255):=splice_bytes h8 (fun i=>take_bytes HI.out.2.2.2.1 m i) k;clear hcp hsl hC hg h8 HBb;generalize hr2:splice r (bs.take m) k=r2 at hb2 b2 HC2 H82 Hr ⊢;have HB2:=hide hb2;have HBu:=hide b2;have HR2:=hide hr2;clear hb2 b2 hr2;generalize w.setRow g (hc s r2 n)=w2 at HB2 HBu HC2 ⊢;refine' wp_region_facts [(fun _ _ v _=>v=(.pointer (some ⟨g,0,none⟩))),(fun _ _ v _=>v=(.pointer (some ⟨g,0,none⟩))),(fun _ _ v _=>v=(.pointer (some ⟨g,0,none⟩))),(fun _ _ v _=>v=(.pointer (some ⟨g,0,none⟩))),(fun _ _ v _=>v=(.pointer (some ⟨g,0,none⟩))),(fun _ _ v _=>v=(.pointer (some ⟨g,8,none⟩))),(fun _ _ v _=>v=(.slice (some ⟨g,8,none⟩) 64 64))] (by kernel_rfl) rfl ?hA (by kernel_rfl) (by kernel_rfl) (by kernel_rfl) rfl ?mono ?steps ?last
  case hA =>
    intro vs;simp only [puts,Act.put,List.setIfInBounds_toArray,List.set_cons_zero,List.set_cons_succ,Nat.zero_add,Nat.reduceAdd];rfl
  case mono=>exact ⟨mono_eq _,mono_eq _,mono_eq _,mono_eq _,mono_eq _,mono_eq _,mono_eq _,trivial⟩
  case steps =>
    intro Q';refine And.intro ?_ <| And.intro ?_ <| And.intro ?_ <| And.intro ?_ <| And.intro ?_ <| And.intro ?_ <| And.intro ?_ <| trivial
    all_goals
      intro vs lo hi w' hM hd K' hK;dsimp only at hK ⊢;simp only [Act.put,List.setIfInBounds_toArray,List.set_cons_zero,List.set_cons_succ] at hK
    · go_simp
      exact hK.out _ _ rfl (Below.refl _ _)
    · have e0:vs 0=(.pointer (some ⟨g,0,none⟩)):=hd 0 (by kernel_rfl)
      simp only [e0] at hK ⊢;clear e0;go_simp;exact hK.out _ _ rfl (Below.refl _ _)
    · have e1:vs 1=(.pointer (some ⟨g,0,none⟩)):=hd 1 (by kernel_rfl)
      simp only [e1] at hK ⊢;clear e1;go_simp;exact hK.out _ _ rfl (Below.refl _ _)
    · go_simp
      exact hK.out _ _ rfl (Below.refl _ _)
    · have e3:vs 3=(.pointer (some ⟨g,0,none⟩)):=hd 3 (by kernel_rfl)
      simp only [e3] at hK ⊢;clear e3;go_simp;exact hK.out _ _ rfl (Below.refl _ _)
    · have e4:vs 4=(.pointer (some ⟨g,0,none⟩)):=hd 4 (by kernel_rfl)
      simp only [e4] at hK ⊢;clear e4;go_simp;exact hK.out _ _ rfl (Below.refl _ _)
    · have e5:vs 5=(.pointer (some ⟨g,8,none⟩)):=hd 5 (by kernel_rfl)
      simp only [e5] at hK ⊢;clear e5;go_simp;exact hK.out _ _ rfl (Below.refl _ _)
  case last =>
    intro vs lo hi w' hM hlo hap hall K' Q' hK;have h2:vs 2=(.pointer (some ⟨g,0,none⟩)):=hall.2.2.1;have h6:vs 6=(.slice (some ⟨g,8,none⟩) 64 64):=hall.2.2.2.2.2.2.1;dsimp only;simp only [h2,h6];clear h2 h6 hall hap hlo;go_simp;have hb3:=HB2.out.below' hM;refine (add_any g _ g 8 64 s r2 (hr r2 n) _ Hs.out hb3 HG.out (HC2.out.below' hM) Hr.out (Nat.le_refl _) (fun i hi=>(hb3.cell (8+i)).trans (hc_rest Hs.out hi)) H82.out).mono ?_;rintro e w4 ⟨⟨v4,rfl⟩,b4,hb4⟩;refine hK.out _ _ ?_;clear hK hb3;have hct:=run_slice_cut w4 a len cap m (by have:=HM.out;omega) hlc
    go_wp2_with fail
    go_ret
    rw [← HR2.out] at hb4;exact ⟨rfl,(HBu.out.then hM).trans b4,hb4⟩
end Go.Proofs.YtapcmbbhhclepaaGreatDoor.Dig
namespace Go.Proofs.YtapcmbbhhclepaaGreatDoor.Dig
open Go.RowKit Go.Shelf
attribute [local go_sem] Oper.semAt_some
def nch (len:Nat):Nat:=(len+63) / 64
def chV (b o len k:Nat):Value:=.slice (some ⟨b,o+64 * k,none⟩) (min 64 (len - 64 * k)) (min 64 (len - 64 * k))
def upto (N k:Nat):List (Fin N):=(List.finRange N).take k
theorem upto_succ {N k:Nat} (h:k < N):upto N (k+1)=upto N k ++ [⟨k,h⟩]:=by
  unfold upto;rw [List.take_succ_eq_append_getElem (by simpa using h)];simp
theorem upto_length {N k:Nat} (h:k≤N):(upto N k).length=k:=by simp [upto];omega
def Kp2 (x y:Nat) (W W':World):Prop:=W'.heap[x]? = W.heap[x]? ∧ W'.heap[y]? = W.heap[y]?
theorem run_slice_three (w:World) (b o len cap q m:Nat) (hq:q < len) (hl:len≤cap) (hm:q+m≤len) (hm0:0 < m):(Instr.sliceAt 22 (.slice (some ⟨b,o,none⟩) len cap) (some (.int .i64 q)) (some (.int .i64 ((q:Int)+m))) (some (.int .i64 ((q:Int)+m)))).run Tryz.prog w=.ok (.slice (some ⟨b,o+q,none⟩) m m) w:=by
  have hu:(Tryz.prog.underlying 22)=some (.slice 5):=Tryz.underlying22
  have hs:(sizeOf 5).run Tryz.prog w=.ok 1 w:=by
    cases hq:Tryz.prog.info? 5 with
    | none=>have:=infoByte;simp [hq] at this
    | some j =>
      have hj:j.size=1:=by have:=infoByte;simp [hq] at this;exact this.2.1
      simp [sizeOf,typeInfo,hq,hj]
  have h1:(q:Int)+m≤cap:=by omega
  have h2:(q:Int)≤(q:Int)+m:=by omega
  have h3:(0:Int)≤(q:Int)+m:=by omega
  have h4:((q:Int)+m).toNat=q+m:=by omega
  have h5:¬ m=0:=by omega
  simp [Instr.sliceAt,Instr.slice,run_underlying hu,Instr.sliceBounds,run_sliceBound,hs,h1,h2,h3,h4,h5,Addr.add]
set_option maxRecDepth 100000 in
set_option maxHeartbeats 2000000 in
theorem chunk1_in (n:Nat) (hn:1≤n) (l Bs Bn b o len cap:Nat) (hlc:len≤cap) (hcap:len≤1152921504606846976) (J Jx:List (Fin (nch len))→World→Prop) (hJ:∀ s W m,J s W→J s (W.drewN m))
    (hY:∀ pre x W,J pre W→pre.length < nch len→YieldAt Fence.wide (n - 1) Tryz.prog l #[chV b o len x.val] W fun e W'=>(e=.returned (.bool true)∧J (pre ++ [x]) W'∧Kp2 Bs Bn W W')∨(e=.returned (.bool false)∧Jx (pre ++ [x]) W'))
    (W:World) (hBs:W.cell? ⟨Bs,0,none⟩=some (.slice (some ⟨b,o,none⟩) len cap)) (hBn:W.cell? ⟨Bn,0,none⟩=some (.int .i64 64)) (h0:J [] W) :
    CallsIn Fence.wide n Tryz.prog 118 #[.func (.yield l) #[] #[],.pointer (some ⟨Bs,0,none⟩),.pointer (some ⟨Bn,0,none⟩)] W fun e W'=>(∃ v,e=.returned v) ∧
      ((∃ ys,ys=upto (nch len) (nch len)∧J ys W')∨(∃ pre,(∃ k,k≤nch len∧pre=upto (nch len) k)∧Jx pre W')):=by
  refine callsIn_of_wp Tryz.func118 rfl trivial ?_ rfl;simp only [Tryz.ntmps118,List.size_toArray,List.length_cons,List.length_nil,Nat.reduceAdd,Nat.reduceSub,Array.replicate_succ,Array.replicate_zero,List.push_toArray,List.append_toArray,List.nil_append,List.cons_append]
  gi_wp2
  gi_loopw [4] (fun i wr=>∃ k q:Nat,k≤nch len∧Hid (q=64 * k)∧i=.int .i64 q∧J (upto (nch len) k) wr∧Kp2 Bs Bn W wr) (fun i _=>len+64 - (intOf i).toNat)
  case atStart=>exact ⟨0,0,Nat.zero_le _,rfl,rfl,h0,rfl,rfl⟩
  case round =>
    obtain ⟨k,q,hk,Hq,rfl,hJs,hnx⟩:=hrel;have hB1:wr.cell? ⟨Bs,0,none⟩=some (.slice (some ⟨b,o,none⟩) len cap):=(World.cell?_of_block (w:=W) hnx.1).trans hBs;have hB2:wr.cell? ⟨Bn,0,none⟩=some (.int .i64 64):=(World.cell?_of_block (w:=W) hnx.2).trans hBn
    by_cases hlt:q < len
    · have hkn:k < nch len:=by have:=Hq.out;unfold nch;omega
      have hct:∀ w,(Instr.sliceAt 22 (.slice (some ⟨b,o,none⟩) len cap) (some (.int .i64 q)) none none).run Tryz.prog w=.ok (.slice (cutA (some ⟨b,o,none⟩) q cap) (len - q) (cap - q)) w:=fun w=>run_slice_cut w _ len cap q (by omega) hlc
      gi_wp2
      gi_quiet (fail)
      obtain ⟨m,hm⟩:∃ m,m=min 64 (len - q):=⟨_,rfl⟩;have hmn:(if ((len - q:Nat):Int) < 64 then ((len - q:Nat):Int) else 64)=(m:Int):=by rw [hm];split <;> omega
      simp only [hmn];have hm0:0 < m:=by omega
      have hqm:q+m≤len:=by omega
      have hm64:m≤64:=by omega
      have HCV:Hid (chV b o len k=.slice (some ⟨b,o+q,none⟩) m m):=by
        have:=Hq.out
        show chV b o len k=_
        unfold chV;rw [← this,← hm]
      have HM:=hide hm;have hJ2:=hJ _ _ nq hJs;have hK2:Kp2 Bs Bn W (wr.drewN nq):=hnx;replace hB1:(wr.drewN nq).cell? ⟨Bs,0,none⟩=some (.slice (some ⟨b,o,none⟩) len cap):=hB1;replace hB2:(wr.drewN nq).cell? ⟨Bn,0,none⟩=some (.int .i64 64):=hB2;clear hmn hm hct hJs hnx;generalize wr.drewN nq=w2 at hJ2 hK2 hB1 hB2 ⊢;have hs3:=run_slice_three w2 b o len cap q m hlt hlc hqm hm0;obtain ⟨fn,tmps,assign,body,hy,hR⟩:=hY _ ⟨k,hkn⟩ w2 hJ2 (by rw [upto_length hk];exact hkn);rw [HCV.out] at hy
      gi_wp2
      refine hR.mono ?_;rintro e W3 (⟨rfl,hJ3,hk3⟩ | ⟨rfl,hJx3⟩)
      · have hB2':W3.cell? ⟨Bn,0,none⟩=some (.int .i64 64):=(World.cell?_of_block (w:=w2) hk3.2).trans hB2
        gi_wp2
        go_roundw
        case rel=>exact ⟨k+1,q+64,hkn,by have:=Hq.out;show q+64=64 * (k+1);omega,by go_num,by rw [upto_succ hkn];exact hJ3,hk3.1.trans hK2.1,hk3.2.trans hK2.2⟩
        case measure=>simp [intOf];omega
      · gi_wp2
        refine bodyPost_ret (results_none rfl _ _ _) rfl ?_;exact ⟨⟨_,rfl⟩,.inr ⟨_,⟨k+1,hkn,(upto_succ hkn).symm⟩,hJx3⟩⟩
    · have hkn:k=nch len:=by have:=Hq.out;unfold nch at hk ⊢;omega
      gi_wp2
      go_end0
      exact ⟨⟨_,rfl⟩,.inl ⟨_,rfl,hkn ▸ hJs⟩⟩
set_option maxHeartbeats 1000000 in
theorem chunk1_none (n:Nat) (hn:1≤n) (l Bs Bn:Nat) (a:Option Addr) (cap:Nat) (P:World→Prop) (W:World) (hBs:W.cell? ⟨Bs,0,none⟩=some (.slice a 0 cap)) (h0:P W) :
    CallsIn Fence.wide n Tryz.prog 118 #[.func (.yield l) #[] #[],.pointer (some ⟨Bs,0,none⟩),.pointer (some ⟨Bn,0,none⟩)] W fun e W'=>(∃ v,e=.returned v)∧P W':=by
  refine callsIn_of_wp Tryz.func118 rfl trivial ?_ rfl;simp only [Tryz.ntmps118,List.size_toArray,List.length_cons,List.length_nil,Nat.reduceAdd,Nat.reduceSub,Array.replicate_succ,Array.replicate_zero,List.push_toArray,List.append_toArray,List.nil_append,List.cons_append]
  gi_wp2
  gi_loopw [4] (fun i wr=>i=.int .i64 0∧wr=W) (fun _ _=>0)
  case atStart=>exact ⟨rfl,rfl⟩
  case round =>
    obtain ⟨rfl,rfl⟩:=hrel
    gi_wp2
    go_end0
    exact ⟨⟨_,rfl⟩,h0⟩
set_option maxHeartbeats 1000000 in
theorem chunk_any (n:Nat) (a:Option Addr) (len cap:Nat) (w:World) :
    CallsIn Fence.wide n Tryz.prog 87 #[.slice a len cap,.int .i64 64] w fun e w'=>e=.returned (.func (.func 118) #[] #[.pointer (some ⟨w.heap.size,0,none⟩),.pointer (some ⟨w.heap.size+1,0,none⟩)]) ∧
      w'=(w.alloc (.cells #[.slice a len cap] 22)).alloc (.cells #[.int .i64 64] 3):=by
  refine callsIn_of_wp Tryz.func87 rfl trivial ?_ rfl;simp only [Tryz.ntmps87,List.size_toArray,List.length_cons,List.length_nil,Nat.reduceAdd,Nat.reduceSub,Array.replicate_succ,Array.replicate_zero,List.push_toArray,List.append_toArray,List.nil_append,List.cons_append]
  gi_wp2
  go_ret
  exact ⟨rfl,rfl⟩
theorem chunk_stops (n:Nat) (hn:1≤n) (Bs Bn cb co:Nat) (a:Option Addr) (len cap:Nat) (hlc:len≤cap) (hcap:len≤1152921504606846976) (w:World) (ha:0 < len→a=some ⟨cb,co,none⟩)
    (hBs:w.cell? ⟨Bs,0,none⟩=some (.slice a len cap)) (hBn:w.cell? ⟨Bn,0,none⟩=some (.int .i64 64)) :
    SeqStopsK Fence.wide n Tryz.prog 118 #[.pointer (some ⟨Bs,0,none⟩),.pointer (some ⟨Bn,0,none⟩)] (fun x:Fin (nch len)=>#[chV cb co len x.val]) (Kp2 Bs Bn) (fun ys=>ys=upto (nch len) (nch len)) (fun pre=>∃ k,k≤nch len∧pre=upto (nch len) k) (nch len) w:=fun l J Jx W hW hJ hJx hY h0=>by
  have h1:=(hW.cell (p:=⟨Bs,0,none⟩) (block_lt_of_cell hBs)).trans hBs;have h2:=(hW.cell (p:=⟨Bn,0,none⟩) (block_lt_of_cell hBn)).trans hBn;rcases Nat.eq_zero_or_pos len with hl | hl
  · subst hl
    refine (chunk1_none n hn l Bs Bn a cap (J []) W h1 h0).mono ?_;rintro e W' ⟨he,hj⟩;exact ⟨he,.inl ⟨[],rfl,hj⟩⟩
  · rw [ha hl] at h1
    refine (chunk1_in n hn l Bs Bn cb co len cap hlc hcap J Jx (fun s W m hs=>hJ s W _ none hs ⟨rfl,rfl,rfl,Nat.le_refl _,fun _ _ _=>rfl⟩ (fun r e=>by cases e)) hY W h1 h2 h0).mono ?_;rintro e W' ⟨he,⟨ys,hy,hj⟩ | ⟨pre,hk,hj⟩⟩
    · exact ⟨he,.inl ⟨ys,hy,hj⟩⟩
    · exact ⟨he,.inr ⟨pre,hk,hj⟩⟩
theorem Blk.grown {W W':World} {g t:Nat} {cs:Array Value} {row:Option Nat} (h:Blk W g t cs) (hg:W.grownBy W' row) (hr:∀ r,row=some r→∃ o:Obj,W.heap[r]? = some o∧o.isCells=false):Blk W' g t cs:=by
  refine (hg.block g h.lt (fun e=>?_)).trans h;obtain ⟨o,ho,hc⟩:=hr g e.symm;rw [h] at ho;cases ho
  cases hc
theorem But.grown {g:Nat} {w W W':World} {row:Option Nat} (h:But g w W) (hg:W.grownBy W' row) (hr:∀ r,row=some r→w.heap.size≤r):But g w W' :=
  ⟨hg.os.trans h.os,hg.tape.trans h.tape,hg.output.trans h.output,Nat.le_trans h.size hg.size,fun k hk hne=>(hg.block k (Nat.lt_of_lt_of_le hk h.size) (fun e=>by have:=hr k e.symm;omega)).trans (h.block k hk hne)⟩
theorem But.keepsFrom {g t:Nat} {cs:Array Value} {W W':World} (h:But g W W') (hb:Blk W g t cs) (B:Nat):KeepsFrom B W W' :=
  ⟨h.size,fun k o _ hk ho=>(h.block k (Array.getElem?_eq_some_iff.1 hk).1 (fun e=>by subst e;rw [hb] at hk;cases hk;cases ho)).trans hk⟩
theorem upto_fold (q S:List Int) (N:Nat):∀ k,k≤N→(upto N k).foldl (fun s x=>Dg.block s ((q.drop (64 * x.val)).take 64)) S=Dg.sums S q k
  | 0,_=>by simp [upto,Dg.sums]
  | k+1,h=>by rw [upto_succ (show k < N by omega),List.foldl_append,upto_fold q S N k (by omega)];rfl
end Go.Proofs.YtapcmbbhhclepaaGreatDoor.Dig
