/-
  What this claim takes of the earlier layers' texts: SNamed SBack SRefC SRefN.
-/
import Derived.Test.YtapcmbbhhclepaaGreatDoorB4
import Derived.Laws.BytesArg
set_option linter.unusedVariables false
set_option linter.unusedSimpArgs false
set_option maxRecDepth 100000
namespace Go.Proofs.YtapcmbbhhclepaaGreatDoor.Dig
open Go.RowKit
theorem named_cons (l:List UInt8):Sl.named (36 :: l)=is32 (Sl.bytes l):=by
  simp only [Sl.named,if_true]
  cases Sl.bytes l <;> rfl
def ch (cs:List Int) (k:Nat):List Int:=(List.range k).map fun i=>cs[i]?.getD 0 % 64
theorem drop_one (S:ByteArray) (c:UInt8) (l:List UInt8) (h:S=⟨(c :: l).toArray⟩):S.extract 1 S.size=⟨l.toArray⟩:=by
  have h1:(S.extract 1 S.size).data.toList=l:=by
    rw [Lib.extract_data,List.take_of_length_le]
    · rw [h]
      simp
    · rw [List.length_drop,← Lib.size_eq]
      exact Nat.le_refl _
  generalize S.extract 1 S.size=X at h1 ⊢
  cases X
  simp at h1
  subst h1
  simp
end Go.Proofs.YtapcmbbhhclepaaGreatDoor.Dig
namespace Go.Proofs.YtapcmbbhhclepaaGreatDoor.Dig
open Go.RowKit
theorem ba_ext {a b:ByteArray} (h:a.toList=b.toList):a=b:=by
  rw [ByteArray.toList_eq,ByteArray.toList_eq] at h
  cases a
  cases b
  simp at h
  rw [h]
theorem str_eq {S:ByteArray} {l:List UInt8} (h:S.data.toList=l):S=⟨l.toArray⟩:=by
  cases S
  simp at h
  subst h
  simp
end Go.Proofs.YtapcmbbhhclepaaGreatDoor.Dig
namespace Go.Proofs.YtapcmbbhhclepaaGreatDoor.Dig
open Go.RowKit
def og (q:List Int) (j:Nat):List Int:=Sl.pieces (Sl.tog 6 (ch4 q j) 0) 8 ((ch4 q j).length - 1)
def ob (q:List Int) (k:Nat):List Int:=(List.range k).flatMap (og q)
theorem ob_succ (q:List Int) (k:Nat):ob q (k+1)=ob q k ++ og q k:=by simp [ob,List.range_succ]
theorem ch4_more (q m:List Int) (j:Nat) (h:4 * (j+1)≤q.length):ch4 (q ++ m) j=ch4 q j:=by
  unfold ch4
  rw [List.drop_append_of_le_length (by omega),List.take_append_of_le_length (by rw [List.length_drop];omega)]
theorem ob_more (q m:List Int):∀ k,4 * k≤q.length→ob (q ++ m) k=ob q k
  | 0,_=>rfl
  | k+1,h=>by
    rw [ob_succ,ob_succ,ob_more q m k (by omega)]
    unfold og
    rw [ch4_more q m k h]
theorem ch4_end (q g:List Int) (k:Nat) (h:q.length=4 * k) (hg:g.length≤4):ch4 (q ++ g) k=g:=by
  unfold ch4
  rw [← h,List.drop_left,List.take_of_length_le hg]
theorem ob_back (q:List Int) (h6:Sl.S6 q) (bs:List Int) (hb:Sl.back q=some bs):ob q (nch4 q.length)=bs:=by
  have hall:∀ j,j < nch4 q.length→Sl.back (ch4 q j)=some (og q j):=fun j hj=>by
    have hj4:4 * j < q.length:=by unfold nch4 at hj;omega
    have h66:Sl.S6 (ch4 q j):=fun y hy=>h6 y (List.mem_of_mem_drop (List.mem_of_mem_take hy))
    have hcl:=ch4_length q j
    have hg:=Sl.back_group (ch4 q j) h66 (by omega) (by omega)
    cases hc:Sl.back (ch4 q j) with
    | none =>
      rw [back_bad q j hj4 hc] at hb
      cases hb
    | some y =>
      rw [hc] at hg
      split at hg
      · cases hg
      · exact hg
  have hk:∀ k,k≤nch4 q.length→Sl.back (q.take (4 * k))=some (ob q k):=by
    intro k
    induction k with
    | zero=>intro _;rfl
    | succ k ih =>
      intro hk
      have h3:4 * k≤q.length:=by unfold nch4 at hk;omega
      have hl:=hall k (by omega)
      have hl':Sl.back ((q.drop (4 * k)).take 4)=some (og q k):=hl
      rw [show 4 * (k+1)=4 * k+4 by omega,List.take_add,Sl.back_append _ _ (by rw [List.length_take];omega),ih (by omega),ob_succ,hl']
      rfl
  have:=hk _ (Nat.le_refl _)
  rw [List.take_of_length_le (by unfold nch4;omega),hb] at this
  exact (Option.some.inj this).symm
theorem og_y8 (q:List Int) (j:Nat):Sl.Y8 (og q j):=by
  intro n hn
  unfold og Sl.pieces at hn
  obtain ⟨i,_,rfl⟩:=List.mem_map.1 hn
  unfold Sl.piece
  constructor
  · exact Int.emod_nonneg _ (by simp)
  · have:=Int.emod_lt_of_pos (Sl.tog 6 (ch4 q j) 0 / 2 ^ (24 - 8 * (i+1))) (show (0:Int) < 2 ^ 8 by decide)
    have e:(2:Int) ^ 8=256:=by decide
    omega
theorem ob_y8 (q:List Int) (k:Nat):Sl.Y8 (ob q k):=by
  intro n hn
  unfold ob at hn
  obtain ⟨j,_,h⟩:=List.mem_flatMap.1 hn
  exact og_y8 q j n h
def nb (g:List Int):Nat→Int
  | 0=>0
  | k+1=>64 * nb g k+g[k]?.getD 0
theorem nb_le (g:List Int) (h:Sl.S6 g):∀ k,0≤nb g k∧nb g k < 64 ^ k
  | 0=>by simp [nb]
  | k+1=>by
    have h1:=nb_le g h k
    have h2:0≤g[k]?.getD 0∧g[k]?.getD 0 < 64:=by
      cases hi:g[k]? with
      | none=>simp
      | some y=>exact h y (List.mem_of_getElem? hi)
    simp only [nb,Int.pow_succ]
    omega
theorem nb_four (g:List Int) (h:g.length≤4):nb g 4=Sl.tog 6 g 0:=by
  match g,h with
  | [],_=>simp [nb,Sl.tog]
  | [a],_=>simp [nb,Sl.tog];omega
  | [a,b],_=>simp [nb,Sl.tog];omega
  | [a,b,c],_=>simp [nb,Sl.tog];omega
  | [a,b,c,d],_=>simp [nb,Sl.tog];omega
theorem nb_more (g:List Int) (d:Int):∀ k,k≤g.length→nb (g ++ [d]) k=nb g k
  | 0,_=>rfl
  | k+1,h=>by rw [nb,nb,nb_more g d k (by omega),List.getElem?_append_left (by omega)]
theorem nb_snoc (g:List Int) (d:Int) (k:Nat) (h:g.length=k):nb (g ++ [d]) (k+1)=64 * nb g k+d:=by
  rw [nb,nb_more g d k (by omega),List.getElem?_append_right (by omega),h]
  simp
theorem snoc_take (s:ByteArray) (e j:Nat) (h:e+j < s.size):(s.data.toList.drop e).take (j+1)=(s.data.toList.drop e).take j ++ [s[e+j]'h]:=by
  have hl:e+j < s.data.toList.length:=by rw [← Lib.size_eq];exact h
  rw [List.take_succ_eq_append_getElem (by rw [List.length_drop];omega),List.getElem_drop]
  rfl
set_option maxRecDepth 100000 in
set_option maxHeartbeats 2000000 in
theorem refBytes_any (s:ByteArray) (w:World) (hs:s.size≤10000) :
    Calls Tryz.prog 53 #[.string s] w fun e w'=>BytesAre s.data.toList w w' e∧Below w.heap.size w w':=by
  go_enter Tryz.func53,Tryz.ntmps53
  go_wp2_with fail
  go_loopw [4,5] (fun v i wr=>∃ (q e n:Nat) (ns:List Int) (a:Option Addr) (c:Nat),Hid (e=4 * q)∧e≤s.size+3∧i=.int .i64 e∧v=.slice a n c∧n≤3 * q∧Hid (Sl.numsOf (s.data.toList.take e)=some ns)∧Hid (n=(ob ns q).length)∧Hid (wr.ownsRow w.heap.size 5 1 (.slice a n c) n ((ob ns q).map b8))∧Hid (Below w.heap.size w wr)) (fun _ i _=>s.size+4 - (intOf i).toNat)
  case atStart=>exact ⟨0,0,0,[],none,0,rfl,by omega,rfl,rfl,by omega,rfl,rfl,World.ownsRow_nil _ _ _ _,Below.refl _ _⟩
  case round =>
    obtain ⟨q,e,n,ns,a,c,HQ,he,rfl,rfl,hn3,HN,HNn,HO,HB⟩:=hrel
    by_cases hlt:e < s.size
    · obtain ⟨m,hm⟩:∃ m,m=min (s.size - e) 4:=⟨_,rfl⟩
      have hmn:min ((s.size:Int) - (e:Int)) 4=(m:Int):=by omega
      have hm4:m≤4:=by omega
      have hem:e+m≤s.size:=by omega
      have hm0:0 < m:=by omega
      have hq1:q≤2500:=by have:=HQ.out;omega
      have HM:=hide hm
      clear hm
      go_upto_region 6 with fail
      try simp only [hmn]
      clear hmn
      go_wp2_with fail
      go_loop [7,8] (fun x k=>∃ (j:Nat) (y:Int) (g:List Int),j≤4∧k=.int .i64 j∧x=.int .i64 y∧Hid (Sl.numsOf ((s.data.toList.drop e).take (min j m))=some g)∧Hid (y=nb g j)∧0≤y∧y < 16777216) (fun _ k=>4 - (intOf k).toNat)
      case atStart=>exact ⟨0,0,[],by omega,rfl,rfl,by show Sl.numsOf ((s.data.toList.drop e).take (min 0 m))=_;rw [Nat.zero_min];rfl,rfl,by omega,by omega⟩
      case round =>
        obtain ⟨j,y,g,hj,rfl,rfl,HG,HY,hy0,hy1⟩:=hrel
        by_cases hj4:j < 4
        · have hg6:=(Sl.map_numsOf _ _ HG.out).2
          have hgl:g.length=min j m:=by rw [Sl.numsOf_length HG.out,List.length_take,List.length_drop,← Lib.size_eq];omega
          have hny:=nb_le g hg6 j
          rw [← HY.out] at hny
          have hyb:y < 262144:=by
            have:j=0∨j=1∨j=2∨j=3:=by omega
            rcases this with rfl | rfl | rfl | rfl <;> simp at hny <;> omega
          have HG6:=hide hg6
          have HGl:=hide hgl
          clear hny hg6 hgl
          by_cases hjm:j < m
          · have hix:e+j < s.size:=by omega
            have hsn:=snoc_take s e j hix
            obtain ⟨ej,hej⟩:∃ ej,ej=e+j:=⟨_,rfl⟩
            have hejz:(e:Int)+(j:Int)=(ej:Int):=by omega
            have hejs:ej < s.size:=by omega
            obtain ⟨ch',hch⟩:∃ ch',ch'=s[ej]'hejs:=⟨_,rfl⟩
            have hsn2:(s.data.toList.drop e).take (j+1)=(s.data.toList.drop e).take j ++ [ch']:=by rw [hsn,hch];simp only [hej]
            have hmin1:min (j+1) m=j+1:=by omega
            have hmin0:min j m=j:=by omega
            have hG2:=HG.out
            rw [hmin0] at hG2
            have HG2:=hide hG2
            have HSn:=hide hsn2
            have HGl2:Hid (g.length=j):=by rw [← hmin0];exact HGl
            have HMin:=hide hmin1
            have HEj:=hide hej
            have HCh:=hide hch
            clear hsn hsn2 hmin1 hmin0 hG2 hej hix
            cases hnum:Sl.num ch' with
            | none =>
              have hz:numZ ch'=-1:=numZ_none hnum
              have HNum:=hide hnum
              have HZ:=hide hz
              clear hnum hz
              go_wp2_with fail
              rw [← HCh.out]
              refine (sign_any ch' _).mono ?_
              rintro e9 w9 ⟨rfl,rfl⟩
              rw [HZ.out]
              go_wp2_with fail
              go_ret2
              refine ⟨.inr ⟨rfl,?_⟩,HB.out⟩
              have hnone:Sl.numsOf s.data.toList=none:=by
                have h1:s.data.toList=s.data.toList.take e ++ ((s.data.toList.drop e).take (j+1) ++ (s.data.toList.drop e).drop (j+1)):=by rw [List.take_append_drop,List.take_append_drop]
                rw [h1,Sl.numsOf_append,HN.out]
                have h2:Sl.numsOf ((s.data.toList.drop e).take (j+1) ++ (s.data.toList.drop e).drop (j+1))=none:=by
                  apply numsOf_bad
                  rw [HSn.out,numsOf_snoc,HG2.out,HNum.out]
                  rfl
                rw [h2]
                rfl
              unfold Sl.bytes
              rw [hnone]
              rfl
            | some d =>
              obtain ⟨_,hd0,hd1⟩:=Sl.sgn_num hnum
              have hz:numZ ch'=d:=numZ_some hnum
              have HNum:=hide hnum
              have HZ:=hide hz
              clear hnum hz
              go_wp2_with fail
              rw [← HCh.out]
              refine (sign_any ch' _).mono ?_
              rintro e9 w9 ⟨rfl,rfl⟩
              rw [HZ.out]
              go_wp2_with fail
              go_round
              case rel =>
                refine ⟨j+1,64 * y+d,g ++ [d],by omega,by go_num,rfl,?_,?_,by omega,by omega⟩
                · show Sl.numsOf _=_
                  rw [HMin.out,HSn.out,numsOf_snoc,HG2.out,HNum.out]
                  rfl
                · show 64 * y+d=_
                  rw [nb_snoc g d j HGl2.out,← HY.out]
              case measure=>simp [intOf];omega
          · have hg0:g[j]?.getD 0=0:=by rw [List.getElem?_eq_none (by rw [HGl.out];omega)];rfl
            have HG0:=hide hg0
            clear hg0
            go_wp2_with fail
            go_round
            case rel =>
              refine ⟨j+1,64 * y,g,by omega,by go_num,rfl,?_,?_,by omega,by omega⟩
              · show Sl.numsOf _=_
                rw [show min (j+1) m=min j m by omega]
                exact HG.out
              · show 64 * y=_
                rw [nb,← HY.out,HG0.out]
                omega
            case measure=>simp [intOf];omega
        · have hj4e:j=4:=by omega
          have hg6:=(Sl.map_numsOf _ _ HG.out).2
          have hgl:g.length=m:=by rw [Sl.numsOf_length HG.out,List.length_take,List.length_drop,← Lib.size_eq];omega
          have hyT:y=Sl.tog 6 g 0:=by rw [HY.out,hj4e];exact nb_four g (by omega)
          have hG4:=HG.out
          rw [show min j m=m by omega] at hG4
          have HG4:=hide hG4
          have HYT:=hide hyT
          have HGl:=hide hgl
          have HG6:=hide hg6
          obtain ⟨x,hx⟩:∃ x,x=y:=⟨_,rfl⟩
          clear hj4e hg6 hgl hyT hG4 hx
          obtain ⟨m1,hm1⟩:∃ m1,m=m1+1:=⟨m - 1,by omega⟩
          have hm1z:(m:Int) - 1=(m1:Int):=by omega
          have hm13:m1≤3:=by omega
          have HM1:=hide hm1
          clear hm1
          go_wp2_with fail
          go_loopw [4,10] (fun v k wq=>∃ (j2:Nat) (a2:Option Addr) (c2:Nat),j2≤m1∧k=.int .i64 j2∧v=.slice a2 (n+j2) c2∧Hid (wq.ownsRow w.heap.size 5 1 (.slice a2 (n+j2) c2) (n+j2) ((ob ns q ++ Sl.pieces y 8 j2).map b8))∧Hid (Below w.heap.size w wq)) (fun _ k _=>4 - (intOf k).toNat)
          case atStart=>exact ⟨0,a,c,by omega,rfl,rfl,by show World.ownsRow _ _ _ _ _ _ ((ob ns q ++ []).map b8);rw [List.append_nil];exact HO.out,HB⟩
          case round =>
            obtain ⟨j2,a2,c2,hj2,rfl,rfl,HO2,HB2⟩:=hrel
            by_cases hj2l:j2 < m1
            · have hp:0≤Sl.piece y j2 8∧Sl.piece y j2 8 < 256:=by unfold Sl.piece;simp;omega
              obtain ⟨p,hpe⟩:∃ p,p=Sl.piece y j2 8:=⟨_,rfl⟩
              rw [← hpe] at hp
              obtain ⟨a3,c3,W3,hrun,hown3,hgr3⟩:=append_one (w:=wr.alloc (.cells #[.int .u8 p] 5)) 22 5 (.int .u8 0) 1 Tryz.underlying22 infoByte rfl w.heap.size _ (n+j2) _ (HO2.out.alloc _) (lo:=wr.heap.size) (m:=1) (c:=1) (news:=[.int .u8 p]) rfl (one_cell wr (.int .u8 p) 5) (by simp [Value.oneCell']) (by omega) (by omega) (by have:=HB2.out.size;simp;omega)
              have HO3:Hid (W3.ownsRow w.heap.size 5 1 (.slice a3 (n+(j2+1)) c3) (n+(j2+1)) ((ob ns q ++ Sl.pieces y 8 (j2+1)).map b8)):=by
                show W3.ownsRow _ _ _ _ _ _
                rw [Sl.pieces_succ,← List.append_assoc,List.map_append,← hpe,← Nat.add_assoc]
                exact hown3
              have HB3:Hid (Below w.heap.size w W3):=(HB2.out.alloc HB2.out.size _).grown hgr3 (by have:=HB2.out.size;simp;omega) (own_block HO2.out)
              have hpx:p=y / 2 ^ (24 - 8 * (j2+1)) % 256:=by rw [hpe];rfl
              have hjc:j2=0∨j2=1∨j2=2:=by omega
              clear hown3 hgr3 hpe
              rcases hjc with rfl | rfl | rfl
              · have hw8:IntKind.u8.wrap (y / 65536)=p:=by rw [IntKind.wrap_u8,hpx];simp
                clear hpx
                go_wp2_with (at_builtin;refine wpList_append_run rfl _ _ 22 rfl _ _ rfl rfl hrun ?_)
                go_roundw
                case rel=>exact ⟨1,a3,c3,by omega,rfl,by first | rfl | rw [Nat.add_assoc],HO3,HB3⟩
                case measure=>simp [intOf]
              · have hw8:IntKind.u8.wrap (y / 256)=p:=by rw [IntKind.wrap_u8,hpx];simp
                clear hpx
                go_wp2_with (at_builtin;refine wpList_append_run rfl _ _ 22 rfl _ _ rfl rfl hrun ?_)
                go_roundw
                case rel=>exact ⟨2,a3,c3,by omega,rfl,by first | rfl | rw [Nat.add_assoc],HO3,HB3⟩
                case measure=>simp [intOf]
              · have hw8:IntKind.u8.wrap (y)=p:=by rw [IntKind.wrap_u8,hpx];simp
                clear hpx
                go_wp2_with (at_builtin;refine wpList_append_run rfl _ _ 22 rfl _ _ rfl rfl hrun ?_)
                go_roundw
                case rel=>exact ⟨3,a3,c3,by omega,rfl,by first | rfl | rw [Nat.add_assoc],HO3,HB3⟩
                case measure=>simp [intOf]
            · have hj2e:j2=m1:=by omega
              have HJ2:=hide hj2e
              clear hj2e
              go_wp2_with fail
              go_roundw
              case rel =>
                have hnl:ns.length=4 * q:=by rw [Sl.numsOf_length HN.out,List.length_take,← Lib.size_eq,← HQ.out];omega
                have hgl:=HGl.out
                have hoe:ob (ns ++ g) (q+1)=ob ns q ++ Sl.pieces y 8 m1:=by
                  rw [ob_succ,ob_more ns g q (by omega)]
                  unfold og
                  rw [ch4_end ns g q hnl (by omega),← HYT.out,hgl,HM1.out,Nat.add_sub_cancel]
                have hpl:(Sl.pieces y 8 m1).length=m1:=by simp [Sl.pieces]
                refine ⟨q+1,e+4,n+j2,ns ++ g,a2,c2,by have:=HQ.out;show e+4=4 * (q+1);omega,by omega,by go_num,rfl,by omega,?_,?_,?_,HB2⟩
                · show Sl.numsOf (s.data.toList.take (e+4))=some (ns ++ g)
                  have ht:(s.data.toList.drop e).take 4=(s.data.toList.drop e).take m:=by
                    by_cases h4:m=4
                    · rw [h4]
                    · have hm:=HM.out
                      rw [List.take_of_length_le (by rw [List.length_drop,← Lib.size_eq];omega),List.take_of_length_le (by rw [List.length_drop,← Lib.size_eq];omega)]
                  rw [List.take_add,ht,Sl.numsOf_append,HN.out,HG4.out]
                  rfl
                · show n+j2=_
                  rw [hoe,List.length_append,hpl,← HNn.out,HJ2.out]
                · show World.ownsRow _ _ _ _ _ _ _
                  rw [hoe,← HJ2.out]
                  exact HO2.out
              case measure=>simp [intOf];omega
    · have hte:s.data.toList.take e=s.data.toList:=List.take_of_length_le (by rw [← Lib.size_eq];omega)
      have hN:=HN.out
      rw [hte] at hN
      have hq4:q=nch4 ns.length∨True:=.inr trivial
      have hnl:ns.length=s.size:=by rw [Sl.numsOf_length hN,← Lib.size_eq]
      have hqn:q=nch4 ns.length:=by
        have:=HQ.out
        rw [hnl]
        unfold nch4
        omega
      have HNN:=hide hN
      have HI:=hide (own_isB' HO.out (Dg.b8_of_mem (ob_y8 ns q))).1
      clear hte hN hq4 hnl
      go_wp2_with fail
      refine (refText_any (ob ns q) _ _ _ _ HI.out (by have:=HNn.out;have:=HQ.out;omega)).mono ?_
      rintro e9 w9 ⟨rfl,rfl⟩
      have hby:Sl.bytes s.data.toList=Sl.back ns:=by unfold Sl.bytes;rw [HNN.out];rfl
      obtain ⟨T,hT⟩:∃ T:ByteArray,T=⟨(Sl.text (ob ns q)).toArray⟩:=⟨_,rfl⟩
      rw [← hT]
      cases hbk:Sl.back ns with
      | none =>
        rw [hbk] at hby
        have hne:¬ T.toList=s.toList:=fun e1=>by
          have e2:T=s:=ba_ext e1
          have e3:s.data.toList=Sl.text (ob ns q):=by rw [← e2,hT]
          rw [e3,Sl.bytes_text (ob_y8 ns q)] at hby
          cases hby
        have HBy:=hide hby
        clear hby hbk hT hqn
        go_wp2_with fail
        · go_ret2
          exact ⟨.inr ⟨rfl,HBy.out⟩,HB.out⟩
        · rename_i hbad
          exact (hne (by simpa using hbad)).elim
      | some bs =>
        rw [hbk] at hby
        have hob:ob ns q=bs:=by rw [hqn];exact ob_back ns (Sl.map_numsOf _ _ HNN.out).2 bs hbk
        have htx:=(Sl.text_bytes hby).1
        have hTs:T=s:=by
          rw [hT,hob,htx]
        have ho:=HO.out
        have hnn:=HNn.out
        rw [hob] at ho hnn
        have HBy:=hide hby
        have HO9:=hide ho
        have HN9:=hide hnn
        clear hby hbk hT hqn hob htx ho hnn
        subst hTs
        go_wp2_with fail
        go_ret2
        refine ⟨.inl ⟨bs,a,c,?_,HBy.out,?_⟩,HB.out⟩
        · rw [← HN9.out]
          rfl
        · rw [← HN9.out]
          exact HO9.out
end Go.Proofs.YtapcmbbhhclepaaGreatDoor.Dig
namespace Go.Proofs.YtapcmbbhhclepaaGreatDoor.Dig
open Go.RowKit
set_option maxRecDepth 100000 in
set_option maxHeartbeats 1000000 in
theorem refNamed_any (s:ByteArray) (w:World) (hs:s.size≤10000) :
    Calls Tryz.prog 23 #[.string s] w fun e w'=>e=.returned (.bool (Sl.named s.data.toList))∧Below w.heap.size w w':=by
  cases hL:s.data.toList with
  | nil =>
    have hse:s=⟨#[]⟩:=str_eq hL
    subst hse
    go_enter Tryz.func23,Tryz.ntmps23
    go_wp2_with fail
    go_ret
    exact ⟨rfl,Below.refl _ _⟩
  | cons c l =>
    have hse:=str_eq hL
    have hz:s.size=l.length+1:=by rw [Lib.size_eq,hL];rfl
    have hne:s.toList.isEmpty=false:=by rw [ByteArray.toList_eq,hL];rfl
    have h0:0 < s.size:=by omega
    have hc0:s[0]'h0=c:=by
      have:s.data.toList[0]'(by rw [← Lib.size_eq];exact h0)=c:=by simp [hL]
      exact this
    have hsl:∀ w,(Instr.sliceAt 9 (.string s) (some (.int .i64 1)) none none).run Tryz.prog w=.ok (.string (s.extract 1 s.size)) w:=fun w=>slice_str s 0 (by omega) w
    have hdr:=drop_one s c l hse
    have hnm:Sl.named (c :: l)=if c=36 then is32 (Sl.bytes l) else false:=by
      by_cases h:c=36
      · rw [if_pos h,h,named_cons]
      · rw [if_neg h]
        simp only [Sl.named,h,if_false]
    have HNm:=hide hnm
    have HDr:=hide hdr
    have HZ:=hide hz
    clear hnm hdr hse hL hz
    by_cases hc:c=36
    · have hcb:∀ h:0 < s.size,((((s[0]'h).toNat:Nat):Int) != 36)=false:=fun h=>by
        have:s[0]'h=36:=by rw [← hc];exact hc0
        rw [this]
        rfl
      have hnm:=HNm.out
      rw [if_pos hc] at hnm
      have HNm2:=hide hnm
      clear hnm hc0 hc
      go_enter Tryz.func23,Tryz.ntmps23
      go_wp2_with fail
      rw [HDr.out]
      refine (refBytes_any ⟨l.toArray⟩ _ (by rw [str_size];have:=HZ.out;omega)).mono ?_
      rintro e w2 ⟨hres,b2⟩
      rw [str_of] at hres
      rcases hres with ⟨bs,a,c',rfl,hbs,hown⟩ | ⟨rfl,hbs⟩
      · rw [hbs] at HNm2
        clear hown hbs
        obtain ⟨n,hn⟩:∃ n,n=bs.length:=⟨_,rfl⟩
        have h32:((n:Int) == 32)=decide (bs.length=32):=by
          rw [Bool.eq_iff_iff]
          simp only [beq_iff_eq,decide_eq_true_eq]
          omega
        rw [← hn]
        have H32:=hide h32
        clear hn h32
        go_wp2_with fail
        go_ret
        refine ⟨?_,b2⟩
        rw [HNm2.out]
        show Ending.returned (.bool ((n:Int) == 32))=Ending.returned (.bool (decide (bs.length=32)))
        rw [H32.out]
      · rw [hbs] at HNm2
        go_wp2_with fail
        go_ret
        exact ⟨by rw [HNm2.out];rfl,b2⟩
    · have hcb:∀ h:0 < s.size,((((s[0]'h).toNat:Nat):Int) != 36)=true:=fun h=>by
        have h1:s[0]'h=c:=hc0
        rw [h1,bne_iff_ne]
        intro e1
        exact hc (UInt8.toNat_inj.1 (by show c.toNat=36;omega))
      have hnm:=HNm.out
      rw [if_neg hc] at hnm
      have HNm2:=hide hnm
      clear hnm hc0 hc
      go_enter Tryz.func23,Tryz.ntmps23
      go_wp2_with fail
      go_ret
      exact ⟨by rw [HNm2.out];rfl,Below.refl _ _⟩
end Go.Proofs.YtapcmbbhhclepaaGreatDoor.Dig
