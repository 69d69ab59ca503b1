/-
  What this claim takes of the earlier layers' texts: CRefH CRefW CMathB CMathC VLaidM CMathD CMathE CMathF CMathG CMathJ.
-/
import Derived.Test.YtapcmbbhhclepaaGreatDoorM13
import Derived.LoopN
import Derived.BigRegion
import Derived.BigQuiet
import Derived.Deep.QuietTactic
set_option linter.unusedVariables false
set_option linter.unusedSimpArgs false
set_option maxRecDepth 100000
namespace Go.Proofs.YtapcmbbhhclepaaGreatDoor
open Go.RowKit
set_option maxHeartbeats 2000000 in
theorem num_f_p_byte (s:ByteArray) (a d:Nat) (u v:List UInt8) (w:World) (h:At s a u) (hs:s.size≤4294967296) (hng:(u.head? == some 45)=false) (hv:At s a v) (k:Nat) (hk:(v.takeWhile Cn.digit).length=k) (hk1:k=1) (hl0:a < s.size) (h48:(s[a]'hl0).toNat≠48) (hl1:a+k < s.size) (hc1:(s[a+k]'hl1).toNat≠46) (hc2:(s[a+k]'hl1).toNat≠101) (hc3:(s[a+k]'hl1).toNat≠69) (hk16:k≤16) :
    Calls Tryz.prog 98 #[St s a 0 d] w fun e' w'=>(∃ R,e'=.returned R∧(Cn.most < Cn.numOf (v.takeWhile Cn.digit)→R=.tuple #[St s a 13 d,(.agg #[.int .i64 0,.int .i64 0,.string ⟨#[]⟩,.slice none 0 0,.slice none 0 0])])∧(Cn.numOf (v.takeWhile Cn.digit)≤Cn.most→R=.tuple #[St s (a+k) 0 d,.agg #[.int .i64 2,.int .i64 (Cn.numOf (v.takeWhile Cn.digit):Int),.string ⟨#[]⟩,.slice none 0 0,.slice none 0 0]]))∧Below w.heap.size w w':=by
  have rh48:(((s[a]'hl0).toNat:Int) == 48)=false:=by rw [beq_eq_false_iff_ne];omega
  have rhc1:(((s[a+k]'hl1).toNat:Int) == 46)=false:=by rw [beq_eq_false_iff_ne];omega
  have rhc2:(((s[a+k]'hl1).toNat:Int) == 101)=false:=by rw [beq_eq_false_iff_ne];omega
  have rhc3:(((s[a+k]'hl1).toNat:Int) == 69)=false:=by rw [beq_eq_false_iff_ne];omega
  subst hk1;have b0:=bthen (bthen (below_alloc w (.cells #[.string s,.int .i64 (a:Nat),.int .i64 0,.int .i64 (d:Nat)] 65)) (below_alloc _ (.cells #[.string ⟨#[]⟩,.int .i64 0,.int .i64 0,.int .i64 0] 65))) (below_alloc _ (.cells #[.int .i64 0,.int .i64 0,.string ⟨#[]⟩,.slice none 0 0,.slice none 0 0] 27));have x0:=((b4_new w (.string s) (.int .i64 (a:Nat)) (.int .i64 0) (.int .i64 (d:Nat)) w.heap.size rfl).keep (below_alloc _ (.cells #[.string ⟨#[]⟩,.int .i64 0,.int .i64 0,.int .i64 0] 65))).keep (below_alloc _ (.cells #[.int .i64 0,.int .i64 0,.string ⟨#[]⟩,.slice none 0 0,.slice none 0 0] 27));have y0:=(b4_new (w.alloc (.cells #[.string s,.int .i64 (a:Nat),.int .i64 0,.int .i64 (d:Nat)] 65)) (.string ⟨#[]⟩) (.int .i64 0) (.int .i64 0) (.int .i64 0) (w.heap.size+1) (by simp)).keep (below_alloc _ (.cells #[.int .i64 0,.int .i64 0,.string ⟨#[]⟩,.slice none 0 0,.slice none 0 0] 27));have v0:=b5_new ((w.alloc (.cells #[.string s,.int .i64 (a:Nat),.int .i64 0,.int .i64 (d:Nat)] 65)).alloc (.cells #[.string ⟨#[]⟩,.int .i64 0,.int .i64 0,.int .i64 0] 65)) (.int .i64 0) (.int .i64 0) (.string ⟨#[]⟩) (.slice none 0 0) (.slice none 0 0) (w.heap.size+2) (by simp);have X0:=hide x0;have Y0:=hide y0;have V0:=hide v0;have H0:=hide b0;clear x0 y0 v0 b0;have hpl:=hv.len;have hkv:=(List.takeWhile_prefix Cn.digit (l:=v)).length_le;rw [hk] at hkv;go_enter Tryz.func98,Tryz.ntmps98
  go_wp2_with fail
  refine (is_any s a d 45 u _ h hs false hng).mono ?_;rintro e w1 ⟨rfl,b1⟩;have X1:=hide (X0.out.keep b1);have Y1:=hide (Y0.out.keep b1);have V1:=hide (V0.out.keep b1);have H1:=hide (bthen H0.out b1);clear b1 X0 Y0 V0 H0;obtain ⟨x0,x1,x2,x3⟩:=X1.out.cells
  go_wp2_with fail
  refine (digits_any s a _ 0 d v _ hv hs 1 hk).mono ?_;rintro e w2 ⟨rfl,b2⟩;have X2:=hide (X1.out.keep b2);have Y2:=hide (Y1.out.keep b2);have V2:=hide (V1.out.keep b2);have H2:=hide (bthen H1.out b2);clear b2 X1 Y1 V1 H1 x0 x1 x2 x3;obtain ⟨x0,x1,x2,x3⟩:=X2.out.cells;have HAL:Hid ((v.takeWhile Cn.digit).all Cn.digit=true):=hide List.all_takeWhile;have HTA:Hid (∀ j,j < 1→∃ b t,v.drop j=b :: t∧Cn.digit b=true∧(v.takeWhile Cn.digit).take (j+1)=(v.takeWhile Cn.digit).take j ++ [b]):=hide (fun j hj=>take_next (by rw [hk];exact hj));have HAD:Hid (∀ j,j≤1→At s (a+j) (v.drop j)):=hide (fun j hj=>hv.of_drop j (by omega));have HAK:Hid ((v.takeWhile Cn.digit).take 1=v.takeWhile Cn.digit):=hide (by rw [← hk,List.take_length]);obtain ⟨ds,hds⟩:∃ ds,ds=v.takeWhile Cn.digit:=⟨_,rfl⟩;rw [← hds] at hk HAL HTA HAK;have HKD:=hide hk;have HDE:=hide hds;clear hds hk hng h hv hpl
  go_wp2_with fail
  clear x0 x1 x2 x3
  go_loopg [7,8] 1 (fun g n i wr=>∃ (j:Nat) (N:Int),j+g=1∧n=.int .i64 N∧i=.int .i64 ((a:Int)+(j:Int))∧0≤N∧N≤9999999999999999∧Hid (N=(Cn.numOf (ds.take j):Nat))∧wr=w2)
  case atStart=>exact ⟨0,0,by omega,rfl,by simp,by omega,by omega,rfl,rfl⟩
  case round =>
    obtain ⟨j,N,hj,rfl,rfl,hN0,hN1,HN,rfl⟩:=hrel;obtain ⟨x0,x1,x2,x3⟩:=X2.out.cells
    by_cases hlt:j < 1
    · obtain ⟨b,t,hdr,hdig,htk⟩:=HTA.out j hlt
      have hA:=HAD.out j (by omega);rw [hdr] at hA;obtain ⟨hlz,hb⟩:=hA.byte;obtain ⟨d1,d2⟩:=is_digit hdig;have hsm:=Cn.numOf_small (Cn.all_take' HAL.out (j+1)) (by rw [List.length_take];omega)
      have HN2:Hid (10 * N+((b.toNat:Int) - 48)=(Cn.numOf (ds.take (j+1)):Nat)):=hide (by
        rw [htk,Cn.numOf_snoc,HN.out]
        omega)
      rw [← hb] at d1 d2 HN2;have hsm2:10 * N+(((s[a+j]'hlz).toNat:Int) - 48)≤9999999999999999:=by rw [HN2.out];omega
      obtain ⟨B,hB⟩:∃ B:Int,B=((s[a+j]'hlz).toNat:Int):=⟨_,rfl⟩;rw [← hB] at hsm2 HN2;have hB1:48≤B:=by omega
      have hB2:B≤57:=by omega
      have hBn:=hB.symm;clear hdr hdig htk hA hb hsm d1 d2 hB;have hw1:IntKind.u8.wrap (B - 48)=B - 48:=by rw [IntKind.wrap_u8];omega
      have hw2:IntKind.i64.wrap (10 * N)=10 * N:=by rw [IntKind.wrap_i64];omega
      have hw3:IntKind.i64.wrap (B - 48)=B - 48:=by rw [IntKind.wrap_i64];omega
      have hw4:IntKind.i64.wrap (10 * N+(B - 48))=10 * N+(B - 48):=by rw [IntKind.wrap_i64];omega
      go_wp2_with fail
      go_roundg (gk - 1)
      case measure=>omega
      case rel=>exact ⟨j+1,10 * N+(B - 48),by omega,by first | rfl | (congr 1),by first | rfl | (congr 1;omega),by omega,by omega,HN2.out,rfl⟩
    · have hje:j=1:=by omega
      have hNk:N=(Cn.numOf ds:Nat):=by rw [HN.out,hje,HAK.out]
      have HNK:=hide hNk;have hAf:=hide (HAD.out 1 (Nat.le_refl _));cases hje
      clear HN hNk hlt hj HTA HAD HAK HAL
      by_cases hmo:N≤9007199254740991
      · have hwn:IntKind.i64.wrap (-N)=-N:=by rw [IntKind.wrap_i64];omega
        have f1:=X2.out.free 1
        go_upto_region 20 with fail
        have X3:=hide (X2.out.set1 (.int .i64 ((a:Int)+1)));have Y3:Hid (Z4 (wr.setCell ⟨w.heap.size,1,none⟩ (.int .i64 ((a:Int)+1))) (w.heap.size+1)):=hide (Y2.out.other _ (by omega));have V3:Hid (Z5 (wr.setCell ⟨w.heap.size,1,none⟩ (.int .i64 ((a:Int)+1))) (w.heap.size+2)):=hide (V2.out.other _ (by omega));have H3:Hid (Below w.heap.size w (wr.setCell ⟨w.heap.size,1,none⟩ (.int .i64 ((a:Int)+1)))):=hide (H2.out.setCell (p:=⟨w.heap.size,1,none⟩) (Nat.le_refl _) _);clear x0 x1 x2 x3 f1 X2 Y2 V2 H2 hwn;generalize wr.setCell ⟨w.heap.size,1,none⟩ (.int .i64 ((a:Int)+1))=w3 at X3 Y3 V3 H3 ⊢;refine' wp_region_factsT 3 [(fun _ _ v _=>v=.agg #[.string s,.int .i64 ((a:Int)+1),.int .i64 0,.int .i64 (d:Nat)]),(fun _ _ v _=>v=.int .i64 N),(fun _ _ v _=>v=(.agg #[.int .i64 2,.int .i64 N,.string ⟨#[]⟩,.slice none 0 0,.slice none 0 0]))] (by kernel_rfl) ?hA (by kernel_rfl) rfl ?mono ?steps ?last
        case hA =>
          intro vs;simp only [puts,Act.put,List.setIfInBounds_toArray,List.set_cons_zero,List.set_cons_succ,Nat.zero_add,Nat.reduceAdd];rfl
        case mono=>exact ⟨mono_eq _,mono_eq _,mono_eq _,trivial⟩
        case steps =>
          intro Q';refine And.intro ?_ <| And.intro ?_ <| And.intro ?_ <| trivial
          all_goals
            intro vs lo hi w' hM hd K' hK;dsimp only at hK ⊢;simp only [Act.put,List.setIfInBounds_toArray,List.set_cons_zero,List.set_cons_succ] at hK
          · obtain ⟨x0,x1,x2,x3⟩:=(X3.out.keep hM).cells
            go_simp;exact hK.out _ _ rfl (Below.refl _ _)
          · go_simp
            exact hK.out _ _ rfl (Below.refl _ _)
          · have e1:vs 1=.int .i64 N:=hd 1 (by kernel_rfl)
            simp only [e1] at hK ⊢;clear e1;go_simp;refine (refNum_any N w').mono ?_;rintro e w4 ⟨rfl,b4⟩;exact hK.out _ _ rfl b4
        case last =>
          intro vs lo hi w' hM hlo hall;obtain ⟨e0,e1,e2,_⟩:=hall;simp only [List.drop_succ_cons,List.drop_zero]
          try dsimp only
          simp only [e0,e1,e2];clear e0 e1 e2 hlo;have Y4:=hide (Y3.out.keep hM);have V4:=hide (V3.out.keep hM);have H4:=hide (bthen H3.out hM);clear hM X3 Y3 V3 H3;obtain ⟨z0,z1,z2,z3⟩:=Y4.out.cells;obtain ⟨q0,q1,q2,q3,q4⟩:=V4.out.cells;have hz:=Y4.out.free;have hz0:=hz 0;have hz1:=hz 1;have hz2:=hz 2;have hz3:=hz 3;have hv:=V4.out.free;have hv0:=hv 0;have hv1:=hv 1;have hv2:=hv 2;have hv3:=hv 3;have hv4:=hv 4;clear hz hv
          go_wp2_with fail
          obtain ⟨hy,hv,hb⟩:=fin45 Y4.out V4.out (by omega) (B:=w.heap.size) (by omega) (by omega) (.string s) (.int .i64 ((a:Int)+1)) (.int .i64 0) (.int .i64 (d:Nat)) (.int .i64 2) (.int .i64 N) (.string ⟨#[]⟩) (.slice none 0 0) (.slice none 0 0);obtain ⟨y0,y1,y2,y3⟩:=hy.cells;obtain ⟨p0,p1,p2,p3,p4⟩:=hv.cells;exact bodyPost_ret (v:=.tuple #[.agg #[.string s,.int .i64 ((a:Int)+1),.int .i64 0,.int .i64 (d:Nat)],.agg #[.int .i64 2,.int .i64 N,.string ⟨#[]⟩,.slice none 0 0,.slice none 0 0]]) (by simp [results,Tryz.results98,go_sem,y0,y1,y2,y3,p0,p1,p2,p3,p4]) rfl ⟨⟨_,rfl,fun hh=>absurd hh (by have:=HNK.out;unfold Cn.most;rw [← HDE.out];omega),fun _=>by rw [← HDE.out,← HNK.out];rfl⟩,H4.out.trans hb⟩
      · have hmo2:9007199254740991 < N:=by omega
        clear hmo
        go_wp2_with fail
        refine (fail_any s a 0 13 d _).mono ?_;rintro e w3 ⟨rfl,b3⟩;have Y3:=hide (Y2.out.keep b3);have V3:=hide (V2.out.keep b3);have H3:=hide (bthen H2.out b3);clear b3 X2 Y2 V2 H2 x0 x1 x2 x3;obtain ⟨z0,z1,z2,z3⟩:=Y3.out.cells;obtain ⟨q0,q1,q2,q3,q4⟩:=V3.out.cells;have hz:=Y3.out.free;have hz0:=hz 0;have hz1:=hz 1;have hz2:=hz 2;have hz3:=hz 3;have hv:=V3.out.free;have hv0:=hv 0;have hv1:=hv 1;have hv2:=hv 2;have hv3:=hv 3;have hv4:=hv 4;clear hz hv
        go_wp2_with fail
        obtain ⟨hy,hv,hb⟩:=fin45 Y3.out V3.out (by omega) (B:=w.heap.size) (by omega) (by omega) (.string s) (.int .i64 (a:Nat)) (.int .i64 13) (.int .i64 (d:Nat)) (.int .i64 0) (.int .i64 0) (.string ⟨#[]⟩) (.slice none 0 0) (.slice none 0 0);obtain ⟨y0,y1,y2,y3⟩:=hy.cells;obtain ⟨p0,p1,p2,p3,p4⟩:=hv.cells;exact bodyPost_ret (v:=.tuple #[.agg #[.string s,.int .i64 (a:Nat),.int .i64 13,.int .i64 (d:Nat)],.agg #[.int .i64 0,.int .i64 0,.string ⟨#[]⟩,.slice none 0 0,.slice none 0 0]]) (by simp [results,Tryz.results98,go_sem,y0,y1,y2,y3,p0,p1,p2,p3,p4]) rfl ⟨⟨_,rfl,fun _=>rfl,fun hh=>absurd hh (by have:=HNK.out;unfold Cn.most;rw [← HDE.out];omega)⟩,H3.out.trans hb⟩
end Go.Proofs.YtapcmbbhhclepaaGreatDoor
namespace Go.Proofs.YtapcmbbhhclepaaGreatDoor
open Go.RowKit
theorem B4.drew {w:World} {g:Nat} {c0 c1 c2 c3:Value} (h:B4 w g c0 c1 c2 c3):B4 w.drew g c0 c1 c2 c3:=h
theorem B5.drew {w:World} {g:Nat} {c0 c1 c2 c3 c4:Value} (h:B5 w g c0 c1 c2 c3 c4):B5 w.drew g c0 c1 c2 c3 c4:=h
end Go.Proofs.YtapcmbbhhclepaaGreatDoor
namespace Go.Proofs.YtapcmbbhhclepaaGreatDoor
namespace Cn
theorem digitsN_head (n:Nat) (h:n < 10 ^ 20):∃ c t,digitsN 20 n=c :: t∧digit c=true:=by
  obtain ⟨a1,_,a3,_⟩:=digitsN_spec 20 n h (by decide);cases hd:digitsN 20 n with
  | nil=>exact absurd hd a3
  | cons c t =>
    rw [hd] at a1;simp only [List.all_cons,Bool.and_eq_true] at a1;exact ⟨c,t,rfl,a1.1⟩
end Cn
end Go.Proofs.YtapcmbbhhclepaaGreatDoor
namespace Go.Proofs.YtapcmbbhhclepaaGreatDoor
namespace Cn
def good (c:UInt8):Prop:=blank c=false∧c≠93∧c≠125
theorem digit_good {c:UInt8} (h:digit c=true):good c:=by
  refine ⟨?_,?_,?_⟩
  · cases hb:blank c with
    | false=>rfl
    | true =>
      exfalso
      unfold blank at hb;simp only [Bool.or_eq_true,beq_iff_eq] at hb;rcases hb with ((rfl | rfl) | rfl) | rfl <;> revert h <;> decide
  · rintro rfl
    revert h
    decide
  · rintro rfl
    revert h
    decide
theorem empty_of {t:ByteArray} (h:t.toList.isEmpty=true):t=⟨#[]⟩:=by
  have h1:t.data.toList=[]:=by
    rw [← Lib.toList_data]
    simpa using h
  exact ByteArray.ext (Array.ext' h1)
theorem right_cases {v:V} (hr:V.right v=true) :
    v=V.nul∨(∃ b,v=truth b)∨(∃ n,v=V.numV n∧-(9007199254740991:Int)≤n∧n≤9007199254740991)∨(∃ s,v=V.str s∧V.utf s=true) ∨
    (∃ l,v=listV l∧l.all V.right=true)∨(∃ ks l,v=⟨5,0,⟨#[]⟩,ks,l⟩∧V.rises ks=true∧ks.length=l.length∧l.all V.right=true):=by
  obtain ⟨k,n,t,ks,l⟩:=v;rw [V.right_mk] at hr;simp only [Bool.and_eq_true,V.kindOk,decide_eq_true_eq] at hr;obtain ⟨⟨⟨⟨⟨⟨hk0,hk5⟩,hn⟩,ht⟩,hks⟩,hl⟩,hlast⟩:=hr;have hk:k=0∨k=1∨k=2∨k=3∨k=4∨k=5:=by omega
  have hte:k≠3→t=⟨#[]⟩:=fun h3=>by
    refine empty_of ?_;unfold V.textOk at ht
    simpa [h3] using ht
  have hke:k≠5→ks=[]:=fun h5=>by
    unfold V.keysOk at hks;rw [if_neg h5] at hks
    simpa using hks
  have hle:k≠4→k≠5→l=[]:=fun h4 h5=>by
    simpa [h4,h5] using hlast
  rcases hk with rfl | rfl | rfl | rfl | rfl | rfl
  · left
    have:n=0:=by simpa [V.numOk] using hn
    subst this;rw [hte (by decide),hke (by decide),hle (by decide) (by decide)];rfl
  · right;left
    have:n=0∨n=1:=by simpa [V.numOk] using hn
    rw [hte (by decide),hke (by decide),hle (by decide) (by decide)];rcases this with rfl | rfl
    · exact ⟨false,rfl⟩
    · exact ⟨true,rfl⟩
  · right;right;left
    have:-(9007199254740991:Int)≤n∧n≤9007199254740991:=by simpa [V.numOk] using hn
    rw [hte (by decide),hke (by decide),hle (by decide) (by decide)];exact ⟨n,rfl,this⟩
  · right;right;right;left
    have:n=0:=by simpa [V.numOk] using hn
    subst this;rw [hke (by decide),hle (by decide) (by decide)];refine ⟨t,rfl,?_⟩;unfold V.textOk at ht;simp only [Bool.or_eq_true,Bool.and_eq_true] at ht;rcases ht with h | h
    · rw [empty_of h]
      decide +kernel
    · exact h.2
  · right;right;right;right;left
    have:n=0:=by simpa [V.numOk] using hn
    subst this;rw [hte (by decide),hke (by decide)];exact ⟨l,rfl,hl⟩
  · right;right;right;right;right
    have:n=0:=by simpa [V.numOk] using hn
    subst this;rw [hte (by decide)];unfold V.keysOk at hks;rw [if_pos rfl] at hks;simp only [Bool.and_eq_true,decide_eq_true_eq] at hks;exact ⟨ks,l,rfl,hks.1,hks.2,hl⟩
theorem print_list (l:List V):print (listV l)=91 :: (joined (l.map print) ++ [93]):=by
  unfold listV;rw [print];rfl
theorem print_obj (ks:List ByteArray) (l:List V):print ⟨5,0,⟨#[]⟩,ks,l⟩=123 :: (joined ((ks.zip (l.map print)).map (fun p=>Gm.quote p.1.data.toList ++ 58 :: p.2)) ++ [125]):=by
  rw [print];rfl
theorem print_num (n:Int):print (V.numV n)=digits n:=by
  unfold V.numV;rw [print];rfl
theorem print_str (s:ByteArray):print (V.str s)=Gm.quote s.data.toList:=by
  unfold V.str;rw [print];rfl
theorem print_nul:print V.nul=nullW:=by
  unfold V.nul;rw [print];rfl
theorem print_truth (b:Bool):print (truth b)=if b then trueW else falseW:=by
  unfold truth;rw [print];cases b <;> rfl
theorem print_head {v:V} (hr:V.right v=true):∃ c t,print v=c :: t∧good c:=by
  rcases right_cases hr with rfl | ⟨b,rfl⟩ | ⟨n,rfl,h1,h2⟩ | ⟨s,rfl,_⟩ | ⟨l,rfl,_⟩ | ⟨ks,l,rfl,_⟩
  · exact ⟨110,_,print_nul,by decide,by decide,by decide⟩
  · cases b
    · exact ⟨102,_,print_truth false,by decide,by decide,by decide⟩
    · exact ⟨116,_,print_truth true,by decide,by decide,by decide⟩
  · rw [print_num]
    unfold digits
    have hlt:n.natAbs < 10 ^ 20:=by
      have:(10:Nat) ^ 20=100000000000000000000:=by decide
      omega
    split
    · exact ⟨45,_,rfl,by decide,by decide,by decide⟩
    · obtain ⟨c,t,h,hc⟩:=digitsN_head n.natAbs hlt
      exact ⟨c,t,h,digit_good hc⟩
  · rw [print_str]
    exact ⟨34,_,rfl,by decide,by decide,by decide⟩
  · rw [print_list]
    exact ⟨91,_,rfl,by decide,by decide,by decide⟩
  · rw [print_obj]
    exact ⟨123,_,rfl,by decide,by decide,by decide⟩
end Cn
end Go.Proofs.YtapcmbbhhclepaaGreatDoor
namespace Go.Proofs.YtapcmbbhhclepaaGreatDoor
namespace V
theorem bl_irr (l:List UInt8):Op.bytesLess l l=false:=by
  induction l with
  | nil=>rfl
  | cons a l ih=>simp [Op.bytesLess,ih]
theorem bl_trans:∀ (a b c:List UInt8),Op.bytesLess a b=true→Op.bytesLess b c=true→Op.bytesLess a c=true
  | [],b,[],h1,h2=>by cases b <;> simp [Op.bytesLess] at h2
  | [],b,z :: c,h1,h2=>by simp [Op.bytesLess]
  | x :: a,[],c,h1,h2=>by simp [Op.bytesLess] at h1
  | x :: a,y :: b,[],h1,h2=>by simp [Op.bytesLess] at h2
  | x :: a,y :: b,z :: c,h1,h2=>by
    simp only [Op.bytesLess,Bool.or_eq_true,Bool.and_eq_true,decide_eq_true_eq,beq_iff_eq] at h1 h2 ⊢;rcases h1 with h1 | ⟨rfl,h1⟩
    · rcases h2 with h2 | ⟨rfl,h2⟩
      · exact .inl (UInt8.lt_trans h1 h2)
      · exact .inl h1
    · rcases h2 with h2 | ⟨rfl,h2⟩
      · exact .inl h2
      · exact .inr ⟨rfl,bl_trans a b c h1 h2⟩
theorem bl_tri:∀ (a b:List UInt8),a=b∨Op.bytesLess a b=true∨Op.bytesLess b a=true
  | [],[]=>.inl rfl
  | [],y :: b=>.inr (.inl (by simp [Op.bytesLess]))
  | x :: a,[]=>.inr (.inr (by simp [Op.bytesLess]))
  | x :: a,y :: b=>by
    simp only [Op.bytesLess,Bool.or_eq_true,Bool.and_eq_true,decide_eq_true_eq,beq_iff_eq];rcases UInt8.lt_or_lt_of_ne (a:=x) (b:=y) with h
    by_cases e:x=y
    · subst e
      rcases bl_tri a b with h1 | h1 | h1
      · exact .inl (by rw [h1])
      · exact .inr (.inl (.inr ⟨rfl,h1⟩))
      · exact .inr (.inr (.inr ⟨rfl,h1⟩))
    · rcases h e with h1 | h1
      · exact .inr (.inl (.inl h1))
      · exact .inr (.inr (.inl h1))
theorem ba_ext {a b:ByteArray} (h:a.toList=b.toList):a=b:=by
  rw [Lib.toList_data,Lib.toList_data] at h;obtain ⟨⟨a⟩⟩:=a;obtain ⟨⟨b⟩⟩:=b;simp only at h;rw [h]
theorem less_irr (a:ByteArray):less a a=false:=bl_irr _
theorem less_trans {a b c:ByteArray} (h1:less a b=true) (h2:less b c=true):less a c=true:=bl_trans _ _ _ h1 h2
theorem less_tri (a b:ByteArray):a=b∨less a b=true∨less b a=true:=by
  rcases bl_tri a.toList b.toList with h | h | h
  · exact .inl (ba_ext h)
  · exact .inr (.inl h)
  · exact .inr (.inr h)
def Up (ks:List ByteArray):Prop:=(∀ k ∈ ks,utf k=true)∧ks.Pairwise (fun a b=>less a b=true)
theorem rises_up (ks:List ByteArray):rises ks=true ↔ Up ks:=by
  unfold rises Up;rw [risesTo_iff,List.pairwise_iff_getElem];have e:∀ i (hi:i < ks.length),ks.getD i ByteArray.empty=ks[i]:=fun i hi=>by simp [List.getD,hi]
  constructor
  · intro h
    constructor
    · intro k hk
      obtain ⟨i,hi,rfl⟩:=List.getElem_of_mem hk;have:=h i hi
      simp only [keyOk,Bool.and_eq_true] at this;rw [← e i hi];exact this.1
    · intro i j hi hj hij
      have adj:∀ d (hd:i+d+1 < ks.length),less ks[i] ks[i+d+1]=true:=by
        intro d
        induction d with
        | zero =>
          intro hd;have:=h (i+1) hd
          simp only [keyOk,Bool.and_eq_true,Bool.or_eq_true,beq_iff_eq,Nat.add_sub_cancel] at this;rcases this.2 with h1 | h1
          · omega
          · rw [e _ hi,e _ hd] at h1;exact h1
        | succ d ih =>
          intro hd;have h0:=ih (by omega);have:=h (i+(d+1)+1) hd
          simp only [keyOk,Bool.and_eq_true,Bool.or_eq_true,beq_iff_eq,Nat.add_sub_cancel] at this;rcases this.2 with h1 | h1
          · omega
          · rw [e _ (by omega),e _ hd] at h1
            exact less_trans h0 h1
      have:=adj (j - i - 1) (by omega)
      have ej:i+(j - i - 1)+1=j:=by omega
      simp only [ej] at this;exact this
  · rintro ⟨h1,h2⟩ j hj
    simp only [keyOk,Bool.and_eq_true,Bool.or_eq_true,beq_iff_eq];refine ⟨by rw [e j hj];exact h1 _ (List.getElem_mem hj),?_⟩
    by_cases h0:j=0
    · exact .inl h0
    · right
      rw [e j hj,e (j - 1) (by omega)];exact h2 (j - 1) j (by omega) hj (by omega)
theorem idx_no {ks:List ByteArray} {key:ByteArray} (h:key ∉ ks):Lib.idxOfS ks key < 0:=by
  rcases Int.lt_or_le (Lib.idxOfS ks key) 0 with h1 | h1
  · exact h1
  · exact absurd ((Lib.idxOfS_nonneg_iff ks key).1 h1) h
theorem idx_yes {ks:List ByteArray} {key:ByteArray} (a b:List ByteArray) (he:ks=a ++ key :: b) (h:key ∉ a):Lib.idxOfS ks key=a.length:=by
  subst he
  have:=Lib.idxOfS_hit (a ++ key :: b) (a ++ key :: b).length a.length key (by simp) (Nat.le_refl _) (by simp [List.getD]) (fun j hj=>by
    have e:(a ++ key :: b).getD j ByteArray.empty=a[j]:=by simp [List.getD,List.getElem?_append_left hj,hj]
    rw [e];intro hh
    exact h (hh ▸ List.getElem_mem hj))
  rw [List.take_length] at this;exact this
theorem right_obj {n:Int} {t:ByteArray} {ks:List ByteArray} {l:List V} (h:right ⟨5,n,t,ks,l⟩=true) :
    n=0∧t.toList.isEmpty=true∧Up ks∧ks.length=l.length∧l.all right=true:=by
  rw [right_mk] at h;simp only [Bool.and_eq_true,keysOk,if_true,decide_eq_true_eq,numOk,textOk] at h;obtain ⟨⟨⟨⟨⟨_,h1⟩,h2⟩,h3,h4⟩,h5⟩,_⟩:=h;refine ⟨by simpa using h1,by simpa using h2,(rises_up _).1 h3,h4,h5⟩
theorem obj_right {n:Int} {t:ByteArray} {ks:List ByteArray} {l:List V} (h1:n=0) (h2:t.toList.isEmpty=true) (h3:Up ks) (h4:ks.length=l.length) (h5:l.all right=true):right ⟨5,n,t,ks,l⟩=true:=by
  rw [right_mk];simp [kindOk,numOk,textOk,keysOk,h1,h2,(rises_up _).2 h3,h4,h5]
theorem all_take {l:List V} (h:l.all right=true) (m:Nat):(l.take m).all right=true:=by
  rw [List.all_eq_true] at *;exact fun x hx=>h x (List.mem_of_mem_take hx)
theorem all_drop {l:List V} (h:l.all right=true) (m:Nat):(l.drop m).all right=true:=by
  rw [List.all_eq_true] at *;exact fun x hx=>h x (List.mem_of_mem_drop hx)
theorem up_no {ka kb:List ByteArray} {key:ByteArray} (hu:Up (ka ++ key :: kb)):key ∉ ka∧key ∉ kb:=by
  obtain ⟨_,h2,h3⟩:=List.pairwise_append.1 hu.2;constructor
  · intro hh
    have:=h3 key hh key (by simp)
    rw [less_irr] at this;cases this
  · intro hh
    have:=(List.pairwise_cons.1 h2).1 key hh
    rw [less_irr] at this;cases this
theorem up_sub {ka kb:List ByteArray} {key:ByteArray} (hu:Up (ka ++ key :: kb)):Up (ka ++ kb):=by
  refine ⟨fun k hk=>hu.1 k ?_,hu.2.sublist ?_⟩
  · rcases List.mem_append.1 hk with h | h
    · exact List.mem_append.2 (.inl h)
    · exact List.mem_append.2 (.inr (List.mem_cons_of_mem _ h))
  · exact (List.Sublist.refl ka).append (List.sublist_cons_self _ _)
theorem hit_form (n:Int) (t:ByteArray) (key:ByteArray) (z:V) {ka kb:List ByteArray} {la lb:List V} (h1:ka.length=la.length) (h2:kb.length=lb.length) (hu:Up (ka ++ key :: kb)) :
    place ⟨5,n,t,ka ++ key :: kb,la ++ z :: lb⟩ key=ka.length ∧
    (∀ x,withV ⟨5,n,t,ka ++ key :: kb,la ++ z :: lb⟩ key x=⟨5,n,t,ka ++ key :: kb,la ++ x :: lb⟩) ∧
    without ⟨5,n,t,ka ++ key :: kb,la ++ z :: lb⟩ key=⟨5,n,t,ka ++ kb,la ++ lb⟩:=by
  have hm:min (ka ++ key :: kb).length (la ++ z :: lb).length=(ka ++ key :: kb).length:=by simp;omega
  have hm3:(ka ++ key :: kb).take (min (ka ++ key :: kb).length (la ++ z :: lb).length)=ka ++ key :: kb:=by rw [hm,List.take_length]
  have hm2:(la ++ z :: lb).take (min (ka ++ key :: kb).length (la ++ z :: lb).length)=la ++ z :: lb:=by
    rw [hm,show (ka ++ key :: kb).length=(la ++ z :: lb).length by simp;omega,List.take_length]
  have hp:place ⟨5,n,t,ka ++ key :: kb,la ++ z :: lb⟩ key=ka.length:=by
    simp only [place,if_true,hm3];exact idx_yes ka kb rfl (up_no hu).1
  have e1:(ka ++ key :: kb).take ka.length=ka:=by simp
  have e2:(ka ++ key :: kb).drop (ka.length+1)=kb:=by
    rw [← List.drop_drop];simp
  have e3:(la ++ z :: lb).take ka.length=la:=by rw [h1];simp
  have e4:(la ++ z :: lb).drop (ka.length+1)=lb:=by
    rw [h1,← List.drop_drop];simp
  refine ⟨hp,fun x=>?_,?_⟩
  · unfold withV
    rw [if_pos rfl];unfold with5;rw [hp,if_pos (by omega)];simp only [laid,splice,hm2,hm3,Int.toNat_natCast,e1,e2,e3,e4,List.append_assoc,List.singleton_append]
  · unfold without
    rw [hp,if_pos (by omega)];simp only [laid,splice,hm2,hm3,Int.toNat_natCast,e1,e2,e3,e4,List.append_nil]
theorem miss_form (n:Int) (t:ByteArray) (key:ByteArray) (hk:utf key=true) {ks:List ByteArray} {l:List V} (hl:ks.length=l.length) (hu:Up ks) (hno:key ∉ ks) :
    place ⟨5,n,t,ks,l⟩ key < 0∧without ⟨5,n,t,ks,l⟩ key=⟨5,n,t,ks,l⟩ ∧
    ∃ r,r≤ks.length∧Up (ks.take r ++ key :: ks.drop r)∧∀ x,withV ⟨5,n,t,ks,l⟩ key x=⟨5,n,t,ks.take r ++ key :: ks.drop r,l.take r ++ x :: l.drop r⟩:=by
  have hm:min ks.length l.length=ks.length:=by omega
  have hm3:ks.take (min ks.length l.length)=ks:=by rw [hm,List.take_length]
  have hm2:l.take (min ks.length l.length)=l:=by rw [hm,hl,List.take_length]
  have hp:place ⟨5,n,t,ks,l⟩ key < 0:=by
    simp only [place,if_true,hm3];exact idx_no hno
  refine ⟨hp,?_,room ks key,room_le _ _,?_,fun x=>?_⟩
  · unfold without
    rw [if_neg (by omega)]
  · have hb:∀ a ∈ ks.take (room ks key),less a key=true:=by
      intro a ha;obtain ⟨i,hi,rfl⟩:=List.getElem_of_mem ha;rw [List.length_take] at hi;rw [List.getElem_take];have:=List.not_of_lt_findIdx (p:=fun k=>!less k key) (xs:=ks) (i:=i) (by unfold room at hi;omega)
      simpa using this
    have hd:∀ b ∈ ks.drop (room ks key),less key b=true:=by
      intro b hb'
      have hr:room ks key < ks.length:=by
        rcases Nat.lt_or_ge (room ks key) ks.length with h | h
        · exact h
        · rw [List.drop_eq_nil_of_le h] at hb';cases hb'
      have h0:=List.findIdx_getElem (p:=fun k=>!less k key) (xs:=ks) (w:=hr)
      have h1:less ks[room ks key] key=false:=by
        simp only [Bool.not_eq_true'] at h0;exact h0
      have h2:less key ks[room ks key]=true:=by
        rcases less_tri key ks[room ks key] with h | h | h
        · exact absurd (h ▸ List.getElem_mem hr) hno
        · exact h
        · rw [h1] at h;cases h
      rw [List.drop_eq_getElem_cons hr] at hb';rcases List.mem_cons.1 hb' with rfl | h3
      · exact h2
      · have hpw:(ks.drop (room ks key)).Pairwise (fun a b=>less a b=true):=hu.2.sublist (List.drop_sublist _ _)
        rw [List.drop_eq_getElem_cons hr] at hpw;exact less_trans h2 ((List.pairwise_cons.1 hpw).1 b h3)
    refine ⟨?_,?_⟩
    · intro k hkm
      rcases List.mem_append.1 hkm with h | h
      · exact hu.1 k (List.mem_of_mem_take h)
      · rcases List.mem_cons.1 h with rfl | h
        · exact hk
        · exact hu.1 k (List.mem_of_mem_drop h)
    · rw [List.pairwise_append]
      refine ⟨hu.2.sublist (List.take_sublist _ _),List.pairwise_cons.2 ⟨hd,hu.2.sublist (List.drop_sublist _ _)⟩,?_⟩;intro a ha b hb';rcases List.mem_cons.1 hb' with rfl | h
      · exact hb a ha
      · exact less_trans (hb a ha) (hd b h)
  · unfold withV
    rw [if_pos rfl];unfold with5;rw [if_neg (by omega)];simp only [laid,splice,hm2,hm3,List.append_assoc,List.singleton_append]
theorem find_mid {ka kb:List ByteArray} {la lb:List V} (h1:ka.length=la.length) (h2:kb.length=lb.length) (o:ByteArray) :
    (o ∉ ka∧o ∉ kb)∨∃ y,∀ (mid:List ByteArray) (ml:List V),o ∉ mid→mid.length=ml.length→∃ p:Nat,Lib.idxOfS (ka ++ (mid ++ kb)) o=p∧(la ++ (ml ++ lb))[p]? = some y:=by
  by_cases ha:o ∈ ka
  · right
    have hfirst:∃ a1 a2,ka=a1 ++ o :: a2∧o ∉ a1:=by
      clear h1
      induction ka with
      | nil=>cases ha
      | cons c ka ih =>
        by_cases e:c=o
        · exact ⟨[],ka,by rw [e];rfl,by simp⟩
        · rcases List.mem_cons.1 ha with h | h
          · exact absurd h.symm e
          · obtain ⟨a1,a2,h3,h4⟩:=ih h
            exact ⟨c :: a1,a2,by rw [h3];rfl,by simp [h4,Ne.symm e]⟩
    obtain ⟨a1,a2,rfl,hn⟩:=hfirst;have hlt:a1.length < la.length:=by simp at h1;omega
    refine ⟨la[a1.length],fun mid ml _ _=>⟨a1.length,idx_yes a1 (a2 ++ (mid ++ kb)) (by simp) hn,?_⟩⟩;rw [List.getElem?_append_left hlt,List.getElem?_eq_getElem hlt]
  · by_cases hb:o ∈ kb
    · right
      have hfirst:∃ a1 a2,kb=a1 ++ o :: a2∧o ∉ a1:=by
        clear h2
        induction kb with
        | nil=>cases hb
        | cons c kb ih =>
          by_cases e:c=o
          · exact ⟨[],kb,by rw [e];rfl,by simp⟩
          · rcases List.mem_cons.1 hb with h | h
            · exact absurd h.symm e
            · obtain ⟨a1,a2,h3,h4⟩:=ih h
              exact ⟨c :: a1,a2,by rw [h3];rfl,by simp [h4,Ne.symm e]⟩
      obtain ⟨a1,a2,rfl,hn⟩:=hfirst;have hlt:a1.length < lb.length:=by simp at h2;omega
      refine ⟨lb[a1.length],fun mid ml hm hml=>⟨(ka ++ (mid ++ a1)).length,idx_yes (ka ++ (mid ++ a1)) a2 (by simp) (by simp [ha,hm,hn]),?_⟩⟩;have e:(ka ++ (mid ++ a1)).length=la.length+(ml.length+a1.length):=by simp;omega
      rw [e,List.getElem?_append_right (by omega),List.getElem?_append_right (by omega)];have e2:la.length+(ml.length+a1.length) - la.length - ml.length=a1.length:=by omega
      rw [e2,List.getElem?_eq_getElem hlt]
    · exact .inl ⟨ha,hb⟩
theorem place_obj (n:Int) (t:ByteArray) {ks:List ByteArray} {l:List V} (hl:ks.length=l.length) (o:ByteArray):place ⟨5,n,t,ks,l⟩ o=Lib.idxOfS ks o:=by
  have hm:min ks.length l.length=ks.length:=by omega
  simp only [place,if_true,hm,List.take_length]
structure Laid (v:V) (key other:ByteArray) (x:V):Prop where
  rw:right (withV v key x)=true
  put:∃ p:Nat,place (withV v key x) key=p∧(withV v key x).list[p]? = some x
  same:without (withV v key x) key=without v key
  ru:right (without v key)=true
  gone:place (without v key) key < 0
  twice:without (without v key) key=without v key
  again:withV (withV v key x) key x=withV v key x
  rest:other=key∨(place v other < 0∧place (withV v key x) other < 0)∨∃ (y:V) (p q:Nat),place v other=p∧v.list[p]? = some y∧place (withV v key x) other=q∧(withV v key x).list[q]? = some y
theorem laid_all {v:V} (hv:right v=true) (h5:v.kind=5) (key other:ByteArray) (hk:utf key=true) (x:V) (hx:right x=true):Laid v key other x:=by
  obtain ⟨k,n,t,ks,l⟩:=v;simp only at h5;subst h5;obtain ⟨hn,ht,hu,hl,ha⟩:=right_obj hv
  -- the form,either way
  have form:∃ ka kb la lb,ka.length=la.length∧kb.length=lb.length∧Up (ka ++ key :: kb)∧la.all right=true∧lb.all right=true∧withV ⟨5,n,t,ks,l⟩ key x=⟨5,n,t,ka ++ key :: kb,la ++ x :: lb⟩∧without ⟨5,n,t,ks,l⟩ key=⟨5,n,t,ka ++ kb,la ++ lb⟩∧∃ mid ml,ks=ka ++ (mid ++ kb)∧l=la ++ (ml ++ lb)∧mid.length=ml.length∧(mid=[]∨mid=[key]):=by
    by_cases hin:key ∈ ks
    · obtain ⟨ka,kb,rfl⟩:=List.append_of_mem hin
      have hlt:ka.length < l.length:=by simp at hl;omega
      have hsp:l=l.take ka.length ++ l[ka.length] :: l.drop (ka.length+1):=by
        rw [← List.drop_eq_getElem_cons hlt,List.take_append_drop]
      have q1:ka.length=(l.take ka.length).length:=by rw [List.length_take];omega
      have q2:kb.length=(l.drop (ka.length+1)).length:=by simp at hl ⊢;omega
      have hf:=hit_form n t key l[ka.length] q1 q2 hu;rw [← hsp] at hf;exact ⟨ka,kb,_,_,q1,q2,hu,all_take ha _,all_drop ha _,hf.2.1 x,hf.2.2,[key],[l[ka.length]],rfl,hsp,rfl,.inr rfl⟩
    · obtain ⟨h1,h2,r,hr,h3,h4⟩:=miss_form n t key hk hl hu hin
      exact ⟨ks.take r,ks.drop r,l.take r,l.drop r,by simp;omega,by simp;omega,h3,all_take ha _,all_drop ha _,h4 x,by rw [h2,List.take_append_drop,List.take_append_drop],[],[],by simp,by simp,rfl,.inl rfl⟩
  obtain ⟨ka,kb,la,lb,q1,q2,hup,hla,hlb,hw,ho,mid,ml,hks,hll,hml,hmid⟩:=form;have hf:=hit_form n t key x q1 q2 hup;have hlo:(ka ++ kb).length=(la ++ lb).length:=by simp;omega
  have hno:key ∉ ka ++ kb:=by
    have:=up_no hup
    simp [this.1,this.2]
  have hm:=miss_form n t key hk hlo (up_sub hup) hno;have hlw:(ka ++ key :: kb).length=(la ++ x :: lb).length:=by simp;omega
  refine ⟨?_,?_,?_,?_,?_,?_,?_,?_⟩
  · rw [hw]
    refine obj_right hn ht hup hlw ?_;simp [hla,hlb,hx]
  · refine ⟨ka.length,by rw [hw];exact hf.1,?_⟩
    rw [hw,q1];simp
  · rw [hw,ho];exact hf.2.2
  · rw [ho]
    refine obj_right hn ht (up_sub hup) hlo ?_;simp [hla,hlb]
  · rw [ho];exact hm.1
  · rw [ho];exact hm.2.1
  · rw [hw];exact hf.2.1 x
  · by_cases he:other=key
    · exact .inl he
    · right
      rw [hw,place_obj n t hl,place_obj n t hlw]
      have hnm:other ∉ mid:=by
        rcases hmid with rfl | rfl
        · simp
        · simp [he]
      have hnk:other ∉ [key]:=by simp [he]
      rcases find_mid q1 q2 other with ⟨h1,h2⟩ | ⟨y,hy⟩
      · left
        rw [hks];exact ⟨idx_no (by simp [h1,h2,hnm]),idx_no (by simp [h1,h2,he])⟩
      · right
        obtain ⟨p,hp1,hp2⟩:=hy mid ml hnm hml;obtain ⟨q,hq1,hq2⟩:=hy [key] [x] hnk rfl;exact ⟨y,p,q,by rw [hks];exact hp1,by rw [hll];exact hp2,hq1,hq2⟩
end V
end Go.Proofs.YtapcmbbhhclepaaGreatDoor
namespace Go.Proofs.YtapcmbbhhclepaaGreatDoor
namespace Cn
theorem joined_two (a b:List UInt8) (l:List (List UInt8)):joined (a :: b :: l)=a ++ 44 :: joined (b :: l):=by
  unfold joined;simp [List.intersperse]
theorem joined_one (a:List UInt8):joined [a]=a:=by
  unfold joined;simp
end Cn
end Go.Proofs.YtapcmbbhhclepaaGreatDoor
namespace Go.Proofs.YtapcmbbhhclepaaGreatDoor
namespace Cn
def pairRow (p:ByteArray×V):List UInt8:=Gm.quote p.1.data.toList ++ 58 :: print p.2
theorem deep_list (l:List V):V.deep (listV l)=V.deepL l+1:=by
  unfold listV;rw [V.deep_mk,if_pos (.inl rfl)];omega
end Cn
end Go.Proofs.YtapcmbbhhclepaaGreatDoor
namespace Go.Proofs.YtapcmbbhhclepaaGreatDoor
namespace Cn
def OkE (r:List UInt8) (e:Er):Prop:=e.2 <:+ r∧11≤e.1∧e.1≤14
def Res {α:Type} (Q:α→Prop) (r:List UInt8) (o:Except Er (α×List UInt8)):Prop :=
  match o with
  | .ok x=>Q x.1∧x.2 <:+ r∧x.2.length < r.length
  | .error e=>OkE r e
theorem Res.up {α:Type} {Q:α→Prop} {r r':List UInt8} {o:Except Er (α×List UInt8)} (h:Res Q r o) (hr:r <:+ r'):Res Q r' o:=by
  cases o with
  | ok x=>exact ⟨h.1,h.2.1.trans hr,Nat.lt_of_lt_of_le h.2.2 hr.length_le⟩
  | error e=>exact ⟨h.1.trans hr,h.2⟩
theorem err {α:Type} {Q:α→Prop} {r u:List UInt8} {n:Int} (hu:u <:+ r) (h1:11≤n) (h2:n≤14):Res (α:=α) Q r (.error (n,u)):=⟨hu,h1,h2⟩
theorem skip_suf (r:List UInt8):skip r <:+ r:=List.dropWhile_suffix _
theorem tail_suf (c:UInt8) (t:List UInt8):t <:+ c :: t:=List.suffix_cons c t
theorem after_res {α:Type} {Q:α→Prop} {r0 r:List UInt8} (last:UInt8) {done more:List UInt8→Except Er (α×List UInt8)} (hr:r <:+ r0)
    (hd:∀ t,t <:+ r0→t.length < r.length→Res Q r0 (done t)) (hm:∀ t,t <:+ r0→t.length < r.length→Res Q r0 (more t)):Res Q r0 (after last r done more):=by
  unfold after;have hs:=skip_suf r;cases hk:skip r with
  | nil=>exact err (List.nil_suffix) (by decide) (by decide)
  | cons c t =>
    rw [hk] at hs;have h1:t <:+ r:=(tail_suf c t).trans hs;have h2:t.length < r.length:=by have:=hs.length_le;simp at this;omega
    simp only
    split
    · exact hd t (h1.trans hr) h2
    · split
      · exact hm _ ((skip_suf t).trans (h1.trans hr)) (by have:=(skip_suf t).length_le;omega)
      · exact err (hs.trans hr) (by decide) (by decide)
def Fit (d:Nat) (v:V):Prop:=V.right v=true∧V.deep v+1≤d
theorem deepL_le {l:List V} {d:Nat} (h:∀ y ∈ l,V.deep y≤d):V.deepL l≤d:=by
  induction l with
  | nil=>rw [V.deepL_nil];omega
  | cons x l ih =>
    rw [V.deepL_cons];have h1:=h x (by simp);have h2:=ih (fun y hy=>h y (by simp [hy]));omega
theorem serL_res {d:Nat} (P:List UInt8→Except Er (V×List UInt8)) (hP:∀ r,Res (Fit d) r (P r)) :
    ∀ (N:Nat) (r:List UInt8) (acc:List V),r.length < N→(∀ y ∈ acc,Fit d y)→Res (fun l=>∀ y ∈ l,Fit d y) r (serL P N r acc)
  | 0,r,acc,h,_=>by omega
  | N+1,r,acc,h,ha=>by
    have h1:=hP r;unfold serL;cases hp:P r with
    | error e=>rw [hp] at h1;exact h1
    | ok x =>
      rw [hp] at h1
      have ha2:∀ y ∈ acc ++ [x.1],Fit d y:=fun y hy=>by
        rcases List.mem_append.1 hy with hy | hy
        · exact ha y hy
        · rw [List.mem_singleton] at hy
          rw [hy];exact h1.1
      refine after_res 93 h1.2.1 (fun t ht hl=>?_) (fun t ht hl=>?_)
      · exact ⟨ha2,ht,Nat.lt_trans hl h1.2.2⟩
      · exact (serL_res P hP N t _ (by have:=h1.2.2;omega) ha2).up ht
theorem pstr_res (r:List UInt8):Res (fun s=>V.utf s=true) r (pstr r):=by
  unfold pstr;cases hu:Gm.unquote r with
  | none=>exact err (List.suffix_refl _) (by decide) (by decide)
  | some x =>
    obtain ⟨t,n⟩:=x;obtain ⟨h1,h2,_,h3,_⟩:=Gm.told r t n hu;refine ⟨?_,List.drop_suffix _ _,by simp only [List.length_drop];omega⟩;show V.utf ⟨t.toArray⟩=true
    unfold V.utf;rw [decide_eq_true_eq,Gm.checkZ_neg]
    simpa using h3
def FitP (d:Nat) (keys:List ByteArray) (p:ByteArray×V):Prop:=V.utf p.1=true∧Fit d p.2∧p.1 ∉ keys
theorem ppair_res {d:Nat} (P:List UInt8→Except Er (V×List UInt8)) (hP:∀ r,Res (Fit d) r (P r)) (keys:List ByteArray) (r:List UInt8):Res (FitP d keys) r (ppair P keys r):=by
  have h1:=pstr_res r;unfold ppair;cases hp:pstr r with
  | error e=>rw [hp] at h1;exact h1
  | ok k =>
    rw [hp] at h1;simp only
    split
    · exact err (List.suffix_refl _) (by decide) (by decide)
    · rename_i hno
      have hno2:k.1 ∉ keys:=fun hm=>hno ((hasKey_iff keys k.1).2 hm)
      have hs:=(skip_suf k.2).trans h1.2.1;cases hk:skip k.2 with
      | nil=>exact err List.nil_suffix (by decide) (by decide)
      | cons c t =>
        rw [hk] at hs;simp only
        split
        · have hsk:skip t <:+ r:=(skip_suf t).trans ((tail_suf c t).trans hs)
          have h2:=(hP (skip t)).up hsk;cases hx:P (skip t) with
          | error e=>rw [hx] at h2;exact h2
          | ok x =>
            rw [hx] at h2;exact ⟨⟨h1.1,h2.1,hno2⟩,h2.2⟩
        · exact err hs (by decide) (by decide)
def FitO (d:Nat) (ps:List (ByteArray×V)):Prop:=(∀ p ∈ ps,V.utf p.1=true∧Fit d p.2)∧(ps.map (·.1)).Nodup
theorem serO_res {d:Nat} (P:List UInt8→Except Er (V×List UInt8)) (hP:∀ r,Res (Fit d) r (P r)) :
    ∀ (N:Nat) (r:List UInt8) (acc:List (ByteArray×V)),r.length < N→FitO d acc→Res (FitO d) r (serO P N r acc)
  | 0,r,acc,h,_=>by omega
  | N+1,r,acc,h,ha=>by
    have h1:=ppair_res P hP (acc.map (·.1)) r;unfold serO;cases hp:ppair P (acc.map (·.1)) r with
    | error e=>rw [hp] at h1;exact h1
    | ok x =>
      rw [hp] at h1;obtain ⟨⟨k1,k2,k3⟩,h2,h3⟩:=h1
      have ha2:FitO d (acc ++ [x.1]):=by
        refine ⟨fun p hm=>?_,?_⟩
        · rcases List.mem_append.1 hm with hm | hm
          · exact ha.1 p hm
          · rw [List.mem_singleton] at hm
            rw [hm];exact ⟨k1,k2⟩
        · rw [List.map_append,List.nodup_append]
          refine ⟨ha.2,by simp,?_⟩;intro a haa b hb;simp only [List.map_cons,List.map_nil,List.mem_singleton] at hb;rw [hb];rintro rfl;exact k3 haa
      refine after_res 125 h2 (fun t ht hl=>?_) (fun t ht hl=>?_)
      · exact ⟨ha2,ht,Nat.lt_trans hl h3⟩
      · exact (serO_res P hP N t _ (by omega) ha2).up ht
theorem objV_fit {d:Nat}:∀ (ps:List (ByteArray×V)) (ks:List ByteArray) (l:List V),ks.length=l.length→V.Up ks→(∀ y ∈ l,Fit d y)→FitO d ps→(∀ p ∈ ps,p.1 ∉ ks) →
    ∃ ks' l',ps.foldl (fun v p=>V.withV v p.1 p.2) ⟨5,0,⟨#[]⟩,ks,l⟩=⟨5,0,⟨#[]⟩,ks',l'⟩∧ks'.length=l'.length∧V.Up ks'∧(∀ y ∈ l',Fit d y)∧ks'.length=ks.length+ps.length
  | [],ks,l,h1,h2,h3,_,_=>⟨ks,l,rfl,h1,h2,h3,rfl⟩
  | p :: ps,ks,l,h1,h2,h3,h4,h5=>by
    obtain ⟨_,_,r,hr,hup,hw⟩:=V.miss_form 0 ⟨#[]⟩ p.1 (h4.1 p (by simp)).1 h1 h2 (h5 p (by simp));rw [List.foldl_cons,hw p.2];have hlen:(ks.take r ++ p.1 :: ks.drop r).length=ks.length+1:=by simp;omega
    have hlen2:(l.take r ++ p.2 :: l.drop r).length=l.length+1:=by simp;omega
    have hnd:=h4.2;rw [List.map_cons,List.nodup_cons] at hnd
    obtain ⟨ks',l',e1,e2,e3,e4,e5⟩:=objV_fit ps (ks.take r ++ p.1 :: ks.drop r) (l.take r ++ p.2 :: l.drop r) (by omega) hup (fun y hy=>by
        rcases List.mem_append.1 hy with hy | hy
        · exact h3 y (List.mem_of_mem_take hy)
        · rcases List.mem_cons.1 hy with hy | hy
          · rw [hy]
            exact (h4.1 p (by simp)).2
          · exact h3 y (List.mem_of_mem_drop hy))
      ⟨fun q hq=>h4.1 q (by simp [hq]),hnd.2⟩ (fun q hq hm=>by
        rcases List.mem_append.1 hm with hm | hm
        · exact h5 q (by simp [hq]) (List.mem_of_mem_take hm)
        · rcases List.mem_cons.1 hm with hm | hm
          · exact hnd.1 (by rw [← hm];exact List.mem_map.2 ⟨q,hq,rfl⟩)
          · exact h5 q (by simp [hq]) (List.mem_of_mem_drop hm))
    exact ⟨ks',l',e1,e2,e3,e4,by rw [e5,hlen,List.length_cons];omega⟩
theorem nil_text:(⟨#[]⟩:ByteArray).toList=[]:=by rw [Lib.toList_data]
theorem fit_list {d:Nat} {l:List V} (h:∀ y ∈ l,Fit d y) (hd:0 < d):Fit (d+1) (listV l):=by
  refine ⟨?_,?_⟩
  · unfold listV
    rw [V.right_mk];have:l.all V.right=true:=List.all_eq_true.2 (fun y hy=>(h y hy).1)
    rw [this];simp [V.kindOk,V.numOk,V.textOk,V.keysOk,nil_text]
  · rw [deep_list]
    have:=deepL_le (l:=l) (d:=d - 1) (fun y hy=>by have:=(h y hy).2;omega)
    omega
theorem fit_obj {d:Nat} {ps:List (ByteArray×V)} (h:FitO d ps) (hd:0 < d):Fit (d+1) (objV ps):=by
  obtain ⟨ks,l,e1,e2,e3,e4,_⟩:=objV_fit ps [] [] rfl ⟨by simp,by simp⟩ (by simp) h (by simp);have e:objV ps=⟨5,0,⟨#[]⟩,ks,l⟩:=e1;rw [e];refine ⟨V.obj_right rfl (by rw [nil_text];rfl) e3 e2 (List.all_eq_true.2 (fun y hy=>(e4 y hy).1)),?_⟩;rw [V.deep_mk,if_pos (.inr rfl)];have:=deepL_le (l:=l) (d:=d - 1) (fun y hy=>by have:=(e4 y hy).2;omega)
  omega
theorem fit_str {d:Nat} {s:ByteArray} (h:V.utf s=true):Fit (d+1) (V.str s):=by
  refine ⟨?_,?_⟩
  · unfold V.str
    rw [V.right_mk];simp [V.kindOk,V.numOk,V.textOk,V.keysOk,h]
  · unfold V.str
    rw [V.deep_mk,if_neg (by decide)];omega
theorem fit_num {d:Nat} {n:Int} (h1:-9007199254740991≤n) (h2:n≤9007199254740991):Fit (d+1) (V.numV n):=by
  refine ⟨?_,?_⟩
  · unfold V.numV
    rw [V.right_mk];simp [V.kindOk,V.numOk,V.textOk,V.keysOk,nil_text,h1,h2]
  · unfold V.numV
    rw [V.deep_mk,if_neg (by decide)];omega
theorem fit_word {d:Nat}:Fit (d+1) V.nul∧Fit (d+1) (truth true)∧Fit (d+1) (truth false):=by
  refine ⟨⟨?_,?_⟩,⟨?_,?_⟩,⟨?_,?_⟩⟩
  · unfold V.nul
    rw [V.right_mk];simp [V.kindOk,V.numOk,V.textOk,V.keysOk,nil_text]
  · unfold V.nul
    rw [V.deep_mk,if_neg (by decide)];omega
  · unfold truth
    rw [V.right_mk];simp [V.kindOk,V.numOk,V.textOk,V.keysOk,nil_text]
  · unfold truth
    rw [V.deep_mk,if_neg (by decide)];omega
  · unfold truth
    rw [V.right_mk];simp [V.kindOk,V.numOk,V.textOk,V.keysOk,nil_text]
  · unfold truth
    rw [V.deep_mk,if_neg (by decide)];omega
theorem pnum_res {d:Nat} (r:List UInt8) (h:r≠[]):Res (Fit (d+1)) r (pnum r):=by
  unfold pnum;simp only
  split
  · exact err (List.suffix_refl _) (by decide) (by decide)
  · rename_i hb
    split
    · exact err (List.suffix_refl _) (by decide) (by decide)
    · rename_i hn
      simp only [Bool.or_eq_true,decide_eq_true_eq,not_or] at hn;have hm:numOf ((unsigned r).takeWhile digit)≤9007199254740991:=by have:=hn.1;unfold most at this;omega
      have hu:unsigned r <:+ r:=by
        unfold unsigned
        split
        · exact List.tail_suffix _
        · exact List.suffix_refl _
      refine ⟨?_,(List.dropWhile_suffix _).trans hu,?_⟩
      · split
        · exact fit_num (by omega) (by omega)
        · exact fit_num (by omega) (by omega)
      · have hne:(unsigned r).takeWhile digit≠[]:=by
          intro he;rw [he] at hb;simp [badDigits] at hb
        have h1:=congrArg List.length (List.takeWhile_append_dropWhile (p:=digit) (l:=unsigned r));rw [List.length_append] at h1;have h2:=List.length_pos_iff.2 hne;have h3:=hu.length_le;show (List.dropWhile digit (unsigned r)).length < r.length
        omega
theorem pword_res {d:Nat} (r:List UInt8):Res (Fit (d+1)) r (pword r):=by
  unfold pword
  split
  · rename_i h
    have:=(List.isPrefixOf_iff_prefix.1 h).length_le
    exact ⟨fit_word.1,List.drop_suffix _ _,by rw [List.length_drop];simp [nullW] at this;omega⟩
  · split
    · rename_i h
      have:=(List.isPrefixOf_iff_prefix.1 h).length_le
      exact ⟨fit_word.2.1,List.drop_suffix _ _,by rw [List.length_drop];simp [trueW] at this;omega⟩
    · split
      · rename_i h
        have:=(List.isPrefixOf_iff_prefix.1 h).length_le
        exact ⟨fit_word.2.2,List.drop_suffix _ _,by rw [List.length_drop];simp [falseW] at this;omega⟩
      · exact err (List.suffix_refl _) (by decide) (by decide)
theorem pval_res:∀ (f:Nat),0 < f→∀ r,Res (Fit f) r (pval f r)
  | 0,h,_=>by omega
  | f+1,_,[]=>err List.nil_suffix (by decide) (by decide)
  | f+1,_,c :: t=>by
    unfold pval;have ht:t <:+ c :: t:=tail_suf c t;have hs:skip t <:+ c :: t:=(skip_suf t).trans ht
    split
    · split
      · exact err (List.suffix_refl _) (by decide) (by decide)
      · rename_i h0
        have hf:0 < f:=by omega
        split
        · rename_i u hu
          rw [hu] at hs;exact ⟨fit_list (by simp) hf,(tail_suf _ u).trans hs,by have h1:=(skip_suf t).length_le;rw [hu] at h1;simp at h1 ⊢;omega⟩
        · have h1:=(serL_res (pval f) (pval_res f hf) ((skip t).length+1) (skip t) [] (by omega) (by simp)).up hs
          cases hx:serL (pval f) ((skip t).length+1) (skip t) [] with
          | error e=>rw [hx] at h1;exact h1
          | ok x=>rw [hx] at h1;exact ⟨fit_list h1.1 hf,h1.2⟩
    · split
      · split
        · exact err (List.suffix_refl _) (by decide) (by decide)
        · rename_i h0
          have hf:0 < f:=by omega
          split
          · rename_i u hu
            rw [hu] at hs;exact ⟨fit_obj (ps:=[]) ⟨by simp,by simp⟩ hf,(tail_suf _ u).trans hs,by have h1:=(skip_suf t).length_le;rw [hu] at h1;simp at h1 ⊢;omega⟩
          · have h1:=(serO_res (pval f) (pval_res f hf) ((skip t).length+1) (skip t) [] (by omega) ⟨by simp,by simp⟩).up hs
            cases hx:serO (pval f) ((skip t).length+1) (skip t) [] with
            | error e=>rw [hx] at h1;exact h1
            | ok x=>rw [hx] at h1;exact ⟨fit_obj h1.1 hf,h1.2⟩
      · split
        · have h1:=pstr_res (c :: t)
          cases hx:pstr (c :: t) with
          | error e=>rw [hx] at h1;exact h1
          | ok x=>rw [hx] at h1;exact ⟨fit_str h1.1,h1.2⟩
        · split
          · exact pnum_res _ (by simp)
          · exact pword_res _
end Cn
end Go.Proofs.YtapcmbbhhclepaaGreatDoor
namespace Go.Proofs.YtapcmbbhhclepaaGreatDoor
namespace Cn
theorem clean_append {a b:List UInt8} (ha:Gm.check a=none) (hb:Gm.check b=none):Gm.check (a ++ b)=none:=by
  rw [(Gm.check_append a.length a b (Nat.le_refl _) ha).1,hb];rfl
theorem clean_one {c:UInt8} (h:c.toNat < 128):Gm.check [c]=none:=by
  have hd:Gm.dec [c]=(c.toNat,1):=Gm.dec_ascii [c] (by rw [Gm.nth_cons_zero];exact h);rw [Gm.check_good (by simp) (Gm.bad_of_dec hd (.inr (by omega))),hd];rfl
theorem clean_ascii:∀ {l:List UInt8},(∀ c ∈ l,c.toNat < 128)→Gm.check l=none
  | [],_=>rfl
  | c :: l,h=>clean_append (a:=[c]) (clean_one (h c (by simp))) (clean_ascii (fun d hd=>h d (by simp [hd])))
end Cn
end Go.Proofs.YtapcmbbhhclepaaGreatDoor
namespace Go.Proofs.YtapcmbbhhclepaaGreatDoor
namespace Cn
theorem digitsN_len:∀ (f n:Nat),(digitsN f n).length≤f
  | 0,n=>Nat.le_refl _
  | f+1,n=>by
    unfold digitsN
    split
    · simp
    · rw [List.length_append]
      have:=digitsN_len f (n / 10)
      simp;omega
theorem digits_len (n:Int):(digits n).length≤21:=by
  unfold digits;have:=digitsN_len 20 n.natAbs
  split
  · simp;omega
  · omega
theorem flat_len (l:List UInt8):(l.flatMap Gm.esc).length≤6 * l.length:=by
  induction l with
  | nil=>exact Nat.le_refl _
  | cons c l ih =>
    rw [List.flatMap_cons,List.length_append,List.length_cons];have:=Gm.esc_le c
    omega
theorem quote_len' (l:List UInt8):(Gm.quote l).length≤6 * l.length+2:=by
  unfold Gm.quote;rw [List.length_cons,List.length_append,List.length_singleton];have:=flat_len l
  omega
def tot (ls:List (List UInt8)):Nat:=(ls.map (fun x=>x.length+1)).sum
theorem tot_append (a b:List (List UInt8)):tot (a ++ b)=tot a+tot b:=by simp [tot]
theorem tot_cons (a:List UInt8) (l:List (List UInt8)):tot (a :: l)=a.length+1+tot l:=by simp [tot]
theorem tot_nil:tot []=0:=rfl
theorem joined_le:∀ (ls:List (List UInt8)),(joined ls).length≤tot ls
  | []=>Nat.le_refl _
  | [a]=>by rw [joined_one,tot_cons,tot_nil];omega
  | a :: b :: ls=>by
    rw [joined_two,List.length_append,List.length_cons,tot_cons];have:=joined_le (b :: ls)
    omega
theorem listV_len (l:List V):(print (listV l)).length≤tot (l.map print)+2:=by
  rw [print_list,List.length_cons,List.length_append,List.length_singleton];have:=joined_le (l.map print)
  omega
theorem obj_len (ks:List ByteArray) (l:List V):(print ⟨5,0,⟨#[]⟩,ks,l⟩).length≤tot ((ks.zip l).map pairRow)+2:=by
  have hmap:(ks.zip (l.map print)).map (fun p=>Gm.quote p.1.data.toList ++ 58 :: p.2)=(ks.zip l).map pairRow:=by
    rw [List.zip_map_right,List.map_map];rfl
  rw [print_obj,hmap,List.length_cons,List.length_append,List.length_singleton];have:=joined_le ((ks.zip l).map pairRow)
  omega
def Worth {α:Type} (B:α→Nat) (more:Nat) (r:List UInt8) (o:Except Er (α×List UInt8)):Prop:=∀ x u,o=.ok (x,u)→B x+26 * u.length≤26 * r.length+more
def rowB (v:V):Nat:=(print v).length+1
theorem after_worth {α:Type} {B:α→Nat} {k:Nat} (last:UInt8) (r:List UInt8) {done more:List UInt8→Except Er (α×List UInt8)}
    (hd:∀ t,t.length < r.length→Worth B k r (done t)) (hm:∀ t,t.length < r.length→Worth B k r (more t)):Worth B k r (after last r done more):=by
  unfold after;have hs:=(skip_suf r).length_le;cases hk:skip r with
  | nil=>intro x u h;cases h
  | cons c t =>
    rw [hk] at hs;simp only [List.length_cons] at hs;simp only
    split
    · exact hd t (by omega)
    · split
      · exact hm _ (by have:=(skip_suf t).length_le;omega)
      · intro x u h;cases h
theorem serL_worth (P:List UInt8→Except Er (V×List UInt8)) (hP:∀ r,Worth rowB 0 r (P r)):∀ (N:Nat) (r:List UInt8) (acc:List V),Worth (fun l=>tot (l.map print)) (tot (acc.map print)) r (serL P N r acc)
  | 0,r,acc=>by intro x u h;cases h
  | N+1,r,acc=>by
    unfold serL;cases hp:P r with
    | error e=>intro x u h;cases h
    | ok y =>
      have h1:=hP r y.1 y.2 hp
      have ha:tot ((acc ++ [y.1]).map print)=tot (acc.map print)+rowB y.1:=by
        rw [List.map_append,tot_append,List.map_cons,List.map_nil,tot_cons,tot_nil];rfl
      have key:Worth (fun l=>tot (l.map print)) (tot (acc.map print)+rowB y.1) y.2 (after 93 y.2 (fun t=>.ok (acc ++ [y.1],t)) (fun t=>serL P N t (acc ++ [y.1]))):=by
        refine after_worth 93 y.2 (fun t ht=>?_) (fun t ht=>?_)
        · intro x u h
          injection h with h
          injection h with h2 h3
          subst h2 h3;simp only [ha];omega
        · intro x u h
          have:=serL_worth P hP N t (acc ++ [y.1]) x u h
          rw [ha] at this;omega
      intro x u h;have:=key x u h
      omega
theorem pstr_worth (r:List UInt8):Worth (fun s=>(Gm.quote s.data.toList).length+2) 0 r (pstr r):=by
  intro x u h;unfold pstr at h;cases hu:Gm.unquote r with
  | none=>rw [hu] at h;cases h
  | some y =>
    rw [hu] at h;obtain ⟨t,n⟩:=y;obtain ⟨h1,h2,_,_,_,h3⟩:=Gm.told r t n hu
    injection h with h
    injection h with h4 h5
    subst h4 h5;have:=quote_len' t
    simp only [List.length_drop];omega
def pairB (p:ByteArray×V):Nat:=(pairRow p).length+1
theorem ppair_worth (P:List UInt8→Except Er (V×List UInt8)) (hP:∀ r,Worth rowB 0 r (P r)) (keys:List ByteArray) (r:List UInt8):Worth pairB 0 r (ppair P keys r):=by
  intro x u h;unfold ppair at h;cases hp:pstr r with
  | error e=>rw [hp] at h;cases h
  | ok k =>
    have h1:=pstr_worth r k.1 k.2 hp;rw [hp] at h;simp only at h
    split at h
    · cases h
    · have hs:=(skip_suf k.2).length_le
      cases hk:skip k.2 with
      | nil=>rw [hk] at h;cases h
      | cons c t =>
        rw [hk] at h hs;simp only [List.length_cons] at hs;simp only at h
        split at h
        · have hs2:=(skip_suf t).length_le
          cases hx:P (skip t) with
          | error e=>rw [hx] at h;cases h
          | ok y =>
            have h2:=hP (skip t) y.1 y.2 hx;rw [hx] at h
            injection h with h
            injection h with h4 h5
            subst h4 h5;unfold pairB pairRow;unfold rowB at h2;rw [List.length_append,List.length_cons];simp only at h1 ⊢;omega
        · cases h
theorem serO_worth (P:List UInt8→Except Er (V×List UInt8)) (hP:∀ r,Worth rowB 0 r (P r)):∀ (N:Nat) (r:List UInt8) (acc:List (ByteArray×V)),Worth (fun l=>tot (l.map pairRow)) (tot (acc.map pairRow)) r (serO P N r acc)
  | 0,r,acc=>by intro x u h;cases h
  | N+1,r,acc=>by
    unfold serO;cases hp:ppair P (acc.map (·.1)) r with
    | error e=>intro x u h;cases h
    | ok y =>
      have h1:=ppair_worth P hP _ r y.1 y.2 hp
      have ha:tot ((acc ++ [y.1]).map pairRow)=tot (acc.map pairRow)+pairB y.1:=by
        rw [List.map_append,tot_append,List.map_cons,List.map_nil,tot_cons,tot_nil];rfl
      have key:Worth (fun l=>tot (l.map pairRow)) (tot (acc.map pairRow)+pairB y.1) y.2 (after 125 y.2 (fun t=>.ok (acc ++ [y.1],t)) (fun t=>serO P N t (acc ++ [y.1]))):=by
        refine after_worth 125 y.2 (fun t ht=>?_) (fun t ht=>?_)
        · intro x u h
          injection h with h
          injection h with h2 h3
          subst h2 h3;simp only [ha];omega
        · intro x u h
          have:=serO_worth P hP N t (acc ++ [y.1]) x u h
          rw [ha] at this;omega
      intro x u h;have:=key x u h
      omega
theorem objV_tot {d:Nat}:∀ (ps:List (ByteArray×V)) (ks:List ByteArray) (l:List V),ks.length=l.length→V.Up ks→FitO d ps→(∀ p ∈ ps,p.1 ∉ ks) →
    (print (ps.foldl (fun v p=>V.withV v p.1 p.2) ⟨5,0,⟨#[]⟩,ks,l⟩)).length≤tot ((ks.zip l).map pairRow)+tot (ps.map pairRow)+2
  | [],ks,l,h1,h2,_,_=>by
    have:=obj_len ks l
    rw [List.foldl_nil];omega
  | p :: ps,ks,l,h1,h2,h4,h5=>by
    obtain ⟨_,_,r,hr,hup,hw⟩:=V.miss_form 0 ⟨#[]⟩ p.1 (h4.1 p (by simp)).1 h1 h2 (h5 p (by simp));rw [List.foldl_cons,hw p.2];have hlen:(ks.take r ++ p.1 :: ks.drop r).length=ks.length+1:=by simp;omega
    have hlen2:(l.take r ++ p.2 :: l.drop r).length=l.length+1:=by simp;omega
    have hnd:=h4.2;rw [List.map_cons,List.nodup_cons] at hnd
    have ih:=objV_tot ps (ks.take r ++ p.1 :: ks.drop r) (l.take r ++ p.2 :: l.drop r) (by omega) hup ⟨fun q hq=>h4.1 q (by simp [hq]),hnd.2⟩ (fun q hq hm=>by
        rcases List.mem_append.1 hm with hm | hm
        · exact h5 q (by simp [hq]) (List.mem_of_mem_take hm)
        · rcases List.mem_cons.1 hm with hm | hm
          · exact hnd.1 (by rw [← hm];exact List.mem_map.2 ⟨q,hq,rfl⟩)
          · exact h5 q (by simp [hq]) (List.mem_of_mem_drop hm))
    have e1:(ks.take r ++ p.1 :: ks.drop r).zip (l.take r ++ p.2 :: l.drop r)=(ks.take r).zip (l.take r) ++ p :: (ks.drop r).zip (l.drop r):=by
      rw [List.zip_append (by simp;omega),List.zip_cons_cons]
    have e2:ks.zip l=(ks.take r).zip (l.take r) ++ (ks.drop r).zip (l.drop r):=by
      rw [← List.zip_append (by simp;omega),List.take_append_drop,List.take_append_drop]
    rw [e1] at ih;rw [e2];simp only [List.map_append,List.map_cons,tot_append,tot_cons] at ih ⊢;omega
theorem pval_worth:∀ (f:Nat) (r:List UInt8),Worth rowB 0 r (pval f r)
  | 0,r=>by intro x u h;cases h
  | f+1,[]=>by intro x u h;cases h
  | f+1,c :: t=>by
    intro x u h;unfold pval at h;have hs:=(skip_suf t).length_le;unfold rowB;rw [List.length_cons]
    split at h
    · split at h
      · cases h
      · split at h
        · rename_i v hv
          rw [hv] at hs;simp only [List.length_cons] at hs
          injection h with h
          injection h with h1 h2
          subst h1 h2;have:=listV_len []
          rw [List.map_nil,tot_nil] at this;omega
        · cases hx:serL (pval f) ((skip t).length+1) (skip t) [] with
          | error e=>rw [hx] at h;cases h
          | ok y =>
            rw [hx] at h;have h1:=serL_worth (pval f) (pval_worth f) _ _ _ y.1 y.2 hx
            injection h with h
            injection h with h2 h3
            subst h2 h3;have h4:=listV_len y.1;rw [List.map_nil,tot_nil] at h1;simp only at h1;omega
    · split at h
      · split at h
        · cases h
        · rename_i h0
          have hf:0 < f:=by omega
          split at h
          · rename_i v hv
            rw [hv] at hs;simp only [List.length_cons] at hs
            injection h with h
            injection h with h1 h2
            subst h1 h2;have:(print V.none5).length≤tot ((([]:List ByteArray).zip ([]:List V)).map pairRow)+2:=obj_len [] []
            rw [List.zip_nil_left,List.map_nil,tot_nil] at this;omega
          · cases hx:serO (pval f) ((skip t).length+1) (skip t) [] with
            | error e=>rw [hx] at h;cases h
            | ok y =>
              rw [hx] at h;have h1:=serO_worth (pval f) (pval_worth f) _ _ _ y.1 y.2 hx;have h5:=serO_res (pval f) (pval_res f hf) ((skip t).length+1) (skip t) [] (by omega) ⟨by simp,by simp⟩;rw [hx] at h5
              injection h with h
              injection h with h2 h3
              subst h2 h3;have h4:(print (objV y.1)).length≤_:=objV_tot y.1 [] [] rfl ⟨by simp,by simp⟩ h5.1 (by simp);rw [List.zip_nil_left,List.map_nil,tot_nil] at h4;rw [List.map_nil,tot_nil] at h1;simp only at h1;omega
      · split at h
        · cases hx:pstr (c :: t) with
          | error e=>rw [hx] at h;cases h
          | ok y =>
            rw [hx] at h;have h1:=pstr_worth (c :: t) y.1 y.2 hx
            injection h with h
            injection h with h2 h3
            subst h2 h3;rw [print_str];rw [List.length_cons] at h1;simp only at h1;omega
        · split at h
          · have h1:=pnum_res (d:=f) (c :: t) (by simp)
            rw [h] at h1;have h2:=h1.2.2;rw [List.length_cons] at h2
            have:∃ n,x=V.numV n:=by
              unfold pnum at h;simp only at h
              split at h
              · cases h
              · split at h
                · cases h
                · injection h with h
                  injection h with h3 h4
                  exact ⟨_,h3.symm⟩
            obtain ⟨n,rfl⟩:=this;rw [print_num];have:=digits_len n
            simp only at h2;omega
          · have h1:=pword_res (d:=f) (c :: t)
            rw [h] at h1;have h2:=h1.2.2;rw [List.length_cons] at h2
            have:(print x).length≤5:=by
              unfold pword at h
              split at h
              · injection h with h
                injection h with h3 h4
                rw [← h3,print_nul];decide
              · split at h
                · injection h with h
                  injection h with h3 h4
                  rw [← h3,print_truth];decide
                · split at h
                  · injection h with h
                    injection h with h3 h4
                    rw [← h3,print_truth];decide
                  · cases h
            simp only at h2;omega
end Cn
end Go.Proofs.YtapcmbbhhclepaaGreatDoor
