/-
  What this claim takes of the earlier layers' texts: WWithB RefVB CRefB CRefC RTail CRefM.
-/
import Derived.Test.YtapcmbbhhclepaaGreatDoorM12
import Derived.Deep.LoopGhost
import Derived.StillTail
set_option linter.unusedVariables false
set_option linter.unusedSimpArgs false
set_option maxRecDepth 100000
namespace Go.Proofs.YtapcmbbhhclepaaGreatDoor
open Go.RowKit
set_option maxHeartbeats 1000000 in
set_option maxRecDepth 100000 in
theorem refWith_hit {v vy:Value} {x y:V} {w:World} {S:Nat→Prop} (h:Is w S v x) (h':Is w S vy y) (hwx:V.wt x≤1000000000) (key:ByteArray) (hkey:key.size≤1000000000) (h5:x.kind=5) (p:Nat) (hp:V.place x key=p) :
    Calls Tryz.prog 25 #[v,.string key,vy] w fun e w'=>∃ k n t a1 n1 c1 a2 n2 c2,e=.returned (.agg #[.int .i64 k,.int .i64 n,.string t,.slice a1 n1 c1,.slice a2 n2 c2])∧Is w' (fun b=>S b∨w.heap.size≤b) (.agg #[.int .i64 k,.int .i64 n,.string t,.slice a1 n1 c1,.slice a2 n2 c2]) (V.laid x p (p+1) [key] [y])∧Below w.heap.size w w':=by
  have hpl:=(V.place_lt x key (by omega)).2;rw [hp] at hpl;have hpl':p+1≤min x.keys.length x.list.length:=by rw [Int.toNat_natCast] at hpl;omega
  have HP:=hide hp;clear hp hpl;obtain ⟨kv,lv,rfl,h2,h8,ht⟩:=id h.open;obtain ⟨kvy,lvy,rfl,hy2,hy8,_⟩:=id h'.open;obtain ⟨a1,c1,rfl,q1,_,_,hcell⟩:=id h2;have HC:=hide hcell;clear hcell;obtain ⟨a2,c2,_,rfl,q2,_⟩:=id h8;obtain ⟨b1,d1,rfl,_⟩:=id hy2;obtain ⟨b2,d2,_,rfl,_⟩:=id hy8;have h5':(x.kind != 5)=false:=by simp [h5]
  have H5:=hide h5;have HH:=hide h;have HH':=hide h';have HWX:=hide hwx;have HKEY:=hide hkey;have HPL:=hide hpl';clear h5 h h' h2 h8 hy2 hy8 hwx ht hkey hpl';go_enter Tryz.func25,Tryz.ntmps25
  go_wp2_with fail
  refine (refPlace_any (HH.out.below (bthen (below_alloc w _) (bthen (below_alloc _ _) (below_alloc _ _)))) (Nat.le_trans HWX.out (by decide)) key p HP.out).mono ?_;rintro e w1 ⟨rfl,bw1⟩;have pa:BoxF w1 w.heap.size _ _ _ _ _:=((boxF_at w _ _ _ _ _ 27 _ rfl).keep (bthen (below_alloc _ _) (below_alloc _ _))).keep bw1;have pb:BoxF w1 (w.heap.size+1) _ _ _ _ _:=((boxF_at _ _ _ _ _ _ 27 _ (by simp)).keep (below_alloc _ _)).keep bw1;have pr:BoxF w1 (w.heap.size+2) _ _ _ _ _:=(boxF_at _ _ _ _ _ _ 27 _ (by simp)).keep bw1;have bb:=bthen (bthen (below_alloc w _) (bthen (below_alloc _ _) (below_alloc _ _))) bw1;have sz:w.heap.size+3≤w1.heap.size:=by have:=bw1.size;simpa using this
  clear bw1;obtain ⟨⟨x0,x1,x2,x3,x4⟩,_⟩:=id pa;obtain ⟨⟨y0,y1,y2,y3,y4⟩,_⟩:=id pb;have g0:∀ o,(w1.alloc o).cell? _=_:=fun o=>cell_keep y0 (below_alloc w1 o)
  have g1:∀ o,(w1.alloc o).cell? _=_:=fun o=>cell_keep y1 (below_alloc w1 o)
  have g2:∀ o,(w1.alloc o).cell? _=_:=fun o=>cell_keep y2 (below_alloc w1 o)
  have g3:∀ o,(w1.alloc o).cell? _=_:=fun o=>cell_keep y3 (below_alloc w1 o)
  have g4:∀ o,(w1.alloc o).cell? _=_:=fun o=>cell_keep y4 (below_alloc w1 o)
  go_wp2_with fail
  clear g0 g1 g2 g3 g4;clear x0 x1 x2 x3 x4 y0 y1 y2 y3 y4;have hS:∀ b,b < w.heap.size→S b→(S b∧b < w.heap.size)∨w.heap.size+3≤b:=fun b hb hs=>.inl ⟨hs,hb⟩
  have bk:=below_alloc w1 (.cells #[.string key] 9);have rkey:=raw_one_str w1 key (fun b=>(S b∧b < w.heap.size)∨w.heap.size+3≤b) _ rfl (.inr sz);have bk2:=below_alloc (w1.alloc (.cells #[.string key] 9)) (.cells #[.int .i64 y.kind,.int .i64 y.num,.string y.text,.slice b1 y.keys.length d1,.slice b2 y.list.length d2] 27);have rval:=raw_one_val (w1.alloc (.cells #[.string key] 9)) y.kind y.num y.text b1 y.keys.length d1 b2 y.list.length d2 (fun b=>(S b∧b < w.heap.size)∨w.heap.size+3≤b) (w1.heap.size+1) (by simp) (.inr (by omega));have hkk:Strs _ _ _ [key]:=strs_of_raw (ks:=[key]) (rkey.below bk2) (fun k hk=>by rw [List.mem_singleton.1 hk];exact Nat.le_trans HKEY.out (by decide));have hll:=isL_of_raw rval (Els.one (x:=y) ((HH'.out.weak hS).below (bthen bb (bthen bk bk2))));refine (refWith_core ((HH.out.weak hS).below (bthen bb (bthen bk bk2))) HWX.out H5.out p 1 _ _ [key] [y] hkk hll HPL.out (by simp) (by simp)).mono ?_;rintro e w3 ⟨k5,n5,t5,a5,m5,c5,a6,m6,c6,rfl,his,bw3⟩;replace pr:=pr.keep (bthen (bthen bk bk2) bw3);replace bb:=bthen bb (bthen (bthen bk bk2) bw3);clear rkey rval hkk hll;obtain ⟨⟨y0,y1,y2,y3,y4⟩,g0,g1,g2,g3,g4⟩:=id pr
  go_wp2_with fail
  obtain ⟨u0,u1,u2,u3,u4⟩:=Box5.all pr.1 (.int .i64 k5) (.int .i64 n5) (.string t5) (.slice a5 m5 c5) (.slice a6 m6 c6);refine bodyPost_ret (v:=.agg #[.int .i64 k5,.int .i64 n5,.string t5,.slice a5 m5 c5,.slice a6 m6 c6]) (by simp [results,Tryz.results25,go_sem,u0,u1,u2,u3,u4]) rfl ?_;refine ⟨k5,n5,t5,a5,m5,c5,a6,m6,c6,rfl,?_,?_⟩
  · have kp:=keeps_set5 (S:=fun b=>b≠w.heap.size+2) (w:=w3) (g:=w.heap.size+2) (o:=0) (.int .i64 k5) (.int .i64 n5) (.string t5) (.slice a5 m5 c5) (.slice a6 m6 c6) (by simp)
    have hi2:=his.weak (S':=fun b=>b≠w.heap.size+2∧(S b∨w.heap.size≤b)) (fun b hb2 hb=>by
      rcases hb with (hb | hb) | hb
      · exact ⟨by omega,.inl hb.1⟩
      · exact ⟨by omega,.inr (by omega)⟩
      · have:=bk.size;have:=bk2.size;exact ⟨by omega,.inr (by omega)⟩)
    exact (hi2.keep (fun b hb hl=>kp b hb.1 hl)).weak (fun b _ hb=>hb.2)
  · have le2:w.heap.size≤w.heap.size+2:=by omega
    exact ((((bb.setCell le2 _).setCell le2 _).setCell le2 _).setCell le2 _).setCell le2 _
set_option maxHeartbeats 1000000 in
set_option maxRecDepth 100000 in
theorem refWith_miss {v vy:Value} {x y:V} {w:World} {S:Nat→Prop} (h:Is w S v x) (h':Is w S vy y) (hwx:V.wt x≤1000000000) (key:ByteArray) (hkey:key.size≤1000000000) (h5:x.kind=5) (pz:Int) (hp:V.place x key=pz) (hneg:pz < 0) :
    Calls Tryz.prog 25 #[v,.string key,vy] w fun e w'=>∃ k n t a1 n1 c1 a2 n2 c2,e=.returned (.agg #[.int .i64 k,.int .i64 n,.string t,.slice a1 n1 c1,.slice a2 n2 c2])∧Is w' (fun b=>S b∨w.heap.size≤b) (.agg #[.int .i64 k,.int .i64 n,.string t,.slice a1 n1 c1,.slice a2 n2 c2]) (V.laid x (V.room (x.keys.take (min x.keys.length x.list.length)) key) (V.room (x.keys.take (min x.keys.length x.list.length)) key) [key] [y])∧Below w.heap.size w w':=by
  obtain ⟨m,hm⟩:∃ m,min x.keys.length x.list.length=m:=⟨_,rfl⟩;rw [hm];obtain ⟨p,hroom⟩:∃ p,V.room (x.keys.take m) key=p:=⟨_,rfl⟩;rw [hroom];have hpl':=V.room_le (x.keys.take m) key;rw [hroom,List.length_take] at hpl';have hkl:=V.klen_wt x;have HP:=hide hp;have HM:=hide hm;have HRO:=hide hroom;have hmI:min (x.keys.length:Int) (x.list.length:Int)=(m:Int):=by omega
  have hm32:m≤4294967296:=by omega
  have hmk:m≤x.keys.length:=by omega
  clear hp hm hroom hkl;obtain ⟨kv,lv,rfl,h2,h8,ht⟩:=id h.open;obtain ⟨kvy,lvy,rfl,hy2,hy8,_⟩:=id h'.open;obtain ⟨a1,c1,rfl,q1,_,_,hcell⟩:=id h2;have HC:=hide hcell;clear hcell;obtain ⟨a2,c2,_,rfl,q2,_⟩:=id h8;obtain ⟨b1,d1,rfl,_⟩:=id hy2;obtain ⟨b2,d2,_,rfl,_⟩:=id hy8;have h5':(x.kind != 5)=false:=by simp [h5]
  have HS0:Hid (∀ k ∈ x.keys,k.size≤maxLen):=by obtain ⟨_,_,_,_,_,q,_⟩:=h2;exact q
  have H5:=hide h5;have HH:=hide h;have HH':=hide h';have HWX:=hide hwx;have HKEY:=hide hkey;have HPL:=hide hpl';clear h5 h h' h2 h8 hy2 hy8 hwx ht hkey hpl';go_enter Tryz.func25,Tryz.ntmps25
  go_wp2_with fail
  refine (refPlace_any (HH.out.below (bthen (below_alloc w _) (bthen (below_alloc _ _) (below_alloc _ _)))) (Nat.le_trans HWX.out (by decide)) key pz HP.out).mono ?_;rintro e w1 ⟨rfl,bw1⟩;have pa:BoxF w1 w.heap.size _ _ _ _ _:=((boxF_at w _ _ _ _ _ 27 _ rfl).keep (bthen (below_alloc _ _) (below_alloc _ _))).keep bw1;have pb:BoxF w1 (w.heap.size+1) _ _ _ _ _:=((boxF_at _ _ _ _ _ _ 27 _ (by simp)).keep (below_alloc _ _)).keep bw1;have pr:BoxF w1 (w.heap.size+2) _ _ _ _ _:=(boxF_at _ _ _ _ _ _ 27 _ (by simp)).keep bw1;have bb:=bthen (bthen (below_alloc w _) (bthen (below_alloc _ _) (below_alloc _ _))) bw1;have sz:w.heap.size+3≤w1.heap.size:=by have:=bw1.size;simpa using this
  clear bw1;obtain ⟨⟨x0,x1,x2,x3,x4⟩,_⟩:=id pa;obtain ⟨⟨y0,y1,y2,y3,y4⟩,_⟩:=id pb
  go_wp2_with fail
  clear x0 x1 x2 x3 x4 y0 y1 y2 y3 y4
  go_loopg [8] m (fun g i wr=>∃ j:Nat,j+g=m∧i=.int .i64 j∧Hid (∀ i,i < j→V.less (x.keys.getD i ByteArray.empty) key=true)∧Below w.heap.size w wr∧w.heap.size+3≤wr.heap.size∧BoxF wr w.heap.size (.int .i64 x.kind) (.int .i64 x.num) (.string x.text) (.slice a1 x.keys.length c1) (.slice a2 x.list.length c2)∧BoxF wr (w.heap.size+1) (.int .i64 y.kind) (.int .i64 y.num) (.string y.text) (.slice b1 y.keys.length d1) (.slice b2 y.list.length d2)∧BoxF wr (w.heap.size+2) (.int .i64 0) (.int .i64 0) (.string ⟨#[]⟩) (.slice none 0 0) (.slice none 0 0))
  case atStart=>exact ⟨0,by omega,rfl,fun i hi=>absurd hi (Nat.not_lt_zero _),bb,sz,pa,pb,pr⟩
  case round =>
    clear pa pb pr bb sz;obtain ⟨j,hj,rfl,HA,bb,sz,pa,pb,pr⟩:=hrel;obtain ⟨⟨x0,x1,x2,x3,x4⟩,_⟩:=id pa;obtain ⟨⟨y0,y1,y2,y3,y4⟩,_⟩:=id pb
    by_cases hlt:j < m
    · obtain ⟨b,off,K,rfl,hK,ej⟩:=str_at' HC.out bb (Nat.lt_of_lt_of_le hlt hmk)
      have zj:=getD_size HS0.out j;rw [← hK.out] at zj;cases hle:V.less K key with
      | true =>
        have HL:=hide hle;clear hle
        go_wp2_with fail
        refine (refLess_any K key _ zj (Nat.le_trans HKEY.out (by decide))).mono ?_;rintro e w2 ⟨rfl,b2⟩;rw [show Op.bytesLess K.toList key.toList=true from HL.out]
        go_wp2_with fail
        go_roundg (gk - 1)
        case measure=>omega
        case rel =>
          refine ⟨j+1,by omega,rfl,?_,bthen bb b2,Nat.le_trans sz b2.size,pa.keep b2,pb.keep b2,pr.keep b2⟩;intro i hi
          by_cases e:i=j
          · subst e;rw [← hK.out];exact HL.out
          · exact HA.out i (by omega)
      | false =>
        have HL:=hide hle;clear hle
        go_wp2_with fail
        refine (refLess_any K key _ zj (Nat.le_trans HKEY.out (by decide))).mono ?_;rintro e w2 ⟨rfl,b2⟩;rw [show Op.bytesLess K.toList key.toList=false from HL.out]
        have hpj:p=j:=by
          rw [← HRO.out];exact V.room_hit _ key j (by rw [List.length_take];omega) (by rw [V.getD_take _ _ _ hlt,← hK.out];exact HL.out) (fun i hi=>by rw [V.getD_take _ _ _ (by omega)];exact HA.out i hi)
        subst hpj;replace pa:=pa.keep b2;replace pb:=pb.keep b2;replace pr:=pr.keep b2;replace bb:=bthen bb b2;replace sz:=Nat.le_trans sz b2.size;clear x0 x1 x2 x3 x4 y0 y1 y2 y3 y4 b2;obtain ⟨⟨x0,x1,x2,x3,x4⟩,_⟩:=id pa;obtain ⟨⟨y0,y1,y2,y3,y4⟩,_⟩:=id pb;have g0:∀ o,(w2.alloc o).cell? _=_:=fun o=>cell_keep y0 (below_alloc w2 o)
        have g1:∀ o,(w2.alloc o).cell? _=_:=fun o=>cell_keep y1 (below_alloc w2 o)
        have g2:∀ o,(w2.alloc o).cell? _=_:=fun o=>cell_keep y2 (below_alloc w2 o)
        have g3:∀ o,(w2.alloc o).cell? _=_:=fun o=>cell_keep y3 (below_alloc w2 o)
        have g4:∀ o,(w2.alloc o).cell? _=_:=fun o=>cell_keep y4 (below_alloc w2 o)
        go_wp2_with fail
        clear g0 g1 g2 g3 g4;clear x0 x1 x2 x3 x4 y0 y1 y2 y3 y4;have hS:∀ b,b < w.heap.size→S b→(S b∧b < w.heap.size)∨w.heap.size+3≤b:=fun b hb hs=>.inl ⟨hs,hb⟩
        have bk:=below_alloc w2 (.cells #[.string key] 9);have rkey:=raw_one_str w2 key (fun b=>(S b∧b < w.heap.size)∨w.heap.size+3≤b) _ rfl (.inr sz);have bk2:=below_alloc (w2.alloc (.cells #[.string key] 9)) (.cells #[.int .i64 y.kind,.int .i64 y.num,.string y.text,.slice b1 y.keys.length d1,.slice b2 y.list.length d2] 27);have rval:=raw_one_val (w2.alloc (.cells #[.string key] 9)) y.kind y.num y.text b1 y.keys.length d1 b2 y.list.length d2 (fun b=>(S b∧b < w.heap.size)∨w.heap.size+3≤b) (w2.heap.size+1) (by simp) (.inr (by omega));have hkk:Strs _ _ _ [key]:=strs_of_raw (ks:=[key]) (rkey.below bk2) (fun k hk=>by rw [List.mem_singleton.1 hk];exact Nat.le_trans HKEY.out (by decide));have hll:=isL_of_raw rval (Els.one (x:=y) ((HH'.out.weak hS).below (bthen bb (bthen bk bk2))));refine (refWith_core ((HH.out.weak hS).below (bthen bb (bthen bk bk2))) HWX.out H5.out p 0 _ _ [key] [y] hkk hll (by have:=HM.out;have:=HPL.out;omega) (by simp) (by simp)).mono ?_;rintro e w3 ⟨k5,n5,t5,a5,m5,c5,a6,m6,c6,rfl,his,bw3⟩;replace pr:=pr.keep (bthen (bthen bk bk2) bw3);replace bb:=bthen bb (bthen (bthen bk bk2) bw3);clear rkey rval hkk hll;obtain ⟨⟨y0,y1,y2,y3,y4⟩,g0,g1,g2,g3,g4⟩:=id pr
        go_wp2_with fail
        obtain ⟨u0,u1,u2,u3,u4⟩:=Box5.all pr.1 (.int .i64 k5) (.int .i64 n5) (.string t5) (.slice a5 m5 c5) (.slice a6 m6 c6);refine bodyPost_ret (v:=.agg #[.int .i64 k5,.int .i64 n5,.string t5,.slice a5 m5 c5,.slice a6 m6 c6]) (by simp [results,Tryz.results25,go_sem,u0,u1,u2,u3,u4]) rfl ?_;refine ⟨k5,n5,t5,a5,m5,c5,a6,m6,c6,rfl,?_,?_⟩
        · have kp:=keeps_set5 (S:=fun b=>b≠w.heap.size+2) (w:=w3) (g:=w.heap.size+2) (o:=0) (.int .i64 k5) (.int .i64 n5) (.string t5) (.slice a5 m5 c5) (.slice a6 m6 c6) (by simp)
          have hi2:=his.weak (S':=fun b=>b≠w.heap.size+2∧(S b∨w.heap.size≤b)) (fun b hb2 hb=>by
            rcases hb with (hb | hb) | hb
            · exact ⟨by omega,.inl hb.1⟩
            · exact ⟨by omega,.inr (by omega)⟩
            · have:=bk.size;have:=bk2.size;exact ⟨by omega,.inr (by omega)⟩)
          exact (hi2.keep (fun b hb hl=>kp b hb.1 hl)).weak (fun b _ hb=>hb.2)
        · have le2:w.heap.size≤w.heap.size+2:=by omega
          exact ((((bb.setCell le2 _).setCell le2 _).setCell le2 _).setCell le2 _).setCell le2 _
    · have hje:j=m:=by omega
      subst hje
      have hpj:p=j:=by
        have hlen:(x.keys.take j).length=j:=by rw [List.length_take];omega
        rw [← HRO.out,V.room_miss _ key (fun i hi=>by rw [hlen] at hi;rw [V.getD_take _ _ _ hi];exact HA.out i hi),hlen]
      subst hpj;have g0:∀ o,(wr.alloc o).cell? _=_:=fun o=>cell_keep y0 (below_alloc wr o)
      have g1:∀ o,(wr.alloc o).cell? _=_:=fun o=>cell_keep y1 (below_alloc wr o)
      have g2:∀ o,(wr.alloc o).cell? _=_:=fun o=>cell_keep y2 (below_alloc wr o)
      have g3:∀ o,(wr.alloc o).cell? _=_:=fun o=>cell_keep y3 (below_alloc wr o)
      have g4:∀ o,(wr.alloc o).cell? _=_:=fun o=>cell_keep y4 (below_alloc wr o)
      go_wp2_with fail
      clear g0 g1 g2 g3 g4;clear x0 x1 x2 x3 x4 y0 y1 y2 y3 y4;have hS:∀ b,b < w.heap.size→S b→(S b∧b < w.heap.size)∨w.heap.size+3≤b:=fun b hb hs=>.inl ⟨hs,hb⟩
      have bk:=below_alloc wr (.cells #[.string key] 9);have rkey:=raw_one_str wr key (fun b=>(S b∧b < w.heap.size)∨w.heap.size+3≤b) _ rfl (.inr sz);have bk2:=below_alloc (wr.alloc (.cells #[.string key] 9)) (.cells #[.int .i64 y.kind,.int .i64 y.num,.string y.text,.slice b1 y.keys.length d1,.slice b2 y.list.length d2] 27);have rval:=raw_one_val (wr.alloc (.cells #[.string key] 9)) y.kind y.num y.text b1 y.keys.length d1 b2 y.list.length d2 (fun b=>(S b∧b < w.heap.size)∨w.heap.size+3≤b) (wr.heap.size+1) (by simp) (.inr (by omega));have hkk:Strs _ _ _ [key]:=strs_of_raw (ks:=[key]) (rkey.below bk2) (fun k hk=>by rw [List.mem_singleton.1 hk];exact Nat.le_trans HKEY.out (by decide));have hll:=isL_of_raw rval (Els.one (x:=y) ((HH'.out.weak hS).below (bthen bb (bthen bk bk2))));refine (refWith_core ((HH.out.weak hS).below (bthen bb (bthen bk bk2))) HWX.out H5.out p 0 _ _ [key] [y] hkk hll (by have:=HM.out;have:=HPL.out;omega) (by simp) (by simp)).mono ?_;rintro e w3 ⟨k5,n5,t5,a5,m5,c5,a6,m6,c6,rfl,his,bw3⟩;replace pr:=pr.keep (bthen (bthen bk bk2) bw3);replace bb:=bthen bb (bthen (bthen bk bk2) bw3);clear rkey rval hkk hll;obtain ⟨⟨y0,y1,y2,y3,y4⟩,g0,g1,g2,g3,g4⟩:=id pr
      go_wp2_with fail
      obtain ⟨u0,u1,u2,u3,u4⟩:=Box5.all pr.1 (.int .i64 k5) (.int .i64 n5) (.string t5) (.slice a5 m5 c5) (.slice a6 m6 c6);refine bodyPost_ret (v:=.agg #[.int .i64 k5,.int .i64 n5,.string t5,.slice a5 m5 c5,.slice a6 m6 c6]) (by simp [results,Tryz.results25,go_sem,u0,u1,u2,u3,u4]) rfl ?_;refine ⟨k5,n5,t5,a5,m5,c5,a6,m6,c6,rfl,?_,?_⟩
      · have kp:=keeps_set5 (S:=fun b=>b≠w.heap.size+2) (w:=w3) (g:=w.heap.size+2) (o:=0) (.int .i64 k5) (.int .i64 n5) (.string t5) (.slice a5 m5 c5) (.slice a6 m6 c6) (by simp)
        have hi2:=his.weak (S':=fun b=>b≠w.heap.size+2∧(S b∨w.heap.size≤b)) (fun b hb2 hb=>by
          rcases hb with (hb | hb) | hb
          · exact ⟨by omega,.inl hb.1⟩
          · exact ⟨by omega,.inr (by omega)⟩
          · have:=bk.size;have:=bk2.size;exact ⟨by omega,.inr (by omega)⟩)
        exact (hi2.keep (fun b hb hl=>kp b hb.1 hl)).weak (fun b _ hb=>hb.2)
      · have le2:w.heap.size≤w.heap.size+2:=by omega
        exact ((((bb.setCell le2 _).setCell le2 _).setCell le2 _).setCell le2 _).setCell le2 _
end Go.Proofs.YtapcmbbhhclepaaGreatDoor
namespace Go.Proofs.YtapcmbbhhclepaaGreatDoor
open Go.RowKit Go.Sort
theorem refStr_any (s:ByteArray) (w:World) :
    Calls Tryz.prog 26 #[.string s] w fun e w'=>e=.returned (.agg #[.int .i64 3,.int .i64 0,.string s,.slice none 0 0,.slice none 0 0])∧Below w.heap.size w w':=by
  go_enter Tryz.func26,Tryz.ntmps26
  go_wp2_with fail
  obtain ⟨u0,u1,u2,u3,u4⟩:=box5_new w (.int .i64 3) (.int .i64 0) (.string s) (.slice none 0 0) (.slice none 0 0) 27;refine bodyPost_ret (v:=.agg #[.int .i64 3,.int .i64 0,.string s,.slice none 0 0,.slice none 0 0]) (by simp [results,Tryz.results26,go_sem,u0,u1,u2,u3,u4]) rfl ?_;exact ⟨rfl,below_alloc _ _⟩
theorem refNum_any (n:Int) (w:World) :
    Calls Tryz.prog 60 #[.int .i64 n] w fun e w'=>e=.returned (.agg #[.int .i64 2,.int .i64 n,.string ⟨#[]⟩,.slice none 0 0,.slice none 0 0])∧Below w.heap.size w w':=by
  go_enter Tryz.func60,Tryz.ntmps60
  go_wp2_with fail
  obtain ⟨u0,u1,u2,u3,u4⟩:=box5_new w (.int .i64 2) (.int .i64 n) (.string ⟨#[]⟩) (.slice none 0 0) (.slice none 0 0) 27;refine bodyPost_ret (v:=.agg #[.int .i64 2,.int .i64 n,.string ⟨#[]⟩,.slice none 0 0,.slice none 0 0]) (by simp [results,Tryz.results60,go_sem,u0,u1,u2,u3,u4]) rfl ?_;exact ⟨rfl,below_alloc _ _⟩
theorem V.get_eq' (x:V) (key:ByteArray):V.get x key=if V.place x key < 0 then none else x.list[(V.place x key).toNat]? := rfl
set_option maxHeartbeats 2000000 in
set_option maxRecDepth 100000 in
theorem refGet_all {v:Value} {x:V} {w:World} {S:Nat→Prop} (h:Is w S v x) (key:ByteArray) (hwt:V.wt x≤4294967296) :
    Calls Tryz.prog 19 #[v,.string key] w fun e w'=>∃ k n t a1 n1 c1 a2 n2 c2 is,e=.returned (.tuple #[.agg #[.int .i64 k,.int .i64 n,.string t,.slice a1 n1 c1,.slice a2 n2 c2],.bool is])∧is=(V.get x key).isSome∧Is w' (fun _=>True) (.agg #[.int .i64 k,.int .i64 n,.string t,.slice a1 n1 c1,.slice a2 n2 c2]) ((V.get x key).getD V.nul)∧Below w.heap.size w w':=by
  replace h:=h.weak (S':=fun b=>b < w.heap.size) (fun b hb _=>hb);obtain ⟨kv,lv,rfl,h2,h8,_⟩:=id h.open;obtain ⟨a1,c1,rfl,h3,h4,_,h5⟩:=id h2;obtain ⟨a,cap,c,rfl,h6,h7,_⟩:=id h8;obtain ⟨p,hp⟩:∃ p,V.place x key=p:=⟨_,rfl⟩;have hlen:x.list.length≤4294967296:=by have:=V.len_wt x;omega
  have HP:=hide hp;have H8:=hide h8;have HH:=hide h;clear hp h5 h4 h7 h8 h2 h;have b0:Below w.heap.size w ((w.alloc (.cells #[.int .i64 x.kind,.int .i64 x.num,.string x.text,.slice a1 x.keys.length c1,.slice a x.list.length cap] 27)).alloc (.cells #[.int .i64 0,.int .i64 0,.string ⟨#[]⟩,.slice none 0 0,.slice none 0 0] 27)):=bthen (below_alloc _ _) (below_alloc _ _);have HB0:=hide b0;clear b0;obtain ⟨x0,x1,x2,x3,x4⟩:Box5 ((w.alloc (.cells #[.int .i64 x.kind,.int .i64 x.num,.string x.text,.slice a1 x.keys.length c1,.slice a x.list.length cap] 27)).alloc (.cells #[.int .i64 0,.int .i64 0,.string ⟨#[]⟩,.slice none 0 0,.slice none 0 0] 27)) w.heap.size _ _ _ _ _:=(box5_new w _ _ _ _ _ 27).keep (below_alloc _ _);go_enter Tryz.func19,Tryz.ntmps19
  go_wp2_with fail
  clear x0 x1 x2 x3 x4;refine (refPlace_any (HH.out.below HB0.out) hwt key p HP.out).mono ?_;rintro e w1 ⟨rfl,b1⟩;have q:BoxF w1 (w.heap.size+1) _ _ _ _ _:=(boxF_at _ _ _ _ _ _ 27 _ (by simp)).keep b1;have hbx:Box5 w1 w.heap.size _ _ _ _ _:=((box5_new w _ _ _ _ _ 27).keep (below_alloc _ _)).keep b1;have HQ:=hide q;have bb:=bthen HB0.out b1;have HBB:=hide bb;clear b1;obtain ⟨⟨y0,y1,y2,y3,y4⟩,g0,g1,g2,g3,g4⟩:=id q;clear q
  by_cases hneg:p < 0
  · clear bb
    go_wp2_with fail
    obtain ⟨u0,u1,u2,u3,u4⟩:=Box5.all HQ.out.1 (.int .i64 0) (.int .i64 0) (.string ⟨#[]⟩) (.slice none 0 0) (.slice none 0 0);refine bodyPost_ret (v:=.tuple #[.agg #[.int .i64 0,.int .i64 0,.string ⟨#[]⟩,.slice none 0 0,.slice none 0 0],.bool false]) (by simp [results,Tryz.results19,go_sem,u0,u1,u2,u3,u4]) rfl ?_;have e1:V.get x key=none:=by rw [V.get_eq',HP.out,if_pos hneg]
    rw [e1];exact ⟨_,_,_,_,_,_,_,_,_,_,rfl,rfl,is_plain _ _ 0 0 ⟨#[]⟩ (by decide),((((HBB.out.setCell (Nat.le_succ _) _).setCell (Nat.le_succ _) _).setCell (Nat.le_succ _) _).setCell (Nat.le_succ _) _).setCell (Nat.le_succ _) _⟩
  · have hpl:=(V.place_lt x key (by rw [HP.out];omega)).2
    rw [HP.out] at hpl;obtain ⟨m,hm⟩:∃ m:Nat,p.toNat=m:=⟨_,rfl⟩;have hpm:p=(m:Int):=by omega
    have hml:m < x.list.length:=by omega
    subst hpm;clear hm hpl;obtain ⟨b,off,k',n',t',a1',n1',c1',a2',n2',c2',rfl,hel,e0,e1,e2,e3,e4⟩:=isL_open H8.out bb hml;have HEL:=hide hel;have hget:V.get x key=some x.list[m]:=by rw [V.get_eq',HP.out,if_neg (by omega),Int.toNat_natCast,List.getElem?_eq_getElem hml]
    have HG:=hide hget;clear hel hget bb;obtain ⟨x0,x1,x2,x3,x4⟩:=hbx
    go_wp2_with fail
    obtain ⟨u0,u1,u2,u3,u4⟩:=Box5.all HQ.out.1 (.int .i64 k') (.int .i64 n') (.string t') (.slice a1' n1' c1') (.slice a2' n2' c2');refine bodyPost_ret (v:=.tuple #[.agg #[.int .i64 k',.int .i64 n',.string t',.slice a1' n1' c1',.slice a2' n2' c2'],.bool true]) (by simp [results,Tryz.results19,go_sem,u0,u1,u2,u3,u4]) rfl ?_;rw [HG.out];refine ⟨_,_,_,_,_,_,_,_,_,_,rfl,rfl,?_,((((HBB.out.setCell (Nat.le_succ _) _).setCell (Nat.le_succ _) _).setCell (Nat.le_succ _) _).setCell (Nat.le_succ _) _).setCell (Nat.le_succ _) _⟩;have kp:=keeps_set5 (S:=fun b=>b < w.heap.size) (w:=w1) (g:=w.heap.size+1) (o:=0) (.int .i64 k') (.int .i64 n') (.string t') (.slice a1' n1' c1') (.slice a2' n2' c2') (by omega);exact (HEL.out.keep kp).weak (fun _ _ _=>trivial)
set_option maxHeartbeats 2000000 in
set_option maxRecDepth 100000 in
theorem refWithout_any {v:Value} {x:V} {w:World} {S:Nat→Prop} (h:Is w S v x) (key:ByteArray) (hwt:V.wt x≤1000000000) :
    Calls Tryz.prog 66 #[v,.string key] w fun e w'=>∃ k n t a1 n1 c1 a2 n2 c2,e=.returned (.agg #[.int .i64 k,.int .i64 n,.string t,.slice a1 n1 c1,.slice a2 n2 c2])∧Is w' (fun _=>True) (.agg #[.int .i64 k,.int .i64 n,.string t,.slice a1 n1 c1,.slice a2 n2 c2]) (V.without x key)∧Below w.heap.size w w':=by
  replace h:=h.weak (S':=fun b=>b < w.heap.size) (fun b hb _=>hb);obtain ⟨kv,lv,rfl,h2,h8,_⟩:=id h.open;obtain ⟨a1,c1,rfl,h3,h4,_,h5⟩:=id h2;obtain ⟨a,cap,c,rfl,h6,h7,_⟩:=id h8;obtain ⟨p,hp⟩:∃ p,V.place x key=p:=⟨_,rfl⟩;have HP:=hide hp;have HH:=hide h;clear hp h5 h4 h7 h8 h2 h;have b0:Below w.heap.size w ((w.alloc (.cells #[.int .i64 x.kind,.int .i64 x.num,.string x.text,.slice a1 x.keys.length c1,.slice a x.list.length cap] 27)).alloc (.cells #[.int .i64 0,.int .i64 0,.string ⟨#[]⟩,.slice none 0 0,.slice none 0 0] 27)):=bthen (below_alloc _ _) (below_alloc _ _);have HB0:=hide b0;clear b0;obtain ⟨x0,x1,x2,x3,x4⟩:Box5 ((w.alloc (.cells #[.int .i64 x.kind,.int .i64 x.num,.string x.text,.slice a1 x.keys.length c1,.slice a x.list.length cap] 27)).alloc (.cells #[.int .i64 0,.int .i64 0,.string ⟨#[]⟩,.slice none 0 0,.slice none 0 0] 27)) w.heap.size _ _ _ _ _:=(box5_new w _ _ _ _ _ 27).keep (below_alloc _ _);go_enter Tryz.func66,Tryz.ntmps66
  go_wp2_with fail
  clear x0 x1 x2 x3 x4;refine (refPlace_any (HH.out.below HB0.out) (Nat.le_trans hwt (by decide)) key p HP.out).mono ?_;rintro e w1 ⟨rfl,b1⟩;have q:BoxF w1 (w.heap.size+1) _ _ _ _ _:=(boxF_at _ _ _ _ _ _ 27 _ (by simp)).keep b1;have hbx:Box5 w1 w.heap.size _ _ _ _ _:=((box5_new w _ _ _ _ _ 27).keep (below_alloc _ _)).keep b1;have HQ:=hide q;have bb:=bthen HB0.out b1;have HBB:=hide bb;have hsz:w.heap.size+2≤w1.heap.size:=by have:=b1.size;simpa using this
  clear b1 bb;obtain ⟨x0,x1,x2,x3,x4⟩:=hbx
  by_cases hneg:p < 0
  · obtain ⟨⟨y0,y1,y2,y3,y4⟩,g0,g1,g2,g3,g4⟩:=id q
    clear q
    go_wp2_with fail
    obtain ⟨u0,u1,u2,u3,u4⟩:=Box5.all HQ.out.1 (.int .i64 x.kind) (.int .i64 x.num) (.string x.text) (.slice a1 x.keys.length c1) (.slice a x.list.length cap);refine bodyPost_ret (v:=.agg #[.int .i64 x.kind,.int .i64 x.num,.string x.text,.slice a1 x.keys.length c1,.slice a x.list.length cap]) (by simp [results,Tryz.results66,go_sem,u0,u1,u2,u3,u4]) rfl ?_;have e1:V.without x key=x:=by unfold V.without;rw [HP.out,if_neg (by omega)]
    rw [e1];refine ⟨_,_,_,_,_,_,_,_,_,rfl,?_,((((HBB.out.setCell (Nat.le_succ _) _).setCell (Nat.le_succ _) _).setCell (Nat.le_succ _) _).setCell (Nat.le_succ _) _).setCell (Nat.le_succ _) _⟩;have kp:=keeps_set5 (S:=fun b=>b < w.heap.size) (w:=w1) (g:=w.heap.size+1) (o:=0) (.int .i64 x.kind) (.int .i64 x.num) (.string x.text) (.slice a1 x.keys.length c1) (.slice a x.list.length cap) (by omega);exact ((HH.out.below HBB.out).keep kp).weak (fun _ _ _=>trivial)
  · have hpl:=V.place_lt x key (by rw [HP.out];omega)
    rw [HP.out] at hpl;obtain ⟨m,hm⟩:∃ m:Nat,p.toNat=m:=⟨_,rfl⟩;have hpm:p=(m:Int):=by omega
    subst hpm;have hml:m+1≤min x.keys.length x.list.length:=by have:=hpl.2;omega
    have H5:=hide hpl.1;have HML:=hide hml;clear hm hpl hml q
    go_wp2_with fail
    clear x0 x1 x2 x3 x4;refine (refWith_core (HH.out.below HBB.out) hwt H5.out m 1 _ _ [] [] (strs_nil _ _) (isL_nil _ _) HML.out (by simp) (by simp)).mono ?_;rintro e w2 ⟨k5,n5,t5,a5,m5,c5,a6,m6,c6,rfl,his,b2⟩;have q2:=HQ.out.keep b2;have HQ2:=hide q2;have HIS:=hide his;have HB2:=hide (bthen HBB.out b2);clear his b2;obtain ⟨⟨y0,y1,y2,y3,y4⟩,g0,g1,g2,g3,g4⟩:=id q2;clear q2
    go_wp2_with fail
    obtain ⟨u0,u1,u2,u3,u4⟩:=Box5.all HQ2.out.1 (.int .i64 k5) (.int .i64 n5) (.string t5) (.slice a5 m5 c5) (.slice a6 m6 c6);refine bodyPost_ret (v:=.agg #[.int .i64 k5,.int .i64 n5,.string t5,.slice a5 m5 c5,.slice a6 m6 c6]) (by simp [results,Tryz.results66,go_sem,u0,u1,u2,u3,u4]) rfl ?_;have e1:V.without x key=V.laid x m (m+1) [] []:=by unfold V.without;rw [HP.out,if_pos (by omega),Int.toNat_natCast]
    rw [e1];refine ⟨_,_,_,_,_,_,_,_,_,rfl,?_,((((HB2.out.setCell (Nat.le_succ _) _).setCell (Nat.le_succ _) _).setCell (Nat.le_succ _) _).setCell (Nat.le_succ _) _).setCell (Nat.le_succ _) _⟩;have kp:=keeps_set5 (S:=fun b=>b < w.heap.size∨w1.heap.size≤b) (w:=w2) (g:=w.heap.size+1) (o:=0) (.int .i64 k5) (.int .i64 n5) (.string t5) (.slice a5 m5 c5) (.slice a6 m6 c6) (by omega);exact (HIS.out.keep kp).weak (fun _ _ _=>trivial)
end Go.Proofs.YtapcmbbhhclepaaGreatDoor
namespace Go.Proofs.YtapcmbbhhclepaaGreatDoor
open Go.RowKit
theorem skip_cons (b:UInt8) (t:List UInt8):Cn.skip (b :: t)=if Cn.blank b then Cn.skip t else b :: t:=by
  unfold Cn.skip;rw [List.dropWhile_cons]
abbrev Z4 (w:World) (g:Nat):Prop:=B4 w g (.string ⟨#[]⟩) (.int .i64 0) (.int .i64 0) (.int .i64 0)
theorem B4.all {w:World} {g:Nat} {c0 c1 c2 c3:Value} (h:B4 w g c0 c1 c2 c3) (v0 v1 v2 v3:Value) :
    B4 ((((w.setCell ⟨g,0,none⟩ v0).setCell ⟨g,1,none⟩ v1).setCell ⟨g,2,none⟩ v2).setCell ⟨g,3,none⟩ v3) g v0 v1 v2 v3:=(((h.set0 v0).set1 v1).set2 v2).set3 v3
theorem below4 {w:World} {B g:Nat} (hB:B≤g) (v0 v1 v2 v3:Value):Below B w ((((w.setCell ⟨g,0,none⟩ v0).setCell ⟨g,1,none⟩ v1).setCell ⟨g,2,none⟩ v2).setCell ⟨g,3,none⟩ v3) :=
  ((((Below.refl B w).setCell (p:=⟨g,0,none⟩) hB v0).setCell (p:=⟨g,1,none⟩) hB v1).setCell (p:=⟨g,2,none⟩) hB v2).setCell (p:=⟨g,3,none⟩) hB v3
set_option maxHeartbeats 1000000 in
theorem blanks_any (s:ByteArray) (a:Nat) (d:Nat) (u:List UInt8) (w:World) (h:At s a u) (hs:s.size≤4294967296) :
    Calls Tryz.prog 61 #[St s a 0 d] w fun e' w'=>∃ a',e'=.returned (St s a' 0 d)∧At s a' (Cn.skip u)∧Below w.heap.size w w':=by
  have b0:=bthen (below_alloc w (.cells #[.string s,.int .i64 (a:Nat),.int .i64 0,.int .i64 (d:Nat)] 65)) (below_alloc (w.alloc (.cells #[.string s,.int .i64 (a:Nat),.int .i64 0,.int .i64 (d:Nat)] 65)) (.cells #[.string ⟨#[]⟩,.int .i64 0,.int .i64 0,.int .i64 0] 65));have y0:=b4_new (w.alloc (.cells #[.string s,.int .i64 (a:Nat),.int .i64 0,.int .i64 (d:Nat)] 65)) (.string ⟨#[]⟩) (.int .i64 0) (.int .i64 0) (.int .i64 0) (w.heap.size+1) (by simp);have x0:=(b4_new w (.string s) (.int .i64 (a:Nat)) (.int .i64 0) (.int .i64 (d:Nat)) w.heap.size rfl).keep (below_alloc _ (.cells #[.string ⟨#[]⟩,.int .i64 0,.int .i64 0,.int .i64 0] 65));have X0:=hide x0;have Y0:=hide y0;have H0:=hide b0;clear x0 y0 b0;go_enter Tryz.func61,Tryz.ntmps61
  go_wp2_with fail
  go_loopg [20] u.length (fun g x wr=>∃ a1 u1,u1.length=g∧Hid (At s a1 u1)∧Hid (Cn.skip u1=Cn.skip u)∧Hid (B4 wr w.heap.size (.string s) (.int .i64 (a1:Nat)) (.int .i64 0) (.int .i64 (d:Nat)))∧Hid (Z4 wr (w.heap.size+1))∧Hid (Below w.heap.size w wr))
  case atStart=>exact ⟨a,u,rfl,h,rfl,X0.out,Y0.out,H0.out⟩
  case round =>
    obtain ⟨a1,u1,hg,HA,HK,HB,HZ,HW⟩:=hrel;obtain ⟨x0,x1,x2,x3⟩:=HB.out.cells;obtain ⟨q1,hq1⟩:∃ q,(u1.head? == some 32)=q:=⟨_,rfl⟩;have HQ1:=hide hq1;obtain ⟨q2,hq2⟩:∃ q,(u1.head? == some 9)=q:=⟨_,rfl⟩;have HQ2:=hide hq2;obtain ⟨q3,hq3⟩:∃ q,(u1.head? == some 10)=q:=⟨_,rfl⟩;have HQ3:=hide hq3;obtain ⟨q4,hq4⟩:∃ q,(u1.head? == some 13)=q:=⟨_,rfl⟩;have HQ4:=hide hq4;clear hq1 hq2 hq3 hq4 X0 Y0 H0
    go_wp2_with fail
    refine (is_any s a1 d 32 u1 _ HA.out hs q1 HQ1.out).mono ?_;rintro e w1 ⟨rfl,b1⟩;have HB1:=hide (HB.out.keep b1);have HZ1:=hide (HZ.out.keep b1);have HW1:=hide (bthen HW.out b1);clear b1 x0 x1 x2 x3;cases q1 with
    | true =>
      obtain ⟨t,rfl⟩:∃ t,u1=32 :: t:=by
        have h1:=HQ1.out;cases u1 with
        | nil=>cases h1
        | cons b t=>exact ⟨t,by rw [show b=32 by simpa using h1]⟩
      have A2:=hide HA.out.next;have hl:=HA.out.len;rw [List.length_cons] at hl hg;have K2:Hid (Cn.skip t=Cn.skip u):=hide (by rw [← HK.out,skip_cons];rfl);obtain ⟨x0,x1,x2,x3⟩:=HB1.out.cells;have f1:=HB1.out.free 1
      go_wp2_with fail
      go_roundg (gk - 1)
      case measure=>omega
      case rel=>exact ⟨a1+1,t,by omega,A2.out,K2.out,HB1.out.set1 _,HZ1.out.other _ (by omega),HW1.out.setCell (p:=⟨w.heap.size,1,none⟩) (Nat.le_refl _) _⟩
    | false =>
      obtain ⟨x0,x1,x2,x3⟩:=HB1.out.cells
      go_wp2_with fail
      refine (is_any s a1 d 9 u1 _ HA.out hs q2 HQ2.out).mono ?_;rintro e w2 ⟨rfl,b2⟩;have HB2:=hide (HB1.out.keep b2);have HZ2:=hide (HZ1.out.keep b2);have HW2:=hide (bthen HW1.out b2);clear b2 x0 x1 x2 x3;cases q2 with
      | true =>
        obtain ⟨t,rfl⟩:∃ t,u1=9 :: t:=by
          have h1:=HQ2.out;cases u1 with
          | nil=>cases h1
          | cons b t=>exact ⟨t,by rw [show b=9 by simpa using h1]⟩
        have A2:=hide HA.out.next;have hl:=HA.out.len;rw [List.length_cons] at hl hg;have K2:Hid (Cn.skip t=Cn.skip u):=hide (by rw [← HK.out,skip_cons];rfl);obtain ⟨x0,x1,x2,x3⟩:=HB2.out.cells;have f1:=HB2.out.free 1
        go_wp2_with fail
        go_roundg (gk - 1)
        case measure=>omega
        case rel=>exact ⟨a1+1,t,by omega,A2.out,K2.out,HB2.out.set1 _,HZ2.out.other _ (by omega),HW2.out.setCell (p:=⟨w.heap.size,1,none⟩) (Nat.le_refl _) _⟩
      | false =>
        obtain ⟨x0,x1,x2,x3⟩:=HB2.out.cells
        go_wp2_with fail
        refine (is_any s a1 d 10 u1 _ HA.out hs q3 HQ3.out).mono ?_;rintro e w3 ⟨rfl,b3⟩;have HB3:=hide (HB2.out.keep b3);have HZ3:=hide (HZ2.out.keep b3);have HW3:=hide (bthen HW2.out b3);clear b3 x0 x1 x2 x3;cases q3 with
        | true =>
          obtain ⟨t,rfl⟩:∃ t,u1=10 :: t:=by
            have h1:=HQ3.out;cases u1 with
            | nil=>cases h1
            | cons b t=>exact ⟨t,by rw [show b=10 by simpa using h1]⟩
          have A2:=hide HA.out.next;have hl:=HA.out.len;rw [List.length_cons] at hl hg;have K2:Hid (Cn.skip t=Cn.skip u):=hide (by rw [← HK.out,skip_cons];rfl);obtain ⟨x0,x1,x2,x3⟩:=HB3.out.cells;have f1:=HB3.out.free 1
          go_wp2_with fail
          go_roundg (gk - 1)
          case measure=>omega
          case rel=>exact ⟨a1+1,t,by omega,A2.out,K2.out,HB3.out.set1 _,HZ3.out.other _ (by omega),HW3.out.setCell (p:=⟨w.heap.size,1,none⟩) (Nat.le_refl _) _⟩
        | false =>
          obtain ⟨x0,x1,x2,x3⟩:=HB3.out.cells
          go_wp2_with fail
          refine (is_any s a1 d 13 u1 _ HA.out hs q4 HQ4.out).mono ?_;rintro e w4 ⟨rfl,b4⟩;have HB4:=hide (HB3.out.keep b4);have HZ4:=hide (HZ3.out.keep b4);have HW4:=hide (bthen HW3.out b4);clear b4 x0 x1 x2 x3;cases q4 with
          | true =>
            obtain ⟨t,rfl⟩:∃ t,u1=13 :: t:=by
              have h1:=HQ4.out;cases u1 with
              | nil=>cases h1
              | cons b t=>exact ⟨t,by rw [show b=13 by simpa using h1]⟩
            have A2:=hide HA.out.next;have hl:=HA.out.len;rw [List.length_cons] at hl hg;have K2:Hid (Cn.skip t=Cn.skip u):=hide (by rw [← HK.out,skip_cons];rfl);obtain ⟨x0,x1,x2,x3⟩:=HB4.out.cells;have f1:=HB4.out.free 1
            go_wp2_with fail
            go_roundg (gk - 1)
            case measure=>omega
            case rel=>exact ⟨a1+1,t,by omega,A2.out,K2.out,HB4.out.set1 _,HZ4.out.other _ (by omega),HW4.out.setCell (p:=⟨w.heap.size,1,none⟩) (Nat.le_refl _) _⟩
          | false =>
            obtain ⟨x0,x1,x2,x3⟩:=HB4.out.cells
            have HE:Hid (Cn.skip u1=u1):=hide (by
              have e1:=HQ1.out;have e2:=HQ2.out;have e3:=HQ3.out;have e4:=HQ4.out;cases u1 with
              | nil=>rfl
              | cons b t =>
                refine Cn.skip_none ?_;simp only [List.head?_cons,beq_eq_false_iff_ne,ne_eq,Option.some.injEq] at e1 e2 e3 e4
                simp [Cn.blank,e1,e2,e3,e4])
            obtain ⟨z0,z1,z2,z3⟩:=HZ4.out.cells;have hz:=HZ4.out.free;have hz0:=hz 0;have hz1:=hz 1;have hz2:=hz 2;have hz3:=hz 3;clear hz
            go_wp2_with fail
            obtain ⟨y0,y1,y2,y3⟩:=(HZ4.out.all (.string s) (.int .i64 (a1:Nat)) (.int .i64 0) (.int .i64 (d:Nat))).cells;exact bodyPost_ret (v:=St s a1 0 d) (by simp [results,Tryz.results61,go_sem,y0,y1,y2,y3]) rfl ⟨a1,rfl,by rw [← HK.out,HE.out];exact HA.out,HW4.out.trans (below4 (by omega) _ _ _ _)⟩
set_option maxHeartbeats 1000000 in
theorem need_hit (s:ByteArray) (a:Nat) (d:Nat) (c:UInt8) (t:List UInt8) (w:World) (h:At s a (c :: t)) (hs:s.size≤4294967296) :
    Calls Tryz.prog 125 #[St s a 0 d,.int .u8 (c.toNat:Int)] w fun e' w'=>∃ a',e'=.returned (St s a' 0 d)∧At s a' t∧Below w.heap.size w w':=by
  have b0:=bthen (below_alloc w (.cells #[.string s,.int .i64 (a:Nat),.int .i64 0,.int .i64 (d:Nat)] 65)) (below_alloc (w.alloc (.cells #[.string s,.int .i64 (a:Nat),.int .i64 0,.int .i64 (d:Nat)] 65)) (.cells #[.string ⟨#[]⟩,.int .i64 0,.int .i64 0,.int .i64 0] 65));have y0:=b4_new (w.alloc (.cells #[.string s,.int .i64 (a:Nat),.int .i64 0,.int .i64 (d:Nat)] 65)) (.string ⟨#[]⟩) (.int .i64 0) (.int .i64 0) (.int .i64 0) (w.heap.size+1) (by simp);have x0:=(b4_new w (.string s) (.int .i64 (a:Nat)) (.int .i64 0) (.int .i64 (d:Nat)) w.heap.size rfl).keep (below_alloc _ (.cells #[.string ⟨#[]⟩,.int .i64 0,.int .i64 0,.int .i64 0] 65));have X0:=hide x0;have Y0:=hide y0;have H0:=hide b0;clear x0 y0 b0;have hl:=h.len;rw [List.length_cons] at hl;go_enter Tryz.func125,Tryz.ntmps125
  go_wp2_with fail
  refine (is_any s a d c (c :: t) _ h hs true (by simp)).mono ?_;rintro e w1 ⟨rfl,b1⟩;have HB1:=hide (X0.out.keep b1);have HZ1:=hide (Y0.out.keep b1);have HW1:=hide (bthen H0.out b1);clear b1 X0 Y0 H0;obtain ⟨x0,x1,x2,x3⟩:=HB1.out.cells;have f1:=HB1.out.free 1
  go_upto_region 6 with fail
  have HB2:=hide (HB1.out.set1 (.int .i64 ((a:Int)+1)));have HZ2:Hid (Z4 (w1.setCell ⟨w.heap.size,1,none⟩ (.int .i64 ((a:Int)+1))) (w.heap.size+1)):=hide (HZ1.out.other _ (by omega));have HW2:Hid (Below w.heap.size w (w1.setCell ⟨w.heap.size,1,none⟩ (.int .i64 ((a:Int)+1)))):=hide (HW1.out.setCell (p:=⟨w.heap.size,1,none⟩) (Nat.le_refl _) _);clear x0 x1 x2 x3 f1 HB1 HZ1 HW1;generalize w1.setCell ⟨w.heap.size,1,none⟩ (.int .i64 ((a:Int)+1))=w2 at HB2 HZ2 HW2 ⊢;obtain ⟨x0,x1,x2,x3⟩:=HB2.out.cells;obtain ⟨z0,z1,z2,z3⟩:=HZ2.out.cells;have hz:=HZ2.out.free;have hz0:=hz 0;have hz1:=hz 1;have hz2:=hz 2;have hz3:=hz 3;clear hz
  go_wp2_with fail
  obtain ⟨y0,y1,y2,y3⟩:=(HZ2.out.all (.string s) (.int .i64 ((a:Int)+1)) (.int .i64 0) (.int .i64 (d:Nat))).cells;exact bodyPost_ret (v:=.agg #[.string s,.int .i64 ((a:Int)+1),.int .i64 0,.int .i64 (d:Nat)]) (by simp [results,Tryz.results125,go_sem,y0,y1,y2,y3]) rfl ⟨a+1,rfl,h.next,HW2.out.trans (below4 (by omega) _ _ _ _)⟩
end Go.Proofs.YtapcmbbhhclepaaGreatDoor
namespace Go.Proofs.YtapcmbbhhclepaaGreatDoor
open Go.RowKit
theorem take_at {u:List UInt8} {p:UInt8→Bool} {j:Nat} (h:j < (u.takeWhile p).length):∃ b t,u.drop j=b :: t∧p b=true:=by
  have h1:(u.takeWhile p).length≤u.length:=(List.takeWhile_prefix p).length_le;have h2:j < u.length:=by omega
  refine ⟨u[j],u.drop (j+1),List.drop_eq_getElem_cons h2,?_⟩;have h3:(u.takeWhile p)[j]=u[j]:=(List.takeWhile_prefix p).getElem h;rw [← h3];have:=List.all_takeWhile (p:=p) (l:=u)
  rw [List.all_eq_true] at this;exact this _ (List.getElem_mem h)
theorem drop_while {u:List UInt8} {p:UInt8→Bool}:u.drop (u.takeWhile p).length=u.dropWhile p:=by
  conv=>lhs;rw [← List.takeWhile_append_dropWhile (p:=p) (l:=u)]
  rw [List.drop_append,List.drop_eq_nil_of_le (by simp),List.nil_append];simp
theorem not_digit {b:UInt8} (h:Cn.digit b=false):b.toNat < 48∨57 < b.toNat:=by
  unfold Cn.digit at h;simp at h;omega
theorem is_digit {b:UInt8} (h:Cn.digit b=true):48≤b.toNat∧b.toNat≤57:=by
  unfold Cn.digit at h
  simpa using h
set_option maxHeartbeats 1000000 in
theorem digits_any (s:ByteArray) (a p:Nat) (e:Int) (d:Nat) (u:List UInt8) (w:World) (h:At s p u) (hs:s.size≤4294967296) (m:Nat) (hm:(u.takeWhile Cn.digit).length=m) :
    Calls Tryz.prog 97 #[St s a e d,.int .i64 (p:Int)] w fun e' w'=>e'=.returned (.int .i64 (m:Int))∧Below w.heap.size w w':=by
  have hml:m≤u.length:=by rw [← hm];exact (List.takeWhile_prefix _).length_le
  have hl:=h.len;go_enter Tryz.func97,Tryz.ntmps97
  go_wp2_with fail
  go_loopg [5] m (fun g i wr=>∃ j:Nat,j+g=m∧i=.int .i64 j∧wr=w.alloc (.cells #[.string s,.int .i64 (a:Nat),.int .i64 e,.int .i64 (d:Nat)] 65))
  case atStart=>exact ⟨0,by omega,rfl,rfl⟩
  case round =>
    obtain ⟨j,hj,rfl,rfl⟩:=hrel;have hA:=h.of_drop j (by omega)
    by_cases hlt:j < m
    · obtain ⟨b,t,hdr,hdig⟩:=take_at (u:=u) (p:=Cn.digit) (j:=j) (by rw [hm];exact hlt)
      rw [hdr] at hA;obtain ⟨hlz,hb⟩:=hA.byte;obtain ⟨d1,d2⟩:=is_digit hdig;rw [← hb] at d1 d2;clear hdr hdig hA hb
      go_wp2_with fail
      go_roundg (gk - 1)
      case measure=>omega
      case rel=>exact ⟨j+1,by omega,rfl,rfl⟩
    · have hje:j=m:=by omega
      subst hje;cases hdr:u.drop j with
      | nil =>
        have hlen:=congrArg List.length hdr;rw [List.length_drop,List.length_nil] at hlen;have hn:¬ p+j < s.size:=by omega
        go_wp2_with fail
        go_ret
        exact ⟨rfl,below_alloc _ _⟩
      | cons b t =>
        rw [hdr] at hA;obtain ⟨hlz,hb⟩:=hA.byte
        have hnd:Cn.digit b=false:=by
          have h1:=drop_while (u:=u) (p:=Cn.digit);rw [hm,hdr] at h1;have h2:=List.head?_dropWhile_not Cn.digit u;rw [← h1] at h2
          simpa using h2
        rcases not_digit hnd with d1 | d1
        · rw [← hb] at d1
          clear hdr hA hb hnd
          go_wp2_with fail
          go_ret
          exact ⟨rfl,below_alloc _ _⟩
        · rw [← hb] at d1
          have d2:48≤(s[p+j]'hlz).toNat:=by omega
          clear hdr hA hb hnd
          go_wp2_with fail
          go_ret
          exact ⟨rfl,below_alloc _ _⟩
theorem At.extract {s:ByteArray} {a:Nat} {u:List UInt8} (h:At s a u):(s.extract a s.size).data.toList=u:=by
  rw [← h.2];have h2:s.data.toList.length=s.size:=by simp
  simp [ByteArray.extract,ByteArray.copySlice,List.take_of_length_le,h2]
theorem refUnq_yes (S:ByteArray) (u t:List UInt8) (n:Nat) (w:World) (hx:S.data.toList=u) (hs:S.size≤17592186044416) (hp:Gm.unquote u=some (t,n)) (hnb:∀ p,Gm.nth u p≠92) :
    Calls Tryz.prog 126 #[.string S] w fun e w'=>e=.returned (.tuple #[.string ⟨t.toArray⟩,.int .i64 n])∧Below w.heap.size w w':=by
  refine (refUnquote_any S w hs (by rw [hx];exact hnb)).mono ?_;rintro e w1 ⟨rfl,b1⟩;rw [hx,hp];exact ⟨rfl,b1⟩
theorem extract_size (s:ByteArray) (a:Nat):(s.extract a s.size).size≤s.size:=by
  rw [ByteArray.size_extract];omega
set_option maxHeartbeats 1000000 in
theorem str_yes (s:ByteArray) (a:Nat) (d:Nat) (u t:List UInt8) (n:Nat) (w:World) (h:At s a u) (hs:s.size≤4294967296) (hp:Gm.unquote u=some (t,n)) :
    Calls Tryz.prog 96 #[St s a 0 d] w fun e' w'=>e'=.returned (.tuple #[St s (a+n) 0 d,.string ⟨t.toArray⟩])∧At s (a+n) (u.drop n)∧Below w.heap.size w w':=by
  have b0:=bthen (below_alloc w (.cells #[.string s,.int .i64 (a:Nat),.int .i64 0,.int .i64 (d:Nat)] 65)) (below_alloc (w.alloc (.cells #[.string s,.int .i64 (a:Nat),.int .i64 0,.int .i64 (d:Nat)] 65)) (.cells #[.string ⟨#[]⟩,.int .i64 0,.int .i64 0,.int .i64 0] 65));have y0:=b4_new (w.alloc (.cells #[.string s,.int .i64 (a:Nat),.int .i64 0,.int .i64 (d:Nat)] 65)) (.string ⟨#[]⟩) (.int .i64 0) (.int .i64 0) (.int .i64 0) (w.heap.size+1) (by simp);have x0:=(b4_new w (.string s) (.int .i64 (a:Nat)) (.int .i64 0) (.int .i64 (d:Nat)) w.heap.size rfl).keep (below_alloc _ (.cells #[.string ⟨#[]⟩,.int .i64 0,.int .i64 0,.int .i64 0] 65));have X0:=hide x0;have Y0:=hide y0;have H0:=hide b0;clear x0 y0 b0;have hx:=h.extract;have h1:=h.1.1;have hl:=h.len;obtain ⟨g1,g2,_⟩:=Gm.told u t n hp;have hA:=h.of_drop n g2;go_enter Tryz.func96,Tryz.ntmps96
  go_wp2_with fail
  refine (refUnq_yes _ u t n _ hx (Nat.le_trans (extract_size s a) (by omega)) hp h.1.2).mono ?_;rintro e w1 ⟨rfl,b1⟩;have HB1:=hide (X0.out.keep b1);have HZ1:=hide (Y0.out.keep b1);have HW1:=hide (bthen H0.out b1);clear b1 X0 Y0 H0 hx;obtain ⟨x0,x1,x2,x3⟩:=HB1.out.cells;have f1:=HB1.out.free 1;have hn0:((n:Int) == 0)=false:=by rw [beq_eq_false_iff_ne];omega
  go_upto_region 7 with fail
  have HB2:=hide (HB1.out.set1 (.int .i64 ((a:Int)+(n:Int))));have HZ2:Hid (Z4 (w1.setCell ⟨w.heap.size,1,none⟩ (.int .i64 ((a:Int)+(n:Int)))) (w.heap.size+1)):=hide (HZ1.out.other _ (by omega));have HW2:Hid (Below w.heap.size w (w1.setCell ⟨w.heap.size,1,none⟩ (.int .i64 ((a:Int)+(n:Int))))):=hide (HW1.out.setCell (p:=⟨w.heap.size,1,none⟩) (Nat.le_refl _) _);clear x0 x1 x2 x3 f1 HB1 HZ1 HW1;generalize w1.setCell ⟨w.heap.size,1,none⟩ (.int .i64 ((a:Int)+(n:Int)))=w2 at HB2 HZ2 HW2 ⊢;obtain ⟨x0,x1,x2,x3⟩:=HB2.out.cells;obtain ⟨z0,z1,z2,z3⟩:=HZ2.out.cells;have hz:=HZ2.out.free;have hz0:=hz 0;have hz1:=hz 1;have hz2:=hz 2;have hz3:=hz 3;clear hz
  go_wp2_with fail
  obtain ⟨y0,y1,y2,y3⟩:=(HZ2.out.all (.string s) (.int .i64 ((a:Int)+(n:Int))) (.int .i64 0) (.int .i64 (d:Nat))).cells;exact bodyPost_ret (v:=.tuple #[.agg #[.string s,.int .i64 ((a:Int)+(n:Int)),.int .i64 0,.int .i64 (d:Nat)],.string ⟨t.toArray⟩]) (by simp [results,Tryz.results96,go_sem,y0,y1,y2,y3]) rfl ⟨rfl,hA,HW2.out.trans (below4 (by omega) _ _ _ _)⟩
end Go.Proofs.YtapcmbbhhclepaaGreatDoor
namespace Go.Proofs.YtapcmbbhhclepaaGreatDoor
open Go.RowKit
theorem wpAny_seqF {P:Program} {ops:Array Oper} {md:Region.Mode} {Q':Exit→Act→World→Prop}:∀ (l:List Oper) (k f:Nat) (listed:Array Bool) (a:Act) (w:World),(∀ j,l[j]? = ops[k+j]?) →
    Region.seqB md ops l.length k listed=true→wpList P ops Q' l a w→wpAny P md ops Q' (f+l.length) listed a w
  | [],_,f,_,_,_,_,hB,h=>wpAny_done (by simpa [Region.seqB] using hB) h f
  | o :: l,k,f,listed,a,w,hl,hB,h=>by
    have h0:ops[k]? = some o:=by simpa using (hl 0).symm
    simp only [List.length_cons,Region.seqB,Bool.and_eq_true,decide_eq_true_eq] at hB;show wpAny P md ops Q' ((f+l.length)+1) listed a w
    refine ⟨fun h1=>(by rw [hB.1] at h1;cases h1),fun i hi=>?_⟩;rw [hB.1] at hi;have hik:i=k:=by simpa using hi
    subst hik;have hw:wpOp P ops Q' i (wpList P ops Q' l) a w:=by unfold wpOp;simp only [h0];exact h
    exact wpOp_mono (fun a' w' h'=>wpAny_seqF l (i+1) f _ a' w' (fun j=>by have:=hl (j+1);simpa [Nat.add_assoc,Nat.add_comm 1 j] using this) hB.2 h') hw
def StepsH (P:Program) (ops:Array Oper) (Q:Exit→Act→World→Prop) (Fs:List Fact) (A:(Nat→Value)→Act) (w0:World):Nat→List Oper→Prop
  | _,[]=>True
  | k,o :: l=>Step P ops Q Fs A w0 k o∧StepsH P ops Q Fs A w0 (k+1) l
theorem StepsH.at {P:Program} {ops:Array Oper} {Q:Exit→Act→World→Prop} {Fs:List Fact} {A:(Nat→Value)→Act} {w0:World}:∀ (l:List Oper) (m:Nat),StepsH P ops Q Fs A w0 m l→∀ i o,l[i]? = some o→Step P ops Q Fs A w0 (m+i) o
  | [],_,_,_,_,h=>by simp at h
  | o :: l,m,h,i,x,hx=>by
    cases i with
    | zero =>
      simp at hx;subst hx;exact h.1
    | succ i =>
      have:=StepsH.at l (m+1) h.2 i x (by simpa using hx)
      rw [show m+1+i=m+(i+1) by omega] at this;exact this
theorem wpAny_factsT {P:Program} {L:List Oper} {n:Nat} {Q:Exit→Act→World→Prop} {Fs:List Fact} {a0:Act} {w0:World} {A:(Nat→Value)→Act}
    (hA:∀ vs,puts vs 0 L a0=A vs) (hd:dstB L=true) (hbk:backB 0 L=true) (hn:n < L.length) (hsk:Region.sinkB .any L.toArray n=true) (hch:Region.chainB .any L.toArray n=true)
    (hseq:Region.seqB .any L.toArray (L.drop n).length n (Array.replicate n true ++ Array.replicate (L.length - n) false)=true) (hF:MonoAll Fs) (hlen:Fs.length=n)
    (hs:StepsH P L.toArray Q Fs A w0 0 (L.take n))
    (hl:∀ vs lo hi w,Below w0.heap.size w0 w→(∀ k,k < n→w0.heap.size≤lo k∧hi k≤w.heap.size)→AllF vs lo hi w 0 Fs→wpList P L.toArray Q (L.drop n) (A vs) w) :
    ∀ (fuel:Nat) (listed:Array Bool) (vs:Nat→Value) (lo hi:Nat→Nat) (w:World),HeadInv .any L.toArray n listed→listed.toList.count false≤fuel→Below w0.heap.size w0 w →
      (∀ k,listed.getD k false=true→(w0.heap.size≤lo k∧hi k≤w.heap.size)∧fct Fs k (lo k) (hi k) (vs k) w)→wpAny P .any L.toArray Q fuel listed (A vs) w:=by
  intro fuel
  induction fuel with
  | zero =>
    intro listed vs lo hi w inv hcnt;have ht:=inv.tail n (Nat.le_refl _) (by simpa using hn);have hi:n < listed.size:=by rw [inv.size];simpa using hn
    have hv:listed[n]=false:=by simpa [hi] using ht
    have h3:0 < listed.toList.count false:=List.count_pos_iff.2 (by rw [← hv,← Array.getElem_toList];exact List.getElem_mem _);omega
  | succ fuel ih =>
    intro listed vs lo hi w inv hcnt hb hf
    by_cases hall:∀ i,i < n→listed.getD i false=true
    · have hls:listed=Array.replicate n true ++ Array.replicate (L.length - n) false:=by
        have hsz:=inv.size
        apply Array.ext
        · rw [hsz];simp;omega
        · intro i h1 h2
          by_cases hin:i < n
          · have h3:=hall i hin
            rw [Array.getElem_append_left (by simpa using hin)]
            simpa [h1] using h3
          · have h3:=inv.tail i (by omega) (by rw [← hsz];exact h1)
            rw [Array.getElem_append_right (by simp;omega)]
            simpa [h1] using h3
      have hcm:(L.drop n).length≤fuel+1:=by
        rw [hls] at hcnt;simp [List.count_replicate] at hcnt ⊢;omega
      obtain ⟨f,hf'⟩:∃ f,fuel+1=f+(L.drop n).length:=⟨fuel+1 - (L.drop n).length,by omega⟩;rw [hf',hls];refine wpAny_seqF (L.drop n) n f _ _ _ (fun j=>by simp) hseq ?_;exact hl vs lo hi w hb (fun k hk=>(hf k (hall k hk)).1) (allF_of Fs 0 (fun i hi'=>by rw [Nat.zero_add];exact (hf i (hall i (by omega))).2))
    · have hun:∃ i,i < n∧listed.getD i true=false:=by
        apply Classical.byContradiction
        intro h
        apply hall
        intro i hi';cases hc:listed.getD i false with
        | true=>rfl
        | false=>exact (h ⟨i,hi',getD_in (by rw [inv.size];simp;omega) hc⟩).elim
      obtain ⟨i0,hi0,hu0⟩:=hun
      have hnext:∀ i,i ∈ Region.ready .any L.toArray listed→wpOp P L.toArray Q i (wpAny P .any L.toArray Q fuel (listed.setIfInBounds i true)) (A vs) w:=by
        intro i hrd
        have hin:i < n:=by
          rcases Nat.lt_or_ge i n with h | h
          · exact h
          · exact (tail_waits hsk hch (by simpa using hn) inv _ i0 rfl hi0 hu0 i h hrd).elim
        obtain ⟨hun,o,ho,hallr⟩:=mem_ready.1 hrd;have ho':L[i]? = some o:=by simpa using ho
        have hst:=StepsH.at (L.take n) 0 hs i o (by rw [List.getElem?_take,if_pos hin];exact ho');rw [Nat.zero_add] at hst;refine wpOp_step ho (fun K' hK=>hst vs lo hi w hb (fun d hdep=>?_) K' (fun v w' hv hbw=>?_))
        · obtain ⟨e,he,h2,h3⟩:=depB_spec hdep
          subst h2;exact (hf _ (hallr e he h3)).2
        · refine hK _ _ ?_
          have hset:(A vs).put o.dst v=A (fun i'=>if i'=i then v else vs i'):=by
            rw [← hA,← hA];exact puts_set vs v i L 0 a0 o hd (Nat.zero_le _) ho'
          rw [hset];refine ih _ _ (fun i'=>if i'=i then w.heap.size else lo i') (fun i'=>if i'=i then w'.heap.size else hi i') _ (inv.set hrd hin) ?_ (bthen hb hbw) (fun k hk=>?_)
          · have:=falses_set hun
            omega
          · have h9:=hbw.size
            have h8:=hb.size
            by_cases hki:k=i
            · subst hki
              simp only [if_pos];exact ⟨⟨h8,Nat.le_refl _⟩,hv⟩
            · simp only [if_neg hki]
              rcases getD_set_self hk with h5 | h5
              · exact absurd h5 hki
              · have h6:=(hf k h5).1
                exact ⟨⟨h6.1,by omega⟩,hF.at k _ _ _ _ _ (hf k h5).2 hbw⟩
      refine ⟨fun hnil=>?_,hnext⟩;exfalso
      obtain ⟨m,hm,hpm,hmin⟩:=least (p:=fun j=>listed.getD j true=false) i0 hu0
      have hmo:∃ o,L.toArray[m]? = some o:=by
        rw [List.getElem?_toArray];exact ⟨_,List.getElem?_eq_getElem (by omega)⟩
      obtain ⟨o,ho⟩:=hmo
      have hin:m ∈ Region.ready .any L.toArray listed:=mem_ready.2 ⟨hpm,o,ho,fun e he hbn=>by
        have h1:=backB_at L 0 hbk m o (by simpa using ho) e he hbn;have h2:=hmin e.on (by omega);have h3:e.on < listed.size:=by rw [inv.size];simp;omega
        simp [h3] at h2 ⊢
        exact h2⟩
      rw [hnil] at hin;cases hin
theorem wp_region_factsT {P:Program} {id:Nat} {L:List Oper} {Q:Exit→Act→World→Prop} (n:Nat) (Fs:List Fact) {a0:Act} {w0:World} {A:(Nat→Value)→Act} (hm:P.follows .mixedOrders=true) (hA:∀ vs,puts vs 0 L a0=A vs)
    (hB:(dstB L && backB 0 L && decide (n < L.length) && Region.sinkB .any L.toArray n && Region.chainB .any L.toArray n && Region.seqB .any L.toArray (L.drop n).length n (Array.replicate n true ++ Array.replicate (L.length - n) false))=true)
    (hlen:Fs.length=n) (hF:MonoAll Fs)
    (hs:∀ Q',StepsH P L.toArray Q' Fs A w0 0 (L.take n))
    (hl:∀ vs lo hi w,Below w0.heap.size w0 w→(∀ k,k < n→w0.heap.size≤lo k∧hi k≤w.heap.size)→AllF vs lo hi w 0 Fs→wpList P L.toArray Q (L.drop n) (A vs) w) :
    (Code.region id L.toArray true).wp P Q a0 w0:=by
  simp only [Bool.and_eq_true,decide_eq_true_eq] at hB;obtain ⟨⟨⟨⟨⟨hd,hbk⟩,hn⟩,hsk⟩,hch⟩,hseq⟩:=hB;refine wp_region_any hm ?_
  obtain ⟨vs,hvs⟩:∃ vs:Nat→Value,∀ i o,L[i]? = some o→vs (0+i)=own a0 o :=
    ⟨fun i=>match L[i]? with | some o=>own a0 o | none=>undef,fun i o ho=>by simp only [Nat.zero_add,ho]⟩
  have e:a0=A vs:=by rw [← hA,puts_own a0 vs _ 0 hvs]
  have inv0:HeadInv .any L.toArray n (Array.replicate L.toArray.size false) :=
    ⟨by simp,fun j oj _ hl=>(by rw [getD_replicate_false] at hl;cases hl),fun t _ ht=>getD_in (by simpa using ht) (getD_replicate_false _ _)⟩
  have h:=wpAny_factsT hA hd hbk hn hsk hch hseq hF hlen (hs Q) hl L.toArray.size (Array.replicate L.toArray.size false) vs (fun _=>0) (fun _=>0) w0.drew inv0
    (Nat.le_trans List.count_le_length (by simp)) (Below.refl _ _).drew (fun k hk=>by simp [Array.getD] at hk)
  rw [← e] at h;exact h
end Go.Proofs.YtapcmbbhhclepaaGreatDoor
namespace Go.Proofs.YtapcmbbhhclepaaGreatDoor
open Go.RowKit
namespace Cn
theorem fold_bound:∀ (ds:List UInt8) (n:Nat),ds.all digit=true→n * 10 ^ ds.length≤ds.foldl (fun n c=>10 * n+(c.toNat - 48)) n∧ds.foldl (fun n c=>10 * n+(c.toNat - 48)) n+1≤(n+1) * 10 ^ ds.length
  | [],n,_=>by simp
  | c :: ds,n,h=>by
    simp only [List.all_cons,Bool.and_eq_true] at h;have hd:=is_digit h.1;have ih:=fold_bound ds (10 * n+(c.toNat - 48)) h.2;rw [List.foldl_cons,List.length_cons,Nat.pow_succ];have hpos:0 < 10 ^ ds.length:=Nat.pow_pos (by decide);generalize 10 ^ ds.length=T at ih hpos ⊢;have e1:n * (T * 10)=(10 * n) * T:=by rw [Nat.mul_comm T 10,← Nat.mul_assoc,Nat.mul_comm n 10]
    have e2:(n+1) * (T * 10)=(10 * n+10) * T:=by rw [Nat.mul_comm T 10,← Nat.mul_assoc,Nat.add_mul,Nat.mul_comm n 10]
    rw [e1,e2];have h1:(10 * n) * T≤(10 * n+(c.toNat - 48)) * T:=Nat.mul_le_mul_right T (by omega);have h2:(10 * n+(c.toNat - 48)+1) * T≤(10 * n+10) * T:=Nat.mul_le_mul_right T (by omega);exact ⟨Nat.le_trans h1 ih.1,Nat.le_trans ih.2 h2⟩
theorem numOf_lt {ds:List UInt8} (h:ds.all digit=true):numOf ds < 10 ^ ds.length:=by
  have:=(fold_bound ds 0 h).2
  unfold numOf;omega
theorem pow16:(10:Nat) ^ 16=10000000000000000:=by decide
theorem numOf_small {ds:List UInt8} (h:ds.all digit=true) (hl:ds.length≤16):numOf ds < 10000000000000000:=by
  have h1:=numOf_lt h;have h2:(10:Nat) ^ ds.length≤10 ^ 16:=Nat.pow_le_pow_right (by decide) hl;rw [pow16] at h2;omega
theorem all_take' {ds:List UInt8} (h:ds.all digit=true) (j:Nat):(ds.take j).all digit=true:=by
  rw [List.all_eq_true] at h ⊢;exact fun x hx=>h x (List.mem_of_mem_take hx)
end Cn
theorem take_next {u:List UInt8} {p:UInt8→Bool} {j:Nat} (h:j < (u.takeWhile p).length):∃ b t,u.drop j=b :: t∧p b=true∧(u.takeWhile p).take (j+1)=(u.takeWhile p).take j ++ [b]:=by
  obtain ⟨b,t,h1,h2⟩:=take_at h;refine ⟨b,t,h1,h2,?_⟩;rw [List.take_succ_eq_append_getElem h];have h3:(u.takeWhile p)[j]=u[j]'(Nat.lt_of_lt_of_le h (List.takeWhile_prefix p).length_le):=(List.takeWhile_prefix p).getElem h;rw [h3]
  have h4:u[j]'(Nat.lt_of_lt_of_le h (List.takeWhile_prefix p).length_le)=b:=by
    have:=congrArg (fun l=>l[0]?) h1
    simp only [List.getElem?_drop,Nat.add_zero,List.getElem?_cons_zero] at this;rw [List.getElem?_eq_getElem (Nat.lt_of_lt_of_le h (List.takeWhile_prefix p).length_le)] at this;exact Option.some.inj this
  rw [h4]
def B5 (w:World) (g:Nat) (c0 c1 c2 c3 c4:Value):Prop:=w.heap[g]? = some (.cells #[c0,c1,c2,c3,c4] 27 (0,0))
theorem B5.cells {w:World} {g:Nat} {c0 c1 c2 c3 c4:Value} (h:B5 w g c0 c1 c2 c3 c4):w.cell? ⟨g,0,none⟩=some c0∧w.cell? ⟨g,1,none⟩=some c1∧w.cell? ⟨g,2,none⟩=some c2∧w.cell? ⟨g,3,none⟩=some c3∧w.cell? ⟨g,4,none⟩=some c4:=by
  refine ⟨?_,?_,?_,?_,?_⟩ <;> (rw [Lib.cell_of_heap h];rfl)
theorem B5.free {w:World} {g:Nat} {c0 c1 c2 c3 c4:Value} (h:B5 w g c0 c1 c2 c3 c4) (o:Nat):w.frozen? ⟨g,o,none⟩=false:=Lib.frozen_of_heap h o
theorem b5_new (w:World) (c0 c1 c2 c3 c4:Value) (g:Nat) (hg:g=w.heap.size):B5 (w.alloc (.cells #[c0,c1,c2,c3,c4] 27)) g c0 c1 c2 c3 c4:=by
  subst hg;show (w.alloc _).heap[w.heap.size]? = _
  simp only [World.alloc,Array.getElem?_push_size]
theorem B5.keep {w w':World} {g:Nat} {c0 c1 c2 c3 c4:Value} (h:B5 w g c0 c1 c2 c3 c4) (k:Below w.heap.size w w'):B5 w' g c0 c1 c2 c3 c4:=by
  unfold B5;rw [k.block g (Array.getElem?_eq_some_iff.1 h).1];exact h
theorem B5.other {w:World} {g g' o:Nat} {c0 c1 c2 c3 c4:Value} (h:B5 w g c0 c1 c2 c3 c4) (v:Value) (hg:g≠g'):B5 (w.setCell ⟨g',o,none⟩ v) g c0 c1 c2 c3 c4:=by
  unfold B5;simp only [World.setCell];rw [Array.getElem?_modify,if_neg (fun e=>hg e.symm)];exact h
theorem B5.set0 {w:World} {g:Nat} {c0 c1 c2 c3 c4:Value} (h:B5 w g c0 c1 c2 c3 c4) (v:Value):B5 (w.setCell ⟨g,0,none⟩ v) g v c1 c2 c3 c4:=by
  unfold B5 at h ⊢;simp [World.setCell,Array.getElem?_modify,h]
theorem B5.set1 {w:World} {g:Nat} {c0 c1 c2 c3 c4:Value} (h:B5 w g c0 c1 c2 c3 c4) (v:Value):B5 (w.setCell ⟨g,1,none⟩ v) g c0 v c2 c3 c4:=by
  unfold B5 at h ⊢;simp [World.setCell,Array.getElem?_modify,h]
theorem B5.set2 {w:World} {g:Nat} {c0 c1 c2 c3 c4:Value} (h:B5 w g c0 c1 c2 c3 c4) (v:Value):B5 (w.setCell ⟨g,2,none⟩ v) g c0 c1 v c3 c4:=by
  unfold B5 at h ⊢;simp [World.setCell,Array.getElem?_modify,h]
theorem B5.set3 {w:World} {g:Nat} {c0 c1 c2 c3 c4:Value} (h:B5 w g c0 c1 c2 c3 c4) (v:Value):B5 (w.setCell ⟨g,3,none⟩ v) g c0 c1 c2 v c4:=by
  unfold B5 at h ⊢;simp [World.setCell,Array.getElem?_modify,h]
theorem B5.set4 {w:World} {g:Nat} {c0 c1 c2 c3 c4:Value} (h:B5 w g c0 c1 c2 c3 c4) (v:Value):B5 (w.setCell ⟨g,4,none⟩ v) g c0 c1 c2 c3 v:=by
  unfold B5 at h ⊢;simp [World.setCell,Array.getElem?_modify,h]
theorem B5.all {w:World} {g:Nat} {c0 c1 c2 c3 c4:Value} (h:B5 w g c0 c1 c2 c3 c4) (v0 v1 v2 v3 v4:Value) :
    B5 (((((w.setCell ⟨g,0,none⟩ v0).setCell ⟨g,1,none⟩ v1).setCell ⟨g,2,none⟩ v2).setCell ⟨g,3,none⟩ v3).setCell ⟨g,4,none⟩ v4) g v0 v1 v2 v3 v4:=((((h.set0 v0).set1 v1).set2 v2).set3 v3).set4 v4
theorem below5 {w:World} {B g:Nat} (hB:B≤g) (v0 v1 v2 v3 v4:Value):Below B w (((((w.setCell ⟨g,0,none⟩ v0).setCell ⟨g,1,none⟩ v1).setCell ⟨g,2,none⟩ v2).setCell ⟨g,3,none⟩ v3).setCell ⟨g,4,none⟩ v4) :=
  (((((Below.refl B w).setCell (p:=⟨g,0,none⟩) hB v0).setCell (p:=⟨g,1,none⟩) hB v1).setCell (p:=⟨g,2,none⟩) hB v2).setCell (p:=⟨g,3,none⟩) hB v3).setCell (p:=⟨g,4,none⟩) hB v4
theorem B5.past4 {w:World} {g g':Nat} {c0 c1 c2 c3 c4:Value} (h:B5 w g c0 c1 c2 c3 c4) (hg:g≠g') (v0 v1 v2 v3:Value):B5 ((((w.setCell ⟨g',0,none⟩ v0).setCell ⟨g',1,none⟩ v1).setCell ⟨g',2,none⟩ v2).setCell ⟨g',3,none⟩ v3) g c0 c1 c2 c3 c4 :=
  (((h.other v0 hg).other v1 hg).other v2 hg).other v3 hg
theorem B4.past5 {w:World} {g g':Nat} {c0 c1 c2 c3:Value} (h:B4 w g c0 c1 c2 c3) (hg:g≠g') (v0 v1 v2 v3 v4:Value):B4 (((((w.setCell ⟨g',0,none⟩ v0).setCell ⟨g',1,none⟩ v1).setCell ⟨g',2,none⟩ v2).setCell ⟨g',3,none⟩ v3).setCell ⟨g',4,none⟩ v4) g c0 c1 c2 c3 :=
  ((((h.other v0 hg).other v1 hg).other v2 hg).other v3 hg).other v4 hg
abbrev Z5 (w:World) (g:Nat):Prop:=B5 w g (.int .i64 0) (.int .i64 0) (.string ⟨#[]⟩) (.slice none 0 0) (.slice none 0 0)
theorem fin45 {w:World} {B g1 g2:Nat} {a0 a1 a2 a3 b0 b1 b2 b3 b4:Value} (h1:B4 w g1 a0 a1 a2 a3) (h2:B5 w g2 b0 b1 b2 b3 b4) (hg:g1≠g2) (hB1:B≤g1) (hB2:B≤g2) (v0 v1 v2 v3 x0 x1 x2 x3 x4:Value) :
    B4 (((((((((w.setCell ⟨g1,0,none⟩ v0).setCell ⟨g1,1,none⟩ v1).setCell ⟨g1,2,none⟩ v2).setCell ⟨g1,3,none⟩ v3).setCell ⟨g2,0,none⟩ x0).setCell ⟨g2,1,none⟩ x1).setCell ⟨g2,2,none⟩ x2).setCell ⟨g2,3,none⟩ x3).setCell ⟨g2,4,none⟩ x4) g1 v0 v1 v2 v3 ∧
    B5 (((((((((w.setCell ⟨g1,0,none⟩ v0).setCell ⟨g1,1,none⟩ v1).setCell ⟨g1,2,none⟩ v2).setCell ⟨g1,3,none⟩ v3).setCell ⟨g2,0,none⟩ x0).setCell ⟨g2,1,none⟩ x1).setCell ⟨g2,2,none⟩ x2).setCell ⟨g2,3,none⟩ x3).setCell ⟨g2,4,none⟩ x4) g2 x0 x1 x2 x3 x4 ∧
    Below B w (((((((((w.setCell ⟨g1,0,none⟩ v0).setCell ⟨g1,1,none⟩ v1).setCell ⟨g1,2,none⟩ v2).setCell ⟨g1,3,none⟩ v3).setCell ⟨g2,0,none⟩ x0).setCell ⟨g2,1,none⟩ x1).setCell ⟨g2,2,none⟩ x2).setCell ⟨g2,3,none⟩ x3).setCell ⟨g2,4,none⟩ x4) :=
  ⟨(h1.all v0 v1 v2 v3).past5 hg _ _ _ _ _,(h2.past4 (fun e=>hg e.symm) _ _ _ _).all _ _ _ _ _,(below4 hB1 v0 v1 v2 v3).trans (below5 hB2 x0 x1 x2 x3 x4)⟩
end Go.Proofs.YtapcmbbhhclepaaGreatDoor
