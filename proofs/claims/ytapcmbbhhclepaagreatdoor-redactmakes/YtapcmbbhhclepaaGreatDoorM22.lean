/-
  What this claim takes of the earlier layers' texts: CKnB CRefS CRefT CRefU XKnown VField VKnown XNone WKeys.
-/
import Derived.Test.YtapcmbbhhclepaaGreatDoorM21
import Derived.Laws.BytesArg
import Derived.BigRegion
import Derived.Deep.DeepCutAuto
import Derived.Deep.CutBlock
import Derived.BigQuiet
import Derived.Lib.QuietBelow
set_option linter.unusedVariables false
set_option linter.unusedSimpArgs false
set_option maxRecDepth 100000
namespace Go.Proofs.YtapcmbbhhclepaaGreatDoor
open Go.RowKit
namespace Xr
def knC:V:=⟨5,0,⟨#[]⟩,[⟨#[109,101,109,98,101,114,115,104,105,112]⟩,⟨#[120]⟩],[V.str ⟨#[106,111,105,110]⟩,V.numV 1]⟩
def knV:V:=⟨5,0,⟨#[]⟩,[kContent,kType,⟨#[121]⟩],[knC,V.str kMember,V.numV 2]⟩
def knS:List UInt8:=[123,34,116,121,112,101,34,58,34,109,46,114,111,111,109,46,109,101,109,98,101,114,34,44,34,99,111,110,116,101,110,116,34,58,123,34,109,101,109,98,101,114,115,104,105,112,34,58,34,106,111,105,110,34,44,34,120,34,58,49,125,44,34,121,34,58,50,125]
def kp1:ByteArray×V:=(kType,V.str kMember)
def kp2:ByteArray×V:=(kContent,knC)
def kp3:ByteArray×V:=(⟨#[121]⟩,V.numV 2)
def kq1:ByteArray×V:=(⟨#[109,101,109,98,101,114,115,104,105,112]⟩,V.str ⟨#[106,111,105,110]⟩)
def kq2:ByteArray×V:=(⟨#[120]⟩,V.numV 1)
def rchA (r:List UInt8) (acc:List (ByteArray×V)):Prop:=(r=knS.drop 1∧acc=[])∨(r=knS.drop 24∧acc=[kp1])∨(r=knS.drop 62∧acc=[kp1,kp2])
def rchB (r:List UInt8) (acc:List (ByteArray×V)):Prop:=(r=knS.drop 35∧acc=[])∨(r=knS.drop 55∧acc=[kq1])
theorem pa1:Cn.ppair (Cn.pval 32) (([]:List (ByteArray×V)).map (·.1)) (knS.drop 1)=.ok (kp1,knS.drop 23):=by kernel_rfl
theorem pa2:Cn.ppair (Cn.pval 32) (([kp1]:List (ByteArray×V)).map (·.1)) (knS.drop 24)=.ok (kp2,knS.drop 61):=by kernel_rfl
theorem pa3:Cn.ppair (Cn.pval 32) (([kp1,kp2]:List (ByteArray×V)).map (·.1)) (knS.drop 62)=.ok (kp3,knS.drop 67):=by kernel_rfl
theorem pb1:Cn.ppair (Cn.pval 31) (([]:List (ByteArray×V)).map (·.1)) (knS.drop 35)=.ok (kq1,knS.drop 54):=by kernel_rfl
theorem pb2:Cn.ppair (Cn.pval 31) (([kq1]:List (ByteArray×V)).map (·.1)) (knS.drop 55)=.ok (kq2,knS.drop 60):=by kernel_rfl
end Xr
open Xr
theorem valB {s:ByteArray} (hs:s.size≤65536):ValO s 1 (knS.drop 34) (Cn.pmany (Cn.pval 31) 125 (Cn.skip (knS.drop 35))):=by
  have v1:ValO s 2 (Cn.skip (knS.drop 48)) (.ok (V.str ⟨#[106,111,105,110]⟩,knS.drop 54)):=valO_text (u:=knS.drop 48) hs (by kernel_rfl) (by kernel_rfl) (by kernel_rfl) [106,111,105,110] 6 (by kernel_rfl) (by decide);have v2:ValO s 2 (Cn.skip (knS.drop 59)) (.ok (V.numV 1,knS.drop 60)):=valO_digit 49 125 (knS.drop 61) hs (by decide) (by decide) (.inl rfl);intro a w hA;refine val_objK s a 1 _ w hA hs (by kernel_rfl) (by kernel_rfl) 31 (by decide) _ (by decide) (knS.drop 35) rfl (fun a2 w2 hA2=>?_);refine many_objK 31 (by decide) s a2 2 123 (knS.drop 35) w2 hA2 hs (by decide) rchB (.inl ⟨rfl,rfl⟩) ?_ ?_ ([kq1,kq2],knS.drop 61) (by kernel_rfl) (by kernel_rfl)
  · rintro r1 acc (⟨rfl,rfl⟩ | ⟨rfl,rfl⟩)
    · exact pairO_of hs [109,101,109,98,101,114,115,104,105,112] 12 (by kernel_rfl) (by kernel_rfl) (knS.drop 48) (by kernel_rfl) _ v1 _ _ rfl (by kernel_rfl) (by decide) pb1
    · exact pairO_of hs [120] 3 (by kernel_rfl) (by kernel_rfl) (knS.drop 59) (by kernel_rfl) _ v2 _ _ rfl (by kernel_rfl) (by decide) pb2
  · rintro r1 acc xv xu tt (⟨rfl,rfl⟩ | ⟨rfl,rfl⟩) hp hk
    · rw [pb1] at hp
      cases hp
      rw [show Cn.skip (knS.drop 54)=44 :: knS.drop 55 from by kernel_rfl] at hk;obtain rfl:=(List.cons.inj hk).2;exact .inr ⟨by kernel_rfl,rfl⟩
    · rw [pb2] at hp
      cases hp
      rw [show Cn.skip (knS.drop 60)=125 :: knS.drop 61 from by kernel_rfl] at hk;cases (List.cons.inj hk).1
theorem valA {s:ByteArray} (hs:s.size≤65536):ValO s 0 knS (Cn.pmany (Cn.pval 32) 125 (Cn.skip (knS.drop 1))):=by
  have v1:ValO s 1 (Cn.skip (knS.drop 8)) (.ok (V.str kMember,knS.drop 23)):=valO_text (u:=knS.drop 8) hs (by kernel_rfl) (by kernel_rfl) (by kernel_rfl) [109,46,114,111,111,109,46,109,101,109,98,101,114] 15 (by kernel_rfl) (by decide);have v2:ValO s 1 (Cn.skip (knS.drop 34)) (Cn.pmany (Cn.pval 31) 125 (Cn.skip (knS.drop 35))):=valB hs;have v3:ValO s 1 (Cn.skip (knS.drop 66)) (.ok (V.numV 2,knS.drop 67)):=valO_digit 50 125 [] hs (by decide) (by decide) (.inl rfl);intro a w hA;refine val_objK s a 0 _ w hA hs (by kernel_rfl) (by kernel_rfl) 32 (by decide) _ (by decide) (knS.drop 1) rfl (fun a2 w2 hA2=>?_);refine many_objK 32 (by decide) s a2 1 123 (knS.drop 1) w2 hA2 hs (by decide) rchA (.inl ⟨rfl,rfl⟩) ?_ ?_ ([kp1,kp2,kp3],[]) (by kernel_rfl) (by kernel_rfl)
  · rintro r1 acc (⟨rfl,rfl⟩ | ⟨rfl,rfl⟩ | ⟨rfl,rfl⟩)
    · exact pairO_of hs [116,121,112,101] 6 (by kernel_rfl) (by kernel_rfl) (knS.drop 8) (by kernel_rfl) _ v1 _ _ rfl (by kernel_rfl) (by decide) pa1
    · exact pairO_of hs [99,111,110,116,101,110,116] 9 (by kernel_rfl) (by kernel_rfl) (knS.drop 34) (by kernel_rfl) _ v2 knC (knS.drop 61) (by kernel_rfl) (by kernel_rfl) (by decide) pa2
    · exact pairO_of hs [121] 3 (by kernel_rfl) (by kernel_rfl) (knS.drop 66) (by kernel_rfl) _ v3 _ _ rfl (by kernel_rfl) (by decide) pa3
  · rintro r1 acc xv xu tt (⟨rfl,rfl⟩ | ⟨rfl,rfl⟩ | ⟨rfl,rfl⟩) hp hk
    · rw [pa1] at hp
      cases hp
      rw [show Cn.skip (knS.drop 23)=44 :: knS.drop 24 from by kernel_rfl] at hk;obtain rfl:=(List.cons.inj hk).2;exact .inr (.inl ⟨by kernel_rfl,rfl⟩)
    · rw [pa2] at hp
      cases hp
      rw [show Cn.skip (knS.drop 61)=44 :: knS.drop 62 from by kernel_rfl] at hk;obtain rfl:=(List.cons.inj hk).2;exact .inr (.inr ⟨by kernel_rfl,rfl⟩)
    · rw [pa3] at hp
      cases hp
      rw [show Cn.skip (knS.drop 67)=125 :: [] from by kernel_rfl] at hk;cases (List.cons.inj hk).1
theorem parseK (s:ByteArray) (w:World) (h:s.data.toList=knS) :
    Calls Tryz.prog 30 #[.string s] w fun e' w'=>(∃ (k m:Int) (t:ByteArray) (s1:Option Addr) (n1 c1:Nat) (s2:Option Addr) (n2 c2:Nat),e'=.returned (.tuple #[.agg #[.int .i64 k,.int .i64 m,.string t,.slice s1 n1 c1,.slice s2 n2 c2],.int .i64 0,.int .i64 0])∧Is w' (fun b=>w.heap.size≤b) (.agg #[.int .i64 k,.int .i64 m,.string t,.slice s1 n1 c1,.slice s2 n2 c2]) knV)∧Below w.heap.size w w':=by
  have hs:s.size≤65536:=by
    have h1:s.data.toList.length=s.size:=by rw [Array.length_toList];rfl
    rw [h] at h1;have h2:knS.length=68:=rfl;omega
  have hv:=valA hs;refine parse_okK s w hs (by rw [h];kernel_rfl) knV [] (Cn.pmany (Cn.pval 32) 125 (Cn.skip (knS.drop 1))) ?_ (by kernel_rfl) (by kernel_rfl) ?_
  · rw [h]
    exact hv
  · rw [h]
    intro p
    by_cases hp:p < 68
    · have h1:(List.range 68).all (fun p=>!(Gm.nth knS p == 92))=true:=by kernel_rfl
      have h2:=List.all_eq_true.1 h1 p (List.mem_range.2 hp)
      simpa using h2
    · have h2 : knS.length ≤ p := by have h3:knS.length=68:=rfl
                                     omega
      unfold Gm.nth;rw [List.getD_eq_getElem?_getD,List.getElem?_eq_none h2];decide
end Go.Proofs.YtapcmbbhhclepaaGreatDoor
namespace Go.Proofs.YtapcmbbhhclepaaGreatDoor
open Go.RowKit
theorem conv_at (w:World) (g:Nat) (x:Int) (h:w.cell? ⟨g,0,none⟩=some (.int .u8 x)) :
    (convert 22 9 (.slice (some ⟨g,0,none⟩) 1 1)).run Tryz.prog w=.ok (.string ⟨#[x.toNat.toUInt8]⟩) w:=by
  have h:=run_convert_bytes_arg (P:=Tryz.prog) w 22 5 Tryz.underlying22 Tryz.underlying5 g 0 1 1 [x] rfl
    (fun i hi=>by
      have:i=0:=by omega
      subst this
      exact h) 9 Tryz.underlying9
  rw [h];rfl
theorem put_char (l:List UInt8) (x:Int):(⟨l.toArray⟩:ByteArray) ++ (⟨#[x.toNat.toUInt8]⟩:ByteArray)=⟨(l ++ [x.toNat.toUInt8]).toArray⟩:=by
  apply ByteArray.ext
  simp
set_option maxHeartbeats 1000000 in
theorem digs_small (m:Nat) (w:World) (hm:m < 10) :
    Calls Tryz.prog 64 #[.int .i64 (m:Int)] w fun e w'=>e=.returned (.string ⟨#[UInt8.ofNat (48+m)]⟩)∧Below w.heap.size w w':=by
  obtain ⟨M,hM⟩:∃ M:Int,M=m:=⟨_,rfl⟩;rw [← hM];have h0:0≤M:=by omega
  have h9:M < 10:=by omega
  have kc:=conv1 w (48+M);have hw:IntKind.u8.wrap M=M:=by rw [IntKind.wrap_u8];omega
  have hw2:IntKind.u8.wrap (48+M)=48+M:=by rw [IntKind.wrap_u8];omega
  have HR:Hid ((48+M).toNat.toUInt8=UInt8.ofNat (48+m)):=by
    show _=_
    rw [hM,show ((48:Int)+(m:Int)).toNat=48+m by omega]
  clear hM;go_enter Tryz.func64,Tryz.ntmps64
  go_wp2_with fail
  go_ret
  refine ⟨?_,below_alloc _ _⟩;rw [← HR.out];rfl
set_option maxHeartbeats 1000000 in
theorem digs_smallN (m:Nat) (w:World) (h1:1≤m) (hm:m < 10) :
    Calls Tryz.prog 64 #[.int .i64 (-(m:Int))] w fun e w'=>e=.returned (.string ⟨#[45,UInt8.ofNat (48+m)]⟩)∧Below w.heap.size w w':=by
  obtain ⟨M,hM⟩:∃ M:Int,M=-(m:Int):=⟨_,rfl⟩;rw [← hM];have h0:M < 0:=by omega
  have h9:-10 < M:=by omega
  have kc:=conv1 w (48+-M);have hw0:IntKind.i64.wrap (-M)=-M:=by rw [IntKind.wrap_i64];omega
  have hw:IntKind.u8.wrap (-M)=-M:=by rw [IntKind.wrap_u8];omega
  have hw2:IntKind.u8.wrap (48+-M)=48+-M:=by rw [IntKind.wrap_u8];omega
  have HR:Hid ((48+-M).toNat.toUInt8=UInt8.ofNat (48+m)):=by
    show _=_
    rw [hM,show ((48:Int)+- -(m:Int)).toNat=48+m by omega]
  clear hM;go_enter Tryz.func64,Tryz.ntmps64
  go_wp2_with fail
  go_ret
  refine ⟨?_,below_alloc _ _⟩;rw [← HR.out]
  congr 2
theorem mono_rowD {D:Int}:Mono (fun lo hi v w1=>∃ g,v=.slice (some ⟨g,0,none⟩) 1 1∧w1.cell? ⟨g,0,none⟩=some (.int .u8 D)):=by
  intro lo hi v w w' h hb;obtain ⟨g,e,h⟩:=h;exact ⟨g,e,cell_keep h hb⟩
set_option maxHeartbeats 1000000 in
theorem digs_great (m:Nat) (hm:10≤m) (hb:m≤9007199254740991) (l:List UInt8) (hl:l.length≤40) (ih:∀ w,Calls Tryz.prog 64 #[.int .i64 (((m / 10:Nat):Int))] w fun e w'=>e=.returned (.string ⟨l.toArray⟩)∧Below w.heap.size w w') (w:World) :
    Calls Tryz.prog 64 #[.int .i64 ((m:Int))] w fun e w'=>e=.returned (.string ⟨(l ++ [UInt8.ofNat (48+m % 10)]).toArray⟩)∧Below w.heap.size w w':=by
  obtain ⟨M,hM⟩:∃ M:Int,M=(m:Int):=⟨_,rfl⟩;obtain ⟨Q,hQ⟩:∃ Q:Int,Q=((m / 10:Nat):Int):=⟨_,rfl⟩;obtain ⟨T,hT⟩:∃ T:Int,T=((m % 10:Nat):Int):=⟨_,rfl⟩;obtain ⟨D,hD⟩:∃ D:Int,D=48+((m % 10:Nat):Int):=⟨_,rfl⟩;obtain ⟨S1,hS1⟩:∃ S1:ByteArray,S1=⟨l.toArray⟩:=⟨_,rfl⟩;obtain ⟨S2,hS2⟩:∃ S2:ByteArray,S2=⟨#[D.toNat.toUInt8]⟩:=⟨_,rfl⟩
  have hq:Hid (IntKind.i64.wrap (M.tdiv 10)=Q):=by
    show _=_
    rw [hM,hQ,show ((m:Int)).tdiv 10=((m / 10:Nat):Int) from rfl,IntKind.wrap_i64];omega
  have ht:Hid (M.tmod 10=T):=by
    show _=_
    rw [hM,hT];rfl
  have hu:Hid (IntKind.u8.wrap T=T):=by
    show _=_
    rw [hT,IntKind.wrap_u8];omega
  have hdd:Hid (IntKind.u8.wrap (48+T)=D):=by
    show _=_
    rw [hT,hD,IntKind.wrap_u8];omega
  have hs2:Hid ((⟨#[D.toNat.toUInt8]⟩:ByteArray)=S2):=hS2.symm
  have hres:Hid (S1 ++ S2=⟨(l ++ [UInt8.ofNat (48+m % 10)]).toArray⟩):=by
    show _=_
    rw [hS1,hS2,put_char,hD,show ((48:Int)+((m % 10:Nat):Int)).toNat=48+m % 10 by omega]
  have hz1:S1.size≤40:=by rw [hS1];show l.toArray.size≤40;simpa using hl
  have hz2:S2.size=1:=by rw [hS2];rfl
  have h0:10≤M:=by omega
  rw [← hM];rw [← hQ] at ih;rw [← hS1] at ih;clear hM hQ hT hD hS1 hS2;go_enter Tryz.func64,Tryz.ntmps64
  go_upto_region 7 with fail
  clear h0 hm hb;generalize decide (M < 0)=z1;generalize decide (M < 10)=z2;refine' wp_region_facts [(fun _ _ v _=>v=.int .i64 M),(fun _ _ v _=>v=.int .i64 Q),(fun _ _ v _=>v=.string S1),(fun _ _ v _=>v=.int .i64 M),(fun _ _ v _=>v=.int .i64 T),(fun _ _ v _=>v=.int .u8 T),(fun _ _ v _=>v=.int .u8 D),(fun lo hi v w1=>∃ g,v=.slice (some ⟨g,0,none⟩) 1 1∧w1.cell? ⟨g,0,none⟩=some (.int .u8 D)),(fun _ _ v _=>v=.string S2),(fun _ _ v _=>v=.string (S1 ++ S2))] (by kernel_rfl) rfl ?hA (by kernel_rfl) (by kernel_rfl) (by kernel_rfl) rfl ?mono ?steps ?last
  case hA =>
    intro vs;simp only [puts,Act.put,List.setIfInBounds_toArray,List.set_cons_zero,List.set_cons_succ,Nat.zero_add,Nat.reduceAdd];rfl
  case mono=>exact ⟨mono_eq _,mono_eq _,mono_eq _,mono_eq _,mono_eq _,mono_eq _,mono_eq _,mono_rowD,mono_eq _,mono_eq _,trivial⟩
  case steps =>
    intro Q';refine And.intro ?_ <| And.intro ?_ <| And.intro ?_ <| And.intro ?_ <| And.intro ?_ <| And.intro ?_ <| And.intro ?_ <| And.intro ?_ <| And.intro ?_ <| And.intro ?_ <| trivial
    all_goals
      intro vs lo hi w' hM hd K' hK;dsimp only at hK ⊢;simp only [Act.put,List.setIfInBounds_toArray,List.set_cons_zero,List.set_cons_succ] at hK
    · go_simp
      exact hK.out _ _ rfl (Below.refl _ _)
    · have e0:vs 0=.int .i64 M:=hd 0 (by kernel_rfl)
      simp only [e0] at hK ⊢;clear e0;go_simp;exact hK.out _ _ (by show _=_;rw [hq.out]) (Below.refl _ _)
    · have e1:vs 1=.int .i64 Q:=hd 1 (by kernel_rfl)
      simp only [e1] at hK ⊢;clear e1;go_simp;refine (ih w').mono ?_;rintro e w2 ⟨rfl,b2⟩;exact hK.out _ _ rfl b2
    · go_simp
      exact hK.out _ _ rfl (Below.refl _ _)
    · have e3:vs 3=.int .i64 M:=hd 3 (by kernel_rfl)
      simp only [e3] at hK ⊢;clear e3;go_simp;exact hK.out _ _ (by show _=_;rw [ht.out]) (Below.refl _ _)
    · have e4:vs 4=.int .i64 T:=hd 4 (by kernel_rfl)
      simp only [e4] at hK ⊢;clear e4;go_simp;exact hK.out _ _ (by show _=_;rw [hu.out]) (Below.refl _ _)
    · have e5:vs 5=.int .u8 T:=hd 5 (by kernel_rfl)
      simp only [e5] at hK ⊢;clear e5;go_simp;exact hK.out _ _ (by show _=_;rw [hdd.out]) (Below.refl _ _)
    · have e6:vs 6=.int .u8 D:=hd 6 (by kernel_rfl)
      simp only [e6] at hK ⊢;clear e6;go_simp;exact hK.out _ _ ⟨_,rfl,cell_new _ _ _ _ rfl⟩ (below_alloc _ _)
    · obtain ⟨g7,e7,hc7⟩:=hd 7 (by kernel_rfl)
      simp only [e7] at hK ⊢;clear e7;have hcv:=conv_at w' g7 D hc7;rw [hs2.out] at hcv;go_simp;exact hK.out _ _ rfl (Below.refl _ _)
    · have e2:vs 2=.string S1:=hd 2 (by kernel_rfl)
      have e8:vs 8=.string S2:=hd 8 (by kernel_rfl);simp only [e2,e8] at hK ⊢;clear e2 e8;go_simp;rw [if_neg (by omega)];go_simp;exact hK.out _ _ rfl (Below.refl _ _)
  case last =>
    intro vs lo hi w' hM hlo hap hall K' Q' hK;have e9:vs 9=.string (S1 ++ S2):=hall.2.2.2.2.2.2.2.2.2.1;dsimp only;simp only [e9];clear e9 hall hap hlo;go_simp;refine hK.out _ _ ?_;clear hK;rw [hres.out]
    go_wp2_with fail
    go_ret
    exact ⟨rfl,hM⟩
set_option maxHeartbeats 1000000 in
theorem digs_greatN (m:Nat) (hm:10≤m) (hb:m≤9007199254740991) (l:List UInt8) (hl:l.length≤40) (ih:∀ w,Calls Tryz.prog 64 #[.int .i64 (-((m / 10:Nat):Int))] w fun e w'=>e=.returned (.string ⟨l.toArray⟩)∧Below w.heap.size w w') (w:World) :
    Calls Tryz.prog 64 #[.int .i64 (-(m:Int))] w fun e w'=>e=.returned (.string ⟨(l ++ [UInt8.ofNat (48+m % 10)]).toArray⟩)∧Below w.heap.size w w':=by
  obtain ⟨M,hM⟩:∃ M:Int,M=-(m:Int):=⟨_,rfl⟩;obtain ⟨Q,hQ⟩:∃ Q:Int,Q=-((m / 10:Nat):Int):=⟨_,rfl⟩;obtain ⟨T,hT⟩:∃ T:Int,T=-((m % 10:Nat):Int):=⟨_,rfl⟩;obtain ⟨T2,hT2⟩:∃ T2:Int,T2=((m % 10:Nat):Int):=⟨_,rfl⟩;obtain ⟨D,hD⟩:∃ D:Int,D=48+((m % 10:Nat):Int):=⟨_,rfl⟩;obtain ⟨S1,hS1⟩:∃ S1:ByteArray,S1=⟨l.toArray⟩:=⟨_,rfl⟩;obtain ⟨S2,hS2⟩:∃ S2:ByteArray,S2=⟨#[D.toNat.toUInt8]⟩:=⟨_,rfl⟩
  have hq:Hid (IntKind.i64.wrap (M.tdiv 10)=Q):=by
    show _=_
    rw [hM,hQ,Int.neg_tdiv,show ((m:Int)).tdiv 10=((m / 10:Nat):Int) from rfl,IntKind.wrap_i64];omega
  have ht:Hid (M.tmod 10=T):=by
    show _=_
    rw [hM,hT,Int.neg_tmod];rfl
  have ht2:Hid (IntKind.i64.wrap (-T)=T2):=by
    show _=_
    rw [hT,hT2,IntKind.wrap_i64];omega
  have hu:Hid (IntKind.u8.wrap T2=T2):=by
    show _=_
    rw [hT2,IntKind.wrap_u8];omega
  have hdd:Hid (IntKind.u8.wrap (48+T2)=D):=by
    show _=_
    rw [hT2,hD,IntKind.wrap_u8];omega
  have hs2:Hid ((⟨#[D.toNat.toUInt8]⟩:ByteArray)=S2):=hS2.symm
  have hres:Hid (S1 ++ S2=⟨(l ++ [UInt8.ofNat (48+m % 10)]).toArray⟩):=by
    show _=_
    rw [hS1,hS2,put_char,hD,show ((48:Int)+((m % 10:Nat):Int)).toNat=48+m % 10 by omega]
  have hz1:S1.size≤40:=by rw [hS1];show l.toArray.size≤40;simpa using hl
  have hz2:S2.size=1:=by rw [hS2];rfl
  have h0:M≤-10:=by omega
  rw [← hM];rw [← hQ] at ih;rw [← hS1] at ih;clear hM hQ hT hD hS1 hS2 hT2;go_enter Tryz.func64,Tryz.ntmps64
  go_upto_region 4 with fail
  clear h0 hm hb;generalize decide (M < 0)=z1;generalize decide (-10 < M)=z2;refine' wp_region_facts [(fun _ _ v _=>v=.int .i64 M),(fun _ _ v _=>v=.int .i64 Q),(fun _ _ v _=>v=.string S1),(fun _ _ v _=>v=.int .i64 M),(fun _ _ v _=>v=.int .i64 T),(fun _ _ v _=>v=.int .i64 T2),(fun _ _ v _=>v=.int .u8 T2),(fun _ _ v _=>v=.int .u8 D),(fun lo hi v w1=>∃ g,v=.slice (some ⟨g,0,none⟩) 1 1∧w1.cell? ⟨g,0,none⟩=some (.int .u8 D)),(fun _ _ v _=>v=.string S2),(fun _ _ v _=>v=.string (S1 ++ S2))] (by kernel_rfl) rfl ?hA (by kernel_rfl) (by kernel_rfl) (by kernel_rfl) rfl ?mono ?steps ?last
  case hA =>
    intro vs;simp only [puts,Act.put,List.setIfInBounds_toArray,List.set_cons_zero,List.set_cons_succ,Nat.zero_add,Nat.reduceAdd];rfl
  case mono=>exact ⟨mono_eq _,mono_eq _,mono_eq _,mono_eq _,mono_eq _,mono_eq _,mono_eq _,mono_eq _,mono_rowD,mono_eq _,mono_eq _,trivial⟩
  case steps =>
    intro Q';refine And.intro ?_ <| And.intro ?_ <| And.intro ?_ <| And.intro ?_ <| And.intro ?_ <| And.intro ?_ <| And.intro ?_ <| And.intro ?_ <| And.intro ?_ <| And.intro ?_ <| And.intro ?_ <| trivial
    all_goals
      intro vs lo hi w' hM hd K' hK;dsimp only at hK ⊢;simp only [Act.put,List.setIfInBounds_toArray,List.set_cons_zero,List.set_cons_succ] at hK
    · go_simp
      exact hK.out _ _ rfl (Below.refl _ _)
    · have e0:vs 0=.int .i64 M:=hd 0 (by kernel_rfl)
      simp only [e0] at hK ⊢;clear e0;go_simp;exact hK.out _ _ (by show _=_;rw [hq.out]) (Below.refl _ _)
    · have e1:vs 1=.int .i64 Q:=hd 1 (by kernel_rfl)
      simp only [e1] at hK ⊢;clear e1;go_simp;refine (ih w').mono ?_;rintro e w2 ⟨rfl,b2⟩;exact hK.out _ _ rfl b2
    · go_simp
      exact hK.out _ _ rfl (Below.refl _ _)
    · have e3:vs 3=.int .i64 M:=hd 3 (by kernel_rfl)
      simp only [e3] at hK ⊢;clear e3;go_simp;exact hK.out _ _ (by show _=_;rw [ht.out]) (Below.refl _ _)
    · have e4:vs 4=.int .i64 T:=hd 4 (by kernel_rfl)
      simp only [e4] at hK ⊢;clear e4;go_simp;exact hK.out _ _ (by show _=_;rw [ht2.out]) (Below.refl _ _)
    · have e5:vs 5=.int .i64 T2:=hd 5 (by kernel_rfl)
      simp only [e5] at hK ⊢;clear e5;go_simp;exact hK.out _ _ (by show _=_;rw [hu.out]) (Below.refl _ _)
    · have e6:vs 6=.int .u8 T2:=hd 6 (by kernel_rfl)
      simp only [e6] at hK ⊢;clear e6;go_simp;exact hK.out _ _ (by show _=_;rw [hdd.out]) (Below.refl _ _)
    · have e7:vs 7=.int .u8 D:=hd 7 (by kernel_rfl)
      simp only [e7] at hK ⊢;clear e7;go_simp;exact hK.out _ _ ⟨_,rfl,cell_new _ _ _ _ rfl⟩ (below_alloc _ _)
    · obtain ⟨g8,e8,hc8⟩:=hd 8 (by kernel_rfl)
      simp only [e8] at hK ⊢;clear e8;have hcv:=conv_at w' g8 D hc8;rw [hs2.out] at hcv;go_simp;exact hK.out _ _ rfl (Below.refl _ _)
    · have e2:vs 2=.string S1:=hd 2 (by kernel_rfl)
      have e9:vs 9=.string S2:=hd 9 (by kernel_rfl);simp only [e2,e9] at hK ⊢;clear e2 e9;go_simp;rw [if_neg (by omega)];go_simp;exact hK.out _ _ rfl (Below.refl _ _)
  case last =>
    intro vs lo hi w' hM hlo hap hall K' Q' hK;have e10:vs 10=.string (S1 ++ S2):=hall.2.2.2.2.2.2.2.2.2.2.1;dsimp only;simp only [e10];clear e10 hall hap hlo;go_simp;refine hK.out _ _ ?_;clear hK;rw [hres.out]
    go_wp2_with fail
    go_ret
    exact ⟨rfl,hM⟩
theorem digs_all:∀ (f m:Nat),f≤20→0 < f→m < 10 ^ f→m≤9007199254740991→∀ w,
    Calls Tryz.prog 64 #[.int .i64 (m:Int)] w fun e w'=>e=.returned (.string ⟨(Cn.digitsN f m).toArray⟩)∧Below w.heap.size w w'
  | 0,_,_,h,_,_=>absurd h (by decide)
  | f+1,m,hf4,_,hm,hb=>fun w=>by
    unfold Cn.digitsN
    by_cases h10:m < 10
    · rw [if_pos h10]
      exact digs_small m w h10
    · rw [if_neg h10]
      have hf:0 < f:=by
        rcases Nat.eq_zero_or_pos f with e | e
        · subst e
          simp at hm;omega
        · exact e
      exact digs_great m (by omega) hb _ (Nat.le_trans (Cn.digitsN_len _ _) (by omega)) (digs_all f (m / 10) (by omega) hf (by rw [Nat.pow_succ] at hm;omega) (by omega)) w
theorem digs_allN:∀ (f m:Nat),f≤20→0 < f→m < 10 ^ f→m≤9007199254740991→1≤m→∀ w,
    Calls Tryz.prog 64 #[.int .i64 (-(m:Int))] w fun e w'=>e=.returned (.string ⟨(45 :: Cn.digitsN f m).toArray⟩)∧Below w.heap.size w w'
  | 0,_,_,h,_,_,_=>absurd h (by decide)
  | f+1,m,hf4,_,hm,hb,h1=>fun w=>by
    unfold Cn.digitsN
    by_cases h10:m < 10
    · rw [if_pos h10]
      exact digs_smallN m w h1 h10
    · rw [if_neg h10]
      have hf:0 < f:=by
        rcases Nat.eq_zero_or_pos f with e | e
        · subst e
          simp at hm;omega
        · exact e
      exact digs_greatN m (by omega) hb _ (by rw [List.length_cons];have:=Cn.digitsN_len f (m / 10);omega) (digs_allN f (m / 10) (by omega) hf (by rw [Nat.pow_succ] at hm;omega) (by omega) (by omega)) w
theorem refDigits_any (n:Int) (h1:-9007199254740991≤n) (h2:n≤9007199254740991) (w:World) :
    Calls Tryz.prog 64 #[.int .i64 n] w fun e w'=>e=.returned (.string ⟨(Cn.digits n).toArray⟩)∧Below w.heap.size w w':=by
  have hlt:n.natAbs < 10 ^ 20:=by
    have:(10:Nat) ^ 20=100000000000000000000:=by decide
    omega
  unfold Cn.digits
  by_cases hn:n < 0
  · rw [if_pos hn]
    have e:n=-(n.natAbs:Int):=by omega
    have:=digs_allN 20 n.natAbs (by decide) (by decide) hlt (by omega) (by omega) w
    rw [← e] at this;exact this
  · rw [if_neg hn]
    have e:n=(n.natAbs:Int):=by omega
    have:=digs_all 20 n.natAbs (by decide) (by decide) hlt (by omega) w
    rw [← e] at this;exact this
end Go.Proofs.YtapcmbbhhclepaaGreatDoor
namespace Go.Proofs.YtapcmbbhhclepaaGreatDoor
open Go.RowKit
def PrAt (d:Nat):Prop:=∀ (v:Value) (x:V) (w:World) (S:Nat→Prop),IsD w S d v x→V.right x=true→V.wt x≤4294967296→(Cn.print x).length≤1099511627770 →
    Calls Tryz.prog 31 #[v] w fun e w'=>e=.returned (.string ⟨(Cn.print x).toArray⟩)∧Below w.heap.size w w'
theorem cat_str (a b:List UInt8):(⟨a.toArray⟩:ByteArray) ++ (⟨b.toArray⟩:ByteArray)=⟨(a ++ b).toArray⟩:=by
  apply ByteArray.ext
  simp
theorem size_str (a:List UInt8):(⟨a.toArray⟩:ByteArray).size=a.length:=by
  show a.toArray.size=_
  simp
def Cell5 (w:World) (b o:Nat) (v0 v1 v2 v3 v4:Value):Prop:=w.cell? ⟨b,o,none⟩=some v0∧w.cell? ⟨b,o+1,none⟩=some v1∧w.cell? ⟨b,o+2,none⟩=some v2∧w.cell? ⟨b,o+3,none⟩=some v3∧w.cell? ⟨b,o+4,none⟩=some v4
theorem Cell5.keep {w w':World} {b o:Nat} {v0 v1 v2 v3 v4:Value} (h:Cell5 w b o v0 v1 v2 v3 v4) (k:Below w.heap.size w w'):Cell5 w' b o v0 v1 v2 v3 v4 :=
  ⟨cell_keep h.1 k,cell_keep h.2.1 k,cell_keep h.2.2.1 k,cell_keep h.2.2.2.1 k,cell_keep h.2.2.2.2 k⟩
set_option maxHeartbeats 2000000 in
theorem refP_list (d:Nat) (ih:PrAt d) (n:Int) (t:ByteArray) (a1:Option Addr) (n1 c1:Nat) (a:Option Addr) (cap:Nat) (c:Nat→Value) (ls:List V) (w:World) (S:Nat→Prop) (h6:Cells w S a (ls.length * 5) c) (h7:∀ i (h:i < ls.length),IsD w S d (elemV c i) ls[i]) (hok:∀ x ∈ ls,V.right x=true) (hls:V.wtL ls≤4294967296) (hcap:ls.length≤cap) (hcm:cap≤maxLen)
    (rows:Nat→List UInt8) (hrows:∀ i (h:i < ls.length),rows i=Cn.print ls[i]) (hlen:(com rows ls.length).length≤1099511627770) :
    Calls Tryz.prog 31 #[.agg #[.int .i64 4,.int .i64 n,.string t,.slice a1 n1 c1,.slice a ls.length cap]] w fun e w'=>e=.returned (.string ⟨(91 :: (com rows ls.length ++ [93])).toArray⟩)∧Below w.heap.size w w':=by
  have hlsl:ls.length≤4294967296:=Nat.le_trans (V.wtL_len ls) hls;have H6:=hide h6;have H7:=hide h7;have HR:=hide hrows;have HOK:=hide hok;have HLS:=hide hls;have HLEN:=hide hlen;clear h6 h7 hrows hok hls hlen;go_enter Tryz.func31,Tryz.ntmps31
  go_wp2_with fail
  go_loopg [3,4] ls.length (fun g sv i wr=>∃ (j:Nat) (SX:ByteArray),j+g=ls.length∧i=.int .i64 j∧sv=.string SX∧Hid (SX=⟨(com rows j).toArray⟩)∧Hid (Below w.heap.size w wr)∧Hid (Box5 wr w.heap.size (.int .i64 4) (.int .i64 n) (.string t) (.slice a1 n1 c1) (.slice a ls.length cap)))
  case atStart=>exact ⟨0,⟨#[]⟩,by omega,rfl,rfl,rfl,below_alloc _ _,box5_new w _ _ _ _ _ _⟩
  case round =>
    obtain ⟨j,SX,hj,rfl,rfl,HSX,HB,HBX⟩:=hrel;obtain ⟨x0,x1,x2,x3,x4⟩:=id HBX.out;have hsz:SX.size=(com rows j).length:=by rw [HSX.out,size_str]
    have hcl0:=com_le rows j ls.length (by omega);have hle:=HLEN.out
    by_cases hlt:j < ls.length
    · have hcl:=com_le rows (j+1) ls.length (by omega)
      simp only [com,List.length_append] at hcl;have hrw:=HR.out j hlt;rw [hrw] at hcl;obtain ⟨SA,hSA⟩:∃ SA:ByteArray,SA=⟨(com rows j ++ comOf j).toArray⟩:=⟨_,rfl⟩;obtain ⟨PX,hPX⟩:∃ PX:ByteArray,PX=⟨(Cn.print ls[j]).toArray⟩:=⟨_,rfl⟩;have hsa:SA.size=(com rows j).length+(comOf j).length:=by rw [hSA,size_str,List.length_append]
      have hpx:PX.size=(Cn.print ls[j]).length:=by rw [hPX,size_str]
      have HRES:Hid (SA ++ PX=⟨(com rows (j+1)).toArray⟩):=hide (by rw [hSA,hPX,cat_str];simp only [com];rw [hrw]);have HPL:Hid ((Cn.print ls[j]).length≤1099511627770):=hide (by omega);have hcat:¬ 9223372036854775807 < SA.size+PX.size:=by omega
      have hsb:SA.size≤1099511627776:=by omega
      obtain ⟨b,off,k',n',t',a1',n1',c1',a2',n2',c2',rfl,hel,e0,e1,e2,e3,e4⟩:=elem_open H6.out HB.out hlt (H7.out j hlt);have HEL:=hide hel;have HWX:Hid (V.wt ls[j]≤4294967296):=hide (Nat.le_trans (V.wtL_mem (List.getElem_mem hlt)) HLS.out);have HRX:Hid (V.right ls[j]=true):=hide (HOK.out _ (List.getElem_mem hlt));have HPX:=hide hPX;clear hsa
      by_cases hj0:j=0
      · have hSX:SA=SX:=by rw [HSX.out,hSA,hj0];simp [com,comOf]
        have hc0:¬ (0:Int) < (j:Int):=by omega
        subst hSX;clear hj0;clear hsz hcl0 hle hcl hrw hSA hPX hpx hel
        go_wp2_with fail
        refine (ih _ _ _ S HEL.out HRX.out HWX.out HPL.out).mono ?_;rintro e w9 ⟨rfl,b9⟩;have HB9:=hide (bthen HB.out b9);have HBX9:=hide (HBX.out.keep b9);rw [← HPX.out];clear b9 x0 x1 x2 x3 x4 e0 e1 e2 e3 e4
        go_wp2_with fail
        go_roundg (gk - 1)
        case measure=>omega
        case rel=>exact ⟨j+1,_,by omega,rfl,rfl,HRES.out,HB9.out,HBX9.out⟩
      · have hc0:(0:Int) < (j:Int):=by omega
        have hcm0:¬ 9223372036854775807 < SX.size+1:=by omega
        have hSX:SX ++ (⟨#[44]⟩:ByteArray)=SA:=by rw [HSX.out,hSA];unfold comOf;rw [if_neg hj0];exact cat_str _ [44]
        have HSA2:=hide hSX;clear hSX;clear hsz hcl0 hle hcl hrw hSA hPX hpx hel
        go_upto_region 18 with fail
        rw [HSA2.out]
        go_wp2_with fail
        refine (ih _ _ _ S HEL.out HRX.out HWX.out HPL.out).mono ?_;rintro e w9 ⟨rfl,b9⟩;have HB9:=hide (bthen HB.out b9);have HBX9:=hide (HBX.out.keep b9);rw [← HPX.out];clear b9 x0 x1 x2 x3 x4 e0 e1 e2 e3 e4
        go_wp2_with fail
        go_roundg (gk - 1)
        case measure=>omega
        case rel=>exact ⟨j+1,_,by omega,rfl,rfl,HRES.out,HB9.out,HBX9.out⟩
    · have hje:j=ls.length:=by omega
      have hres:(⟨#[91]⟩:ByteArray) ++ SX ++ (⟨#[93]⟩:ByteArray)=⟨(91 :: (com rows ls.length ++ [93])).toArray⟩:=by
        rw [HSX.out,hje,show (⟨#[91]⟩:ByteArray)=⟨([91]:List UInt8).toArray⟩ from rfl,show (⟨#[93]⟩:ByteArray)=⟨([93]:List UInt8).toArray⟩ from rfl,cat_str,cat_str];rfl
      have HRS:=hide hres;have hc1:¬ 9223372036854775807 < 1+SX.size:=by omega
      have hc2:¬ 9223372036854775807 < 1+SX.size+1:=by omega
      clear hsz hcl0 hle hres
      go_wp2_with fail
      rw [HRS.out];go_ret
      exact ⟨rfl,HB.out⟩
set_option maxHeartbeats 2000000 in
theorem refP_obj (d:Nat) (ih:PrAt d) (n:Int) (t:ByteArray) (a1:Option Addr) (n1 c1:Nat) (a:Option Addr) (cap:Nat) (c:Nat→Value) (ls:List V) (w:World) (S:Nat→Prop) (ks:List ByteArray) (hks:Strs w S (.slice a1 ls.length c1) ks) (hkl:ks.length=ls.length) (hkz:V.wtK ks≤4294967296) (h6:Cells w S a (ls.length * 5) c) (h7:∀ i (h:i < ls.length),IsD w S d (elemV c i) ls[i]) (hok:∀ x ∈ ls,V.right x=true) (hls:V.wtL ls≤4294967296) (hcap:ls.length≤cap) (hcm:cap≤maxLen)
    (rows:Nat→List UInt8) (hrows:∀ i (h:i < ls.length),rows i=Gm.quote (ks.getD i ByteArray.empty).data.toList ++ 58 :: Cn.print ls[i]) (hlen:(com rows ls.length).length≤1099511627770) :
    Calls Tryz.prog 31 #[.agg #[.int .i64 5,.int .i64 n,.string t,.slice a1 ls.length c1,.slice a ls.length cap]] w fun e w'=>e=.returned (.string ⟨(123 :: (com rows ls.length ++ [125])).toArray⟩)∧Below w.heap.size w w':=by
  have hlsl:ls.length≤4294967296:=Nat.le_trans (V.wtL_len ls) hls;have H6:=hide h6;have H7:=hide h7;have HR:=hide hrows;have HOK:=hide hok;have HLS:=hide hls;have HLEN:=hide hlen;clear h6 h7 hrows hok hls hlen;obtain ⟨hn1,hkc1,hkm1,_,hkcell⟩:=hks.out;have HKC:=hide hkcell;have HKZ:=hide hkz;have HKL:=hide hkl;clear hks hkcell hkz hn1 hkl;go_enter Tryz.func31,Tryz.ntmps31
  go_wp2_with fail
  go_loopg [3,4] ls.length (fun g sv i wr=>∃ (j:Nat) (SX:ByteArray),j+g=ls.length∧i=.int .i64 j∧sv=.string SX∧Hid (SX=⟨(com rows j).toArray⟩)∧Hid (Below w.heap.size w wr)∧Hid (Box5 wr w.heap.size (.int .i64 5) (.int .i64 n) (.string t) (.slice a1 ls.length c1) (.slice a ls.length cap)))
  case atStart=>exact ⟨0,⟨#[]⟩,by omega,rfl,rfl,rfl,below_alloc _ _,box5_new w _ _ _ _ _ _⟩
  case round =>
    obtain ⟨j,SX,hj,rfl,rfl,HSX,HB,HBX⟩:=hrel;obtain ⟨x0,x1,x2,x3,x4⟩:=id HBX.out;have hsz:SX.size=(com rows j).length:=by rw [HSX.out,size_str]
    have hcl0:=com_le rows j ls.length (by omega);have hle:=HLEN.out
    by_cases hlt:j < ls.length
    · have hcl:=com_le rows (j+1) ls.length (by omega)
      simp only [com,List.length_append] at hcl;have hrw:=HR.out j hlt;rw [hrw] at hcl;obtain ⟨kb,ko,KK,hka,hKK,ek⟩:=str_at' (w:=w) (a:=a1) (by exact HKC.out) HB.out (i:=j) (by rw [HKL.out];exact hlt);subst hka;have hkk:=hKK.out;have hkz1:KK.size≤4294967296:=by rw [hkk];exact getD_wt HKZ.out (by rw [HKL.out];exact hlt)
      obtain ⟨QK,hQK⟩:∃ QK:ByteArray,QK=⟨(Gm.quote KK.data.toList).toArray⟩:=⟨_,rfl⟩;have hqk:QK.size=(Gm.quote (ks.getD j ByteArray.empty).data.toList).length:=by rw [hQK,size_str,hkk]
      have HQK:=hide hQK;rw [List.length_append,List.length_cons] at hcl;obtain ⟨SA,hSA⟩:∃ SA:ByteArray,SA=⟨(com rows j ++ comOf j).toArray⟩:=⟨_,rfl⟩;obtain ⟨PX,hPX⟩:∃ PX:ByteArray,PX=⟨(Cn.print ls[j]).toArray⟩:=⟨_,rfl⟩;have hsa:SA.size=(com rows j).length+(comOf j).length:=by rw [hSA,size_str,List.length_append]
      have hpx:PX.size=(Cn.print ls[j]).length:=by rw [hPX,size_str]
      have HRES:Hid (SA ++ QK ++ (⟨#[58]⟩:ByteArray) ++ PX=⟨(com rows (j+1)).toArray⟩):=hide (by rw [hSA,hPX,hQK,cat_str,show (⟨#[58]⟩:ByteArray)=⟨([58]:List UInt8).toArray⟩ from rfl,cat_str,cat_str];simp only [com];rw [hrw,hkk];simp);have HPL:Hid ((Cn.print ls[j]).length≤1099511627770):=hide (by omega);have hcat:¬ 9223372036854775807 < SA.size+QK.size+1+PX.size:=by omega
      have hsb:SA.size≤1099511627776:=by omega
      have hqb:QK.size≤1099511627776:=by omega
      obtain ⟨b,off,k',n',t',a1',n1',c1',a2',n2',c2',rfl,hel,e0,e1,e2,e3,e4⟩:=elem_open H6.out HB.out hlt (H7.out j hlt);have HEL:=hide hel;have HWX:Hid (V.wt ls[j]≤4294967296):=hide (Nat.le_trans (V.wtL_mem (List.getElem_mem hlt)) HLS.out);have HRX:Hid (V.right ls[j]=true):=hide (HOK.out _ (List.getElem_mem hlt));have HPX:=hide hPX;have HE5:Hid (Cell5 wr b (off+j * 5) (.int .i64 k') (.int .i64 n') (.string t') (.slice a1' n1' c1') (.slice a2' n2' c2')):=hide ⟨e0,e1,e2,e3,e4⟩;clear hqk hQK;clear hsa
      by_cases hj0:j=0
      · have hSX:SA=SX:=by rw [HSX.out,hSA,hj0];simp [com,comOf]
        have hc0:¬ (0:Int) < (j:Int):=by omega
        subst hSX;clear hj0;clear hsz hcl0 hle hcl hrw hSA hPX hpx hel hkk;have hik:(j:Int) < (ls.length:Int):=by omega
        go_wp2_with fail
        refine (refQuote_any KK _ (by omega)).mono ?_;rintro e w8 ⟨rfl,b8⟩;have HB8:=hide (bthen HB.out b8);have HBX8:=hide (HBX.out.keep b8);obtain ⟨f0,f1,f2,f3,f4⟩:=HE5.out.keep b8;have HEL8:=hide (HEL.out.keep (Keeps.of_below b8));clear x0 x1 x2 x3 x4 e0 e1 e2 e3 e4 ek b8;obtain ⟨x0,x1,x2,x3,x4⟩:=id HBX8.out;rw [← HQK.out];have hq1:¬ 9223372036854775807 < SA.size+QK.size:=by omega
        have hq2:¬ 9223372036854775807 < SA.size+QK.size+1:=by omega
        go_wp2_with fail
        refine (ih _ _ _ S HEL8.out HRX.out HWX.out HPL.out).mono ?_;rintro e w9 ⟨rfl,b9⟩;have HB9:=hide (bthen HB8.out b9);have HBX9:=hide (HBX8.out.keep b9);rw [← HPX.out];clear b9 x0 x1 x2 x3 x4 f0 f1 f2 f3 f4
        go_wp2_with fail
        go_roundg (gk - 1)
        case measure=>omega
        case rel=>exact ⟨j+1,_,by omega,rfl,rfl,HRES.out,HB9.out,HBX9.out⟩
      · have hc0:(0:Int) < (j:Int):=by omega
        have hcm0:¬ 9223372036854775807 < SX.size+1:=by omega
        have hSX:SX ++ (⟨#[44]⟩:ByteArray)=SA:=by rw [HSX.out,hSA];unfold comOf;rw [if_neg hj0];exact cat_str _ [44]
        have HSA2:=hide hSX;clear hSX;clear hsz hcl0 hle hcl hrw hSA hPX hpx hel hkk
        go_upto_region 18 with fail
        rw [HSA2.out];have hik:(j:Int) < (ls.length:Int):=by omega
        go_wp2_with fail
        refine (refQuote_any KK _ (by omega)).mono ?_;rintro e w8 ⟨rfl,b8⟩;have HB8:=hide (bthen HB.out b8);have HBX8:=hide (HBX.out.keep b8);obtain ⟨f0,f1,f2,f3,f4⟩:=HE5.out.keep b8;have HEL8:=hide (HEL.out.keep (Keeps.of_below b8));clear x0 x1 x2 x3 x4 e0 e1 e2 e3 e4 ek b8;obtain ⟨x0,x1,x2,x3,x4⟩:=id HBX8.out;rw [← HQK.out];have hq1:¬ 9223372036854775807 < SA.size+QK.size:=by omega
        have hq2:¬ 9223372036854775807 < SA.size+QK.size+1:=by omega
        go_wp2_with fail
        refine (ih _ _ _ S HEL8.out HRX.out HWX.out HPL.out).mono ?_;rintro e w9 ⟨rfl,b9⟩;have HB9:=hide (bthen HB8.out b9);have HBX9:=hide (HBX8.out.keep b9);rw [← HPX.out];clear b9 x0 x1 x2 x3 x4 f0 f1 f2 f3 f4
        go_wp2_with fail
        go_roundg (gk - 1)
        case measure=>omega
        case rel=>exact ⟨j+1,_,by omega,rfl,rfl,HRES.out,HB9.out,HBX9.out⟩
    · have hje:j=ls.length:=by omega
      have hres:(⟨#[123]⟩:ByteArray) ++ SX ++ (⟨#[125]⟩:ByteArray)=⟨(123 :: (com rows ls.length ++ [125])).toArray⟩:=by
        rw [HSX.out,hje,show (⟨#[123]⟩:ByteArray)=⟨([123]:List UInt8).toArray⟩ from rfl,show (⟨#[125]⟩:ByteArray)=⟨([125]:List UInt8).toArray⟩ from rfl,cat_str,cat_str];rfl
      have HRS:=hide hres;have hc1:¬ 9223372036854775807 < 1+SX.size:=by omega
      have hc2:¬ 9223372036854775807 < 1+SX.size+1:=by omega
      clear hsz hcl0 hle hres
      go_wp2_with fail
      rw [HRS.out];go_ret
      exact ⟨rfl,HB.out⟩
end Go.Proofs.YtapcmbbhhclepaaGreatDoor
namespace Go.Proofs.YtapcmbbhhclepaaGreatDoor
open Go.RowKit
set_option maxHeartbeats 1000000 in
theorem refP_nul (n:Int) (t:ByteArray) (a1:Option Addr) (n1 c1:Nat) (a2:Option Addr) (n2 c2:Nat) (w:World) :
    Calls Tryz.prog 31 #[.agg #[.int .i64 0,.int .i64 n,.string t,.slice a1 n1 c1,.slice a2 n2 c2]] w fun e w'=>e=.returned (.string ⟨Cn.nullW.toArray⟩)∧Below w.heap.size w w':=by
  go_enter Tryz.func31,Tryz.ntmps31
  go_wp2_with fail
  go_ret
  exact ⟨rfl,below_alloc _ _⟩
set_option maxHeartbeats 1000000 in
theorem refP_truth (n:Int) (t:ByteArray) (a1:Option Addr) (n1 c1:Nat) (a2:Option Addr) (n2 c2:Nat) (w:World) (q:Bool) (hq:(n == 1)=q) :
    Calls Tryz.prog 31 #[.agg #[.int .i64 1,.int .i64 n,.string t,.slice a1 n1 c1,.slice a2 n2 c2]] w fun e w'=>e=.returned (.string ⟨(if q then Cn.trueW else Cn.falseW).toArray⟩)∧Below w.heap.size w w':=by
  cases q with
  | true =>
    go_enter Tryz.func31,Tryz.ntmps31
    go_wp2_with fail
    go_ret
    exact ⟨rfl,below_alloc _ _⟩
  | false =>
    go_enter Tryz.func31,Tryz.ntmps31
    go_wp2_with fail
    go_ret
    exact ⟨rfl,below_alloc _ _⟩
set_option maxHeartbeats 1000000 in
theorem refP_num (n:Int) (h1:-9007199254740991≤n) (h2:n≤9007199254740991) (t:ByteArray) (a1:Option Addr) (n1 c1:Nat) (a2:Option Addr) (n2 c2:Nat) (w:World) :
    Calls Tryz.prog 31 #[.agg #[.int .i64 2,.int .i64 n,.string t,.slice a1 n1 c1,.slice a2 n2 c2]] w fun e w'=>e=.returned (.string ⟨(Cn.digits n).toArray⟩)∧Below w.heap.size w w':=by
  obtain ⟨R,hR⟩:∃ R:ByteArray,R=⟨(Cn.digits n).toArray⟩:=⟨_,rfl⟩;have HR:=hide hR;have hn:=refDigits_any n h1 h2;rw [← hR] at hn ⊢;clear hR h1 h2;go_enter Tryz.func31,Tryz.ntmps31
  go_wp2_with fail
  refine (hn _).mono ?_;rintro e w1 ⟨rfl,b1⟩
  go_wp2_with fail
  go_ret
  exact ⟨rfl,bthen (below_alloc _ _) b1⟩
set_option maxHeartbeats 1000000 in
theorem refP_str (n:Int) (t:ByteArray) (ht:t.size≤17592186044416) (a1:Option Addr) (n1 c1:Nat) (a2:Option Addr) (n2 c2:Nat) (w:World) :
    Calls Tryz.prog 31 #[.agg #[.int .i64 3,.int .i64 n,.string t,.slice a1 n1 c1,.slice a2 n2 c2]] w fun e w'=>e=.returned (.string ⟨(Gm.quote t.data.toList).toArray⟩)∧Below w.heap.size w w':=by
  obtain ⟨R,hR⟩:∃ R:ByteArray,R=⟨(Gm.quote t.data.toList).toArray⟩:=⟨_,rfl⟩;have hn:=fun w=>refQuote_any t w ht
  rw [← hR] at hn ⊢;clear hR;go_enter Tryz.func31,Tryz.ntmps31
  go_wp2_with fail
  refine (hn _).mono ?_;rintro e w1 ⟨rfl,b1⟩
  go_wp2_with fail
  go_ret
  exact ⟨rfl,bthen (below_alloc _ _) b1⟩
theorem refPrintD:∀ d,PrAt d:=by
  intro d
  induction d with
  | zero=>intro v x w S h;exact h.elim
  | succ d ih =>
    intro v x w S h hr hwt hlen;obtain ⟨kv,a,cap,c,rfl,hk,h3,h4,h5,h6,h7⟩:=h;obtain ⟨a1,c1,rfl,_⟩:=id hk;rcases Cn.right_cases hr with rfl | ⟨q,rfl⟩ | ⟨n,rfl,hn0,hn1⟩ | ⟨s,rfl,_⟩ | ⟨ls,rfl,hall⟩ | ⟨ks,ls,rfl,_,hkl,hall⟩
    · rw [Cn.print_nul]
      exact refP_nul 0 _ _ _ _ _ _ _ w
    · rw [Cn.print_truth]
      cases q with
      | true=>exact refP_truth 1 _ _ _ _ _ _ _ w true rfl
      | false=>exact refP_truth 0 _ _ _ _ _ _ _ w false rfl
    · rw [Cn.print_num]
      exact refP_num n hn0 hn1 _ _ _ _ _ _ _ w
    · rw [Cn.print_str]
      have hs:s.size≤4294967296:=by
        have:=hwt
        unfold V.str at this;rw [V.wt_mk] at this;omega
      exact refP_str 0 s (by omega) _ _ _ _ _ _ w
    · rw [Cn.print_list] at hlen ⊢
      have hwl:V.wtL ls≤4294967296:=by
        have:=hwt
        unfold Cn.listV at this;rw [V.wt_mk] at this;omega
      have hj:com (fun i=>(ls.map Cn.print).getD i []) ls.length=Cn.joined (ls.map Cn.print):=com_all _ _ (by simp);rw [← hj] at hlen ⊢;refine refP_list d ih 0 ⟨#[]⟩ a1 0 c1 a cap c ls w S h6 h7 (fun x hx=>List.all_eq_true.1 hall x hx) hwl h3 h4 (fun i=>(ls.map Cn.print).getD i []) (fun i hi=>?_) (by simp only [List.length_cons,List.length_append] at hlen;omega);rw [List.getD_eq_getElem?_getD,List.getElem?_eq_getElem (by simpa using hi),Option.getD_some,List.getElem_map]
    · rw [Cn.print_obj] at hlen ⊢
      rw [V.wt_mk] at hwt;have hj:com (fun i=>((ks.zip (ls.map Cn.print)).map (fun p=>Gm.quote p.1.data.toList ++ 58 :: p.2)).getD i []) ls.length=Cn.joined ((ks.zip (ls.map Cn.print)).map (fun p=>Gm.quote p.1.data.toList ++ 58 :: p.2)):=com_all _ _ (by simp;omega);rw [← hj] at hlen ⊢;have hks:Strs w S (.slice a1 ls.length c1) ks:=by rw [← hkl];exact hk
      have:=refP_obj d ih 0 ⟨#[]⟩ a1 0 c1 a cap c ls w S ks hks hkl (by omega) h6 h7 (fun x hx=>List.all_eq_true.1 hall x hx) (by omega) h3 h4 (fun i=>((ks.zip (ls.map Cn.print)).map (fun p=>Gm.quote p.1.data.toList ++ 58 :: p.2)).getD i []) (fun i hi=>zip_row ks ls i hi (by omega)) (by simp only [List.length_cons,List.length_append] at hlen;omega)
      simp only at hkl ⊢;rw [hkl];exact this
theorem refPrint_any {v:Value} {x:V} {w:World} {S:Nat→Prop} (h:Is w S v x) (hr:V.right x=true) (hwt:V.wt x≤4294967296) (hlen:(Cn.print x).length≤1099511627770) :
    Calls Tryz.prog 31 #[v] w fun e w'=>e=.returned (.string ⟨(Cn.print x).toArray⟩)∧Below w.heap.size w w':=by
  obtain ⟨d,h⟩:=h;exact refPrintD d v x w S h hr hwt (by omega)
end Go.Proofs.YtapcmbbhhclepaaGreatDoor
namespace Go.Proofs.YtapcmbbhhclepaaGreatDoor
open Go.RowKit
theorem sgn_ascii (n:Int):(Dig.Sl.sgn n).toNat < 128:=by
  unfold Dig.Sl.sgn;cases h:Dig.Sl.signs[n.toNat]? with
  | none=>simp
  | some c =>
    have h1:=List.mem_of_getElem? h;have hall:Dig.Sl.signs.all (fun c=>decide (c.toNat < 128))=true:=by kernel_rfl
    simpa using List.all_eq_true.1 hall c h1
namespace Xr
theorem utf_sumText (l:List UInt8):V.utf (sumText l)=true:=by
  unfold V.utf sumText;rw [decide_eq_true_eq,Gm.checkZ_neg,toList_str];refine Cn.clean_ascii (fun c hc=>?_);unfold Dig.Sl.text at hc;obtain ⟨n,_,rfl⟩:=List.mem_map.1 hc;exact sgn_ascii n
theorem utf_hash (x:V):V.utf (hash x)=true:=utf_sumText _
theorem hash_congr {a b:V} (h:rest a=rest b):hash a=hash b:=by unfold hash;rw [h]
theorem sealed_right' {x:V} (h:V.right x=true) (h5:x.kind=5):V.right (sealed x)=true∧(sealed x).kind=5:=sealed_right h h5 (utf_hash x)
theorem hash_sealed {x:V} (h:V.right x=true) (h5:x.kind=5):hash (sealed x)=hash x:=hash_congr (rest_sealed h h5 (utf_hash x))
theorem told_str (x:V) (h:ByteArray) (ht:told x=V.str h):hashed x=(h.toList == (hash x).toList):=by
  unfold hashed;rw [ht];simp [V.str]
theorem hashed_sealed {x:V} (h:V.right x=true) (h5:x.kind=5):hashed (sealed x)=true:=by
  have e:=told_str _ _ (told_sealed h h5 (utf_hash x));have e2:=hash_sealed h h5;unfold sealed at e2 ⊢;rw [e,e2];simp
theorem cost_sumV (h:ByteArray) (hz:h.size≤43):cost (sumV h)≤400:=by
  unfold sumV V.str;rw [cost_mk,costL_cons,cost_mk];have e1:kSum.size=6:=rfl;have e2:(⟨#[]⟩:ByteArray).size=0:=rfl;simp only [costK,costL_nil,e1,e2];omega
theorem wt_sumV (h:ByteArray) (hz:h.size≤43):V.wt (sumV h)≤100:=by
  unfold sumV V.str;rw [V.wt_mk,V.wtL_cons,V.wt_mk];have e1:kSum.size=6:=rfl;have e2:(⟨#[]⟩:ByteArray).size=0:=rfl;simp only [V.wtK,V.wtL_nil,e1,e2];omega
theorem cost_sealed (x:V):cost (sealed x)≤cost x+500:=by
  have h1:=cost_with x kHashes (sumV (hash x));have h2:=cost_sumV _ (hash_size x);have e:kHashes.size=6:=rfl;unfold sealed sealedBy;omega
theorem wt_sealed (x:V):V.wt (sealed x)≤2 * V.wt x+200:=by
  have h1:=V.wt_withV x kHashes (sumV (hash x));have h2:=wt_sumV _ (hash_size x);have e:kHashes.size=6:=rfl;unfold sealed sealedBy;omega
theorem knV_right:V.right knV=true:=by
  unfold knV knC V.str V.numV;simp only [V.right_mk,List.all_cons,List.all_nil];kernel_rfl
theorem knV_wt:V.wt knV=51:=by
  unfold knV knC V.str V.numV;simp only [V.wt_mk,V.wtL_cons,V.wtL_nil,V.wtK];kernel_rfl
theorem knV_cost:cost knV=399:=by
  unfold knV knC V.str V.numV;simp only [cost_mk,costL_cons,costL_nil,costK];kernel_rfl
theorem knV_hashed:hashed knV=false:=by
  have e:told knV=V.nul:=by kernel_rfl
  unfold hashed;rw [e];rfl
theorem knV_redact:redact knV=⟨5,0,⟨#[]⟩,[kContent,kType],[⟨5,0,⟨#[]⟩,[⟨#[109,101,109,98,101,114,115,104,105,112]⟩],[V.str ⟨#[106,111,105,110]⟩]⟩,V.str kMember]⟩:=by kernel_rfl
theorem knV_print:Cn.print (redact knV)=[123,34,99,111,110,116,101,110,116,34,58,123,34,109,101,109,98,101,114,115,104,105,112,34,58,34,106,111,105,110,34,125,44,34,116,121,112,101,34,58,34,109,46,114,111,111,109,46,109,101,109,98,101,114,34,125]:=by
  rw [knV_redact];simp only [Cn.print_obj,List.map_cons,List.map_nil,Cn.print_str];kernel_rfl
end Xr
set_option maxHeartbeats 4000000 in
theorem xknown_any (w:World) (hT:Tabs w) :
    Calls Tryz.prog 10 #[] w fun e w'=>e=.returned (.bool true)∧Below w.heap.size w w':=by
  have HT:=hide hT;clear hT;go_enter Tryz.func10,Tryz.ntmps10
  go_wp2_with fail
  refine (parseK _ w (by kernel_rfl)).mono ?_;rintro e w1 ⟨⟨k,m,t,s1,n1,c1,s2,n2,c2,rfl,his⟩,b1⟩;have b12:=below_alloc w1 (.cells #[.int .i64 k,.int .i64 m,.string t,.slice s1 n1 c1,.slice s2 n2 c2] 27);have I2:=hide (his.below b12);have L2:=hide (bthen b1 b12);have T2:=hide (HT.out.below (bthen b1 b12));have X2:=hide (b5_new w1 (.int .i64 k) (.int .i64 m) (.string t) (.slice s1 n1 c1) (.slice s2 n2 c2) _ rfl);clear b1 b12 his
  go_upto_region 2 with fail
  generalize w1.alloc (.cells #[.int .i64 k,.int .i64 m,.string t,.slice s1 n1 c1,.slice s2 n2 c2] 27)=w2 at I2 L2 T2 X2 ⊢;generalize w1.heap.size=g1 at X2 I2 ⊢;obtain ⟨p0,p1,p2,p3,p4⟩:=X2.out.cells
  go_wp2_with fail
  clear p0 p1 p2 p3 p4;refine (redact_any I2.out (by rw [Xr.knV_wt];decide)).mono ?_;rintro e w3 ⟨k3,m3,t3,s3,n3,c3,s4,n4,c4,rfl,h3,b3⟩;have I3:=hide h3;have L3:=hide (bthen L2.out b3);have T3:=hide (T2.out.below b3);have X3:=hide (X2.out.keep b3);have J3:=hide (I2.out.below b3);clear h3 b3
  go_wp2_with fail
  have hpr:=Xr.knV_print;refine (refPrint_any I3.out (Xr.redact_right Xr.knV_right) (by have:=Xr.wt_redact Xr.knV;rw [Xr.knV_wt] at this;omega) (by rw [hpr];decide)).mono ?_;rintro e w4 ⟨rfl,b4⟩
  have hp2:((⟨(Cn.print (Xr.redact Xr.knV)).toArray⟩:ByteArray).toList == [123,34,99,111,110,116,101,110,116,34,58,123,34,109,101,109,98,101,114,115,104,105,112,34,58,34,106,111,105,110,34,125,44,34,116,121,112,101,34,58,34,109,46,114,111,111,109,46,109,101,109,98,101,114,34,125])=true:=by
    rw [Lib.toList_data,Xr.toList_str,hpr];rfl
  clear hpr;generalize (⟨(Cn.print (Xr.redact Xr.knV)).toArray⟩:ByteArray)=P at hp2 ⊢;have L4:=hide (bthen L3.out b4);have T4:=hide (T3.out.below b4);have X4:=hide (X3.out.keep b4);have J4:=hide (J3.out.below b4);clear b4
  go_wp2_with fail
  clear hp2;refine (Kept_any _ _ w4 (by decide)).mono ?_;rintro e w5 ⟨rfl,b5⟩;rw [show keptB _ _=true from by kernel_rfl];have L5:=hide (bthen L4.out b5);have T5:=hide (T4.out.below b5);have X5:=hide (X4.out.keep b5);have J5:=hide (J4.out.below b5);clear b5;obtain ⟨p0,p1,p2,p3,p4⟩:=X5.out.cells
  go_wp2_with fail
  clear p0 p1 p2 p3 p4;refine (hashed_any J5.out Xr.knV_right (by rw [Xr.knV_wt];decide) (by rw [Xr.knV_cost];decide) T5.out).mono ?_;rintro e w6 ⟨rfl,b6⟩;rw [Xr.knV_hashed];have L6:=hide (bthen L5.out b6);have T6:=hide (T5.out.below b6);have X6:=hide (X5.out.keep b6);have J6:=hide (J5.out.below b6);clear b6;obtain ⟨p0,p1,p2,p3,p4⟩:=X6.out.cells
  go_wp2_with fail
  clear p0 p1 p2 p3 p4;refine (sealed_any J6.out Xr.knV_right (by rw [Xr.knV_wt];decide) (by rw [Xr.knV_cost];decide) T6.out).mono ?_;rintro e w7 ⟨k7,m7,t7,s7,n7,c7,s8,n8,c8,rfl,h7,b7⟩;have I7:=hide h7;have L7:=hide (bthen L6.out b7);have T7:=hide (T6.out.below b7);clear h7 b7
  go_wp2_with fail
  refine (hashed_any I7.out (Xr.sealed_right' Xr.knV_right rfl).1 (by have:=Xr.wt_sealed Xr.knV;rw [Xr.knV_wt] at this;omega) (by have:=Xr.cost_sealed Xr.knV;rw [Xr.knV_cost] at this;omega) T7.out).mono ?_;rintro e w8 ⟨rfl,b8⟩;rw [Xr.hashed_sealed Xr.knV_right rfl]
  go_wp2_with fail
  go_ret
  exact ⟨rfl,bthen L7.out b8⟩
end Go.Proofs.YtapcmbbhhclepaaGreatDoor
namespace Go.Proofs.YtapcmbbhhclepaaGreatDoor
open Go.RowKit
@[go_sem] theorem field0 (W:World) (k:Int) (c1 c2 c3 c4:Value):(Instr.field 27 (.agg #[.int .i64 k,c1,c2,c3,c4]) 0).run Tryz.prog W=.ok (.int .i64 k) W:=by
  simp [Instr.field,run_underlying Tryz.underlying27,part,asAgg,go_sem]
@[go_sem] theorem field1 (W:World) (k:Int) (c0 c2 c3 c4:Value):(Instr.field 27 (.agg #[c0,.int .i64 k,c2,c3,c4]) 1).run Tryz.prog W=.ok (.int .i64 k) W:=by
  simp [Instr.field,run_underlying Tryz.underlying27,part,asAgg,go_sem]
@[go_sem] theorem field2 (W:World) (s:ByteArray) (c0 c1 c3 c4:Value):(Instr.field 27 (.agg #[c0,c1,.string s,c3,c4]) 2).run Tryz.prog W=.ok (.string s) W:=by
  simp [Instr.field,run_underlying Tryz.underlying27,part,asAgg,go_sem]
@[go_sem] theorem field3 (W:World) (a:Option Addr) (n c:Nat) (c0 c1 c2 c4:Value):(Instr.field 27 (.agg #[c0,c1,c2,.slice a n c,c4]) 3).run Tryz.prog W=.ok (.slice a n c) W:=by
  simp [Instr.field,run_underlying Tryz.underlying27,part,asAgg,go_sem]
@[go_sem] theorem field4 (W:World) (a:Option Addr) (n c:Nat) (c0 c1 c2 c3:Value):(Instr.field 27 (.agg #[c0,c1,c2,c3,.slice a n c]) 4).run Tryz.prog W=.ok (.slice a n c) W:=by
  simp [Instr.field,run_underlying Tryz.underlying27,part,asAgg,go_sem]
end Go.Proofs.YtapcmbbhhclepaaGreatDoor
namespace Go.Proofs.YtapcmbbhhclepaaGreatDoor
open Go.RowKit
theorem Is.parts {w:World} {S:Nat→Prop} {k n:Int} {t:ByteArray} {a1:Option Addr} {n1 c1:Nat} {a2:Option Addr} {n2 c2:Nat} {x:V} (h:Is w S (.agg #[.int .i64 k,.int .i64 n,.string t,.slice a1 n1 c1,.slice a2 n2 c2]) x) :
    k=x.kind∧n=x.num∧t=x.text∧n1=x.keys.length∧n2=x.list.length:=by
  obtain ⟨kv,lv,q,⟨_,_,rfl,_⟩,⟨_,_,_,rfl,_⟩,_⟩:=h.open;simp only [Value.agg.injEq,Array.mk.injEq,List.cons.injEq,and_true,Value.int.injEq,Value.string.injEq,Value.slice.injEq,true_and] at q;obtain ⟨q0,q1,q2,⟨_,q3,_⟩,_,q4,_⟩:=q;exact ⟨q0,q1,q2,q3,q4⟩
theorem V.textOk_nil (k:Int):V.textOk k ⟨#[]⟩=true:=by unfold V.textOk;rw [Lib.toList_data];rfl
theorem V.right_bare (k n:Int) (h0:0≤k) (h5:k≤5):V.right ⟨k,n,⟨#[]⟩,[],[]⟩=V.numOk k n:=by
  rw [V.right_mk];have e1:V.kindOk k=true:=by simp [V.kindOk,h0,h5]
  have e2:=V.textOk_nil k;have e3:V.keysOk k [] ([]:List V).length=true:=by simp [V.keysOk,V.rises,V.risesTo]
  rw [e1,e2,e3];simp
end Go.Proofs.YtapcmbbhhclepaaGreatDoor
namespace Go.Proofs.YtapcmbbhhclepaaGreatDoor
open Go.RowKit
namespace Xr
theorem redact_no5 {x:V} (h:x.kind≠5):redact x=V.nul:=by unfold redact;rw [if_neg h]
end Xr
end Go.Proofs.YtapcmbbhhclepaaGreatDoor
namespace Go.Proofs.YtapcmbbhhclepaaGreatDoor
open Go.RowKit Go.Sort
set_option maxHeartbeats 1000000 in
set_option maxRecDepth 100000 in
theorem refKeys_any {a1:Option Addr} {n1 c1:Nat} {ks:List ByteArray} {w:World} {S:Nat→Prop} (h:Strs w S (.slice a1 n1 c1) ks) (hl:ks.length≤4294967296) (r:Bool) (hr:V.rises ks=r) :
    Calls Tryz.prog 52 #[.slice a1 n1 c1] w fun e w'=>e=.returned (.bool r)∧Below w.heap.size w w':=by
  obtain ⟨rfl,hc1,hc2,hsz,hcell⟩:=h.out;subst hr;have HS:=hide hsz;have HC:=hide hcell;clear hsz hcell h hc1 hc2;go_enter Tryz.func52,Tryz.ntmps52
  go_wp2_with fail
  go_loopg [3] ks.length (fun g i wr=>∃ j:Nat,j+g=ks.length∧i=.int .i64 j∧Hid (V.risesTo ks j=true)∧Below w.heap.size w wr)
  case atStart=>exact ⟨0,by omega,rfl,rfl,Below.refl _ _⟩
  case round =>
    obtain ⟨j,hj,rfl,HR,bj⟩:=hrel
    by_cases hlt:j < ks.length
    · obtain ⟨b,off,K,rfl,hK,ej⟩:=str_at' HC.out bj hlt
      have zj:=getD_size HS.out j;rw [← hK.out] at zj;cases hu:V.utf K with
      | false =>
        have hz:(0:Int)≤Gm.checkZ K.data.toList:=by simpa [V.utf] using hu
        obtain ⟨z,hz'⟩:∃ z,Gm.checkZ K.data.toList=z:=⟨_,rfl⟩;rw [hz'] at hz;have HU:=hide hu;have HZ:=hide hz';clear hu hz'
        go_wp2_with fail
        have k1:=cell_regrown ej;have hz2:decide (0≤z)=true:=decide_eq_true hz;have cQ:∀ d os,Calls Tryz.prog 51 #[.string K] (grow (redrawn wr d) os) fun e w''=>e=.returned (.int .i64 z)∧∃ p:Regrown,w''=grow (redrawn wr p.d) p.os:=fun d os=>Calls.regrown_of (refCheck_is _ _ _ zj HZ.out)
        refine wp_region_quiet_below (by kernel_rfl) (by kernel_rfl) ?_
        repeat (go_big_quiet_step (exact cQ _ _))
        refine wpQuiet_nil ?_;intro _ hw';obtain ⟨⟨dq,osq⟩,rfl⟩:=hw';have b1:=below_regrown wr dq osq;generalize grow (redrawn wr dq) osq=w1 at *;clear k1 cQ
        go_wp2
        go_ret
        refine ⟨?_,bthen bj b1⟩;have q1:V.keyOk ks j=false:=by simp only [V.keyOk,← hK.out,HU.out,Bool.false_and]
        have q2:V.risesTo ks (j+1)=false:=by simp only [V.risesTo,q1,Bool.and_false]
        have q3:=V.risesTo_mono q2 (m:=ks.length) (by omega);simp [V.rises,q3]
      | true =>
        have hz:Gm.checkZ K.data.toList < 0:=by simpa [V.utf] using hu
        obtain ⟨z,hz'⟩:∃ z,Gm.checkZ K.data.toList=z:=⟨_,rfl⟩;rw [hz'] at hz;have hz2:decide (0≤z)=false:=decide_eq_false (by omega);have HU:=hide hu;have HZ:=hide hz';have k1:=cell_regrown ej;have cQ:∀ d os,Calls Tryz.prog 51 #[.string K] (grow (redrawn wr d) os) fun e w''=>e=.returned (.int .i64 z)∧∃ p:Regrown,w''=grow (redrawn wr p.d) p.os:=fun d os=>Calls.regrown_of (refCheck_is _ _ _ zj HZ.out)
        clear hu hz' hz
        by_cases hj0:j=0
        · have HJ:=hide hj0
          have hj1:decide (0 < j)=false:=decide_eq_false (by omega);clear hj0
          go_wp2_with fail
          refine wp_region_quiet_below (by kernel_rfl) (by kernel_rfl) ?_
          repeat (go_big_quiet_step (exact cQ _ _))
          refine wpQuiet_nil ?_;intro _ hw';obtain ⟨⟨dq,osq⟩,rfl⟩:=hw';have b1:=below_regrown wr dq osq;generalize grow (redrawn wr dq) osq=w1 at *;clear k1 cQ
          go_wp2
          go_roundg (gk - 1)
          case measure=>omega
          case rel =>
            refine ⟨j+1,by omega,rfl,?_,bthen bj b1⟩;have q0:(j == 0)=true:=by rw [HJ.out];rfl
            have hr:=HR.out;simp only [Hid,V.risesTo,V.keyOk,← hK.out,HU.out,hr,q0,Bool.true_or,Bool.and_self]
        · obtain ⟨b',off',K',hb',hK',ei⟩:=str_at' HC.out bj (i:=j - 1) (by omega)
          have zi:=getD_size HS.out (j - 1);rw [← hK'.out] at zi;simp only [Option.some.injEq,Addr.mk.injEq,and_true] at hb';obtain ⟨rfl,rfl⟩:=hb';have k2:=cell_regrown ei;have hj1:(0:Int) < (j:Int):=by omega
          have hj2:decide (0 < j)=true:=decide_eq_true (by omega);cases hle:V.less K' K with
          | true =>
            have HL:=hide hle;clear hle;have cL:∀ d os,Calls Tryz.prog 56 #[.string K',.string K] (grow (redrawn wr d) os) fun e w''=>e=.returned (.bool true)∧∃ p:Regrown,w''=grow (redrawn wr p.d) p.os:=fun d os=>Calls.regrown_of (by have:=refLess_any K' K (grow (redrawn wr d) os) zi zj;rwa [show Op.bytesLess K'.toList K.toList=true from HL.out] at this)
            go_wp2_with fail
            refine wp_region_quiet_below (by kernel_rfl) (by kernel_rfl) ?_
            repeat (go_big_quiet_step (first | exact cQ _ _ | exact cL _ _))
            refine wpQuiet_nil ?_;intro _ hw';obtain ⟨⟨dq,osq⟩,rfl⟩:=hw';have b1:=below_regrown wr dq osq;generalize grow (redrawn wr dq) osq=w1 at *;clear k1 k2 cQ cL
            go_wp2
            go_roundg (gk - 1)
            case measure=>omega
            case rel =>
              refine ⟨j+1,by omega,rfl,?_,bthen bj b1⟩;have hr:=HR.out;simp only [Hid,V.risesTo,V.keyOk,← hK.out,← hK'.out,HU.out,HL.out,hr,Bool.or_true,Bool.and_true]
          | false =>
            have HL:=hide hle;clear hle;have cL:∀ d os,Calls Tryz.prog 56 #[.string K',.string K] (grow (redrawn wr d) os) fun e w''=>e=.returned (.bool false)∧∃ p:Regrown,w''=grow (redrawn wr p.d) p.os:=fun d os=>Calls.regrown_of (by have:=refLess_any K' K (grow (redrawn wr d) os) zi zj;rwa [show Op.bytesLess K'.toList K.toList=false from HL.out] at this)
            go_wp2_with fail
            refine wp_region_quiet_below (by kernel_rfl) (by kernel_rfl) ?_
            repeat (go_big_quiet_step (first | exact cQ _ _ | exact cL _ _))
            refine wpQuiet_nil ?_;intro _ hw';obtain ⟨⟨dq,osq⟩,rfl⟩:=hw';have b1:=below_regrown wr dq osq;generalize grow (redrawn wr dq) osq=w1 at *;clear k1 k2 cQ cL
            go_wp2
            go_ret
            refine ⟨?_,bthen bj b1⟩
            have q1:V.keyOk ks j=false:=by
              have:(j == 0)=false:=by simp;omega
              simp only [V.keyOk,← hK.out,← hK'.out,HU.out,HL.out,this,Bool.or_self,Bool.and_false]
            have q2:V.risesTo ks (j+1)=false:=by simp only [V.risesTo,q1,Bool.and_false]
            have q3:=V.risesTo_mono q2 (m:=ks.length) (by omega);simp [V.rises,q3]
    · have hje:j=ks.length:=by omega
      subst hje
      go_wp2
      go_ret
      refine ⟨?_,bj⟩;have hr:=HR.out;simp [V.rises,hr]
end Go.Proofs.YtapcmbbhhclepaaGreatDoor
