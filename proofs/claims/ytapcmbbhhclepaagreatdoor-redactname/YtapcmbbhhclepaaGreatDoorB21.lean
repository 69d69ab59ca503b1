/-
  What this claim takes of the earlier layers' texts: CKnA.
-/
import Derived.Test.YtapcmbbhhclepaaGreatDoorB20
set_option linter.unusedVariables false
set_option linter.unusedSimpArgs false
set_option maxRecDepth 100000
namespace Go.Proofs.YtapcmbbhhclepaaGreatDoor
open Go.RowKit
def ValO (s:ByteArray) (d:Nat) (u:List UInt8) (o:Except Cn.Er (V×List UInt8)):Prop:=∀ (a:Nat) (w:World),At s a u→Calls Tryz.prog 62 #[St s a 0 d] w fun e' w'=>Told w.heap.size s d o e' w'∧Below w.heap.size w w'
def ManyO (s:ByteArray) (d:Nat) (t0:List UInt8) (o:Except Cn.Er (V×List UInt8)):Prop:=∀ (a:Nat) (w:World),At s a (123 :: t0)→Calls Tryz.prog 95 #[St s a 0 d,.int .u8 125] w fun e' w'=>Told w.heap.size s d o e' w'∧Below w.heap.size w w'
def PairO (s:ByteArray) (d:Nat) (acc:List (ByteArray×V)) (r:List UInt8) (o:Except Cn.Er ((ByteArray×V)×List UInt8)):Prop:=∀ (B a:Nat) (w:World) (k n:Int) (t:ByteArray) (a1:Option Addr) (n1 c1:Nat) (a2:Option Addr) (n2 c2:Nat),At s a r→B≤w.heap.size→Is w (fun b=>B≤b) (.agg #[.int .i64 k,.int .i64 n,.string t,.slice a1 n1 c1,.slice a2 n2 c2]) (Cn.objV acc)→V.wt (Cn.objV acc)≤100000000 →
    Calls Tryz.prog 124 #[St s a 0 d,.agg #[.int .i64 k,.int .i64 n,.string t,.slice a1 n1 c1,.slice a2 n2 c2]] w fun e' w'=>ToldP B s d acc o e' w'∧Below w.heap.size w w'
set_option maxHeartbeats 4000000 in
theorem pair_goodK (s:ByteArray) (a d:Nat) (r:List UInt8) (w:World) (h:At s a r) (hs:s.size≤65536) (k n:Int) (t:ByteArray) (a1:Option Addr) (n1 c1:Nat) (a2:Option Addr) (n2 c2:Nat) (O:V) (B:Nat) (hv:Is w (fun b=>B≤b) (.agg #[.int .i64 k,.int .i64 n,.string t,.slice a1 n1 c1,.slice a2 n2 c2]) O) (hwt:V.wt O≤100000000) (tt:List UInt8) (nn:Nat) (hun:Gm.unquote r=some (tt,nn)) (HG:(V.get O ⟨tt.toArray⟩).isSome=false) (r3:List UInt8) (hc:Cn.skip (r.drop nn)=58 :: r3) (OO:Except Cn.Er (V×List UInt8)) (HVO:ValO s d (Cn.skip r3) OO) (hBw:B≤w.heap.size) (x:V) (ru:List UInt8) (hpv:OO=.ok (x,ru)) (h5:O.kind=5) (htt:tt.length≤1000000) :
    Calls Tryz.prog 124 #[St s a 0 d,(.agg #[.int .i64 k,.int .i64 n,.string t,.slice a1 n1 c1,.slice a2 n2 c2])] w fun e' w'=>(∃ (a':Nat) (k' n':Int) (t':ByteArray) (a1':Option Addr) (n1' c1':Nat) (a2':Option Addr) (n2' c2':Nat),e'=.returned (.tuple #[St s a' 0 d,.agg #[.int .i64 k',.int .i64 n',.string t',.slice a1' n1' c1',.slice a2' n2' c2']])∧At s a' ru∧Is w' (fun b=>B≤b) (.agg #[.int .i64 k',.int .i64 n',.string t',.slice a1' n1' c1',.slice a2' n2' c2']) (V.withV O ⟨tt.toArray⟩ x))∧Below w.heap.size w w':=by
  have b0:=bthen (bthen (bthen (below_alloc w (.cells #[.string s,.int .i64 (a:Nat),.int .i64 0,.int .i64 (d:Nat)] 65)) (below_alloc _ (.cells #[.int .i64 k,.int .i64 n,.string t,.slice a1 n1 c1,.slice a2 n2 c2] 27))) (below_alloc _ (.cells #[.string ⟨#[]⟩,.int .i64 0,.int .i64 0,.int .i64 0] 65))) (below_alloc _ (.cells #[.int .i64 0,.int .i64 0,.string ⟨#[]⟩,.slice none 0 0,.slice none 0 0] 27))
  have x0:=(((b4_new w (.string s) (.int .i64 (a:Nat)) (.int .i64 0) (.int .i64 (d:Nat)) w.heap.size rfl).keep (below_alloc _ (.cells #[.int .i64 k,.int .i64 n,.string t,.slice a1 n1 c1,.slice a2 n2 c2] 27))).keep (below_alloc _ (.cells #[.string ⟨#[]⟩,.int .i64 0,.int .i64 0,.int .i64 0] 65))).keep (below_alloc _ (.cells #[.int .i64 0,.int .i64 0,.string ⟨#[]⟩,.slice none 0 0,.slice none 0 0] 27))
  have q0:=((b5_new (w.alloc (.cells #[.string s,.int .i64 (a:Nat),.int .i64 0,.int .i64 (d:Nat)] 65)) (.int .i64 k) (.int .i64 n) (.string t) (.slice a1 n1 c1) (.slice a2 n2 c2) (w.heap.size+1) (by simp)).keep (below_alloc _ (.cells #[.string ⟨#[]⟩,.int .i64 0,.int .i64 0,.int .i64 0] 65))).keep (below_alloc _ (.cells #[.int .i64 0,.int .i64 0,.string ⟨#[]⟩,.slice none 0 0,.slice none 0 0] 27))
  have y0:=(b4_new ((w.alloc (.cells #[.string s,.int .i64 (a:Nat),.int .i64 0,.int .i64 (d:Nat)] 65)).alloc (.cells #[.int .i64 k,.int .i64 n,.string t,.slice a1 n1 c1,.slice a2 n2 c2] 27)) (.string ⟨#[]⟩) (.int .i64 0) (.int .i64 0) (.int .i64 0) (w.heap.size+2) (by simp)).keep (below_alloc _ (.cells #[.int .i64 0,.int .i64 0,.string ⟨#[]⟩,.slice none 0 0,.slice none 0 0] 27))
  have u0:=b5_new (((w.alloc (.cells #[.string s,.int .i64 (a:Nat),.int .i64 0,.int .i64 (d:Nat)] 65)).alloc (.cells #[.int .i64 k,.int .i64 n,.string t,.slice a1 n1 c1,.slice a2 n2 c2] 27)).alloc (.cells #[.string ⟨#[]⟩,.int .i64 0,.int .i64 0,.int .i64 0] 65)) (.int .i64 0) (.int .i64 0) (.string ⟨#[]⟩) (.slice none 0 0) (.slice none 0 0) (w.heap.size+3) (by simp)
  have hz0:w.heap.size+4≤((((w.alloc (.cells #[.string s,.int .i64 (a:Nat),.int .i64 0,.int .i64 (d:Nat)] 65)).alloc (.cells #[.int .i64 k,.int .i64 n,.string t,.slice a1 n1 c1,.slice a2 n2 c2] 27)).alloc (.cells #[.string ⟨#[]⟩,.int .i64 0,.int .i64 0,.int .i64 0] 65)).alloc (.cells #[.int .i64 0,.int .i64 0,.string ⟨#[]⟩,.slice none 0 0,.slice none 0 0] 27)).heap.size:=by simp
  obtain ⟨w0,hw0⟩:∃ w0,w0=((((w.alloc (.cells #[.string s,.int .i64 (a:Nat),.int .i64 0,.int .i64 (d:Nat)] 65)).alloc (.cells #[.int .i64 k,.int .i64 n,.string t,.slice a1 n1 c1,.slice a2 n2 c2] 27)).alloc (.cells #[.string ⟨#[]⟩,.int .i64 0,.int .i64 0,.int .i64 0] 65)).alloc (.cells #[.int .i64 0,.int .i64 0,.string ⟨#[]⟩,.slice none 0 0,.slice none 0 0] 27)):=⟨_,rfl⟩
  rw [← hw0] at b0 x0 y0 u0 q0 hz0
  have W0:=hide hw0
  have X0:=hide x0
  have Y0:=hide y0
  have U0:=hide u0
  have Q0:=hide q0
  have H0:=hide b0
  have N0:=hide hz0
  have HV:=hide hv
  clear b0 x0 y0 u0 q0 hw0 hz0 hv
  go_enter Tryz.func124,Tryz.ntmps124
  go_upto_region 1 with fail
  rw [← W0.out]
  clear W0
  obtain ⟨x0,x1,x2,x3⟩:=X0.out.cells
  go_wp2_with fail
  refine (str_yes s a d r tt nn _ h (by omega) hun).mono ?_
  rintro e' w1 ⟨rfl,hA1,b1⟩
  clear x0 x1 x2 x3 X0
  have Y1:=hide (Y0.out.keep b1)
  have U1:=hide (U0.out.keep b1)
  have Q1:=hide (Q0.out.keep b1)
  have H1:=hide (bthen H0.out b1)
  have N1:=hide (Nat.le_trans N0.out (Below.size b1))
  clear Y0 U0 Q0 H0 N0 b1
  go_upto_region 3 with fail
  have ba:=below_alloc w1 (.cells #[.string s,.int .i64 ((a:Int)+(nn:Int)),.int .i64 0,.int .i64 (d:Nat)] 65)
  have hg7n0:=N1.out
  have S2:=hide (b4_new w1 (.string s) (.int .i64 ((a:Int)+(nn:Int))) (.int .i64 0) (.int .i64 (d:Nat)) w1.heap.size rfl)
  have Y2:=hide (Y1.out.keep ba)
  have U2:=hide (U1.out.keep ba)
  have Q2:=hide (Q1.out.keep ba)
  have H2:=hide (bthen H1.out ba)
  have N2:=hide (Nat.le_trans N1.out (Below.size ba))
  clear Y1 U1 Q1 H1 N1 ba
  obtain ⟨g7,hg7⟩:∃ g7,g7=w1.heap.size:=⟨_,rfl⟩
  generalize w1.alloc (.cells #[.string s,.int .i64 ((a:Int)+(nn:Int)),.int .i64 0,.int .i64 (d:Nat)] 65)=w2 at Y2 U2 Q2 H2 N2 S2 ⊢
  have hg7n:w.heap.size+4≤g7:=by rw [hg7];exact hg7n0
  clear hg7n0
  rw [← hg7] at S2 ⊢
  clear hg7
  obtain ⟨q0,q1,q2,q3,q4⟩:=Q2.out.cells
  go_wp2_with fail
  refine (refGet_all (HV.out.below H2.out) ⟨tt.toArray⟩ (by omega)).mono ?_
  rintro e' w3 ⟨k3,m3,t3,s3,l3,i3,s4,l4,i4,is,rfl,his,_,b3⟩
  have hq:is=false:=by rw [his];exact HG
  subst hq
  have Y3:=hide (Y2.out.keep b3)
  have U3:=hide (U2.out.keep b3)
  have Q3:=hide (Q2.out.keep b3)
  have S3:=hide (S2.out.keep b3)
  have H3:=hide (bthen H2.out b3)
  have N3:=hide (Nat.le_trans N2.out (Below.size b3))
  clear Y2 U2 Q2 H2 N2 b3 his S2 q0 q1 q2 q3 q4
  have ba:=below_alloc w3 (.cells #[.int .i64 k3,.int .i64 m3,.string t3,.slice s3 l3 i3,.slice s4 l4 i4] 27)
  go_upto_region 4 with fail
  have Y4:=hide (Y3.out.keep ba)
  have U4:=hide (U3.out.keep ba)
  have Q4:=hide (Q3.out.keep ba)
  have S4:=hide (S3.out.keep ba)
  have H4:=hide (bthen H3.out ba)
  have N4:=hide (Nat.le_trans N3.out (Below.size ba))
  clear Y3 U3 Q3 H3 N3 ba S3
  generalize w3.alloc (.cells #[.int .i64 k3,.int .i64 m3,.string t3,.slice s3 l3 i3,.slice s4 l4 i4] 27)=w4 at Y4 U4 Q4 H4 N4 S4 ⊢
  obtain ⟨s0,s1,s2,s3⟩:=S4.out.cells
  go_wp2_with fail
  refine (blanks_any s (a+nn) d (r.drop nn) _ hA1 (by omega)).mono ?_
  rintro e' w11 ⟨a3,rfl,hA3,b11⟩
  clear s0 s1 s2 s3
  have Y11:=hide (Y4.out.keep b11)
  have U11:=hide (U4.out.keep b11)
  have Q11:=hide (Q4.out.keep b11)
  have H11:=hide (bthen H4.out b11)
  have N11:=hide (Nat.le_trans N4.out (Below.size b11))
  clear Y4 U4 Q4 H4 N4 b11 S4
  go_wp2_with fail
  refine (need_hit s a3 d 58 r3 _ (by rw [← hc];exact hA3) (by omega)).mono ?_
  rintro e' w12 ⟨a4,rfl,hA4,b12⟩
  have Y12:=hide (Y11.out.keep b12)
  have U12:=hide (U11.out.keep b12)
  have Q12:=hide (Q11.out.keep b12)
  have H12:=hide (bthen H11.out b12)
  have N12:=hide (Nat.le_trans N11.out (Below.size b12))
  clear Y11 U11 Q11 H11 N11 b12
  go_wp2_with fail
  refine (blanks_any s a4 d r3 _ hA4 (by omega)).mono ?_
  rintro e' w13 ⟨a5,rfl,hA5,b13⟩
  have Y13:=hide (Y12.out.keep b13)
  have U13:=hide (U12.out.keep b13)
  have Q13:=hide (Q12.out.keep b13)
  have H13:=hide (bthen H12.out b13)
  have N13:=hide (Nat.le_trans N12.out (Below.size b13))
  clear Y12 U12 Q12 H12 N12 b13
  go_wp2_with fail
  refine (HVO a5 _ hA5).mono ?_
  rintro e' w14 ⟨⟨a6,k6,m6,t6,s6,l6,i6,s7,l7,i7,yy,rfl,hA6,hIs,hy⟩,b14⟩
  have Y14:=hide (Y13.out.keep b14)
  have U14:=hide (U13.out.keep b14)
  have Q14:=hide (Q13.out.keep b14)
  have H14:=hide (bthen H13.out b14)
  have N14:=hide (Nat.le_trans N13.out (Below.size b14))
  have hB13:=H13.out.size
  have hyx:yy=x:=hy x ru hpv
  subst hyx
  have hn13:=N13.out
  have HI14:=hide (hIs.weak (S':=fun b=>B≤b∧b≠w.heap.size+2∧b≠w.heap.size+3) (fun b _ hb=>by omega))
  have HV9:=hide (HV.out.weak (S':=fun b=>B≤b∧b≠w.heap.size+2∧b≠w.heap.size+3) (fun b hb1 hb=>by omega))
  clear Y13 U13 Q13 H13 N13 b14 hIs hy
  rw [hpv] at hA6 ⊢
  simp only [Cn.code,Cn.left] at hA6 ⊢
  go_upto_region 8 with fail
  have ba:=bthen (below_alloc w14 (.cells #[.string s,.int .i64 (a6:Nat),.int .i64 0,.int .i64 (d:Nat)] 65)) (below_alloc (w14.alloc (.cells #[.string s,.int .i64 (a6:Nat),.int .i64 0,.int .i64 (d:Nat)] 65)) (.cells #[.int .i64 k6,.int .i64 m6,.string t6,.slice s6 l6 i6,.slice s7 l7 i7] 27))
  have S45:=hide ((b4_new w14 (.string s) (.int .i64 (a6:Nat)) (.int .i64 0) (.int .i64 (d:Nat)) w14.heap.size rfl).keep (below_alloc (w14.alloc (.cells #[.string s,.int .i64 (a6:Nat),.int .i64 0,.int .i64 (d:Nat)] 65)) (.cells #[.int .i64 k6,.int .i64 m6,.string t6,.slice s6 l6 i6,.slice s7 l7 i7] 27)))
  have T45:=hide (b5_new (w14.alloc (.cells #[.string s,.int .i64 (a6:Nat),.int .i64 0,.int .i64 (d:Nat)] 65)) (.int .i64 k6) (.int .i64 m6) (.string t6) (.slice s6 l6 i6) (.slice s7 l7 i7) (w14.heap.size+1) (by simp))
  have Y45:=hide (Y14.out.keep ba)
  have U45:=hide (U14.out.keep ba)
  have Q45:=hide (Q14.out.keep ba)
  have H45:=hide (bthen H14.out ba)
  have N45:=hide (Nat.le_trans N14.out (Below.size ba))
  have BA45:=hide ba
  clear Y14 U14 Q14 H14 N14 ba
  obtain ⟨g9,hg9⟩:∃ g9,g9=w14.heap.size:=⟨_,rfl⟩
  generalize (w14.alloc (.cells #[.string s,.int .i64 (a6:Nat),.int .i64 0,.int .i64 (d:Nat)] 65)).alloc (.cells #[.int .i64 k6,.int .i64 m6,.string t6,.slice s6 l6 i6,.slice s7 l7 i7] 27)=w45 at Y45 U45 Q45 H45 N45 S45 T45 BA45 ⊢
  rw [← hg9] at S45 T45 ⊢
  clear hg9
  have HI45:=hide (HI14.out.below BA45.out)
  clear HI14 BA45
  obtain ⟨s0,s1,s2,s3⟩:=S45.out.cells
  go_upto_region 10 with fail
  clear s0 s1 s2 s3
  obtain ⟨KEY,hKEY⟩:∃ KEY:ByteArray,KEY=⟨tt.toArray⟩:=⟨_,rfl⟩
  rw [← hKEY]
  have hks:KEY.size≤1000000000:=by rw [hKEY];show tt.toArray.size≤_;simp;omega
  have HKS:=hide hks
  have HKE:=hide hKEY
  clear hKEY hks
  refine' wp_region_factsT 5 [(fun _ _ v _=>v=.agg #[.string s,.int .i64 (a6:Nat),.int .i64 0,.int .i64 (d:Nat)]),(fun _ _ v _=>v=.agg #[.int .i64 k,.int .i64 n,.string t,.slice a1 n1 c1,.slice a2 n2 c2]),(fun _ _ v _=>v=.string KEY),(fun _ _ v _=>v=.agg #[.int .i64 k6,.int .i64 m6,.string t6,.slice s6 l6 i6,.slice s7 l7 i7]),(fun lo hi v w1=>∃ (k8 m8:Int) (t8:ByteArray) (s8:Option Addr) (l8 i8:Nat) (s9:Option Addr) (l9 i9:Nat),v=.agg #[.int .i64 k8,.int .i64 m8,.string t8,.slice s8 l8 i8,.slice s9 l9 i9]∧Is w1 (fun b=>B≤b∧b≠w.heap.size+2∧b≠w.heap.size+3) (.agg #[.int .i64 k8,.int .i64 m8,.string t8,.slice s8 l8 i8,.slice s9 l9 i9]) (V.withV O KEY yy))] (by kernel_rfl) ?hA (by kernel_rfl) rfl ?mono ?steps ?last
  case hA =>
    intro vs
    simp only [puts,Act.put,List.setIfInBounds_toArray,List.set_cons_zero,List.set_cons_succ,Nat.zero_add,Nat.reduceAdd]
    rfl
  case mono=>exact ⟨mono_eq _,mono_eq _,mono_eq _,mono_eq _,mono_is9,trivial⟩
  case steps =>
    intro Q'
    refine And.intro ?_ <| And.intro ?_ <| And.intro ?_ <| And.intro ?_ <| And.intro ?_ <| trivial
    all_goals
      intro vs lo hi w' hM hd K' hK
      dsimp only at hK ⊢
      simp only [Act.put,List.setIfInBounds_toArray,List.set_cons_zero,List.set_cons_succ] at hK
    · obtain ⟨x0,x1,x2,x3⟩:=(S45.out.keep hM).cells
      go_simp
      exact hK.out _ _ rfl (Below.refl _ _)
    · obtain ⟨x0,x1,x2,x3,x4⟩:=(Q45.out.keep hM).cells
      go_simp
      exact hK.out _ _ rfl (Below.refl _ _)
    · go_simp
      exact hK.out _ _ rfl (Below.refl _ _)
    · obtain ⟨x0,x1,x2,x3,x4⟩:=(T45.out.keep hM).cells
      go_simp
      exact hK.out _ _ rfl (Below.refl _ _)
    · have e1:vs 1=.agg #[.int .i64 k,.int .i64 n,.string t,.slice a1 n1 c1,.slice a2 n2 c2]:=hd 1 (by kernel_rfl)
      have e2:vs 2=.string KEY:=hd 2 (by kernel_rfl)
      have e3:vs 3=.agg #[.int .i64 k6,.int .i64 m6,.string t6,.slice s6 l6 i6,.slice s7 l7 i7]:=hd 3 (by kernel_rfl)
      simp only [e1,e2,e3] at hK ⊢
      clear e1 e2 e3
      go_simp
      refine (refWith_any5 ((HV9.out.below H45.out).below hM) (HI45.out.below hM) (by omega) KEY HKS.out h5).mono ?_
      rintro e w9 ⟨k8,m8,t8,s8,l8,i8,s9,l9,i9,rfl,hi8,b9⟩
      exact hK.out _ _ ⟨k8,m8,t8,s8,l8,i8,s9,l9,i9,rfl,hi8.weak (fun b _ hb=>hb.elim id (fun hh=>by have:=hM.size;have:=N45.out;omega))⟩ b9
  case last =>
    intro vs lo hi w' hM hlo hall
    obtain ⟨e0,e1,e2,e3,⟨k8,m8,t8,s8,l8,i8,s9,l9,i9,e4,hI8⟩,_⟩:=hall
    simp only [List.drop_succ_cons,List.drop_zero]
    try dsimp only
    simp only [e0,e1,e2,e3,e4]
    clear e0 e1 e2 e3 e4 hlo
    have Y6:=hide (Y45.out.keep hM)
    have U6:=hide (U45.out.keep hM)
    have H6:=hide (bthen H45.out hM)
    have HI8:=hide hI8
    clear hM Y45 U45 H45 S45 T45 Q45 HI45 hI8
    obtain ⟨z0,z1,z2,z3⟩:=Y6.out.cells
    obtain ⟨p0,p1,p2,p3,p4⟩:=U6.out.cells
    have fY:=Y6.out.free
    have fY0:=fY 0
    have fY1:=fY 1
    have fY2:=fY 2
    have fY3:=fY 3
    clear fY
    have fU:=U6.out.free
    have fU0:=fU 0
    have fU1:=fU 1
    have fU2:=fU 2
    have fU3:=fU 3
    have fU4:=fU 4
    clear fU
    go_wp2_with fail
    obtain ⟨hy,hu,hb⟩:=fin45 Y6.out U6.out (by omega) (B:=w.heap.size) (by omega) (by omega) (.string s) (.int .i64 (a6:Nat)) (.int .i64 0) (.int .i64 (d:Nat)) (.int .i64 k8) (.int .i64 m8) (.string t8) (.slice s8 l8 i8) (.slice s9 l9 i9)
    clear z0 z1 z2 z3 p0 p1 p2 p3 p4
    obtain ⟨y0,y1,y2,y3⟩:=hy.cells
    obtain ⟨p0,p1,p2,p3,p4⟩:=hu.cells
    have hbx:=H6.out.trans hb
    refine bodyPost_ret (v:=.tuple #[.agg #[.string s,.int .i64 (a6:Nat),.int .i64 0,.int .i64 (d:Nat)],.agg #[.int .i64 k8,.int .i64 m8,.string t8,.slice s8 l8 i8,.slice s9 l9 i9]]) (by simp [results,Tryz.results124,go_sem,y0,y1,y2,y3,p0,p1,p2,p3,p4]) rfl ?_
    exact ⟨⟨a6,k8,m8,t8,s8,l8,i8,s9,l9,i9,rfl,hA6,((HKE.out ▸ HI8.out).keep (keeps45 _ _ _)).weak (fun b _ hb=>hb.1)⟩,hbx⟩
set_option maxHeartbeats 4000000 in
theorem val_objK (s:ByteArray) (a d:Nat) (u:List UInt8) (w:World) (h:At s a u) (hs:s.size≤65536) (H91:(u.head? == some 91)=false) (H123:(u.head? == some 123)=true) (g:Nat) (hg:0 < g) (OO:Except Cn.Er (V×List UInt8)) (hd:g+1+d=33) (t0:List UInt8) (hu:u=123 :: t0) (HMO:ManyO s (d+1) t0 OO) :
    Calls Tryz.prog 62 #[St s a 0 d] w fun e' w'=>Told w.heap.size s d OO e' w'∧Below w.heap.size w w':=by
  have b0:=bthen (bthen (below_alloc w (.cells #[.string s,.int .i64 (a:Nat),.int .i64 0,.int .i64 (d:Nat)] 65)) (below_alloc _ (.cells #[.string ⟨#[]⟩,.int .i64 0,.int .i64 0,.int .i64 0] 65))) (below_alloc _ (.cells #[.int .i64 0,.int .i64 0,.string ⟨#[]⟩,.slice none 0 0,.slice none 0 0] 27))
  have x0:=((b4_new w (.string s) (.int .i64 (a:Nat)) (.int .i64 0) (.int .i64 (d:Nat)) w.heap.size rfl).keep (below_alloc _ (.cells #[.string ⟨#[]⟩,.int .i64 0,.int .i64 0,.int .i64 0] 65))).keep (below_alloc _ (.cells #[.int .i64 0,.int .i64 0,.string ⟨#[]⟩,.slice none 0 0,.slice none 0 0] 27))
  have y0:=(b4_new (w.alloc (.cells #[.string s,.int .i64 (a:Nat),.int .i64 0,.int .i64 (d:Nat)] 65)) (.string ⟨#[]⟩) (.int .i64 0) (.int .i64 0) (.int .i64 0) (w.heap.size+1) (by simp)).keep (below_alloc _ (.cells #[.int .i64 0,.int .i64 0,.string ⟨#[]⟩,.slice none 0 0,.slice none 0 0] 27))
  have v0:=b5_new ((w.alloc (.cells #[.string s,.int .i64 (a:Nat),.int .i64 0,.int .i64 (d:Nat)] 65)).alloc (.cells #[.string ⟨#[]⟩,.int .i64 0,.int .i64 0,.int .i64 0] 65)) (.int .i64 0) (.int .i64 0) (.string ⟨#[]⟩) (.slice none 0 0) (.slice none 0 0) (w.heap.size+2) (by simp)
  have hz0:w.heap.size+3≤(((w.alloc (.cells #[.string s,.int .i64 (a:Nat),.int .i64 0,.int .i64 (d:Nat)] 65)).alloc (.cells #[.string ⟨#[]⟩,.int .i64 0,.int .i64 0,.int .i64 0] 65)).alloc (.cells #[.int .i64 0,.int .i64 0,.string ⟨#[]⟩,.slice none 0 0,.slice none 0 0] 27)).heap.size:=by simp
  obtain ⟨w0,hw0⟩:∃ w0,w0=(((w.alloc (.cells #[.string s,.int .i64 (a:Nat),.int .i64 0,.int .i64 (d:Nat)] 65)).alloc (.cells #[.string ⟨#[]⟩,.int .i64 0,.int .i64 0,.int .i64 0] 65)).alloc (.cells #[.int .i64 0,.int .i64 0,.string ⟨#[]⟩,.slice none 0 0,.slice none 0 0] 27)):=⟨_,rfl⟩
  rw [← hw0] at b0 x0 y0 v0 hz0
  have W0:=hide hw0
  have X0:=hide x0
  have Y0:=hide y0
  have U0:=hide v0
  have H0:=hide b0
  have N0:=hide hz0
  clear x0 y0 v0 b0 hz0 hw0
  go_enter Tryz.func62,Tryz.ntmps62
  go_upto_region 1 with fail
  rw [← W0.out]
  clear W0
  obtain ⟨x0,x1,x2,x3⟩:=X0.out.cells
  obtain ⟨x0,x1,x2,x3⟩:=X0.out.cells
  go_wp2_with fail
  refine (is_any s a d 91 u _ h (by omega) false (by rw [H91])).mono ?_
  rintro e w1 ⟨rfl,b1⟩
  clear x0 x1 x2 x3
  have X1:=hide (X0.out.keep b1)
  have Y1:=hide (Y0.out.keep b1)
  have U1:=hide (U0.out.keep b1)
  have H1:=hide (bthen H0.out b1)
  have N1:=hide (Nat.le_trans N0.out (Below.size b1))
  clear X0 Y0 U0 H0 N0 b1
  obtain ⟨x0,x1,x2,x3⟩:=X1.out.cells
  go_wp2_with fail
  refine (is_any s a d 123 u _ h (by omega) true (by rw [H123])).mono ?_
  rintro e w2 ⟨rfl,b2⟩
  clear x0 x1 x2 x3
  have X2:=hide (X1.out.keep b2)
  have Y2:=hide (Y1.out.keep b2)
  have U2:=hide (U1.out.keep b2)
  have H2:=hide (bthen H1.out b2)
  have N2:=hide (Nat.le_trans N1.out (Below.size b2))
  clear X1 Y1 U1 H1 N1 b2
  obtain ⟨x0,x1,x2,x3⟩:=X2.out.cells
  have hdd:¬ (32:Int)≤(d:Int):=by omega
  have f3:=X2.out.free 3
  go_upto_region 7 with fail
  have X5:=hide (X2.out.set3 (.int .i64 ((d:Int)+1)))
  have Y5:Hid (Z4 (w2.setCell ⟨w.heap.size,3,none⟩ (.int .i64 ((d:Int)+1))) (w.heap.size+1)):=hide (Y2.out.other _ (by omega))
  have U5:Hid (Z5 (w2.setCell ⟨w.heap.size,3,none⟩ (.int .i64 ((d:Int)+1))) (w.heap.size+2)):=hide (U2.out.other _ (by omega))
  have H5:Hid (Below w.heap.size w (w2.setCell ⟨w.heap.size,3,none⟩ (.int .i64 ((d:Int)+1)))):=hide (H2.out.setCell (p:=⟨w.heap.size,3,none⟩) (Nat.le_refl _) _)
  have N5:Hid (w.heap.size+3≤(w2.setCell ⟨w.heap.size,3,none⟩ (.int .i64 ((d:Int)+1))).heap.size):=hide (by have:=N2.out;simpa using this)
  clear X2 Y2 U2 H2 N2 x0 x1 x2 x3 f3 hdd
  generalize w2.setCell ⟨w.heap.size,3,none⟩ (.int .i64 ((d:Int)+1))=w5 at X5 Y5 U5 H5 N5 ⊢
  obtain ⟨x0,x1,x2,x3⟩:=X5.out.cells
  go_wp2_with fail
  refine (is_any s a (d+1) 123 u _ h (by omega) true H123).mono ?_
  rintro e w6 ⟨rfl,b6⟩
  clear x0 x1 x2 x3
  have X6:=hide (X5.out.keep b6)
  have Y6:=hide (Y5.out.keep b6)
  have U6:=hide (U5.out.keep b6)
  have H6:=hide (bthen H5.out b6)
  have N6:=hide (Nat.le_trans N5.out (Below.size b6))
  clear X5 Y5 U5 H5 N5 b6
  obtain ⟨x0,x1,x2,x3⟩:=X6.out.cells
  go_wp2_with fail
  refine (HMO a _ (by rw [← hu];exact h)).mono ?_
  rintro e w7 ⟨⟨a3,k,m,t,s1,n1,c1,s2,n2,c2,y,rfl,hA3,hIs,hy⟩,b7⟩
  clear x0 x1 x2 x3
  obtain ⟨e3,he3⟩:∃ e3,Cn.code OO=e3:=⟨_,rfl⟩
  have HE3:=hide he3
  have HA3:=hide hA3
  have HY:=hide hy
  have hn6:=N6.out
  have HI7:=hide (hIs.weak (S':=fun b=>(w.heap.size≤b∧b < w7.heap.size)∧b≠w.heap.size+1∧b≠w.heap.size+2) (fun b hb7 hb=>by omega))
  have X7:=hide (X6.out.keep b7)
  have Y7:=hide (Y6.out.keep b7)
  have U7:=hide (U6.out.keep b7)
  have H7:=hide (bthen H6.out b7)
  have N7:=hide (Nat.le_trans N6.out (Below.size b7))
  clear X6 Y6 U6 H6 N6 b7 hA3 hy hIs hn6
  rw [he3]
  clear he3
  go_upto_region 11 with fail
  have ba:=bthen (below_alloc w7 (.cells #[.string s,.int .i64 (a3:Nat),.int .i64 e3,.int .i64 ((d:Int)+1)] 65)) (below_alloc (w7.alloc (.cells #[.string s,.int .i64 (a3:Nat),.int .i64 e3,.int .i64 ((d:Int)+1)] 65)) (.cells #[.int .i64 k,.int .i64 m,.string t,.slice s1 n1 c1,.slice s2 n2 c2] 27))
  have S45:=hide ((b4_new w7 (.string s) (.int .i64 (a3:Nat)) (.int .i64 e3) (.int .i64 ((d:Int)+1)) w7.heap.size rfl).keep (below_alloc (w7.alloc (.cells #[.string s,.int .i64 (a3:Nat),.int .i64 e3,.int .i64 ((d:Int)+1)] 65)) (.cells #[.int .i64 k,.int .i64 m,.string t,.slice s1 n1 c1,.slice s2 n2 c2] 27)))
  have T45:=hide (b5_new (w7.alloc (.cells #[.string s,.int .i64 (a3:Nat),.int .i64 e3,.int .i64 ((d:Int)+1)] 65)) (.int .i64 k) (.int .i64 m) (.string t) (.slice s1 n1 c1) (.slice s2 n2 c2) (w7.heap.size+1) (by simp))
  have hg9n:=N7.out
  have X45:=hide (X7.out.keep ba)
  have Y45:=hide (Y7.out.keep ba)
  have U45:=hide (U7.out.keep ba)
  have H45:=hide (bthen H7.out ba)
  have N45:=hide (Nat.le_trans N7.out (Below.size ba))
  have BA:=hide ba
  clear X7 Y7 U7 H7 N7 ba
  obtain ⟨g9,hg9⟩:∃ g9,g9=w7.heap.size:=⟨_,rfl⟩
  generalize (w7.alloc (.cells #[.string s,.int .i64 (a3:Nat),.int .i64 e3,.int .i64 ((d:Int)+1)] 65)).alloc (.cells #[.int .i64 k,.int .i64 m,.string t,.slice s1 n1 c1,.slice s2 n2 c2] 27)=w45 at X45 Y45 U45 H45 N45 S45 T45 BA ⊢
  rw [← hg9] at S45 T45 hg9n HI7 ⊢
  clear hg9
  obtain ⟨j0,j1,j2,j3⟩:=S45.out.cells
  have HI45:=hide (HI7.out.below BA.out)
  clear BA HI7
  have fs:=S45.out.free 3
  go_upto_region 12 with fail
  have S46:=hide (S45.out.set3 (.int .i64 (d:Nat)))
  have T46:=hide (T45.out.other (g':=g9) (o:=3) (.int .i64 (d:Nat)) (by omega))
  have Y46:Hid (Z4 (w45.setCell ⟨g9,3,none⟩ (.int .i64 (d:Nat))) (w.heap.size+1)):=hide (Y45.out.other _ (by omega))
  have U46:Hid (Z5 (w45.setCell ⟨g9,3,none⟩ (.int .i64 (d:Nat))) (w.heap.size+2)):=hide (U45.out.other _ (by omega))
  have H46:Hid (Below w.heap.size w (w45.setCell ⟨g9,3,none⟩ (.int .i64 (d:Nat)))):=hide (H45.out.setCell (p:=⟨g9,3,none⟩) (by show w.heap.size≤g9;omega) _)
  have HI46:Hid (Is (w45.setCell ⟨g9,3,none⟩ (.int .i64 (d:Nat))) (fun b=>(w.heap.size≤b∧b < g9)∧b≠w.heap.size+1∧b≠w.heap.size+2) (.agg #[.int .i64 k,.int .i64 m,.string t,.slice s1 n1 c1,.slice s2 n2 c2]) y):=hide (HI45.out.keep (fun b hb _=>Below.heap_setCell _ _ _ _ (by have:=hb.1.2;simp only;omega)))
  clear fs j0 j1 j2 j3 HI45 S45 T45 X45 Y45 U45 H45 N45
  generalize w45.setCell ⟨g9,3,none⟩ (.int .i64 (d:Nat))=w46 at Y46 U46 H46 S46 T46 HI46 ⊢
  obtain ⟨j0,j1,j2,j3⟩:=S46.out.cells
  obtain ⟨i0,i1,i2,i3,i4⟩:=T46.out.cells
  obtain ⟨z0,z1,z2,z3⟩:=Y46.out.cells
  obtain ⟨q0,q1,q2,q3,q4⟩:=U46.out.cells
  have fY:=Y46.out.free
  have fY0:=fY 0
  have fY1:=fY 1
  have fY2:=fY 2
  have fY3:=fY 3
  clear fY
  have fU:=U46.out.free
  have fU0:=fU 0
  have fU1:=fU 1
  have fU2:=fU 2
  have fU3:=fU 3
  have fU4:=fU 4
  clear fU
  go_region
  clear z0 z1 z2 z3 q0 q1 q2 q3 q4
  go_wp2_with fail
  obtain ⟨hy,hu,hb⟩:=fin45 Y46.out U46.out (by omega) (B:=w.heap.size) (by omega) (by omega) (.string s) (.int .i64 (a3:Nat)) (.int .i64 e3) (.int .i64 (d:Nat)) (.int .i64 k) (.int .i64 m) (.string t) (.slice s1 n1 c1) (.slice s2 n2 c2)
  obtain ⟨y0,y1,y2,y3⟩:=hy.drew.cells
  obtain ⟨p0,p1,p2,p3,p4⟩:=hu.drew.cells
  have hbx:=H46.out.trans hb.drew
  refine bodyPost_ret (v:=.tuple #[.agg #[.string s,.int .i64 (a3:Nat),.int .i64 e3,.int .i64 (d:Nat)],.agg #[.int .i64 k,.int .i64 m,.string t,.slice s1 n1 c1,.slice s2 n2 c2]]) (by simp [results,Tryz.results62,go_sem,y0,y1,y2,y3,p0,p1,p2,p3,p4]) rfl ?_
  exact ⟨⟨a3,k,m,t,s1,n1,c1,s2,n2,c2,y,by rw [HE3.out],HA3.out,((HI46.out.keep (keeps45 _ _ _)).below (Below.refl _ _).drew).weak (fun b _ hb=>hb.1.1),HY.out⟩,hbx⟩
set_option maxHeartbeats 4000000 in
theorem val_digitK (s:ByteArray) (a d:Nat) (u:List UInt8) (w:World) (h:At s a u) (hs:s.size≤65536) (H91:(u.head? == some 91)=false) (H123:(u.head? == some 123)=false) (H34:(u.head? == some 34)=false) (H45:(u.head? == some 45)=false) (kk:Nat) (hkk:(u.takeWhile Cn.digit).length=kk) (hk0:0 < kk) (OO:Except Cn.Er (V×List UInt8)) (HNO:∀ w,Calls Tryz.prog 98 #[St s a 0 d] w fun e' w'=>Told w.heap.size s d OO e' w'∧Below w.heap.size w w') :
    Calls Tryz.prog 62 #[St s a 0 d] w fun e' w'=>Told w.heap.size s d OO e' w'∧Below w.heap.size w w':=by
  have b0:=bthen (bthen (below_alloc w (.cells #[.string s,.int .i64 (a:Nat),.int .i64 0,.int .i64 (d:Nat)] 65)) (below_alloc _ (.cells #[.string ⟨#[]⟩,.int .i64 0,.int .i64 0,.int .i64 0] 65))) (below_alloc _ (.cells #[.int .i64 0,.int .i64 0,.string ⟨#[]⟩,.slice none 0 0,.slice none 0 0] 27))
  have x0:=((b4_new w (.string s) (.int .i64 (a:Nat)) (.int .i64 0) (.int .i64 (d:Nat)) w.heap.size rfl).keep (below_alloc _ (.cells #[.string ⟨#[]⟩,.int .i64 0,.int .i64 0,.int .i64 0] 65))).keep (below_alloc _ (.cells #[.int .i64 0,.int .i64 0,.string ⟨#[]⟩,.slice none 0 0,.slice none 0 0] 27))
  have y0:=(b4_new (w.alloc (.cells #[.string s,.int .i64 (a:Nat),.int .i64 0,.int .i64 (d:Nat)] 65)) (.string ⟨#[]⟩) (.int .i64 0) (.int .i64 0) (.int .i64 0) (w.heap.size+1) (by simp)).keep (below_alloc _ (.cells #[.int .i64 0,.int .i64 0,.string ⟨#[]⟩,.slice none 0 0,.slice none 0 0] 27))
  have v0:=b5_new ((w.alloc (.cells #[.string s,.int .i64 (a:Nat),.int .i64 0,.int .i64 (d:Nat)] 65)).alloc (.cells #[.string ⟨#[]⟩,.int .i64 0,.int .i64 0,.int .i64 0] 65)) (.int .i64 0) (.int .i64 0) (.string ⟨#[]⟩) (.slice none 0 0) (.slice none 0 0) (w.heap.size+2) (by simp)
  have hz0:w.heap.size+3≤(((w.alloc (.cells #[.string s,.int .i64 (a:Nat),.int .i64 0,.int .i64 (d:Nat)] 65)).alloc (.cells #[.string ⟨#[]⟩,.int .i64 0,.int .i64 0,.int .i64 0] 65)).alloc (.cells #[.int .i64 0,.int .i64 0,.string ⟨#[]⟩,.slice none 0 0,.slice none 0 0] 27)).heap.size:=by simp
  obtain ⟨w0,hw0⟩:∃ w0,w0=(((w.alloc (.cells #[.string s,.int .i64 (a:Nat),.int .i64 0,.int .i64 (d:Nat)] 65)).alloc (.cells #[.string ⟨#[]⟩,.int .i64 0,.int .i64 0,.int .i64 0] 65)).alloc (.cells #[.int .i64 0,.int .i64 0,.string ⟨#[]⟩,.slice none 0 0,.slice none 0 0] 27)):=⟨_,rfl⟩
  rw [← hw0] at b0 x0 y0 v0 hz0
  have W0:=hide hw0
  have X0:=hide x0
  have Y0:=hide y0
  have U0:=hide v0
  have H0:=hide b0
  have N0:=hide hz0
  clear x0 y0 v0 b0 hz0 hw0
  go_enter Tryz.func62,Tryz.ntmps62
  go_upto_region 1 with fail
  rw [← W0.out]
  clear W0
  obtain ⟨x0,x1,x2,x3⟩:=X0.out.cells
  go_wp2_with fail
  refine (is_any s a d 91 u _ h (by omega) false (by rw [H91])).mono ?_
  rintro e w1 ⟨rfl,b1⟩
  clear x0 x1 x2 x3
  have X1:=hide (X0.out.keep b1)
  have Y1:=hide (Y0.out.keep b1)
  have U1:=hide (U0.out.keep b1)
  have H1:=hide (bthen H0.out b1)
  have N1:=hide (Nat.le_trans N0.out (Below.size b1))
  clear X0 Y0 U0 H0 N0 b1
  obtain ⟨x0,x1,x2,x3⟩:=X1.out.cells
  go_wp2_with fail
  refine (is_any s a d 123 u _ h (by omega) false (by rw [H123])).mono ?_
  rintro e w2 ⟨rfl,b2⟩
  clear x0 x1 x2 x3
  have X2:=hide (X1.out.keep b2)
  have Y2:=hide (Y1.out.keep b2)
  have U2:=hide (U1.out.keep b2)
  have H2:=hide (bthen H1.out b2)
  have N2:=hide (Nat.le_trans N1.out (Below.size b2))
  clear X1 Y1 U1 H1 N1 b2
  obtain ⟨x0,x1,x2,x3⟩:=X2.out.cells
  go_wp2_with fail
  refine (is_any s a d 34 u _ h (by omega) false (by rw [H34])).mono ?_
  rintro e w3 ⟨rfl,b3⟩
  clear x0 x1 x2 x3
  have X3:=hide (X2.out.keep b3)
  have Y3:=hide (Y2.out.keep b3)
  have U3:=hide (U2.out.keep b3)
  have H3:=hide (bthen H2.out b3)
  have N3:=hide (Nat.le_trans N2.out (Below.size b3))
  clear X2 Y2 U2 H2 N2 b3
  obtain ⟨x0,x1,x2,x3⟩:=X3.out.cells
  go_wp2_with fail
  refine (is_any s a d 45 u _ h (by omega) false (by rw [H45])).mono ?_
  rintro e w4 ⟨rfl,b4⟩
  clear x0 x1 x2 x3
  have X4:=hide (X3.out.keep b4)
  have Y4:=hide (Y3.out.keep b4)
  have U4:=hide (U3.out.keep b4)
  have H4:=hide (bthen H3.out b4)
  have N4:=hide (Nat.le_trans N3.out (Below.size b4))
  clear X3 Y3 U3 H3 N3 b4
  obtain ⟨x0,x1,x2,x3⟩:=X4.out.cells
  go_wp2_with fail
  refine (digits_any s a a 0 d u _ h (by omega) kk hkk).mono ?_
  rintro e w6 ⟨rfl,b6⟩
  clear x0 x1 x2 x3
  have X6:=hide (X4.out.keep b6)
  have Y6:=hide (Y4.out.keep b6)
  have U6:=hide (U4.out.keep b6)
  have H6:=hide (bthen H4.out b6)
  have N6:=hide (Nat.le_trans N4.out (Below.size b6))
  clear X4 Y4 U4 H4 N4 b6
  obtain ⟨x0,x1,x2,x3⟩:=X6.out.cells
  have hki:(0:Int) < (kk:Int):=by omega
  go_wp2_with fail
  refine (HNO _).mono ?_
  rintro e w7 ⟨⟨a3,k,m,t,s1,n1,c1,s2,n2,c2,y,rfl,hA3,hIs,hy⟩,b7⟩
  clear x0 x1 x2 x3
  obtain ⟨e3,he3⟩:∃ e3,Cn.code OO=e3:=⟨_,rfl⟩
  have HE3:=hide he3
  have HA3:=hide hA3
  have HY:=hide hy
  have hn6:=N6.out
  have HI7:=hide (hIs.weak (S':=fun b=>(w.heap.size≤b∧b < w7.heap.size)∧b≠w.heap.size+1∧b≠w.heap.size+2) (fun b hb7 hb=>by omega))
  have X7:=hide (X6.out.keep b7)
  have Y7:=hide (Y6.out.keep b7)
  have U7:=hide (U6.out.keep b7)
  have H7:=hide (bthen H6.out b7)
  have N7:=hide (Nat.le_trans N6.out (Below.size b7))
  clear X6 Y6 U6 H6 N6 b7 hA3 hy hIs hn6
  rw [he3]
  clear he3
  go_upto_region 18 with fail
  have ba:=bthen (below_alloc w7 (.cells #[.string s,.int .i64 (a3:Nat),.int .i64 e3,.int .i64 (d:Nat)] 65)) (below_alloc (w7.alloc (.cells #[.string s,.int .i64 (a3:Nat),.int .i64 e3,.int .i64 (d:Nat)] 65)) (.cells #[.int .i64 k,.int .i64 m,.string t,.slice s1 n1 c1,.slice s2 n2 c2] 27))
  have S45:=hide ((b4_new w7 (.string s) (.int .i64 (a3:Nat)) (.int .i64 e3) (.int .i64 (d:Nat)) w7.heap.size rfl).keep (below_alloc (w7.alloc (.cells #[.string s,.int .i64 (a3:Nat),.int .i64 e3,.int .i64 (d:Nat)] 65)) (.cells #[.int .i64 k,.int .i64 m,.string t,.slice s1 n1 c1,.slice s2 n2 c2] 27)))
  have T45:=hide (b5_new (w7.alloc (.cells #[.string s,.int .i64 (a3:Nat),.int .i64 e3,.int .i64 (d:Nat)] 65)) (.int .i64 k) (.int .i64 m) (.string t) (.slice s1 n1 c1) (.slice s2 n2 c2) (w7.heap.size+1) (by simp))
  have hg9n:=N7.out
  have X45:=hide (X7.out.keep ba)
  have Y45:=hide (Y7.out.keep ba)
  have U45:=hide (U7.out.keep ba)
  have H45:=hide (bthen H7.out ba)
  have N45:=hide (Nat.le_trans N7.out (Below.size ba))
  have BA:=hide ba
  clear X7 Y7 U7 H7 N7 ba
  obtain ⟨g9,hg9⟩:∃ g9,g9=w7.heap.size:=⟨_,rfl⟩
  generalize (w7.alloc (.cells #[.string s,.int .i64 (a3:Nat),.int .i64 e3,.int .i64 (d:Nat)] 65)).alloc (.cells #[.int .i64 k,.int .i64 m,.string t,.slice s1 n1 c1,.slice s2 n2 c2] 27)=w45 at X45 Y45 U45 H45 N45 S45 T45 BA ⊢
  rw [← hg9] at S45 T45 hg9n HI7 ⊢
  clear hg9
  obtain ⟨j0,j1,j2,j3⟩:=S45.out.cells
  have HI46:=hide (HI7.out.below BA)
  clear BA HI7
  obtain ⟨i0,i1,i2,i3,i4⟩:=T45.out.cells
  obtain ⟨z0,z1,z2,z3⟩:=Y45.out.cells
  obtain ⟨q0,q1,q2,q3,q4⟩:=U45.out.cells
  have fY:=Y45.out.free
  have fY0:=fY 0
  have fY1:=fY 1
  have fY2:=fY 2
  have fY3:=fY 3
  clear fY
  have fU:=U45.out.free
  have fU0:=fU 0
  have fU1:=fU 1
  have fU2:=fU 2
  have fU3:=fU 3
  have fU4:=fU 4
  clear fU
  go_region
  clear z0 z1 z2 z3 q0 q1 q2 q3 q4
  go_wp2_with fail
  obtain ⟨hy,hu,hb⟩:=fin45 Y45.out U45.out (by omega) (B:=w.heap.size) (by omega) (by omega) (.string s) (.int .i64 (a3:Nat)) (.int .i64 e3) (.int .i64 (d:Nat)) (.int .i64 k) (.int .i64 m) (.string t) (.slice s1 n1 c1) (.slice s2 n2 c2)
  obtain ⟨y0,y1,y2,y3⟩:=hy.drew.cells
  obtain ⟨p0,p1,p2,p3,p4⟩:=hu.drew.cells
  have hbx:=H45.out.trans hb.drew
  refine bodyPost_ret (v:=.tuple #[.agg #[.string s,.int .i64 (a3:Nat),.int .i64 e3,.int .i64 (d:Nat)],.agg #[.int .i64 k,.int .i64 m,.string t,.slice s1 n1 c1,.slice s2 n2 c2]]) (by simp [results,Tryz.results62,go_sem,y0,y1,y2,y3,p0,p1,p2,p3,p4]) rfl ?_
  exact ⟨⟨a3,k,m,t,s1,n1,c1,s2,n2,c2,y,by rw [HE3.out],HA3.out,((HI46.out.keep (keeps45 _ _ _)).below (Below.refl _ _).drew).weak (fun b _ hb=>hb.1.1),HY.out⟩,hbx⟩
set_option maxHeartbeats 4000000 in
theorem parse_okK (s:ByteArray) (w:World) (hl:s.size≤65536) (hz:Gm.checkZ s.data.toList=-1) (x:V) (ru:List UInt8) (OO:Except Cn.Er (V×List UInt8)) (HVO:ValO s 0 (Cn.skip s.data.toList) OO) (hpv:OO=.ok (x,ru)) (hsk:Cn.skip ru=[]) :
    Calls Tryz.prog 30 #[.string s] w fun e' w'=>(∃ (k m:Int) (t:ByteArray) (s1:Option Addr) (n1 c1:Nat) (s2:Option Addr) (n2 c2:Nat),e'=.returned (.tuple #[.agg #[.int .i64 k,.int .i64 m,.string t,.slice s1 n1 c1,.slice s2 n2 c2],.int .i64 0,.int .i64 0])∧Is w' (fun b=>w.heap.size≤b) (.agg #[.int .i64 k,.int .i64 m,.string t,.slice s1 n1 c1,.slice s2 n2 c2]) x)∧Below w.heap.size w w':=by
  have u0:=b5_new w (.int .i64 0) (.int .i64 0) (.string ⟨#[]⟩) (.slice none 0 0) (.slice none 0 0) w.heap.size rfl
  have b0:=below_alloc w (.cells #[.int .i64 0,.int .i64 0,.string ⟨#[]⟩,.slice none 0 0,.slice none 0 0] 27)
  obtain ⟨w0,hw0⟩:∃ w0,w0=w.alloc (.cells #[.int .i64 0,.int .i64 0,.string ⟨#[]⟩,.slice none 0 0,.slice none 0 0] 27):=⟨_,rfl⟩
  have hz0:w.heap.size+1≤(w.alloc (.cells #[.int .i64 0,.int .i64 0,.string ⟨#[]⟩,.slice none 0 0,.slice none 0 0] 27)).heap.size:=by simp
  rw [← hw0] at u0 b0 hz0
  have W0:=hide hw0
  have U0:=hide u0
  have H0:=hide b0
  have N0:=hide hz0
  clear u0 b0 hz0 hw0
  go_enter Tryz.func30,Tryz.ntmps30
  go_upto_region 1 with fail
  rw [← W0.out]
  clear W0
  have hli:¬ (65536:Int) < (s.size:Int):=by omega
  go_wp2_with fail
  refine (refCheck_any s _ (by unfold maxLen;omega)).mono ?_
  rintro e w1 ⟨rfl,b1⟩
  clear hli
  have U1:=hide (U0.out.keep b1)
  have H1:=hide (bthen H0.out b1)
  have N1:=hide (Nat.le_trans N0.out (Below.size b1))
  clear U0 H0 N0 b1
  rw [hz]
  have hA0:At s 0 s.data.toList:=⟨Nat.zero_le _,rfl⟩
  go_wp2_with fail
  refine (blanks_any s 0 0 s.data.toList _ hA0 (by omega)).mono ?_
  rintro e w2 ⟨a2,rfl,hA2,b2⟩
  have U2:=hide (U1.out.keep b2)
  have H2:=hide (bthen H1.out b2)
  have N2:=hide (Nat.le_trans N1.out (Below.size b2))
  clear U1 H1 N1 b2
  go_wp2_with fail
  refine (HVO a2 _ hA2).mono ?_
  rintro e w3 ⟨⟨a3,k,m,t,s1,n1,c1,s2,n2,c2,y,rfl,hA3,hIs,hy⟩,b3⟩
  obtain ⟨e3,he3⟩:∃ e3,Cn.code OO=e3:=⟨_,rfl⟩
  have HE3:=hide he3
  have hl3:=hA3.len
  have HA3:=hide hA3
  have HY:=hide hy
  have hn2:=N2.out
  have HI3:=hide (hIs.weak (S':=fun b=>w.heap.size≤b∧b≠w.heap.size∧b < w3.heap.size) (fun b hb7 hb=>by omega))
  have U3:=hide (U2.out.keep b3)
  have H3:=hide (bthen H2.out b3)
  have N3:=hide (Nat.le_trans N2.out (Below.size b3))
  clear U2 H2 N2 b3 hA3 hy hIs hn2
  rw [he3]
  clear he3
  go_upto_region 7 with fail
  have ba:=bthen (below_alloc w3 (.cells #[.string s,.int .i64 (a3:Nat),.int .i64 e3,.int .i64 (0:Int)] 65)) (below_alloc (w3.alloc (.cells #[.string s,.int .i64 (a3:Nat),.int .i64 e3,.int .i64 (0:Int)] 65)) (.cells #[.int .i64 k,.int .i64 m,.string t,.slice s1 n1 c1,.slice s2 n2 c2] 27))
  have S4:=hide ((b4_new w3 (.string s) (.int .i64 (a3:Nat)) (.int .i64 e3) (.int .i64 (0:Int)) w3.heap.size rfl).keep (below_alloc (w3.alloc (.cells #[.string s,.int .i64 (a3:Nat),.int .i64 e3,.int .i64 (0:Int)] 65)) (.cells #[.int .i64 k,.int .i64 m,.string t,.slice s1 n1 c1,.slice s2 n2 c2] 27)))
  have T4:=hide (b5_new (w3.alloc (.cells #[.string s,.int .i64 (a3:Nat),.int .i64 e3,.int .i64 (0:Int)] 65)) (.int .i64 k) (.int .i64 m) (.string t) (.slice s1 n1 c1) (.slice s2 n2 c2) (w3.heap.size+1) (by simp))
  have hg9n:=N3.out
  have U4:=hide (U3.out.keep ba)
  have H4:=hide (bthen H3.out ba)
  have N4:=hide (Nat.le_trans N3.out (Below.size ba))
  have HI4:=hide (HI3.out.below ba)
  clear U3 H3 N3 ba HI3
  obtain ⟨g9,hg9⟩:∃ g9,g9=w3.heap.size:=⟨_,rfl⟩
  generalize (w3.alloc (.cells #[.string s,.int .i64 (a3:Nat),.int .i64 e3,.int .i64 (0:Int)] 65)).alloc (.cells #[.int .i64 k,.int .i64 m,.string t,.slice s1 n1 c1,.slice s2 n2 c2] 27)=w4 at U4 H4 N4 S4 T4 HI4 ⊢
  rw [← hg9] at S4 T4 hg9n HI4 ⊢
  clear hg9
  obtain ⟨j0,j1,j2,j3⟩:=S4.out.cells
  have h3:=HE3.out
  have hA4:=HA3.out
  rw [hpv] at h3 hA4
  have hyx:y=x:=HY.out x ru hpv
  subst hyx
  simp only [Cn.code,Cn.left] at h3 hA4
  subst h3
  clear HE3 HA3 HY
  go_wp2_with fail
  refine (blanks_any s a3 0 ru _ hA4 (by omega)).mono ?_
  rintro e w5 ⟨a5,rfl,hA5,b5⟩
  clear j0 j1 j2 j3
  have U5:=hide (U4.out.keep b5)
  have S5:=hide (S4.out.keep b5)
  have T5:=hide (T4.out.keep b5)
  have H5:=hide (bthen H4.out b5)
  have N5:=hide (Nat.le_trans N4.out (Below.size b5))
  have HI5:=hide (HI4.out.below b5)
  clear U4 H4 N4 b5 S4 T4 HI4
  obtain ⟨j0,j1,j2,j3⟩:=S5.out.cells
  have fS:=S5.out.free
  have fS0:=fS 0
  have fS1:=fS 1
  have fS2:=fS 2
  have fS3:=fS 3
  clear fS
  go_upto_region 8 with fail
  clear j0 j1 j2 j3 fS0 fS1 fS2 fS3
  have S6:=hide (S5.out.all (.string s) (.int .i64 (a5:Nat)) (.int .i64 0) (.int .i64 (0:Int)))
  have T6:=hide (T5.out.past4 (g':=g9) (by omega) (.string s) (.int .i64 (a5:Nat)) (.int .i64 0) (.int .i64 (0:Int)))
  have U6:Hid (Z5 ((((w5.setCell ⟨g9,0,none⟩ (.string s)).setCell ⟨g9,1,none⟩ (.int .i64 (a5:Nat))).setCell ⟨g9,2,none⟩ (.int .i64 0)).setCell ⟨g9,3,none⟩ (.int .i64 (0:Int))) w.heap.size):=hide (U5.out.past4 (by omega) _ _ _ _)
  have H6:Hid (Below w.heap.size w ((((w5.setCell ⟨g9,0,none⟩ (.string s)).setCell ⟨g9,1,none⟩ (.int .i64 (a5:Nat))).setCell ⟨g9,2,none⟩ (.int .i64 0)).setCell ⟨g9,3,none⟩ (.int .i64 (0:Int)))):=hide (H5.out.trans (below4 (by omega) _ _ _ _))
  have N6:Hid (w.heap.size+1≤((((w5.setCell ⟨g9,0,none⟩ (.string s)).setCell ⟨g9,1,none⟩ (.int .i64 (a5:Nat))).setCell ⟨g9,2,none⟩ (.int .i64 0)).setCell ⟨g9,3,none⟩ (.int .i64 (0:Int))).heap.size):=hide (by have:=N5.out;simpa using this)
  have HI6:Hid (Is ((((w5.setCell ⟨g9,0,none⟩ (.string s)).setCell ⟨g9,1,none⟩ (.int .i64 (a5:Nat))).setCell ⟨g9,2,none⟩ (.int .i64 0)).setCell ⟨g9,3,none⟩ (.int .i64 (0:Int))) (fun b=>w.heap.size≤b∧b≠w.heap.size∧b < g9) (.agg #[.int .i64 k,.int .i64 m,.string t,.slice s1 n1 c1,.slice s2 n2 c2]) y):=hide (HI5.out.keep (keepsB _ _ _ _ _ _ (fun b hb=>by omega)))
  clear U5 H5 N5 S5 T5 HI5
  generalize (((w5.setCell ⟨g9,0,none⟩ (.string s)).setCell ⟨g9,1,none⟩ (.int .i64 (a5:Nat))).setCell ⟨g9,2,none⟩ (.int .i64 0)).setCell ⟨g9,3,none⟩ (.int .i64 (0:Int))=w6 at U6 H6 N6 S6 T6 HI6 ⊢
  obtain ⟨j0,j1,j2,j3⟩:=S6.out.cells
  have hl5:=hA5.len
  rw [hsk,List.length_nil] at hl5
  have hlt:¬ (a5:Int) < (s.size:Int):=by omega
  obtain ⟨i0,i1,i2,i3,i4⟩:=T6.out.cells
  obtain ⟨q0,q1,q2,q3,q4⟩:=U6.out.cells
  have fU:=U6.out.free
  have fU0:=fU 0
  have fU1:=fU 1
  have fU2:=fU 2
  have fU3:=fU 3
  have fU4:=fU 4
  clear fU
  go_wp2_with fail
  clear q0 q1 q2 q3 q4
  have hu:=U6.out.all (.int .i64 k) (.int .i64 m) (.string t) (.slice s1 n1 c1) (.slice s2 n2 c2)
  obtain ⟨p0,p1,p2,p3,p4⟩:=hu.cells
  have hbx:=H6.out.trans (below5 (Nat.le_refl _) (.int .i64 k) (.int .i64 m) (.string t) (.slice s1 n1 c1) (.slice s2 n2 c2))
  refine bodyPost_ret (v:=.tuple #[.agg #[.int .i64 k,.int .i64 m,.string t,.slice s1 n1 c1,.slice s2 n2 c2],.int .i64 0,.int .i64 0]) (by simp [results,Tryz.results30,go_sem,p0,p1,p2,p3,p4]) rfl ?_
  exact ⟨⟨k,m,t,s1,n1,c1,s2,n2,c2,rfl,(HI6.out.keep (keepsV _ _ (fun b hb=>hb.2.1))).weak (fun b _ hb=>hb.1)⟩,hbx⟩
set_option maxHeartbeats 3000000 in
theorem many_objK (f:Nat) (hf:0 < f) (s:ByteArray) (a d:Nat) (c0:UInt8) (u:List UInt8) (w:World) (h:At s a (c0 :: u)) (hs:s.size≤65536) (hd:f+d=33)
    (Rch:List UInt8→List (ByteArray×V)→Prop) (h0:Rch (Cn.skip u) []) (HPA:∀ r1 acc,Rch r1 acc→PairO s d acc r1 (Cn.ppair (Cn.pval f) (acc.map (·.1)) r1))
    (HRC:∀ r1 acc xv xu tt,Rch r1 acc→Cn.ppair (Cn.pval f) (acc.map (·.1)) r1=.ok (xv,xu)→Cn.skip xu=44 :: tt→Rch (Cn.skip tt) (acc ++ [xv])) (FF:List (ByteArray×V)×List UInt8)
    (HFF:Cn.serO (Cn.pval f) ((Cn.skip u).length+1) (Cn.skip u) []=.ok FF) (hq0:((Cn.skip u).head? == some 125)=false) :
    Calls Tryz.prog 95 #[St s a 0 d,.int .u8 125] w fun e' w'=>Told w.heap.size s d (Cn.pmany (Cn.pval f) 125 (Cn.skip u)) e' w'∧Below w.heap.size w w':=by
  have b0:=bthen (bthen (bthen (below_alloc w (.cells #[.string s,.int .i64 (a:Nat),.int .i64 0,.int .i64 (d:Nat)] 65)) (below_alloc _ (.cells #[.string ⟨#[]⟩,.int .i64 0,.int .i64 0,.int .i64 0] 65))) (below_alloc _ (.cells #[.int .i64 0,.int .i64 0,.string ⟨#[]⟩,.slice none 0 0,.slice none 0 0] 27))) (below_alloc _ (.cells #[.int .i64 5,.int .i64 0,.string ⟨#[]⟩,.slice none 0 0,.slice none 0 0] 27))
  have x0:=(((b4_new w (.string s) (.int .i64 (a:Nat)) (.int .i64 0) (.int .i64 (d:Nat)) w.heap.size rfl).keep (below_alloc _ (.cells #[.string ⟨#[]⟩,.int .i64 0,.int .i64 0,.int .i64 0] 65))).keep (below_alloc _ (.cells #[.int .i64 0,.int .i64 0,.string ⟨#[]⟩,.slice none 0 0,.slice none 0 0] 27))).keep (below_alloc _ (.cells #[.int .i64 5,.int .i64 0,.string ⟨#[]⟩,.slice none 0 0,.slice none 0 0] 27))
  have y0:=((b4_new (w.alloc (.cells #[.string s,.int .i64 (a:Nat),.int .i64 0,.int .i64 (d:Nat)] 65)) (.string ⟨#[]⟩) (.int .i64 0) (.int .i64 0) (.int .i64 0) (w.heap.size+1) (by simp)).keep (below_alloc _ (.cells #[.int .i64 0,.int .i64 0,.string ⟨#[]⟩,.slice none 0 0,.slice none 0 0] 27))).keep (below_alloc _ (.cells #[.int .i64 5,.int .i64 0,.string ⟨#[]⟩,.slice none 0 0,.slice none 0 0] 27))
  have z0:=(b5_new ((w.alloc (.cells #[.string s,.int .i64 (a:Nat),.int .i64 0,.int .i64 (d:Nat)] 65)).alloc (.cells #[.string ⟨#[]⟩,.int .i64 0,.int .i64 0,.int .i64 0] 65)) (.int .i64 0) (.int .i64 0) (.string ⟨#[]⟩) (.slice none 0 0) (.slice none 0 0) (w.heap.size+2) (by simp)).keep (below_alloc _ (.cells #[.int .i64 5,.int .i64 0,.string ⟨#[]⟩,.slice none 0 0,.slice none 0 0] 27))
  have q0:=b5_new (((w.alloc (.cells #[.string s,.int .i64 (a:Nat),.int .i64 0,.int .i64 (d:Nat)] 65)).alloc (.cells #[.string ⟨#[]⟩,.int .i64 0,.int .i64 0,.int .i64 0] 65)).alloc (.cells #[.int .i64 0,.int .i64 0,.string ⟨#[]⟩,.slice none 0 0,.slice none 0 0] 27)) (.int .i64 5) (.int .i64 0) (.string ⟨#[]⟩) (.slice none 0 0) (.slice none 0 0) (w.heap.size+3) (by simp)
  have hz0:w.heap.size+4≤((((w.alloc (.cells #[.string s,.int .i64 (a:Nat),.int .i64 0,.int .i64 (d:Nat)] 65)).alloc (.cells #[.string ⟨#[]⟩,.int .i64 0,.int .i64 0,.int .i64 0] 65)).alloc (.cells #[.int .i64 0,.int .i64 0,.string ⟨#[]⟩,.slice none 0 0,.slice none 0 0] 27)).alloc (.cells #[.int .i64 5,.int .i64 0,.string ⟨#[]⟩,.slice none 0 0,.slice none 0 0] 27)).heap.size:=by simp
  obtain ⟨w0,hw0⟩:∃ w0,w0=(((w.alloc (.cells #[.string s,.int .i64 (a:Nat),.int .i64 0,.int .i64 (d:Nat)] 65)).alloc (.cells #[.string ⟨#[]⟩,.int .i64 0,.int .i64 0,.int .i64 0] 65)).alloc (.cells #[.int .i64 0,.int .i64 0,.string ⟨#[]⟩,.slice none 0 0,.slice none 0 0] 27)).alloc (.cells #[.int .i64 5,.int .i64 0,.string ⟨#[]⟩,.slice none 0 0,.slice none 0 0] 27):=⟨_,rfl⟩
  rw [← hw0] at b0 x0 y0 z0 q0 hz0
  have W0:=hide hw0
  have X0:=hide x0
  have Y0:=hide y0
  have U0:=hide z0
  have Q0:=hide q0
  have H0:=hide b0
  have N0:=hide hz0
  clear b0 x0 y0 z0 q0 hw0 hz0
  have hl:=h.len
  rw [List.length_cons] at hl
  have hnx:=h.next
  go_enter Tryz.func95,Tryz.ntmps95
  go_upto_region 4 with fail
  rw [← W0.out]
  clear W0
  obtain ⟨x0,x1,x2,x3⟩:=X0.out.cells
  have f1:=X0.out.free 1
  go_upto_region 5 with fail
  have X1:=hide (X0.out.set1 (.int .i64 ((a:Int)+1)))
  have Y1:Hid (Z4 (w0.setCell ⟨w.heap.size,1,none⟩ (.int .i64 ((a:Int)+1))) (w.heap.size+1)):=hide (Y0.out.other _ (by omega))
  have U1:Hid (Z5 (w0.setCell ⟨w.heap.size,1,none⟩ (.int .i64 ((a:Int)+1))) (w.heap.size+2)):=hide (U0.out.other _ (by omega))
  have Q1:=hide (Q0.out.other (g':=w.heap.size) (o:=1) (.int .i64 ((a:Int)+1)) (by omega))
  have H1:Hid (Below w.heap.size w (w0.setCell ⟨w.heap.size,1,none⟩ (.int .i64 ((a:Int)+1)))):=hide (H0.out.setCell (p:=⟨w.heap.size,1,none⟩) (Nat.le_refl _) _)
  have N1:Hid (w.heap.size+4≤(w0.setCell ⟨w.heap.size,1,none⟩ (.int .i64 ((a:Int)+1))).heap.size):=hide (by have:=N0.out;simpa using this)
  clear X0 Y0 U0 Q0 H0 N0 x0 x1 x2 x3 f1
  generalize w0.setCell ⟨w.heap.size,1,none⟩ (.int .i64 ((a:Int)+1))=w1 at X1 Y1 U1 Q1 H1 N1 ⊢
  obtain ⟨x0,x1,x2,x3⟩:=X1.out.cells
  go_wp2_with fail
  refine (blanks_any s (a+1) d u _ hnx (by omega)).mono ?_
  rintro e w2 ⟨a2,rfl,hA2,b2⟩
  clear x0 x1 x2 x3
  have X2:=hide (X1.out.keep b2)
  have Y2:=hide (Y1.out.keep b2)
  have U2:=hide (U1.out.keep b2)
  have Q2:=hide (Q1.out.keep b2)
  have H2:=hide (bthen H1.out b2)
  have N2:=hide (Nat.le_trans N1.out (Below.size b2))
  clear X1 Y1 U1 Q1 H1 N1 b2
  obtain ⟨x0,x1,x2,x3⟩:=X2.out.cells
  have fX:=X2.out.free
  have fX0:=fX 0
  have fX1:=fX 1
  have fX2:=fX 2
  have fX3:=fX 3
  clear fX
  go_upto_region 6 with fail
  have X3:=hide (X2.out.all (.string s) (.int .i64 (a2:Nat)) (.int .i64 0) (.int .i64 (d:Nat)))
  have Y3:Hid (Z4 ((((w2.setCell ⟨w.heap.size,0,none⟩ (.string s)).setCell ⟨w.heap.size,1,none⟩ (.int .i64 (a2:Nat))).setCell ⟨w.heap.size,2,none⟩ (.int .i64 0)).setCell ⟨w.heap.size,3,none⟩ (.int .i64 (d:Nat))) (w.heap.size+1)):=hide ((((Y2.out.other _ (by omega)).other _ (by omega)).other _ (by omega)).other _ (by omega))
  have U3:Hid (Z5 ((((w2.setCell ⟨w.heap.size,0,none⟩ (.string s)).setCell ⟨w.heap.size,1,none⟩ (.int .i64 (a2:Nat))).setCell ⟨w.heap.size,2,none⟩ (.int .i64 0)).setCell ⟨w.heap.size,3,none⟩ (.int .i64 (d:Nat))) (w.heap.size+2)):=hide (U2.out.past4 (by omega) _ _ _ _)
  have Q3:=hide (Q2.out.past4 (g':=w.heap.size) (by omega) (.string s) (.int .i64 (a2:Nat)) (.int .i64 0) (.int .i64 (d:Nat)))
  have H3:Hid (Below w.heap.size w ((((w2.setCell ⟨w.heap.size,0,none⟩ (.string s)).setCell ⟨w.heap.size,1,none⟩ (.int .i64 (a2:Nat))).setCell ⟨w.heap.size,2,none⟩ (.int .i64 0)).setCell ⟨w.heap.size,3,none⟩ (.int .i64 (d:Nat)))):=hide (H2.out.trans (below4 (Nat.le_refl _) _ _ _ _))
  have N3:Hid (w.heap.size+4≤((((w2.setCell ⟨w.heap.size,0,none⟩ (.string s)).setCell ⟨w.heap.size,1,none⟩ (.int .i64 (a2:Nat))).setCell ⟨w.heap.size,2,none⟩ (.int .i64 0)).setCell ⟨w.heap.size,3,none⟩ (.int .i64 (d:Nat))).heap.size):=hide (by have:=N2.out;simpa using this)
  clear X2 Y2 U2 Q2 H2 N2 x0 x1 x2 x3 fX0 fX1 fX2 fX3
  generalize (((w2.setCell ⟨w.heap.size,0,none⟩ (.string s)).setCell ⟨w.heap.size,1,none⟩ (.int .i64 (a2:Nat))).setCell ⟨w.heap.size,2,none⟩ (.int .i64 0)).setCell ⟨w.heap.size,3,none⟩ (.int .i64 (d:Nat))=w3 at X3 Y3 U3 Q3 H3 N3 ⊢
  obtain ⟨x0,x1,x2,x3⟩:=X3.out.cells
  obtain ⟨q,hq⟩:∃ q,((Cn.skip u).head? == some 125)=q:=⟨_,rfl⟩
  go_wp2_with fail
  refine (is_any s a2 d 125 (Cn.skip u) _ hA2 (by omega) q hq).mono ?_
  rintro e w4 ⟨rfl,b4⟩
  clear x0 x1 x2 x3
  have X4:=hide (X3.out.keep b4)
  have Y4:=hide (Y3.out.keep b4)
  have U4:=hide (U3.out.keep b4)
  have Q4:=hide (Q3.out.keep b4)
  have H4:=hide (bthen H3.out b4)
  have N4:=hide (Nat.le_trans N3.out (Below.size b4))
  clear X3 Y3 U3 Q3 H3 N3 b4
  cases q with
  | true =>
    rw [hq0] at hq
    cases hq
  | false =>
    obtain ⟨FIN,hFIN⟩:∃ FIN,FIN=Cn.serO (Cn.pval f) ((Cn.skip u).length+1) (Cn.skip u) []:=⟨_,rfl⟩
    have hP:Cn.pmany (Cn.pval f) 125 (Cn.skip u)=Cn.objO FIN:=by rw [hFIN];exact Cn.pmany_obj _ _ hq
    have hsz:(Cn.skip u).length≤65536:=by have:=(Cn.skip_suf u).length_le;omega
    have HP:=hide hP
    have HFIN:=hide hFIN
    have HFO:Hid (FIN=.ok FF):=hide (by rw [hFIN];exact HFF)
    have HA:=hide hA2
    clear hP hFIN hA2 hq hl hnx h
    obtain ⟨x0,x1,x2,x3⟩:=X4.out.cells
    go_wp2_with fail
    clear x0 x1 x2 x3
    go_loopg [68] ((Cn.skip u).length+1) (fun g x wr=>∃ (a1:Nat) (r1:List UInt8) (er:Int) (k m:Int) (t:ByteArray) (s1:Option Addr) (n1 c1:Nat) (s2:Option Addr) (n2 c2:Nat) (y:V),Hid (At s a1 r1)∧Hid (B4 wr w.heap.size (.string s) (.int .i64 (a1:Nat)) (.int .i64 er) (.int .i64 (d:Nat)))∧Hid (Z4 wr (w.heap.size+1))∧Hid (Z5 wr (w.heap.size+2)) ∧
      Hid (B5 wr (w.heap.size+3) (.int .i64 k) (.int .i64 m) (.string t) (.slice s1 n1 c1) (.slice s2 n2 c2))∧Hid (Below w.heap.size w wr)∧Hid (w.heap.size+4≤wr.heap.size)∧Hid (HeldO w.heap.size wr (.agg #[.int .i64 k,.int .i64 m,.string t,.slice s1 n1 c1,.slice s2 n2 c2]) y) ∧
      ((er=0∧g=r1.length+1∧∃ acc,Hid (Rch r1 acc)∧Hid (y=Cn.objV acc)∧Hid (Cn.FitO f acc)∧Hid (Cn.tot (acc.map Cn.pairRow)+26 * r1.length≤26 * (Cn.skip u).length)∧Hid (∃ N,r1.length < N∧Cn.serO (Cn.pval f) N r1 acc=FIN))∨((er == 0)=false∧g=0∧Hid (FIN=.error (er,r1)))))
    case atStart=>exact ⟨a2,Cn.skip u,0,5,0,⟨#[]⟩,none,0,0,none,0,0,_,HA.out,X4.out,Y4.out,U4.out,Q4.out,H4.out,N4.out,is_bare _ _ 5 0 ⟨#[]⟩ (by decide),.inl ⟨rfl,rfl,[],h0,rfl,⟨by simp,by simp⟩,(by simp [Cn.tot]:Cn.tot _+26 * _≤_),⟨_,Nat.lt_succ_self _,HFIN.out.symm⟩⟩⟩
    case round =>
      clear X4 Y4 U4 Q4 H4 N4
      obtain ⟨a1,r1,er,k,m,t,s1,n1,c1,s2,n2,c2,y,HA1,X5,Y5,U5,Q5,H5,N5,HL,hcase⟩:=hrel
      rcases hcase with ⟨rfl,hg,acc,HRH,HYA,HFIT,HBUD,HG⟩ | ⟨he0,hg,HE⟩
      · have hya:=HYA.out
        subst hya
        have hbud:=HBUD.out
        have hl1:=HA1.out.len
        have hwt:V.wt (Cn.objV acc)≤100000000:=by have:=Cn.objV_wt HFIT.out hf;omega
        obtain ⟨x0,x1,x2,x3⟩:=X5.out.cells
        obtain ⟨q0,q1,q2,q3,q4⟩:=Q5.out.cells
        go_wp2_with fail
        refine (HPA r1 acc HRH.out (w.heap.size+4) a1 wr _ _ _ _ _ _ _ _ _ HA1.out N5.out HL.out hwt).mono ?_
        clear q0 q1 q2 q3 q4 HYA HL
        rintro e w6 ⟨⟨a3,k,m,t,s1,n1,c1,s2,n2,c2,y,rfl,hA3,hIs,hy⟩,b6⟩
        clear x0 x1 x2 x3
        have HY:=hide hy
        have HA3:=hide hA3
        have X6:=hide (X5.out.keep b6)
        have Y6:=hide (Y5.out.keep b6)
        have U6:=hide (U5.out.keep b6)
        have Q6:=hide (Q5.out.keep b6)
        have H6:=hide (bthen H5.out b6)
        have N6:=hide (Nat.le_trans N5.out (Below.size b6))
        have HL6:Hid (HeldO w.heap.size w6 (.agg #[.int .i64 k,.int .i64 m,.string t,.slice s1 n1 c1,.slice s2 n2 c2]) y):=hide hIs
        clear X5 Y5 U5 Q5 H5 N5 b6 hIs hy hA3 hwt
        go_upto_region 12 with fail
        obtain ⟨e3,he3⟩:∃ e3,Cn.code (Cn.ppair (Cn.pval f) (acc.map (·.1)) r1)=e3:=⟨_,rfl⟩
        have HE3:=hide he3
        rw [he3]
        have bA:=below_alloc w6 (.cells #[.string s,.int .i64 (a3:Nat),.int .i64 e3,.int .i64 (d:Nat)] 65)
        have bB:=below_alloc (w6.alloc (.cells #[.string s,.int .i64 (a3:Nat),.int .i64 e3,.int .i64 (d:Nat)] 65)) (.cells #[.int .i64 k,.int .i64 m,.string t,.slice s1 n1 c1,.slice s2 n2 c2] 27)
        have bAB:=bthen bA bB
        have S7:=hide ((b4_new w6 (.string s) (.int .i64 (a3:Nat)) (.int .i64 e3) (.int .i64 (d:Nat)) w6.heap.size rfl).keep bB)
        have T7:=hide (b5_new (w6.alloc (.cells #[.string s,.int .i64 (a3:Nat),.int .i64 e3,.int .i64 (d:Nat)] 65)) (.int .i64 k) (.int .i64 m) (.string t) (.slice s1 n1 c1) (.slice s2 n2 c2) (w6.heap.size+1) (by simp))
        have X7:=hide (X6.out.keep bAB)
        have Y7:=hide (Y6.out.keep bAB)
        have U7:=hide (U6.out.keep bAB)
        have Q7:=hide (Q6.out.keep bAB)
        have H7:=hide (bthen H6.out bAB)
        have N7:=hide (Nat.le_trans N6.out (Below.size bAB))
        have HL7:=hide (HL6.out.below bAB)
        have hn6:=N6.out
        clear HL6 bA bB bAB he3 X6 Y6 U6 Q6 H6 N6
        generalize (w6.alloc (.cells #[.string s,.int .i64 (a3:Nat),.int .i64 e3,.int .i64 (d:Nat)] 65)).alloc (.cells #[.int .i64 k,.int .i64 m,.string t,.slice s1 n1 c1,.slice s2 n2 c2] 27)=w7 at X7 Y7 U7 Q7 H7 N7 HL7 S7 T7 ⊢
        obtain ⟨g6,hg6⟩:∃ g6,g6=w6.heap.size:=⟨_,rfl⟩
        rw [← hg6] at hn6 S7 T7 ⊢
        clear hg6
        obtain ⟨x0,x1,x2,x3⟩:=X7.out.cells
        have fX:=X7.out.free
        have fX0:=fX 0
        have fX1:=fX 1
        have fX2:=fX 2
        have fX3:=fX 3
        clear fX
        obtain ⟨s0,s1',s2',s3⟩:=S7.out.cells
        go_upto_region 13 with fail
        have X8:=hide (X7.out.all (.string s) (.int .i64 (a3:Nat)) (.int .i64 e3) (.int .i64 (d:Nat)))
        have Y8:Hid (Z4 ((((w7.setCell ⟨w.heap.size,0,none⟩ (.string s)).setCell ⟨w.heap.size,1,none⟩ (.int .i64 (a3:Nat))).setCell ⟨w.heap.size,2,none⟩ (.int .i64 e3)).setCell ⟨w.heap.size,3,none⟩ (.int .i64 (d:Nat))) (w.heap.size+1)):=hide ((((Y7.out.other _ (by omega)).other _ (by omega)).other _ (by omega)).other _ (by omega))
        have U8:Hid (Z5 ((((w7.setCell ⟨w.heap.size,0,none⟩ (.string s)).setCell ⟨w.heap.size,1,none⟩ (.int .i64 (a3:Nat))).setCell ⟨w.heap.size,2,none⟩ (.int .i64 e3)).setCell ⟨w.heap.size,3,none⟩ (.int .i64 (d:Nat))) (w.heap.size+2)):=hide (U7.out.past4 (by omega) _ _ _ _)
        have Q8:=hide (Q7.out.past4 (g':=w.heap.size) (by omega) (.string s) (.int .i64 (a3:Nat)) (.int .i64 e3) (.int .i64 (d:Nat)))
        have H8:Hid (Below w.heap.size w ((((w7.setCell ⟨w.heap.size,0,none⟩ (.string s)).setCell ⟨w.heap.size,1,none⟩ (.int .i64 (a3:Nat))).setCell ⟨w.heap.size,2,none⟩ (.int .i64 e3)).setCell ⟨w.heap.size,3,none⟩ (.int .i64 (d:Nat)))):=hide (H7.out.trans (below4 (Nat.le_refl _) _ _ _ _))
        have N8:Hid (w.heap.size+4≤((((w7.setCell ⟨w.heap.size,0,none⟩ (.string s)).setCell ⟨w.heap.size,1,none⟩ (.int .i64 (a3:Nat))).setCell ⟨w.heap.size,2,none⟩ (.int .i64 e3)).setCell ⟨w.heap.size,3,none⟩ (.int .i64 (d:Nat))).heap.size):=hide (by have:=N7.out;simpa using this)
        have HL8:Hid (HeldO w.heap.size ((((w7.setCell ⟨w.heap.size,0,none⟩ (.string s)).setCell ⟨w.heap.size,1,none⟩ (.int .i64 (a3:Nat))).setCell ⟨w.heap.size,2,none⟩ (.int .i64 e3)).setCell ⟨w.heap.size,3,none⟩ (.int .i64 (d:Nat))) (.agg #[.int .i64 k,.int .i64 m,.string t,.slice s1 n1 c1,.slice s2 n2 c2]) y):=hide (HL7.out.set4 _ _ _ _ (by omega))
        have T8:=hide (T7.out.past4 (g':=w.heap.size) (by omega) (.string s) (.int .i64 (a3:Nat)) (.int .i64 e3) (.int .i64 (d:Nat)))
        clear X7 Y7 U7 Q7 H7 N7 x0 x1 x2 x3 fX0 fX1 fX2 fX3 s0 s1' s2' s3 S7 T7 HL7
        generalize (((w7.setCell ⟨w.heap.size,0,none⟩ (.string s)).setCell ⟨w.heap.size,1,none⟩ (.int .i64 (a3:Nat))).setCell ⟨w.heap.size,2,none⟩ (.int .i64 e3)).setCell ⟨w.heap.size,3,none⟩ (.int .i64 (d:Nat))=w8 at X8 Y8 U8 Q8 H8 N8 HL8 T8 ⊢
        obtain ⟨p0,p1,p2,p3,p4⟩:=T8.out.cells
        obtain ⟨q0,q1,q2,q3,q4⟩:=Q8.out.cells
        have fQ:=Q8.out.free
        have fQ0:=fQ 0
        have fQ1:=fQ 1
        have fQ2:=fQ 2
        have fQ3:=fQ 3
        have fQ4:=fQ 4
        clear fQ
        go_upto_region 17 with fail
        have X10:Hid (B4 (((((w8.setCell ⟨w.heap.size+3,0,none⟩ (.int .i64 k)).setCell ⟨w.heap.size+3,1,none⟩ (.int .i64 m)).setCell ⟨w.heap.size+3,2,none⟩ (.string t)).setCell ⟨w.heap.size+3,3,none⟩ (.slice s1 n1 c1)).setCell ⟨w.heap.size+3,4,none⟩ (.slice s2 n2 c2)) w.heap.size (.string s) (.int .i64 (a3:Nat)) (.int .i64 e3) (.int .i64 (d:Nat))):=hide (X8.out.past5 (by omega) _ _ _ _ _)
        have Y10:Hid (Z4 (((((w8.setCell ⟨w.heap.size+3,0,none⟩ (.int .i64 k)).setCell ⟨w.heap.size+3,1,none⟩ (.int .i64 m)).setCell ⟨w.heap.size+3,2,none⟩ (.string t)).setCell ⟨w.heap.size+3,3,none⟩ (.slice s1 n1 c1)).setCell ⟨w.heap.size+3,4,none⟩ (.slice s2 n2 c2)) (w.heap.size+1)):=hide (Y8.out.past5 (by omega) _ _ _ _ _)
        have U10:Hid (Z5 (((((w8.setCell ⟨w.heap.size+3,0,none⟩ (.int .i64 k)).setCell ⟨w.heap.size+3,1,none⟩ (.int .i64 m)).setCell ⟨w.heap.size+3,2,none⟩ (.string t)).setCell ⟨w.heap.size+3,3,none⟩ (.slice s1 n1 c1)).setCell ⟨w.heap.size+3,4,none⟩ (.slice s2 n2 c2)) (w.heap.size+2)):=hide (U8.out.past5 (by omega) _ _ _ _ _)
        have Q10:=hide (Q8.out.all (.int .i64 k) (.int .i64 m) (.string t) (.slice s1 n1 c1) (.slice s2 n2 c2))
        have H10:Hid (Below w.heap.size w (((((w8.setCell ⟨w.heap.size+3,0,none⟩ (.int .i64 k)).setCell ⟨w.heap.size+3,1,none⟩ (.int .i64 m)).setCell ⟨w.heap.size+3,2,none⟩ (.string t)).setCell ⟨w.heap.size+3,3,none⟩ (.slice s1 n1 c1)).setCell ⟨w.heap.size+3,4,none⟩ (.slice s2 n2 c2))):=hide (H8.out.trans (below5 (by omega) _ _ _ _ _))
        have N10:Hid (w.heap.size+4≤(((((w8.setCell ⟨w.heap.size+3,0,none⟩ (.int .i64 k)).setCell ⟨w.heap.size+3,1,none⟩ (.int .i64 m)).setCell ⟨w.heap.size+3,2,none⟩ (.string t)).setCell ⟨w.heap.size+3,3,none⟩ (.slice s1 n1 c1)).setCell ⟨w.heap.size+3,4,none⟩ (.slice s2 n2 c2)).heap.size):=hide (by have:=N8.out;simpa using this)
        have HL10:Hid (HeldO w.heap.size (((((w8.setCell ⟨w.heap.size+3,0,none⟩ (.int .i64 k)).setCell ⟨w.heap.size+3,1,none⟩ (.int .i64 m)).setCell ⟨w.heap.size+3,2,none⟩ (.string t)).setCell ⟨w.heap.size+3,3,none⟩ (.slice s1 n1 c1)).setCell ⟨w.heap.size+3,4,none⟩ (.slice s2 n2 c2)) (.agg #[.int .i64 k,.int .i64 m,.string t,.slice s1 n1 c1,.slice s2 n2 c2]) y):=hide (HL8.out.set5 _ _ _ _ _ (by omega))
        clear p0 p1 p2 p3 p4 q0 q1 q2 q3 q4 fQ0 fQ1 fQ2 fQ3 fQ4 X8 Y8 U8 Q8 H8 N8 HL8 T8
        generalize ((((w8.setCell ⟨w.heap.size+3,0,none⟩ (.int .i64 k)).setCell ⟨w.heap.size+3,1,none⟩ (.int .i64 m)).setCell ⟨w.heap.size+3,2,none⟩ (.string t)).setCell ⟨w.heap.size+3,3,none⟩ (.slice s1 n1 c1)).setCell ⟨w.heap.size+3,4,none⟩ (.slice s2 n2 c2)=w10 at X10 Y10 U10 Q10 H10 N10 HL10 ⊢
        obtain ⟨N,hNlt,hser⟩:=HG.out
        clear HG
        cases N with
        | zero=>omega
        | succ N =>
          cases hpv:Cn.ppair (Cn.pval f) (acc.map (·.1)) r1 with
          | error ee =>
            rw [Cn.serO,hpv,HFO.out] at hser
            cases hser
          | ok xx =>
            obtain ⟨xv,xu⟩:=xx
            have hres:=Cn.ppair_res (Cn.pval f) (Cn.pval_res f hf) (acc.map (·.1)) r1
            rw [hpv] at hres
            have hsuf:=hres.2.2
            have hyo:y=Cn.objV (acc ++ [xv]):=HY.out xv xu hpv
            have HYO:=hide hyo
            have HFIT2:=hide (Cn.fitO_snoc HFIT.out hres.1)
            have hwo:=Cn.ppair_worth (Cn.pval f) (Cn.pval_worth f) (acc.map (·.1)) r1 xv xu hpv
            have htt:Cn.tot ((acc ++ [xv]).map Cn.pairRow)=Cn.tot (acc.map Cn.pairRow)+Cn.pairB xv:=Cn.tot_snoc _ _
            clear hyo
            have h3:=HE3.out
            rw [hpv] at h3
            have h30:e3=0:=h3.symm
            subst h30
            have HA4:=HA3.out
            rw [hpv] at HA4
            rw [Cn.serO,hpv] at hser
            have hser2:Cn.after 125 xu (fun t=>.ok (acc ++ [xv],t)) (fun t=>Cn.serO (Cn.pval f) N t (acc ++ [xv]))=FIN:=hser
            have HSER:=hide hser2
            have hsk1:=(Cn.skip_suf xu).length_le
            simp only at hsuf
            clear hser hser2 hres h3
            obtain ⟨x0,x1,x2,x3⟩:=X10.out.cells
            go_wp2_with fail
            refine (blanks_any s a3 d xu _ HA4 (by omega)).mono ?_
            rintro e' w11 ⟨a4,rfl,hA4,b11⟩
            clear x0 x1 x2 x3
            have X11:=hide (X10.out.keep b11)
            have Y11:=hide (Y10.out.keep b11)
            have U11:=hide (U10.out.keep b11)
            have Q11:=hide (Q10.out.keep b11)
            have H11:=hide (bthen H10.out b11)
            have N11:=hide (Nat.le_trans N10.out (Below.size b11))
            have HL11:=hide (HL10.out.below b11)
            clear X10 Y10 U10 Q10 H10 N10 b11 HL10
            obtain ⟨x0,x1,x2,x3⟩:=X11.out.cells
            have fX:=X11.out.free
            have fX0:=fX 0
            have fX1:=fX 1
            have fX2:=fX 2
            have fX3:=fX 3
            clear fX
            go_upto_region 18 with fail
            have X12:=hide (X11.out.all (.string s) (.int .i64 (a4:Nat)) (.int .i64 0) (.int .i64 (d:Nat)))
            have Y12:Hid (Z4 ((((w11.setCell ⟨w.heap.size,0,none⟩ (.string s)).setCell ⟨w.heap.size,1,none⟩ (.int .i64 (a4:Nat))).setCell ⟨w.heap.size,2,none⟩ (.int .i64 0)).setCell ⟨w.heap.size,3,none⟩ (.int .i64 (d:Nat))) (w.heap.size+1)):=hide ((((Y11.out.other _ (by omega)).other _ (by omega)).other _ (by omega)).other _ (by omega))
            have U12:Hid (Z5 ((((w11.setCell ⟨w.heap.size,0,none⟩ (.string s)).setCell ⟨w.heap.size,1,none⟩ (.int .i64 (a4:Nat))).setCell ⟨w.heap.size,2,none⟩ (.int .i64 0)).setCell ⟨w.heap.size,3,none⟩ (.int .i64 (d:Nat))) (w.heap.size+2)):=hide (U11.out.past4 (by omega) _ _ _ _)
            have Q12:=hide (Q11.out.past4 (g':=w.heap.size) (by omega) (.string s) (.int .i64 (a4:Nat)) (.int .i64 0) (.int .i64 (d:Nat)))
            have H12:Hid (Below w.heap.size w ((((w11.setCell ⟨w.heap.size,0,none⟩ (.string s)).setCell ⟨w.heap.size,1,none⟩ (.int .i64 (a4:Nat))).setCell ⟨w.heap.size,2,none⟩ (.int .i64 0)).setCell ⟨w.heap.size,3,none⟩ (.int .i64 (d:Nat)))):=hide (H11.out.trans (below4 (Nat.le_refl _) _ _ _ _))
            have N12:Hid (w.heap.size+4≤((((w11.setCell ⟨w.heap.size,0,none⟩ (.string s)).setCell ⟨w.heap.size,1,none⟩ (.int .i64 (a4:Nat))).setCell ⟨w.heap.size,2,none⟩ (.int .i64 0)).setCell ⟨w.heap.size,3,none⟩ (.int .i64 (d:Nat))).heap.size):=hide (by have:=N11.out;simpa using this)
            have HL12:Hid (HeldO w.heap.size ((((w11.setCell ⟨w.heap.size,0,none⟩ (.string s)).setCell ⟨w.heap.size,1,none⟩ (.int .i64 (a4:Nat))).setCell ⟨w.heap.size,2,none⟩ (.int .i64 0)).setCell ⟨w.heap.size,3,none⟩ (.int .i64 (d:Nat))) (.agg #[.int .i64 k,.int .i64 m,.string t,.slice s1 n1 c1,.slice s2 n2 c2]) y):=hide (HL11.out.set4 _ _ _ _ (by omega))
            clear X11 Y11 U11 Q11 H11 N11 x0 x1 x2 x3 fX0 fX1 fX2 fX3 HL11
            generalize (((w11.setCell ⟨w.heap.size,0,none⟩ (.string s)).setCell ⟨w.heap.size,1,none⟩ (.int .i64 (a4:Nat))).setCell ⟨w.heap.size,2,none⟩ (.int .i64 0)).setCell ⟨w.heap.size,3,none⟩ (.int .i64 (d:Nat))=w12 at X12 Y12 U12 Q12 H12 N12 HL12 ⊢
            obtain ⟨x0,x1,x2,x3⟩:=X12.out.cells
            have hl4:=hA4.len
            obtain ⟨q,hq⟩:∃ q,((Cn.skip xu).head? == some 125)=q:=⟨_,rfl⟩
            go_wp2_with fail
            refine (is_any s a4 d 125 (Cn.skip xu) _ hA4 (by omega) q hq).mono ?_
            rintro e' w13 ⟨rfl,b13⟩
            clear x0 x1 x2 x3
            have X13:=hide (X12.out.keep b13)
            have Y13:=hide (Y12.out.keep b13)
            have U13:=hide (U12.out.keep b13)
            have Q13:=hide (Q12.out.keep b13)
            have H13:=hide (bthen H12.out b13)
            have N13:=hide (Nat.le_trans N12.out (Below.size b13))
            have HL13:=hide (HL12.out.below b13)
            clear X12 Y12 U12 Q12 H12 N12 b13 HL12
            cases q with
            | true =>
              obtain ⟨tt,ht⟩:∃ t,Cn.skip xu=125 :: t:=by
                cases hsk:Cn.skip xu with
                | nil=>rw [hsk] at hq;cases hq
                | cons b t=>rw [hsk] at hq;exact ⟨t,by rw [show b=125 by simpa using hq]⟩
              rw [ht] at hA4 hl4
              rw [List.length_cons] at hl4
              have hF:FIN=.ok (acc ++ [xv],tt):=by rw [← HSER.out];unfold Cn.after;rw [ht];rfl
              have HF:=hide hF
              clear hF
              obtain ⟨x0,x1,x2,x3⟩:=X13.out.cells
              have f1:=X13.out.free 1
              go_upto_region 20 with fail
              have X14:=hide (X13.out.set1 (.int .i64 ((a4:Int)+1)))
              have Y14:Hid (Z4 (w13.setCell ⟨w.heap.size,1,none⟩ (.int .i64 ((a4:Int)+1))) (w.heap.size+1)):=hide (Y13.out.other _ (by omega))
              have U14:Hid (Z5 (w13.setCell ⟨w.heap.size,1,none⟩ (.int .i64 ((a4:Int)+1))) (w.heap.size+2)):=hide (U13.out.other _ (by omega))
              have Q14:=hide (Q13.out.other (g':=w.heap.size) (o:=1) (.int .i64 ((a4:Int)+1)) (by omega))
              have H14:Hid (Below w.heap.size w (w13.setCell ⟨w.heap.size,1,none⟩ (.int .i64 ((a4:Int)+1)))):=hide (H13.out.setCell (p:=⟨w.heap.size,1,none⟩) (Nat.le_refl _) _)
              have N14:Hid (w.heap.size+4≤(w13.setCell ⟨w.heap.size,1,none⟩ (.int .i64 ((a4:Int)+1))).heap.size):=hide (by have:=N13.out;simpa using this)
              have HL14:Hid (HeldO w.heap.size (w13.setCell ⟨w.heap.size,1,none⟩ (.int .i64 ((a4:Int)+1))) (.agg #[.int .i64 k,.int .i64 m,.string t,.slice s1 n1 c1,.slice s2 n2 c2]) y):=hide (HL13.out.set _ (by omega))
              clear X13 Y13 U13 Q13 H13 N13 x0 x1 x2 x3 f1 HL13
              generalize w13.setCell ⟨w.heap.size,1,none⟩ (.int .i64 ((a4:Int)+1))=w14 at X14 Y14 U14 Q14 H14 N14 HL14 ⊢
              obtain ⟨x0,x1,x2,x3⟩:=X14.out.cells
              obtain ⟨y0,y1,y2,y3⟩:=Y14.out.cells
              obtain ⟨z0,z1,z2,z3,z4⟩:=U14.out.cells
              obtain ⟨q0,q1,q2,q3,q4⟩:=Q14.out.cells
              have fY:=Y14.out.free
              have fY0:=fY 0
              have fY1:=fY 1
              have fY2:=fY 2
              have fY3:=fY 3
              clear fY
              have fU:=U14.out.free
              have fU0:=fU 0
              have fU1:=fU 1
              have fU2:=fU 2
              have fU3:=fU 3
              have fU4:=fU 4
              clear fU
              go_region
              go_wp2_with fail
              obtain ⟨hy,hv,hb⟩:=fin45 Y14.out U14.out (by omega) (B:=w.heap.size) (by omega) (by omega) (.string s) (.int .i64 ((a4:Int)+1)) (.int .i64 0) (.int .i64 (d:Nat)) (.int .i64 k) (.int .i64 m) (.string t) (.slice s1 n1 c1) (.slice s2 n2 c2)
              clear y0 y1 y2 y3 z0 z1 z2 z3 z4
              obtain ⟨y0,y1,y2,y3⟩:=hy.drew.cells
              obtain ⟨p0,p1,p2,p3,p4⟩:=hv.drew.cells
              refine bodyPost_ret (v:=.tuple #[.agg #[.string s,.int .i64 ((a4:Int)+1),.int .i64 0,.int .i64 (d:Nat)],.agg #[.int .i64 k,.int .i64 m,.string t,.slice s1 n1 c1,.slice s2 n2 c2]]) (by simp [results,Tryz.results95,go_sem,y0,y1,y2,y3,p0,p1,p2,p3,p4]) rfl ⟨?_,(H14.out.trans hb).drew⟩
              rw [HP.out,HF.out]
              refine ⟨a4+1,k,m,t,s1,n1,c1,s2,n2,c2,y,rfl,hA4.next,hl_finO HL14.out,fun x r hx=>?_⟩
              cases hx
              exact HYO.out
            | false =>
              obtain ⟨x0,x1,x2,x3⟩:=X13.out.cells
              go_wp2_with fail
              cases hq2:((Cn.skip xu).head? == some 44) with
              | true =>
                obtain ⟨tt,ht⟩:∃ t,Cn.skip xu=44 :: t:=by
                  cases hsk:Cn.skip xu with
                  | nil=>rw [hsk] at hq2;cases hq2
                  | cons b t=>rw [hsk] at hq2;exact ⟨t,by rw [show b=44 by simpa using hq2]⟩
                rw [ht] at hA4 hsk1
                rw [List.length_cons] at hsk1
                have hF:Cn.serO (Cn.pval f) N (Cn.skip tt) (acc ++ [xv])=FIN:=by rw [← HSER.out];unfold Cn.after;rw [ht];rfl
                have HF:=hide hF
                have hsk2:=(Cn.skip_suf tt).length_le
                clear hF
                refine (need_hit s a4 d 44 tt _ hA4 (by omega)).mono ?_
                rintro e' w14 ⟨a5,rfl,hA5,b14⟩
                clear x0 x1 x2 x3
                have X22:=hide (X13.out.keep b14)
                have Y22:=hide (Y13.out.keep b14)
                have U22:=hide (U13.out.keep b14)
                have Q22:=hide (Q13.out.keep b14)
                have H22:=hide (bthen H13.out b14)
                have N22:=hide (Nat.le_trans N13.out (Below.size b14))
                have HL22:=hide (HL13.out.below b14)
                clear X13 Y13 U13 Q13 H13 N13 b14 HL13
                go_wp2_with fail
                refine (blanks_any s a5 d tt _ hA5 (by omega)).mono ?_
                rintro e' v3 ⟨a6,rfl,hA6,bb3⟩
                have X23:=hide (X22.out.keep bb3)
                have Y23:=hide (Y22.out.keep bb3)
                have U23:=hide (U22.out.keep bb3)
                have Q23:=hide (Q22.out.keep bb3)
                have H23:=hide (bthen H22.out bb3)
                have N23:=hide (Nat.le_trans N22.out (Below.size bb3))
                have HL23:=hide (HL22.out.below bb3)
                clear X22 Y22 U22 Q22 H22 N22 bb3 HL22
                obtain ⟨x0,x1,x2,x3⟩:=X23.out.cells
                have fX:=X23.out.free
                have fX0:=fX 0
                have fX1:=fX 1
                have fX2:=fX 2
                have fX3:=fX 3
                clear fX
                go_wp2_with fail
                have X24:=hide (X23.out.all (.string s) (.int .i64 (a6:Nat)) (.int .i64 0) (.int .i64 (d:Nat)))
                have Y24:Hid (Z4 ((((v3.setCell ⟨w.heap.size,0,none⟩ (.string s)).setCell ⟨w.heap.size,1,none⟩ (.int .i64 (a6:Nat))).setCell ⟨w.heap.size,2,none⟩ (.int .i64 0)).setCell ⟨w.heap.size,3,none⟩ (.int .i64 (d:Nat))) (w.heap.size+1)):=hide ((((Y23.out.other _ (by omega)).other _ (by omega)).other _ (by omega)).other _ (by omega))
                have U24:Hid (Z5 ((((v3.setCell ⟨w.heap.size,0,none⟩ (.string s)).setCell ⟨w.heap.size,1,none⟩ (.int .i64 (a6:Nat))).setCell ⟨w.heap.size,2,none⟩ (.int .i64 0)).setCell ⟨w.heap.size,3,none⟩ (.int .i64 (d:Nat))) (w.heap.size+2)):=hide (U23.out.past4 (by omega) _ _ _ _)
                have Q24:=hide (Q23.out.past4 (g':=w.heap.size) (by omega) (.string s) (.int .i64 (a6:Nat)) (.int .i64 0) (.int .i64 (d:Nat)))
                have H24:Hid (Below w.heap.size w ((((v3.setCell ⟨w.heap.size,0,none⟩ (.string s)).setCell ⟨w.heap.size,1,none⟩ (.int .i64 (a6:Nat))).setCell ⟨w.heap.size,2,none⟩ (.int .i64 0)).setCell ⟨w.heap.size,3,none⟩ (.int .i64 (d:Nat)))):=hide (H23.out.trans (below4 (Nat.le_refl _) _ _ _ _))
                have N24:Hid (w.heap.size+4≤((((v3.setCell ⟨w.heap.size,0,none⟩ (.string s)).setCell ⟨w.heap.size,1,none⟩ (.int .i64 (a6:Nat))).setCell ⟨w.heap.size,2,none⟩ (.int .i64 0)).setCell ⟨w.heap.size,3,none⟩ (.int .i64 (d:Nat))).heap.size):=hide (by have:=N23.out;simpa using this)
                have HL24:Hid (HeldO w.heap.size ((((v3.setCell ⟨w.heap.size,0,none⟩ (.string s)).setCell ⟨w.heap.size,1,none⟩ (.int .i64 (a6:Nat))).setCell ⟨w.heap.size,2,none⟩ (.int .i64 0)).setCell ⟨w.heap.size,3,none⟩ (.int .i64 (d:Nat))) (.agg #[.int .i64 k,.int .i64 m,.string t,.slice s1 n1 c1,.slice s2 n2 c2]) y):=hide (HL23.out.set4 _ _ _ _ (by omega))
                go_roundg ((Cn.skip tt).length+1)
                case measure=>omega
                case rel=>exact ⟨a6,_,0,k,m,t,s1,n1,c1,s2,n2,c2,y,hA6,X24.out,Y24.out,U24.out,Q24.out,H24.out,N24.out,HL24.out,.inl ⟨rfl,rfl,acc ++ [xv],HRC r1 acc xv xu tt HRH.out hpv ht,HYO.out,HFIT2.out,(by show _≤_;omega),⟨N,by omega,HF.out⟩⟩⟩
              | false =>
                have hF:FIN=.error (11,Cn.skip xu):=by
                  rw [← HSER.out]
                  unfold Cn.after
                  cases hsk:Cn.skip xu with
                  | nil=>rfl
                  | cons b t =>
                    rw [hsk] at hq hq2
                    have hb1:(b == 125)=false:=by simpa using hq
                    have hb2:(b == 44)=false:=by simpa using hq2
                    simp only [hb1,hb2]
                    rfl
                rw [HFO.out] at hF
                cases hF
      · have h9:=HE.out
        rw [HFO.out] at h9
        cases h9
theorem pairO_of {s:ByteArray} {d:Nat} {acc:List (ByteArray×V)} {r:List UInt8} {o:Except Cn.Er ((ByteArray×V)×List UInt8)} (hs:s.size≤65536) (tt:List UInt8) (nn:Nat) (hun:Gm.unquote r=some (tt,nn)) (HG:(V.get (Cn.objV acc) ⟨tt.toArray⟩).isSome=false) (r3:List UInt8) (hr3:Cn.skip (r.drop nn)=58 :: r3)
    (OO:Except Cn.Er (V×List UInt8)) (HVO:ValO s d (Cn.skip r3) OO) (x:V) (ru:List UInt8) (hpv:OO=.ok (x,ru)) (h5:(Cn.objV acc).kind=5) (htt:tt.length≤1000000) (ho:o=.ok ((⟨tt.toArray⟩,x),ru)):PairO s d acc r o:=by
  intro B a w k n t a1 n1 c1 a2 n2 c2 hA hB hv hwt
  refine (pair_goodK s a d r w hA hs k n t a1 n1 c1 a2 n2 c2 _ B hv hwt tt nn hun HG r3 hr3 OO HVO hB x ru hpv h5 htt).mono ?_
  rintro e' w' ⟨⟨a',k',n',t',a1',n1',c1',a2',n2',c2',he,hA,hI⟩,hb⟩
  rw [ho]
  refine ⟨⟨a',k',n',t',a1',n1',c1',a2',n2',c2',_,he,hA,hI,fun p u hx=>?_⟩,hb⟩
  cases hx
  exact (Cn.objV_snoc acc ((⟨tt.toArray⟩:ByteArray),x)).symm
theorem valO_text {s:ByteArray} {d:Nat} {u:List UInt8} (hs:s.size≤65536) (H91:(u.head? == some 91)=false) (H123:(u.head? == some 123)=false) (H34:(u.head? == some 34)=true) (tt:List UInt8) (nn:Nat) (hun:Gm.unquote u=some (tt,nn)) (htt:tt.length≤1000):ValO s d u (.ok (V.str ⟨tt.toArray⟩,u.drop nn)):=by
  intro a w hA
  refine (val_text_yes s a d u w hA hs H91 H123 H34 tt nn hun).mono ?_
  rintro e' w' ⟨he,hA2,hb⟩
  refine ⟨⟨a+nn,3,0,_,none,0,0,none,0,0,_,he,hA2,is_bare _ _ 3 0 _ ?_,fun x r hx=>by cases hx;rfl⟩,hb⟩
  show tt.toArray.size≤maxLen
  rw [List.size_toArray]
  unfold maxLen
  omega
theorem valO_digit {s:ByteArray} {d:Nat} (c c2:UInt8) (t:List UInt8) (hs:s.size≤65536) (hd:d≤32) (hc:49≤c.toNat∧c.toNat≤57) (h2:c2=125∨c2=44):ValO s d (c :: c2 :: t) (.ok (⟨2,(Cn.numOf [c]:Int),⟨#[]⟩,[],[]⟩,c2 :: t)):=by
  intro a w hA
  have hne:∀ z:UInt8,z.toNat < 49∨57 < z.toNat→((c :: c2 :: t).head? == some z)=false:=fun z hz=>by
    have:c≠z:=fun e=>by rw [e] at hc;omega
    simp [this]
  have hdig:Cn.digit c=true:=by
    unfold Cn.digit
    simp only [Bool.and_eq_true,decide_eq_true_eq,UInt8.le_iff_toNat_le]
    constructor
    · show (48:UInt8).toNat≤c.toNat
      have:(48:UInt8).toNat=48:=rfl
      omega
    · show c.toNat≤(57:UInt8).toNat
      have:(57:UInt8).toNat=57:=rfl
      omega
  have hdig2:Cn.digit c2=false:=by rcases h2 with e | e <;> rw [e] <;> rfl
  have htw:(c :: c2 :: t).takeWhile Cn.digit=[c]:=by simp [List.takeWhile,hdig,hdig2]
  obtain ⟨hl0,hb0⟩:=hA.byte
  obtain ⟨hl1,hb1⟩:=hA.next.byte
  have hnum:Cn.numOf [c]≤Cn.most:=by
    have e:Cn.numOf [c]=0 * 10+(c.toNat - 48):=by unfold Cn.numOf;simp
    rw [e]
    unfold Cn.most
    omega
  have hc2:∀ z:Nat,z=46∨z=101∨z=69→(s[a+1]'hl1).toNat≠z:=fun z hz=>by
    rw [hb1]
    rcases h2 with e | e <;> rw [e] <;> rcases hz with e2 | e2 | e2 <;> rw [e2] <;> decide
  refine val_digitK s a d _ w hA hs (hne 91 (by decide)) (hne 123 (by decide)) (hne 34 (by decide)) (hne 45 (by decide)) 1 (by rw [htw];rfl) (by decide) _ (fun w=>?_)
  refine (num_f_p_byte s a d _ _ w hA (by omega) (hne 45 (by decide)) hA 1 (by rw [htw];rfl) rfl hl0 (by rw [hb0];omega) hl1 (hc2 46 (.inl rfl)) (hc2 101 (.inr (.inl rfl))) (hc2 69 (.inr (.inr rfl))) (by decide)).mono ?_
  rintro e w' ⟨⟨R,he,_,hR2⟩,hb⟩
  rw [htw] at hR2
  exact ⟨told_ok (k:=2) (n:=(Cn.numOf [c]:Int)) hA.next rfl (by rw [he,hR2 hnum]),hb⟩
end Go.Proofs.YtapcmbbhhclepaaGreatDoor
