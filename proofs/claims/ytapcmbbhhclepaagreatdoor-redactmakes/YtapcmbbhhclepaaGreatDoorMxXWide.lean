/-
  THE WALK of the law's Wide,an event's value of choices (layer 7).
-/
import Derived.Test.YtapcmbbhhclepaaGreatDoorM25
set_option linter.unusedVariables false
set_option linter.unusedSimpArgs false
set_option maxRecDepth 100000
namespace Go.Proofs.YtapcmbbhhclepaaGreatDoor
open Go.RowKit

theorem isRow_drop {w:World} {b off len cap:Nat} {zs:List Int} (h:IsRow .u8 w (some ⟨b,off,none⟩) len cap zs) (n:Nat) (hn:n < len):IsRow .u8 w (some ⟨b,off+n,none⟩) (len - n) (cap - n) (zs.drop n):=by
  rcases h with ⟨h0,_⟩ | ⟨x,ha,hl,hm,hz,hcell,hwz⟩
  · cases h0
  · cases ha
    refine .inr ⟨_,rfl,by omega,by omega,by rw [List.length_drop];omega,fun i hi=>?_,fun m hm2=>hwz m (List.mem_of_mem_drop hm2)⟩;rw [List.length_drop] at hi;have h1:=hcell (n+i) (by omega);have e:(zs.drop n).getD i 0=zs.getD (n+i) 0:=by simp [List.getD]
    rw [e,← h1]
    have e2:∀ (o k:Nat),(⟨b,o,none⟩:Addr).add k=⟨b,o+k,none⟩:=fun o k=>by
      by_cases hk:k=0
      · subst hk;simp [Addr.add]
      · simp [Addr.add,hk]
    rw [e2,e2,Nat.add_assoc]
namespace Xr
def wideKeys:List ByteArray:=[⟨#[116,121,112,101]⟩,⟨#[99,111,110,116,101,110,116]⟩,⟨#[115,101,110,100,101,114]⟩,⟨#[117,110,115,105,103,110,101,100]⟩,⟨#[104,97,115,104,101,115]⟩,⟨#[100,101,112,116,104]⟩,⟨#[121]⟩,⟨#[115,116,97,116,101,95,107,101,121]⟩,⟨#[112,114,101,118,95,101,118,101,110,116,115]⟩]
def wideX (zs:List Int) (len:Nat) (k:Int) (i:Nat):V :=
  if zs.getD i 0 % 9=1 then body (zs.drop i) (len - i) k
  else if zs.getD i 0 % 9=0∧40 < zs.getD i 0 then V.str (kindN (zs.getD i 0 / 9))
  else V.part (zs.drop i) (len - i) k
def wideTo (zs:List Int) (len:Nat) (k:Int):Nat→V
  | 0=>V.none5
  | i+1=>V.withV (wideTo zs len k i) (wideKeys.getD (zs.getD i 0 % 9).toNat ByteArray.empty) (wideX zs len k i)
def wide (zs:List Int) (len:Nat) (k:Int):V:=wideTo zs len k (min 18 len)
theorem wideTo_5 (zs:List Int) (len:Nat) (k:Int):∀ i,(wideTo zs len k i).kind=5
  | 0=>rfl
  | i+1=>V.kind5_with _ _ _
theorem wideKey_size (i:Nat):(wideKeys.getD i ByteArray.empty).size≤11:=key_small _ 11 (by decide) i
theorem wideX_right {zs:List Int} (h:∀ n ∈ zs,(Lit.int .u8 n).wf=true) (len:Nat) (k:Int) (i:Nat):V.right (wideX zs len k i)=true:=by
  unfold wideX
  split
  · exact body_right (fun n hn=>h n (List.mem_of_mem_drop hn)) _ _
  · split
    · exact V.right_str (kindN_utf _)
    · exact V.right_part _ _ _
theorem wideX_wt (zs:List Int) (len:Nat) (k:Int) (i:Nat):V.wt (wideX zs len k i)≤25000:=by
  unfold wideX
  split
  · exact body_wt _ _ _
  · split
    · rw [wt_str];have:=kindN_size (zs.getD i 0 / 9);omega
    · have:=V.wt_part (zs.drop i) (len - i) k;omega
theorem wideX_cost (zs:List Int) (len:Nat) (k:Int) (i:Nat):cost (wideX zs len k i)≤40000:=by
  unfold wideX
  split
  · exact body_cost _ _ _
  · split
    · rw [cost_str];have:=kindN_size (zs.getD i 0 / 9);omega
    · have:=cost_part (zs.drop i) (len - i) k;omega
theorem wideTo_wt (zs:List Int) (len:Nat) (k:Int):∀ i,V.wt (wideTo zs len k i)≤1+25020 * i
  | 0=>by show V.wt V.none5≤_;unfold V.none5;rw [V.wt_mk];decide
  | i+1=>by
    have h1:=wideTo_wt zs len k i;have h2:=V.wt_with_le (wideTo zs len k i) (wideKeys.getD (zs.getD i 0 % 9).toNat ByteArray.empty) (wideX zs len k i);have h3:=wideX_wt zs len k i;have h4:=wideKey_size (zs.getD i 0 % 9).toNat;simp only [wideTo];omega
theorem wideTo_cost (zs:List Int) (len:Nat) (k:Int):∀ i,cost (wideTo zs len k i)≤24+40100 * i
  | 0=>by show cost V.none5≤_;unfold V.none5;rw [cost_mk];decide
  | i+1=>by
    have h1:=wideTo_cost zs len k i;have h2:=cost_with (wideTo zs len k i) (wideKeys.getD (zs.getD i 0 % 9).toNat ByteArray.empty) (wideX zs len k i);have h3:=wideX_cost zs len k i;have h4:=wideKey_size (zs.getD i 0 % 9).toNat;simp only [wideTo];omega
theorem wideTo_right {zs:List Int} (h:∀ n ∈ zs,(Lit.int .u8 n).wf=true) (len:Nat) (k:Int):∀ i,V.right (wideTo zs len k i)=true
  | 0=>V.right_none5
  | i+1=>V.right_with (wideTo_right h len k i) (wideTo_5 zs len k i) (utf_list wideKeys (by kernel_rfl) _) (wideX_right h len k i)
theorem wide_cost (zs:List Int) (len:Nat) (k:Int):cost (wide zs len k)≤730000:=by have:=wideTo_cost zs len k (min 18 len);unfold wide;omega
theorem wide_wt (zs:List Int) (len:Nat) (k:Int):V.wt (wide zs len k)≤460000:=by have:=wideTo_wt zs len k (min 18 len);unfold wide;omega
theorem wide_right {zs:List Int} (h:∀ n ∈ zs,(Lit.int .u8 n).wf=true) (len:Nat) (k:Int):V.right (wide zs len k)=true:=wideTo_right h len k _
theorem wide_5 (zs:List Int) (len:Nat) (k:Int):(wide zs len k).kind=5:=wideTo_5 zs len k _
end Xr

set_option maxHeartbeats 4000000 in
theorem wide_any (a:Option Addr) (len cap:Nat) (zs:List Int) (k:Int) (w:World) (h:IsRow .u8 w a len cap zs) (hk0:0≤k) (hk1:k≤255) :
    Calls Tryz.prog 11 #[.slice a len cap,.int .u8 k] w fun e w'=>∃ k2 n t a1 n1 c1 a2 n2 c2,e=.returned (.agg #[.int .i64 k2,.int .i64 n,.string t,.slice a1 n1 c1,.slice a2 n2 c2])∧Is w' (fun b=>w.heap.size≤b) (.agg #[.int .i64 k2,.int .i64 n,.string t,.slice a1 n1 c1,.slice a2 n2 c2]) (Xr.wide zs len k)∧Below w.heap.size w w':=by
  obtain ⟨h1,h2,h3,h4⟩:=h.view
  have hlc:len≤cap:=by
    rcases h with ⟨rfl,rfl,rfl,rfl⟩ | ⟨x,_,hl,_⟩
    · exact Nat.le_refl _
    · exact hl
  have HLC:=hide hlc;have HH:=hide h;have H1:=hide h1;have H2:=hide h2;have H3:=hide h3;have H4:=hide h4;clear h h1 h2 h3 h4 hlc;go_enter Tryz.func11,Tryz.ntmps11
  go_wp2_with fail
  go_loopg [7] 19 (fun gg i wr=>∃ (n:Nat) (vk vn:Int) (vt:ByteArray) (va1:Option Addr) (vn1 vc1:Nat) (va2:Option Addr) (vn2 vc2:Nat),n+gg=19∧n≤min 18 len∧i=.int .i64 n∧Hid (B5 wr w.heap.size (.int .i64 0) (.int .i64 0) (.string ⟨#[]⟩) (.slice none 0 0) (.slice none 0 0))∧Hid (B5 wr (w.heap.size+1) (.int .i64 vk) (.int .i64 vn) (.string vt) (.slice va1 vn1 vc1) (.slice va2 vn2 vc2))∧Hid (RowS wr (w.heap.size+1+1) Xr.wideKeys)∧Hid (Below w.heap.size w wr)∧Hid (w.heap.size+3≤wr.heap.size)∧Hid (Is wr (fun b=>w.heap.size+3≤b) (.agg #[.int .i64 vk,.int .i64 vn,.string vt,.slice va1 vn1 vc1,.slice va2 vn2 vc2]) (Xr.wideTo zs len k n)))
  case atStart=>
    refine ⟨0,5,0,⟨#[]⟩,none,0,0,none,0,0,by omega,by omega,rfl,?_,?_,?_,?_,?_,?_⟩
    · exact ((b5_new w _ _ _ _ _ _ rfl).keep (below_alloc _ _)).keep (below_alloc _ _)
    · exact (b5_new (w.alloc (.cells #[.int .i64 0,.int .i64 0,.string ⟨#[]⟩,.slice none 0 0,.slice none 0 0] 27)) _ _ _ _ _ _ (by simp)).keep (below_alloc _ _)
    · exact rowS_new _ Xr.wideKeys _ (by simp)
    · exact bthen (below_alloc _ _) (bthen (below_alloc _ _) (below_alloc _ _))
    · show _≤_;simp
    · exact is_plain _ _ 5 0 ⟨#[]⟩ (by decide)
  case round =>
    obtain ⟨n,vk,vn,vt,va1,vn1,vc1,va2,vn2,vc2,hg,hn,rfl,U5,V5,R5,L5,N5,I5⟩:=hrel
    by_cases hnl:n < min 18 len
    · have hnl2:n < len:=by omega
      obtain ⟨b,off,rfl,e0⟩:=H4.out n (by omega);have hz0:=Xr.u8_bounds H3.out n;obtain ⟨z,hz⟩:∃ z,zs.getD n 0=z:=⟨_,rfl⟩;rw [hz] at e0 hz0;have HZ:=hide hz;have HZB:=hide hz0;obtain ⟨hzb0,hzb1⟩:=hz0;have E5:=hide (cell_keep e0 L5.out);have hbl:=cell_size e0;clear e0 hz;have hlc:=HLC.out
      have hcm:cap≤maxLen:=by
        rcases HH.out with ⟨h0,_⟩ | ⟨x,_,_,hm,_⟩
        · cases h0
        · exact hm
      have hrow:=isRow_drop (isRow_keep HH.out L5.out) n hnl2;have HROW:=hide hrow;clear hrow
      go_wp2_with fail
      refine (part_any (some ⟨b,off+n,none⟩) (len - n) (cap - n) (zs.drop n) k wr HROW.out hk0 hk1).mono ?_;rintro e w1 ⟨pk,pn,pt,pa1,pn1,pc1,pa2,pn2,pc2,rfl,hpart,b1⟩;obtain ⟨PV,hPV⟩:∃ P,Xr.wideTo zs len k n=P:=⟨_,rfl⟩;have hwt:=Xr.wideTo_wt zs len k n;have hk5:=Xr.wideTo_5 zs len k n;have hpl:(z % 9).toNat < 9:=by omega
      have hstp:Xr.wideTo zs len k (n+1)=V.withV PV (Xr.wideKeys.getD (z % 9).toNat ByteArray.empty) (Xr.wideX zs len k n):=by
        simp only [Xr.wideTo];rw [hPV,HZ.out]
      have hxe:Xr.wideX zs len k n=if z % 9=1 then Xr.body (zs.drop n) (len - n) k else if z % 9=0∧40 < z then V.str (Xr.kindN (z / 9)) else V.part (zs.drop n) (len - n) k:=by unfold Xr.wideX;rw [HZ.out]
      generalize Xr.wideX zs len k n=XV at hstp hxe;rw [hPV] at I5 hwt hk5;have b12:=below_alloc w1 (.cells #[.int .i64 pk,.int .i64 pn,.string pt,.slice pa1 pn1 pc1,.slice pa2 pn2 pc2] 27);have b2:=bthen b1 b12;have U6:=hide (U5.out.keep b2);have V6:=hide (V5.out.keep b2);have R6:=hide (R5.out.keep (by have:=N5.out;omega) b2);have L6:=hide (bthen L5.out b2);have I6:=hide ((I5.out.weak (S':=fun bb=>w.heap.size+3≤bb∧bb≠w1.heap.size) (fun bb hl hb=>⟨hb,by have:=b1.size;omega⟩)).below b2);have P6:=hide ((hpart.weak (S':=fun bb=>w.heap.size+3≤bb) (fun bb hl hb=>by have:=N5.out;have h9:wr.heap.size≤bb:=hb;show w.heap.size+3≤bb;omega)).below b12);have E6:=hide (cell_keep E5.out b2);have X6:=hide (b5_new w1 (.int .i64 pk) (.int .i64 pn) (.string pt) (.slice pa1 pn1 pc1) (.slice pa2 pn2 pc2) w1.heap.size rfl);have G6:Hid (w.heap.size+3≤w1.heap.size):=hide (by have:=N5.out;have:=b1.size;omega);have N6:Hid (w1.heap.size < (w1.alloc (.cells #[.int .i64 pk,.int .i64 pn,.string pt,.slice pa1 pn1 pc1,.slice pa2 pn2 pc2] 27)).heap.size):=hide (by simp);have HROW2:=hide (isRow_keep HROW.out b2);clear U5 V5 R5 L5 N5 I5 E5 b1 b12 b2 hpart HROW
      go_upto_region 7 with fail
      generalize w1.alloc (.cells #[.int .i64 pk,.int .i64 pn,.string pt,.slice pa1 pn1 pc1,.slice pa2 pn2 pc2] 27)=w2 at U6 V6 R6 L6 I6 P6 E6 X6 N6 HROW2 ⊢;generalize w1.heap.size=gx at X6 G6 N6 I6 ⊢;have HPL:=hide hpl;have HSTP:=hide hstp;have HXE:=hide hxe;have HWT:=hide hwt;have V5:=hide hk5;have HBL:=hide hbl;have HPV:=hide hPV;have hcases:z % 9=1∨(z % 9=0∧40 < z)∨(z % 9=0∧¬ 40 < z)∨(z % 9≠0∧z % 9≠1):=by omega
      clear hpl hstp hxe hwt hk5 hbl hPV;rcases hcases with hc | hc | hc | hc
      · have c0:(z % 9 == 0)=false:=by rw [hc];rfl
        have c1:(z % 9 == 1)=true:=by rw [hc];rfl
        have hxv:XV=Xr.body (zs.drop n) (len - n) k:=by rw [HXE.out,if_pos hc]
        have HXV:=hide hxv;have q0:=E6.out;clear hc hxv
        go_wp2_with fail
        refine (body_any (some ⟨b,off+n,none⟩) (len - n) (cap - n) (zs.drop n) k w2 HROW2.out hk0 hk1).mono ?_;rintro e w3 ⟨k3,n3,t3,a3,m3,c3x,a4,m4,c4x,rfl,h3,b3⟩;clear q0 c0 c1;have b4:=b3;have X7:=hide (X6.out.keep b4);obtain ⟨y0,y1,y2,y3,y4⟩:=X7.out.cells;have fu0:=X7.out.free 0;have fu1:=X7.out.free 1;have fu2:=X7.out.free 2;have fu3:=X7.out.free 3;have fu4:=X7.out.free 4
        go_upto_region 11 with fail
        clear y0 y1 y2 y3 y4 fu0 fu1 fu2 fu3 fu4;have hg6:=G6.out;have hn6:=N6.out;have hb4:=b4.size;have hbl:=HBL.out;have kp:∀ {S:Nat→Prop},¬ S gx→Keeps S w3 (((((w3.setCell ⟨gx,0,none⟩ (.int .i64 k3)).setCell ⟨gx,1,none⟩ (.int .i64 n3)).setCell ⟨gx,2,none⟩ (.string t3)).setCell ⟨gx,3,none⟩ (.slice a3 m3 c3x)).setCell ⟨gx,4,none⟩ (.slice a4 m4 c4x)):=fun hS=>keeps_chain hS (.int .i64 k3) (.int .i64 n3) (.string t3) (.slice a3 m3 c3x) (.slice a4 m4 c4x)
        have U9:=hide ((U6.out.keep b4).past5 (g':=gx) (by omega) (.int .i64 k3) (.int .i64 n3) (.string t3) (.slice a3 m3 c3x) (.slice a4 m4 c4x));have V9:=hide ((V6.out.keep b4).past5 (g':=gx) (by omega) (.int .i64 k3) (.int .i64 n3) (.string t3) (.slice a3 m3 c3x) (.slice a4 m4 c4x));have R9:=hide ((R6.out.keep (by omega) b4).past (g':=gx) (by omega) (.int .i64 k3) (.int .i64 n3) (.string t3) (.slice a3 m3 c3x) (.slice a4 m4 c4x));have L9:Hid (Below w.heap.size w (((((w3.setCell ⟨gx,0,none⟩ (.int .i64 k3)).setCell ⟨gx,1,none⟩ (.int .i64 n3)).setCell ⟨gx,2,none⟩ (.string t3)).setCell ⟨gx,3,none⟩ (.slice a3 m3 c3x)).setCell ⟨gx,4,none⟩ (.slice a4 m4 c4x))):=hide ((bthen L6.out b4).trans (below5 (by omega) (.int .i64 k3) (.int .i64 n3) (.string t3) (.slice a3 m3 c3x) (.slice a4 m4 c4x)));have I9:=hide (((I6.out.below b4).keep (kp (by show ¬ (_∧gx≠gx);simp))).weak (S':=fun bb=>w.heap.size+3≤bb) (fun bb hl hb=>hb.1));have E9:=hide ((kp (S:=fun bb=>bb=b) (by show ¬ (gx=b);omega)).cell rfl (cell_keep E6.out b4));have X9a:=hide (X7.out.all (.int .i64 k3) (.int .i64 n3) (.string t3) (.slice a3 m3 c3x) (.slice a4 m4 c4x));have J9a:Hid (Is (((((w3.setCell ⟨gx,0,none⟩ (.int .i64 k3)).setCell ⟨gx,1,none⟩ (.int .i64 n3)).setCell ⟨gx,2,none⟩ (.string t3)).setCell ⟨gx,3,none⟩ (.slice a3 m3 c3x)).setCell ⟨gx,4,none⟩ (.slice a4 m4 c4x)) (fun bb=>w.heap.size+3≤bb) (.agg #[.int .i64 k3,.int .i64 n3,.string t3,.slice a3 m3 c3x,.slice a4 m4 c4x]) XV):=hide (by rw [HXV.out];exact (h3.keep (kp (by show ¬ (w2.heap.size≤gx);omega))).weak (fun bb _ hb=>by have h9:w2.heap.size≤bb:=hb;show w.heap.size+3≤bb;omega));have N9:Hid (w.heap.size+3≤(((((w3.setCell ⟨gx,0,none⟩ (.int .i64 k3)).setCell ⟨gx,1,none⟩ (.int .i64 n3)).setCell ⟨gx,2,none⟩ (.string t3)).setCell ⟨gx,3,none⟩ (.slice a3 m3 c3x)).setCell ⟨gx,4,none⟩ (.slice a4 m4 c4x)).heap.size):=hide (by simp;omega);clear kp b4 U6 V6 R6 L6 I6 E6 X6 X7 hg6 hb4 hbl;generalize (((((w3.setCell ⟨gx,0,none⟩ (.int .i64 k3)).setCell ⟨gx,1,none⟩ (.int .i64 n3)).setCell ⟨gx,2,none⟩ (.string t3)).setCell ⟨gx,3,none⟩ (.slice a3 m3 c3x)).setCell ⟨gx,4,none⟩ (.slice a4 m4 c4x))=w9 at U9 V9 R9 L9 I9 E9 X9a J9a N9 ⊢;obtain ⟨xk,xn,xt,xa1,xn1,xc1,xa2,xn2,xc2,X9,J9⟩:∃ (xk xn:Int) (xt:ByteArray) (xa1:Option Addr) (xn1 xc1:Nat) (xa2:Option Addr) (xn2 xc2:Nat),Hid (B5 w9 gx (.int .i64 xk) (.int .i64 xn) (.string xt) (.slice xa1 xn1 xc1) (.slice xa2 xn2 xc2))∧Hid (Is w9 (fun bb=>w.heap.size+3≤bb) (.agg #[.int .i64 xk,.int .i64 xn,.string xt,.slice xa1 xn1 xc1,.slice xa2 xn2 xc2]) XV):=⟨_,_,_,_,_,_,_,_,_,X9a,J9a⟩;clear X9a J9a hn6;clear h3;have hkz:=Xr.wideKey_size (z % 9).toNat;have hk9:=R9.out (z % 9).toNat (by show _ < 9;exact HPL.out);have hst9:=HSTP.out;generalize Xr.wideKeys.getD (z % 9).toNat ByteArray.empty=K at hkz hk9 hst9;have KZ:Hid (K.size≤1000000000):=hide (by omega);have K9:=hide hk9;have HST:=hide hst9;have WV:Hid (V.wt PV≤1000000000):=hide (by have:=HWT.out;omega);clear hkz hk9 hst9
        refine' wp_region_facts [(fun _ _ v _=>v=(.agg #[.int .i64 vk,.int .i64 vn,.string vt,.slice va1 vn1 vc1,.slice va2 vn2 vc2])),(fun _ _ v _=>v=(.slice (some ⟨w.heap.size+1+1,0,none⟩) 9 9)),(fun _ _ v _=>v=(.slice (some ⟨b,off,none⟩) len cap)),(fun _ _ v _=>v=(.int .i64 (n:Int))),(fun _ _ v _=>v=(.pointer (some ⟨b,off+n,none⟩))),(fun _ _ v _=>v=(.int .u8 z)),(fun _ _ v _=>v=(.int .u8 (z % 9))),(fun _ _ v _=>v=(.pointer (some ⟨w.heap.size+1+1,(z % 9).toNat,none⟩))),(fun _ _ v _=>v=(.string K)),(fun _ _ v _=>v=(.agg #[.int .i64 xk,.int .i64 xn,.string xt,.slice xa1 xn1 xc1,.slice xa2 xn2 xc2])),(StayF (w.heap.size+3) (V.withV PV K XV))] (by kernel_rfl) rfl ?hA (by kernel_rfl) (by kernel_rfl) (by kernel_rfl) rfl ?mono ?steps ?last
        case hA =>
          intro vs;simp only [puts,Act.put,List.setIfInBounds_toArray,List.set_cons_zero,List.set_cons_succ,Nat.zero_add,Nat.reduceAdd];rfl
        case mono=>exact ⟨mono_eq _,mono_eq _,mono_eq _,mono_eq _,mono_eq _,mono_eq _,mono_eq _,mono_eq _,mono_eq _,mono_eq _,mono_stay _ _,trivial⟩
        case steps =>
          intro Q';refine And.intro ?_ <| And.intro ?_ <| And.intro ?_ <| And.intro ?_ <| And.intro ?_ <| And.intro ?_ <| And.intro ?_ <| And.intro ?_ <| And.intro ?_ <| And.intro ?_ <| And.intro ?_ <| trivial
          all_goals
            intro vs lo hi w' hM hd K' hK;dsimp only at hK ⊢;simp only [Act.put,List.setIfInBounds_toArray,List.set_cons_zero,List.set_cons_succ] at hK
          · obtain ⟨p0,p1,p2,p3,p4⟩:=(V9.out.keep hM).cells
            go_simp;exact hK.out _ _ rfl (Below.refl _ _)
          · go_simp
            exact hK.out _ _ rfl (Below.refl _ _)
          · go_simp
            exact hK.out _ _ rfl (Below.refl _ _)
          · go_simp
            exact hK.out _ _ rfl (Below.refl _ _)
          · have e2:vs 2=(.slice (some ⟨b,off,none⟩) len cap):=hd 2 (by kernel_rfl)
            have e3:vs 3=(.int .i64 (n:Int)):=hd 3 (by kernel_rfl);simp only [e2,e3] at hK ⊢;clear e2 e3;go_simp;exact hK.out _ _ rfl (Below.refl _ _)
          · have e4:vs 4=(.pointer (some ⟨b,off+n,none⟩)):=hd 4 (by kernel_rfl)
            simp only [e4] at hK ⊢;clear e4;have q0:=cell_keep E9.out hM;go_simp;exact hK.out _ _ rfl (Below.refl _ _)
          · have e5:vs 5=(.int .u8 z):=hd 5 (by kernel_rfl)
            simp only [e5] at hK ⊢;clear e5;have hz1:=HZB.out.1;have hz2:=HZB.out.2;have ht:=Int.tmod_eq_emod_of_nonneg (b:=9) hz1;go_simp;exact hK.out _ _ rfl (Below.refl _ _)
          · have e1:vs 1=(.slice (some ⟨w.heap.size+1+1,0,none⟩) 9 9):=hd 1 (by kernel_rfl)
            have e6:vs 6=(.int .u8 (z % 9)):=hd 6 (by kernel_rfl);simp only [e1,e6] at hK ⊢;clear e1 e6;have hz1:=HZB.out.1;have hz2:=HZB.out.2;have hp1:0≤z % 9:=by omega
            have hp2:z % 9 < 9:=by omega
            go_simp;exact hK.out _ _ rfl (Below.refl _ _)
          · have e7:vs 7=(.pointer (some ⟨w.heap.size+1+1,(z % 9).toNat,none⟩)):=hd 7 (by kernel_rfl)
            simp only [e7] at hK ⊢;clear e7;have q0:=cell_keep K9.out hM;go_simp;exact hK.out _ _ rfl (Below.refl _ _)
          · obtain ⟨p0,p1,p2,p3,p4⟩:=(X9.out.keep hM).cells
            go_simp;exact hK.out _ _ rfl (Below.refl _ _)
          · have e0:vs 0=(.agg #[.int .i64 vk,.int .i64 vn,.string vt,.slice va1 vn1 vc1,.slice va2 vn2 vc2]):=hd 0 (by kernel_rfl)
            have e8:vs 8=(.string K):=hd 8 (by kernel_rfl);have e9:vs 9=(.agg #[.int .i64 xk,.int .i64 xn,.string xt,.slice xa1 xn1 xc1,.slice xa2 xn2 xc2]):=hd 9 (by kernel_rfl);simp only [e0,e8,e9] at hK ⊢;clear e0 e8 e9;go_simp;refine (refWith_any5 (I9.out.below hM) (J9.out.below hM) WV.out K KZ.out V5.out).mono ?_;rintro e w7 ⟨k7,n7,t7,a17,n17,c17,a27,n27,c27,rfl,h7,b7⟩;exact hK.out _ _ ⟨_,_,_,_,_,_,_,_,_,rfl,hide (h7.weak (fun bb _ hb=>hb.elim id (fun h2=>by have:=N9.out;have:=hM.size;omega)))⟩ b7
        case last =>
          intro vs lo hi w' hM hlo hap hall K' Q' hK;obtain ⟨_,_,_,_,_,_,_,_,_,_,h10,_⟩:=hall;obtain ⟨k10,n10,t10,a110,n110,c110,a210,n210,c210,e10,H10⟩:=h10;dsimp only;simp only [e10];clear e10 hap hlo;have VV:=V9.out.keep hM;obtain ⟨y0,y1,y2,y3,y4⟩:=VV.cells;have fu0:=VV.free 0;have fu1:=VV.free 1;have fu2:=VV.free 2;have fu3:=VV.free 3;have fu4:=VV.free 4;go_simp;refine hK.out _ _ ?_;clear hK y0 y1 y2 y3 y4 fu0 fu1 fu2 fu3 fu4;have hn9:=N9.out;have V12:=hide (VV.all (.int .i64 k10) (.int .i64 n10) (.string t10) (.slice a110 n110 c110) (.slice a210 n210 c210));have U12:=hide ((U9.out.keep hM).past5 (g':=w.heap.size+1) (by omega) (.int .i64 k10) (.int .i64 n10) (.string t10) (.slice a110 n110 c110) (.slice a210 n210 c210));have R12:=hide ((R9.out.keep (by omega) hM).past (g':=w.heap.size+1) (by omega) (.int .i64 k10) (.int .i64 n10) (.string t10) (.slice a110 n110 c110) (.slice a210 n210 c210));have L12:Hid (Below w.heap.size w (((((w'.setCell ⟨(w.heap.size+1),0,none⟩ (.int .i64 k10)).setCell ⟨(w.heap.size+1),1,none⟩ (.int .i64 n10)).setCell ⟨(w.heap.size+1),2,none⟩ (.string t10)).setCell ⟨(w.heap.size+1),3,none⟩ (.slice a110 n110 c110)).setCell ⟨(w.heap.size+1),4,none⟩ (.slice a210 n210 c210))):=hide ((bthen L9.out hM).trans (below5 (B:=w.heap.size) (g:=w.heap.size+1) (w:=w') (by omega) (.int .i64 k10) (.int .i64 n10) (.string t10) (.slice a110 n110 c110) (.slice a210 n210 c210)));have I12:=hide (H10.out.keep (keeps_chain (S:=fun bb=>w.heap.size+3≤bb) (by show ¬ (w.heap.size+3≤w.heap.size+1);omega) (.int .i64 k10) (.int .i64 n10) (.string t10) (.slice a110 n110 c110) (.slice a210 n210 c210)));have N12:Hid (w.heap.size+3≤(((((w'.setCell ⟨(w.heap.size+1),0,none⟩ (.int .i64 k10)).setCell ⟨(w.heap.size+1),1,none⟩ (.int .i64 n10)).setCell ⟨(w.heap.size+1),2,none⟩ (.string t10)).setCell ⟨(w.heap.size+1),3,none⟩ (.slice a110 n110 c110)).setCell ⟨(w.heap.size+1),4,none⟩ (.slice a210 n210 c210)).heap.size):=hide (by have:=hM.size;simp;omega);clear VV hM
          go_wp2_with fail
          go_roundg (gk - 1)
          case measure=>omega
          case rel=>exact ⟨n+1,_,_,_,_,_,_,_,_,_,by omega,by omega,rfl,U12.out,V12.out,R12.out,L12.out,N12.out,by rw [HST.out];exact I12.out⟩
      · have c0:(z % 9 == 0)=true:=by rw [hc.1];rfl
        have h40:40 < z:=hc.2;have C1:Hid ((z % 9 == 1)=false):=hide (by rw [hc.1];rfl);have hxv:XV=V.str (Xr.kindN (z / 9)):=by rw [HXE.out,if_neg (by omega),if_pos hc]
        have hqz:=Xr.kindN_size (z / 9);have hkd:=kind_any (z / 9) w2 (by omega) (by omega);generalize Xr.kindN (z / 9)=Q at hxv hqz hkd;have HXV:=hide hxv;have HKD:=hide hkd;have q0:=E6.out;clear hc hxv hkd
        go_wp2_with fail
        refine HKD.out.mono ?_;rintro e w2b ⟨rfl,bk⟩;clear q0 c0 h40
        go_wp2_with fail
        refine (refStr_any Q _).mono ?_;rintro e w3 ⟨rfl,b3⟩;have b4:=bthen bk b3;have X7:=hide (X6.out.keep b4);obtain ⟨y0,y1,y2,y3,y4⟩:=X7.out.cells;have fu0:=X7.out.free 0;have fu1:=X7.out.free 1;have fu2:=X7.out.free 2;have fu3:=X7.out.free 3;have fu4:=X7.out.free 4
        go_upto_region 9 with fail
        clear y0 y1 y2 y3 y4 fu0 fu1 fu2 fu3 fu4;have hg6:=G6.out;have hn6:=N6.out;have hb4:=b4.size;have hbl:=HBL.out;have kp:∀ {S:Nat→Prop},¬ S gx→Keeps S w3 (((((w3.setCell ⟨gx,0,none⟩ (.int .i64 3)).setCell ⟨gx,1,none⟩ (.int .i64 0)).setCell ⟨gx,2,none⟩ (.string Q)).setCell ⟨gx,3,none⟩ (.slice none 0 0)).setCell ⟨gx,4,none⟩ (.slice none 0 0)):=fun hS=>keeps_chain hS (.int .i64 3) (.int .i64 0) (.string Q) (.slice none 0 0) (.slice none 0 0)
        have U9:=hide ((U6.out.keep b4).past5 (g':=gx) (by omega) (.int .i64 3) (.int .i64 0) (.string Q) (.slice none 0 0) (.slice none 0 0));have V9:=hide ((V6.out.keep b4).past5 (g':=gx) (by omega) (.int .i64 3) (.int .i64 0) (.string Q) (.slice none 0 0) (.slice none 0 0));have R9:=hide ((R6.out.keep (by omega) b4).past (g':=gx) (by omega) (.int .i64 3) (.int .i64 0) (.string Q) (.slice none 0 0) (.slice none 0 0));have L9:Hid (Below w.heap.size w (((((w3.setCell ⟨gx,0,none⟩ (.int .i64 3)).setCell ⟨gx,1,none⟩ (.int .i64 0)).setCell ⟨gx,2,none⟩ (.string Q)).setCell ⟨gx,3,none⟩ (.slice none 0 0)).setCell ⟨gx,4,none⟩ (.slice none 0 0))):=hide ((bthen L6.out b4).trans (below5 (by omega) (.int .i64 3) (.int .i64 0) (.string Q) (.slice none 0 0) (.slice none 0 0)));have I9:=hide (((I6.out.below b4).keep (kp (by show ¬ (_∧gx≠gx);simp))).weak (S':=fun bb=>w.heap.size+3≤bb) (fun bb hl hb=>hb.1));have E9:=hide ((kp (S:=fun bb=>bb=b) (by show ¬ (gx=b);omega)).cell rfl (cell_keep E6.out b4));have X9a:=hide (X7.out.all (.int .i64 3) (.int .i64 0) (.string Q) (.slice none 0 0) (.slice none 0 0));have J9a:Hid (Is (((((w3.setCell ⟨gx,0,none⟩ (.int .i64 3)).setCell ⟨gx,1,none⟩ (.int .i64 0)).setCell ⟨gx,2,none⟩ (.string Q)).setCell ⟨gx,3,none⟩ (.slice none 0 0)).setCell ⟨gx,4,none⟩ (.slice none 0 0)) (fun bb=>w.heap.size+3≤bb) (.agg #[.int .i64 3,.int .i64 0,.string Q,.slice none 0 0,.slice none 0 0]) XV):=hide (by rw [HXV.out];exact is_plain _ _ 3 0 Q (Nat.le_trans hqz (by decide)));have N9:Hid (w.heap.size+3≤(((((w3.setCell ⟨gx,0,none⟩ (.int .i64 3)).setCell ⟨gx,1,none⟩ (.int .i64 0)).setCell ⟨gx,2,none⟩ (.string Q)).setCell ⟨gx,3,none⟩ (.slice none 0 0)).setCell ⟨gx,4,none⟩ (.slice none 0 0)).heap.size):=hide (by simp;omega);clear kp b4 U6 V6 R6 L6 I6 E6 X6 X7 hg6 hb4 hbl;generalize (((((w3.setCell ⟨gx,0,none⟩ (.int .i64 3)).setCell ⟨gx,1,none⟩ (.int .i64 0)).setCell ⟨gx,2,none⟩ (.string Q)).setCell ⟨gx,3,none⟩ (.slice none 0 0)).setCell ⟨gx,4,none⟩ (.slice none 0 0))=w9 at U9 V9 R9 L9 I9 E9 X9a J9a N9 ⊢;obtain ⟨xk,xn,xt,xa1,xn1,xc1,xa2,xn2,xc2,X9,J9⟩:∃ (xk xn:Int) (xt:ByteArray) (xa1:Option Addr) (xn1 xc1:Nat) (xa2:Option Addr) (xn2 xc2:Nat),Hid (B5 w9 gx (.int .i64 xk) (.int .i64 xn) (.string xt) (.slice xa1 xn1 xc1) (.slice xa2 xn2 xc2))∧Hid (Is w9 (fun bb=>w.heap.size+3≤bb) (.agg #[.int .i64 xk,.int .i64 xn,.string xt,.slice xa1 xn1 xc1,.slice xa2 xn2 xc2]) XV):=⟨_,_,_,_,_,_,_,_,_,X9a,J9a⟩;clear X9a J9a hn6;have q0:=E9.out;have c1:=C1.out
        go_upto_region 11 with fail
        clear q0 c1;have hkz:=Xr.wideKey_size (z % 9).toNat;have hk9:=R9.out (z % 9).toNat (by show _ < 9;exact HPL.out);have hst9:=HSTP.out;generalize Xr.wideKeys.getD (z % 9).toNat ByteArray.empty=K at hkz hk9 hst9;have KZ:Hid (K.size≤1000000000):=hide (by omega);have K9:=hide hk9;have HST:=hide hst9;have WV:Hid (V.wt PV≤1000000000):=hide (by have:=HWT.out;omega);clear hkz hk9 hst9;refine' wp_region_facts [(fun _ _ v _=>v=(.agg #[.int .i64 vk,.int .i64 vn,.string vt,.slice va1 vn1 vc1,.slice va2 vn2 vc2])),(fun _ _ v _=>v=(.slice (some ⟨w.heap.size+1+1,0,none⟩) 9 9)),(fun _ _ v _=>v=(.slice (some ⟨b,off,none⟩) len cap)),(fun _ _ v _=>v=(.int .i64 (n:Int))),(fun _ _ v _=>v=(.pointer (some ⟨b,off+n,none⟩))),(fun _ _ v _=>v=(.int .u8 z)),(fun _ _ v _=>v=(.int .u8 (z % 9))),(fun _ _ v _=>v=(.pointer (some ⟨w.heap.size+1+1,(z % 9).toNat,none⟩))),(fun _ _ v _=>v=(.string K)),(fun _ _ v _=>v=(.agg #[.int .i64 xk,.int .i64 xn,.string xt,.slice xa1 xn1 xc1,.slice xa2 xn2 xc2])),(StayF (w.heap.size+3) (V.withV PV K XV))] (by kernel_rfl) rfl ?hA (by kernel_rfl) (by kernel_rfl) (by kernel_rfl) rfl ?mono ?steps ?last
        case hA =>
          intro vs;simp only [puts,Act.put,List.setIfInBounds_toArray,List.set_cons_zero,List.set_cons_succ,Nat.zero_add,Nat.reduceAdd];rfl
        case mono=>exact ⟨mono_eq _,mono_eq _,mono_eq _,mono_eq _,mono_eq _,mono_eq _,mono_eq _,mono_eq _,mono_eq _,mono_eq _,mono_stay _ _,trivial⟩
        case steps =>
          intro Q';refine And.intro ?_ <| And.intro ?_ <| And.intro ?_ <| And.intro ?_ <| And.intro ?_ <| And.intro ?_ <| And.intro ?_ <| And.intro ?_ <| And.intro ?_ <| And.intro ?_ <| And.intro ?_ <| trivial
          all_goals
            intro vs lo hi w' hM hd K' hK;dsimp only at hK ⊢;simp only [Act.put,List.setIfInBounds_toArray,List.set_cons_zero,List.set_cons_succ] at hK
          · obtain ⟨p0,p1,p2,p3,p4⟩:=(V9.out.keep hM).cells
            go_simp;exact hK.out _ _ rfl (Below.refl _ _)
          · go_simp
            exact hK.out _ _ rfl (Below.refl _ _)
          · go_simp
            exact hK.out _ _ rfl (Below.refl _ _)
          · go_simp
            exact hK.out _ _ rfl (Below.refl _ _)
          · have e2:vs 2=(.slice (some ⟨b,off,none⟩) len cap):=hd 2 (by kernel_rfl)
            have e3:vs 3=(.int .i64 (n:Int)):=hd 3 (by kernel_rfl);simp only [e2,e3] at hK ⊢;clear e2 e3;go_simp;exact hK.out _ _ rfl (Below.refl _ _)
          · have e4:vs 4=(.pointer (some ⟨b,off+n,none⟩)):=hd 4 (by kernel_rfl)
            simp only [e4] at hK ⊢;clear e4;have q0:=cell_keep E9.out hM;go_simp;exact hK.out _ _ rfl (Below.refl _ _)
          · have e5:vs 5=(.int .u8 z):=hd 5 (by kernel_rfl)
            simp only [e5] at hK ⊢;clear e5;have hz1:=HZB.out.1;have hz2:=HZB.out.2;have ht:=Int.tmod_eq_emod_of_nonneg (b:=9) hz1;go_simp;exact hK.out _ _ rfl (Below.refl _ _)
          · have e1:vs 1=(.slice (some ⟨w.heap.size+1+1,0,none⟩) 9 9):=hd 1 (by kernel_rfl)
            have e6:vs 6=(.int .u8 (z % 9)):=hd 6 (by kernel_rfl);simp only [e1,e6] at hK ⊢;clear e1 e6;have hz1:=HZB.out.1;have hz2:=HZB.out.2;have hp1:0≤z % 9:=by omega
            have hp2:z % 9 < 9:=by omega
            go_simp;exact hK.out _ _ rfl (Below.refl _ _)
          · have e7:vs 7=(.pointer (some ⟨w.heap.size+1+1,(z % 9).toNat,none⟩)):=hd 7 (by kernel_rfl)
            simp only [e7] at hK ⊢;clear e7;have q0:=cell_keep K9.out hM;go_simp;exact hK.out _ _ rfl (Below.refl _ _)
          · obtain ⟨p0,p1,p2,p3,p4⟩:=(X9.out.keep hM).cells
            go_simp;exact hK.out _ _ rfl (Below.refl _ _)
          · have e0:vs 0=(.agg #[.int .i64 vk,.int .i64 vn,.string vt,.slice va1 vn1 vc1,.slice va2 vn2 vc2]):=hd 0 (by kernel_rfl)
            have e8:vs 8=(.string K):=hd 8 (by kernel_rfl);have e9:vs 9=(.agg #[.int .i64 xk,.int .i64 xn,.string xt,.slice xa1 xn1 xc1,.slice xa2 xn2 xc2]):=hd 9 (by kernel_rfl);simp only [e0,e8,e9] at hK ⊢;clear e0 e8 e9;go_simp;refine (refWith_any5 (I9.out.below hM) (J9.out.below hM) WV.out K KZ.out V5.out).mono ?_;rintro e w7 ⟨k7,n7,t7,a17,n17,c17,a27,n27,c27,rfl,h7,b7⟩;exact hK.out _ _ ⟨_,_,_,_,_,_,_,_,_,rfl,hide (h7.weak (fun bb _ hb=>hb.elim id (fun h2=>by have:=N9.out;have:=hM.size;omega)))⟩ b7
        case last =>
          intro vs lo hi w' hM hlo hap hall K' Q' hK;obtain ⟨_,_,_,_,_,_,_,_,_,_,h10,_⟩:=hall;obtain ⟨k10,n10,t10,a110,n110,c110,a210,n210,c210,e10,H10⟩:=h10;dsimp only;simp only [e10];clear e10 hap hlo;have VV:=V9.out.keep hM;obtain ⟨y0,y1,y2,y3,y4⟩:=VV.cells;have fu0:=VV.free 0;have fu1:=VV.free 1;have fu2:=VV.free 2;have fu3:=VV.free 3;have fu4:=VV.free 4;go_simp;refine hK.out _ _ ?_;clear hK y0 y1 y2 y3 y4 fu0 fu1 fu2 fu3 fu4;have hn9:=N9.out;have V12:=hide (VV.all (.int .i64 k10) (.int .i64 n10) (.string t10) (.slice a110 n110 c110) (.slice a210 n210 c210));have U12:=hide ((U9.out.keep hM).past5 (g':=w.heap.size+1) (by omega) (.int .i64 k10) (.int .i64 n10) (.string t10) (.slice a110 n110 c110) (.slice a210 n210 c210));have R12:=hide ((R9.out.keep (by omega) hM).past (g':=w.heap.size+1) (by omega) (.int .i64 k10) (.int .i64 n10) (.string t10) (.slice a110 n110 c110) (.slice a210 n210 c210));have L12:Hid (Below w.heap.size w (((((w'.setCell ⟨(w.heap.size+1),0,none⟩ (.int .i64 k10)).setCell ⟨(w.heap.size+1),1,none⟩ (.int .i64 n10)).setCell ⟨(w.heap.size+1),2,none⟩ (.string t10)).setCell ⟨(w.heap.size+1),3,none⟩ (.slice a110 n110 c110)).setCell ⟨(w.heap.size+1),4,none⟩ (.slice a210 n210 c210))):=hide ((bthen L9.out hM).trans (below5 (B:=w.heap.size) (g:=w.heap.size+1) (w:=w') (by omega) (.int .i64 k10) (.int .i64 n10) (.string t10) (.slice a110 n110 c110) (.slice a210 n210 c210)));have I12:=hide (H10.out.keep (keeps_chain (S:=fun bb=>w.heap.size+3≤bb) (by show ¬ (w.heap.size+3≤w.heap.size+1);omega) (.int .i64 k10) (.int .i64 n10) (.string t10) (.slice a110 n110 c110) (.slice a210 n210 c210)));have N12:Hid (w.heap.size+3≤(((((w'.setCell ⟨(w.heap.size+1),0,none⟩ (.int .i64 k10)).setCell ⟨(w.heap.size+1),1,none⟩ (.int .i64 n10)).setCell ⟨(w.heap.size+1),2,none⟩ (.string t10)).setCell ⟨(w.heap.size+1),3,none⟩ (.slice a110 n110 c110)).setCell ⟨(w.heap.size+1),4,none⟩ (.slice a210 n210 c210)).heap.size):=hide (by have:=hM.size;simp;omega);clear VV hM
          go_wp2_with fail
          go_roundg (gk - 1)
          case measure=>omega
          case rel=>exact ⟨n+1,_,_,_,_,_,_,_,_,_,by omega,by omega,rfl,U12.out,V12.out,R12.out,L12.out,N12.out,by rw [HST.out];exact I12.out⟩
      · have c0:(z % 9 == 0)=true:=by rw [hc.1];rfl
        have d40:decide (40 < z)=false:=by simp only [decide_eq_false_iff_not];exact hc.2
        have c1:(z % 9 == 1)=false:=by rw [hc.1];rfl
        have hxv:XV=V.part (zs.drop n) (len - n) k:=by rw [HXE.out,if_neg (by omega),if_neg (by omega)]
        have HXV:=hide hxv;have q0:=E6.out;clear hc hxv
        go_upto_region 11 with fail
        clear q0 c0 d40 c1;obtain ⟨w9,hw9⟩:∃ w9,w9=w2:=⟨_,rfl⟩;rw [← hw9] at U6 V6 R6 L6 I6 P6 E6 X6 N6 ⊢;obtain ⟨xk,xn,xt,xa1,xn1,xc1,xa2,xn2,xc2,X9,J9⟩:∃ (xk xn:Int) (xt:ByteArray) (xa1:Option Addr) (xn1 xc1:Nat) (xa2:Option Addr) (xn2 xc2:Nat),Hid (B5 w9 gx (.int .i64 xk) (.int .i64 xn) (.string xt) (.slice xa1 xn1 xc1) (.slice xa2 xn2 xc2))∧Hid (Is w9 (fun bb=>w.heap.size+3≤bb) (.agg #[.int .i64 xk,.int .i64 xn,.string xt,.slice xa1 xn1 xc1,.slice xa2 xn2 xc2]) XV):=⟨_,_,_,_,_,_,_,_,_,X6,hide (by rw [HXV.out];exact P6.out)⟩;have U9:=U6;have V9:=V6;have R9:=R6;have L9:=L6;have I9:=hide (I6.out.weak (S':=fun bb=>w.heap.size+3≤bb) (fun bb _ hb=>hb.1));have E9:=E6;have N9:Hid (w.heap.size+3≤w9.heap.size):=hide (by have:=G6.out;have:=N6.out;omega);clear U6 V6 R6 L6 I6 P6 E6 X6 HROW2 hw9 w2;have hkz:=Xr.wideKey_size (z % 9).toNat;have hk9:=R9.out (z % 9).toNat (by show _ < 9;exact HPL.out);have hst9:=HSTP.out;generalize Xr.wideKeys.getD (z % 9).toNat ByteArray.empty=K at hkz hk9 hst9;have KZ:Hid (K.size≤1000000000):=hide (by omega);have K9:=hide hk9;have HST:=hide hst9;have WV:Hid (V.wt PV≤1000000000):=hide (by have:=HWT.out;omega);clear hkz hk9 hst9;refine' wp_region_facts [(fun _ _ v _=>v=(.agg #[.int .i64 vk,.int .i64 vn,.string vt,.slice va1 vn1 vc1,.slice va2 vn2 vc2])),(fun _ _ v _=>v=(.slice (some ⟨w.heap.size+1+1,0,none⟩) 9 9)),(fun _ _ v _=>v=(.slice (some ⟨b,off,none⟩) len cap)),(fun _ _ v _=>v=(.int .i64 (n:Int))),(fun _ _ v _=>v=(.pointer (some ⟨b,off+n,none⟩))),(fun _ _ v _=>v=(.int .u8 z)),(fun _ _ v _=>v=(.int .u8 (z % 9))),(fun _ _ v _=>v=(.pointer (some ⟨w.heap.size+1+1,(z % 9).toNat,none⟩))),(fun _ _ v _=>v=(.string K)),(fun _ _ v _=>v=(.agg #[.int .i64 xk,.int .i64 xn,.string xt,.slice xa1 xn1 xc1,.slice xa2 xn2 xc2])),(StayF (w.heap.size+3) (V.withV PV K XV))] (by kernel_rfl) rfl ?hA (by kernel_rfl) (by kernel_rfl) (by kernel_rfl) rfl ?mono ?steps ?last
        case hA =>
          intro vs;simp only [puts,Act.put,List.setIfInBounds_toArray,List.set_cons_zero,List.set_cons_succ,Nat.zero_add,Nat.reduceAdd];rfl
        case mono=>exact ⟨mono_eq _,mono_eq _,mono_eq _,mono_eq _,mono_eq _,mono_eq _,mono_eq _,mono_eq _,mono_eq _,mono_eq _,mono_stay _ _,trivial⟩
        case steps =>
          intro Q';refine And.intro ?_ <| And.intro ?_ <| And.intro ?_ <| And.intro ?_ <| And.intro ?_ <| And.intro ?_ <| And.intro ?_ <| And.intro ?_ <| And.intro ?_ <| And.intro ?_ <| And.intro ?_ <| trivial
          all_goals
            intro vs lo hi w' hM hd K' hK;dsimp only at hK ⊢;simp only [Act.put,List.setIfInBounds_toArray,List.set_cons_zero,List.set_cons_succ] at hK
          · obtain ⟨p0,p1,p2,p3,p4⟩:=(V9.out.keep hM).cells
            go_simp;exact hK.out _ _ rfl (Below.refl _ _)
          · go_simp
            exact hK.out _ _ rfl (Below.refl _ _)
          · go_simp
            exact hK.out _ _ rfl (Below.refl _ _)
          · go_simp
            exact hK.out _ _ rfl (Below.refl _ _)
          · have e2:vs 2=(.slice (some ⟨b,off,none⟩) len cap):=hd 2 (by kernel_rfl)
            have e3:vs 3=(.int .i64 (n:Int)):=hd 3 (by kernel_rfl);simp only [e2,e3] at hK ⊢;clear e2 e3;go_simp;exact hK.out _ _ rfl (Below.refl _ _)
          · have e4:vs 4=(.pointer (some ⟨b,off+n,none⟩)):=hd 4 (by kernel_rfl)
            simp only [e4] at hK ⊢;clear e4;have q0:=cell_keep E9.out hM;go_simp;exact hK.out _ _ rfl (Below.refl _ _)
          · have e5:vs 5=(.int .u8 z):=hd 5 (by kernel_rfl)
            simp only [e5] at hK ⊢;clear e5;have hz1:=HZB.out.1;have hz2:=HZB.out.2;have ht:=Int.tmod_eq_emod_of_nonneg (b:=9) hz1;go_simp;exact hK.out _ _ rfl (Below.refl _ _)
          · have e1:vs 1=(.slice (some ⟨w.heap.size+1+1,0,none⟩) 9 9):=hd 1 (by kernel_rfl)
            have e6:vs 6=(.int .u8 (z % 9)):=hd 6 (by kernel_rfl);simp only [e1,e6] at hK ⊢;clear e1 e6;have hz1:=HZB.out.1;have hz2:=HZB.out.2;have hp1:0≤z % 9:=by omega
            have hp2:z % 9 < 9:=by omega
            go_simp;exact hK.out _ _ rfl (Below.refl _ _)
          · have e7:vs 7=(.pointer (some ⟨w.heap.size+1+1,(z % 9).toNat,none⟩)):=hd 7 (by kernel_rfl)
            simp only [e7] at hK ⊢;clear e7;have q0:=cell_keep K9.out hM;go_simp;exact hK.out _ _ rfl (Below.refl _ _)
          · obtain ⟨p0,p1,p2,p3,p4⟩:=(X9.out.keep hM).cells
            go_simp;exact hK.out _ _ rfl (Below.refl _ _)
          · have e0:vs 0=(.agg #[.int .i64 vk,.int .i64 vn,.string vt,.slice va1 vn1 vc1,.slice va2 vn2 vc2]):=hd 0 (by kernel_rfl)
            have e8:vs 8=(.string K):=hd 8 (by kernel_rfl);have e9:vs 9=(.agg #[.int .i64 xk,.int .i64 xn,.string xt,.slice xa1 xn1 xc1,.slice xa2 xn2 xc2]):=hd 9 (by kernel_rfl);simp only [e0,e8,e9] at hK ⊢;clear e0 e8 e9;go_simp;refine (refWith_any5 (I9.out.below hM) (J9.out.below hM) WV.out K KZ.out V5.out).mono ?_;rintro e w7 ⟨k7,n7,t7,a17,n17,c17,a27,n27,c27,rfl,h7,b7⟩;exact hK.out _ _ ⟨_,_,_,_,_,_,_,_,_,rfl,hide (h7.weak (fun bb _ hb=>hb.elim id (fun h2=>by have:=N9.out;have:=hM.size;omega)))⟩ b7
        case last =>
          intro vs lo hi w' hM hlo hap hall K' Q' hK;obtain ⟨_,_,_,_,_,_,_,_,_,_,h10,_⟩:=hall;obtain ⟨k10,n10,t10,a110,n110,c110,a210,n210,c210,e10,H10⟩:=h10;dsimp only;simp only [e10];clear e10 hap hlo;have VV:=V9.out.keep hM;obtain ⟨y0,y1,y2,y3,y4⟩:=VV.cells;have fu0:=VV.free 0;have fu1:=VV.free 1;have fu2:=VV.free 2;have fu3:=VV.free 3;have fu4:=VV.free 4;go_simp;refine hK.out _ _ ?_;clear hK y0 y1 y2 y3 y4 fu0 fu1 fu2 fu3 fu4;have hn9:=N9.out;have V12:=hide (VV.all (.int .i64 k10) (.int .i64 n10) (.string t10) (.slice a110 n110 c110) (.slice a210 n210 c210));have U12:=hide ((U9.out.keep hM).past5 (g':=w.heap.size+1) (by omega) (.int .i64 k10) (.int .i64 n10) (.string t10) (.slice a110 n110 c110) (.slice a210 n210 c210));have R12:=hide ((R9.out.keep (by omega) hM).past (g':=w.heap.size+1) (by omega) (.int .i64 k10) (.int .i64 n10) (.string t10) (.slice a110 n110 c110) (.slice a210 n210 c210));have L12:Hid (Below w.heap.size w (((((w'.setCell ⟨(w.heap.size+1),0,none⟩ (.int .i64 k10)).setCell ⟨(w.heap.size+1),1,none⟩ (.int .i64 n10)).setCell ⟨(w.heap.size+1),2,none⟩ (.string t10)).setCell ⟨(w.heap.size+1),3,none⟩ (.slice a110 n110 c110)).setCell ⟨(w.heap.size+1),4,none⟩ (.slice a210 n210 c210))):=hide ((bthen L9.out hM).trans (below5 (B:=w.heap.size) (g:=w.heap.size+1) (w:=w') (by omega) (.int .i64 k10) (.int .i64 n10) (.string t10) (.slice a110 n110 c110) (.slice a210 n210 c210)));have I12:=hide (H10.out.keep (keeps_chain (S:=fun bb=>w.heap.size+3≤bb) (by show ¬ (w.heap.size+3≤w.heap.size+1);omega) (.int .i64 k10) (.int .i64 n10) (.string t10) (.slice a110 n110 c110) (.slice a210 n210 c210)));have N12:Hid (w.heap.size+3≤(((((w'.setCell ⟨(w.heap.size+1),0,none⟩ (.int .i64 k10)).setCell ⟨(w.heap.size+1),1,none⟩ (.int .i64 n10)).setCell ⟨(w.heap.size+1),2,none⟩ (.string t10)).setCell ⟨(w.heap.size+1),3,none⟩ (.slice a110 n110 c110)).setCell ⟨(w.heap.size+1),4,none⟩ (.slice a210 n210 c210)).heap.size):=hide (by have:=hM.size;simp;omega);clear VV hM
          go_wp2_with fail
          go_roundg (gk - 1)
          case measure=>omega
          case rel=>exact ⟨n+1,_,_,_,_,_,_,_,_,_,by omega,by omega,rfl,U12.out,V12.out,R12.out,L12.out,N12.out,by rw [HST.out];exact I12.out⟩
      · have c0:(z % 9 == 0)=false:=by simp only [beq_eq_false_iff_ne];omega
        have c1:(z % 9 == 1)=false:=by simp only [beq_eq_false_iff_ne];omega
        have hxv:XV=V.part (zs.drop n) (len - n) k:=by rw [HXE.out,if_neg (by omega),if_neg (by omega)]
        have HXV:=hide hxv;have q0:=E6.out;clear hc hxv
        go_upto_region 11 with fail
        clear q0 c0 c1;obtain ⟨w9,hw9⟩:∃ w9,w9=w2:=⟨_,rfl⟩;rw [← hw9] at U6 V6 R6 L6 I6 P6 E6 X6 N6 ⊢;obtain ⟨xk,xn,xt,xa1,xn1,xc1,xa2,xn2,xc2,X9,J9⟩:∃ (xk xn:Int) (xt:ByteArray) (xa1:Option Addr) (xn1 xc1:Nat) (xa2:Option Addr) (xn2 xc2:Nat),Hid (B5 w9 gx (.int .i64 xk) (.int .i64 xn) (.string xt) (.slice xa1 xn1 xc1) (.slice xa2 xn2 xc2))∧Hid (Is w9 (fun bb=>w.heap.size+3≤bb) (.agg #[.int .i64 xk,.int .i64 xn,.string xt,.slice xa1 xn1 xc1,.slice xa2 xn2 xc2]) XV):=⟨_,_,_,_,_,_,_,_,_,X6,hide (by rw [HXV.out];exact P6.out)⟩;have U9:=U6;have V9:=V6;have R9:=R6;have L9:=L6;have I9:=hide (I6.out.weak (S':=fun bb=>w.heap.size+3≤bb) (fun bb _ hb=>hb.1));have E9:=E6;have N9:Hid (w.heap.size+3≤w9.heap.size):=hide (by have:=G6.out;have:=N6.out;omega);clear U6 V6 R6 L6 I6 P6 E6 X6 HROW2 hw9 w2;have hkz:=Xr.wideKey_size (z % 9).toNat;have hk9:=R9.out (z % 9).toNat (by show _ < 9;exact HPL.out);have hst9:=HSTP.out;generalize Xr.wideKeys.getD (z % 9).toNat ByteArray.empty=K at hkz hk9 hst9;have KZ:Hid (K.size≤1000000000):=hide (by omega);have K9:=hide hk9;have HST:=hide hst9;have WV:Hid (V.wt PV≤1000000000):=hide (by have:=HWT.out;omega);clear hkz hk9 hst9;refine' wp_region_facts [(fun _ _ v _=>v=(.agg #[.int .i64 vk,.int .i64 vn,.string vt,.slice va1 vn1 vc1,.slice va2 vn2 vc2])),(fun _ _ v _=>v=(.slice (some ⟨w.heap.size+1+1,0,none⟩) 9 9)),(fun _ _ v _=>v=(.slice (some ⟨b,off,none⟩) len cap)),(fun _ _ v _=>v=(.int .i64 (n:Int))),(fun _ _ v _=>v=(.pointer (some ⟨b,off+n,none⟩))),(fun _ _ v _=>v=(.int .u8 z)),(fun _ _ v _=>v=(.int .u8 (z % 9))),(fun _ _ v _=>v=(.pointer (some ⟨w.heap.size+1+1,(z % 9).toNat,none⟩))),(fun _ _ v _=>v=(.string K)),(fun _ _ v _=>v=(.agg #[.int .i64 xk,.int .i64 xn,.string xt,.slice xa1 xn1 xc1,.slice xa2 xn2 xc2])),(StayF (w.heap.size+3) (V.withV PV K XV))] (by kernel_rfl) rfl ?hA (by kernel_rfl) (by kernel_rfl) (by kernel_rfl) rfl ?mono ?steps ?last
        case hA =>
          intro vs;simp only [puts,Act.put,List.setIfInBounds_toArray,List.set_cons_zero,List.set_cons_succ,Nat.zero_add,Nat.reduceAdd];rfl
        case mono=>exact ⟨mono_eq _,mono_eq _,mono_eq _,mono_eq _,mono_eq _,mono_eq _,mono_eq _,mono_eq _,mono_eq _,mono_eq _,mono_stay _ _,trivial⟩
        case steps =>
          intro Q';refine And.intro ?_ <| And.intro ?_ <| And.intro ?_ <| And.intro ?_ <| And.intro ?_ <| And.intro ?_ <| And.intro ?_ <| And.intro ?_ <| And.intro ?_ <| And.intro ?_ <| And.intro ?_ <| trivial
          all_goals
            intro vs lo hi w' hM hd K' hK;dsimp only at hK ⊢;simp only [Act.put,List.setIfInBounds_toArray,List.set_cons_zero,List.set_cons_succ] at hK
          · obtain ⟨p0,p1,p2,p3,p4⟩:=(V9.out.keep hM).cells
            go_simp;exact hK.out _ _ rfl (Below.refl _ _)
          · go_simp
            exact hK.out _ _ rfl (Below.refl _ _)
          · go_simp
            exact hK.out _ _ rfl (Below.refl _ _)
          · go_simp
            exact hK.out _ _ rfl (Below.refl _ _)
          · have e2:vs 2=(.slice (some ⟨b,off,none⟩) len cap):=hd 2 (by kernel_rfl)
            have e3:vs 3=(.int .i64 (n:Int)):=hd 3 (by kernel_rfl);simp only [e2,e3] at hK ⊢;clear e2 e3;go_simp;exact hK.out _ _ rfl (Below.refl _ _)
          · have e4:vs 4=(.pointer (some ⟨b,off+n,none⟩)):=hd 4 (by kernel_rfl)
            simp only [e4] at hK ⊢;clear e4;have q0:=cell_keep E9.out hM;go_simp;exact hK.out _ _ rfl (Below.refl _ _)
          · have e5:vs 5=(.int .u8 z):=hd 5 (by kernel_rfl)
            simp only [e5] at hK ⊢;clear e5;have hz1:=HZB.out.1;have hz2:=HZB.out.2;have ht:=Int.tmod_eq_emod_of_nonneg (b:=9) hz1;go_simp;exact hK.out _ _ rfl (Below.refl _ _)
          · have e1:vs 1=(.slice (some ⟨w.heap.size+1+1,0,none⟩) 9 9):=hd 1 (by kernel_rfl)
            have e6:vs 6=(.int .u8 (z % 9)):=hd 6 (by kernel_rfl);simp only [e1,e6] at hK ⊢;clear e1 e6;have hz1:=HZB.out.1;have hz2:=HZB.out.2;have hp1:0≤z % 9:=by omega
            have hp2:z % 9 < 9:=by omega
            go_simp;exact hK.out _ _ rfl (Below.refl _ _)
          · have e7:vs 7=(.pointer (some ⟨w.heap.size+1+1,(z % 9).toNat,none⟩)):=hd 7 (by kernel_rfl)
            simp only [e7] at hK ⊢;clear e7;have q0:=cell_keep K9.out hM;go_simp;exact hK.out _ _ rfl (Below.refl _ _)
          · obtain ⟨p0,p1,p2,p3,p4⟩:=(X9.out.keep hM).cells
            go_simp;exact hK.out _ _ rfl (Below.refl _ _)
          · have e0:vs 0=(.agg #[.int .i64 vk,.int .i64 vn,.string vt,.slice va1 vn1 vc1,.slice va2 vn2 vc2]):=hd 0 (by kernel_rfl)
            have e8:vs 8=(.string K):=hd 8 (by kernel_rfl);have e9:vs 9=(.agg #[.int .i64 xk,.int .i64 xn,.string xt,.slice xa1 xn1 xc1,.slice xa2 xn2 xc2]):=hd 9 (by kernel_rfl);simp only [e0,e8,e9] at hK ⊢;clear e0 e8 e9;go_simp;refine (refWith_any5 (I9.out.below hM) (J9.out.below hM) WV.out K KZ.out V5.out).mono ?_;rintro e w7 ⟨k7,n7,t7,a17,n17,c17,a27,n27,c27,rfl,h7,b7⟩;exact hK.out _ _ ⟨_,_,_,_,_,_,_,_,_,rfl,hide (h7.weak (fun bb _ hb=>hb.elim id (fun h2=>by have:=N9.out;have:=hM.size;omega)))⟩ b7
        case last =>
          intro vs lo hi w' hM hlo hap hall K' Q' hK;obtain ⟨_,_,_,_,_,_,_,_,_,_,h10,_⟩:=hall;obtain ⟨k10,n10,t10,a110,n110,c110,a210,n210,c210,e10,H10⟩:=h10;dsimp only;simp only [e10];clear e10 hap hlo;have VV:=V9.out.keep hM;obtain ⟨y0,y1,y2,y3,y4⟩:=VV.cells;have fu0:=VV.free 0;have fu1:=VV.free 1;have fu2:=VV.free 2;have fu3:=VV.free 3;have fu4:=VV.free 4;go_simp;refine hK.out _ _ ?_;clear hK y0 y1 y2 y3 y4 fu0 fu1 fu2 fu3 fu4;have hn9:=N9.out;have V12:=hide (VV.all (.int .i64 k10) (.int .i64 n10) (.string t10) (.slice a110 n110 c110) (.slice a210 n210 c210));have U12:=hide ((U9.out.keep hM).past5 (g':=w.heap.size+1) (by omega) (.int .i64 k10) (.int .i64 n10) (.string t10) (.slice a110 n110 c110) (.slice a210 n210 c210));have R12:=hide ((R9.out.keep (by omega) hM).past (g':=w.heap.size+1) (by omega) (.int .i64 k10) (.int .i64 n10) (.string t10) (.slice a110 n110 c110) (.slice a210 n210 c210));have L12:Hid (Below w.heap.size w (((((w'.setCell ⟨(w.heap.size+1),0,none⟩ (.int .i64 k10)).setCell ⟨(w.heap.size+1),1,none⟩ (.int .i64 n10)).setCell ⟨(w.heap.size+1),2,none⟩ (.string t10)).setCell ⟨(w.heap.size+1),3,none⟩ (.slice a110 n110 c110)).setCell ⟨(w.heap.size+1),4,none⟩ (.slice a210 n210 c210))):=hide ((bthen L9.out hM).trans (below5 (B:=w.heap.size) (g:=w.heap.size+1) (w:=w') (by omega) (.int .i64 k10) (.int .i64 n10) (.string t10) (.slice a110 n110 c110) (.slice a210 n210 c210)));have I12:=hide (H10.out.keep (keeps_chain (S:=fun bb=>w.heap.size+3≤bb) (by show ¬ (w.heap.size+3≤w.heap.size+1);omega) (.int .i64 k10) (.int .i64 n10) (.string t10) (.slice a110 n110 c110) (.slice a210 n210 c210)));have N12:Hid (w.heap.size+3≤(((((w'.setCell ⟨(w.heap.size+1),0,none⟩ (.int .i64 k10)).setCell ⟨(w.heap.size+1),1,none⟩ (.int .i64 n10)).setCell ⟨(w.heap.size+1),2,none⟩ (.string t10)).setCell ⟨(w.heap.size+1),3,none⟩ (.slice a110 n110 c110)).setCell ⟨(w.heap.size+1),4,none⟩ (.slice a210 n210 c210)).heap.size):=hide (by have:=hM.size;simp;omega);clear VV hM
          go_wp2_with fail
          go_roundg (gk - 1)
          case measure=>omega
          case rel=>exact ⟨n+1,_,_,_,_,_,_,_,_,_,by omega,by omega,rfl,U12.out,V12.out,R12.out,L12.out,N12.out,by rw [HST.out];exact I12.out⟩
    · have hne:n=min 18 len:=by omega
      have hbody:Xr.wide zs len k=Xr.wideTo zs len k n:=by unfold Xr.wide;rw [hne]
      have HB:=hide hbody;clear hbody;obtain ⟨p0,p1,p2,p3,p4⟩:=V5.out.cells;obtain ⟨q0,q1,q2,q3,q4⟩:=U5.out.cells;have fu0:=U5.out.free 0;have fu1:=U5.out.free 1;have fu2:=U5.out.free 2;have fu3:=U5.out.free 3;have fu4:=U5.out.free 4
      by_cases hnn:n < len
      · have h6:¬ ((n:Int) < 18):=by omega
        go_wp2_with fail
        have hu:=U5.out.all (.int .i64 vk) (.int .i64 vn) (.string vt) (.slice va1 vn1 vc1) (.slice va2 vn2 vc2);clear q0 q1 q2 q3 q4 fu0 fu1 fu2 fu3 fu4 p0 p1 p2 p3 p4;obtain ⟨p0,p1,p2,p3,p4⟩:=hu.cells;have n5:=N5.out;refine bodyPost_ret (v:=.agg #[.int .i64 vk,.int .i64 vn,.string vt,.slice va1 vn1 vc1,.slice va2 vn2 vc2]) (by simp [results,Tryz.results11,go_sem,p0,p1,p2,p3,p4]) rfl ⟨_,_,_,_,_,_,_,_,_,rfl,?_,L5.out.trans (below5 (Nat.le_refl _) _ _ _ _ _)⟩;rw [HB.out];exact (I5.out.keep (keeps_chain (S:=fun b=>w.heap.size+3≤b) (by show ¬ (w.heap.size+3≤w.heap.size);omega) _ _ _ _ _)).weak (fun b _ hb=>by have h1:w.heap.size+3≤b:=hb;show w.heap.size≤b;omega)
      · go_wp2_with fail
        have hu:=U5.out.all (.int .i64 vk) (.int .i64 vn) (.string vt) (.slice va1 vn1 vc1) (.slice va2 vn2 vc2);clear q0 q1 q2 q3 q4 fu0 fu1 fu2 fu3 fu4 p0 p1 p2 p3 p4;obtain ⟨p0,p1,p2,p3,p4⟩:=hu.cells;have n5:=N5.out;refine bodyPost_ret (v:=.agg #[.int .i64 vk,.int .i64 vn,.string vt,.slice va1 vn1 vc1,.slice va2 vn2 vc2]) (by simp [results,Tryz.results11,go_sem,p0,p1,p2,p3,p4]) rfl ⟨_,_,_,_,_,_,_,_,_,rfl,?_,L5.out.trans (below5 (Nat.le_refl _) _ _ _ _ _)⟩;rw [HB.out];exact (I5.out.keep (keeps_chain (S:=fun b=>w.heap.size+3≤b) (by show ¬ (w.heap.size+3≤w.heap.size);omega) _ _ _ _ _)).weak (fun b _ hb=>by have h1:w.heap.size+3≤b:=hb;show w.heap.size≤b;omega)
end Go.Proofs.YtapcmbbhhclepaaGreatDoor
