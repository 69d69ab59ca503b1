/-
  THE WALK of the law RedactSeal (layer 7).
-/
import Derived.Test.YtapcmbbhhclepaaGreatDoorBxXWide
set_option linter.unusedVariables false
set_option linter.unusedSimpArgs false
set_option maxRecDepth 100000
namespace Go.Proofs.YtapcmbbhhclepaaGreatDoor
open Go.RowKit

def kOther:ByteArray:=⟨#[111,116,104,101,114]⟩
def kDepth:ByteArray:=⟨#[100,101,112,116,104]⟩
theorem beq_comm_list (a b:List UInt8):(a == b)=(b == a):=by
  rw [Bool.eq_iff_iff,beq_iff_eq,beq_iff_eq]
  exact eq_comm
namespace Xr
structure Fs (VV PP:V):Prop where
  vr:V.right VV=true
  v5:VV.kind=5
  vw:V.wt VV≤460000
  vc:cost VV≤730000
  sr:V.right (sealed VV)=true
  s5:(sealed VV).kind=5
  sw:V.wt (sealed VV)≤930000
  sc:cost (sealed VV)≤731000
  sh:hashed (sealed VV)=true
  sv:hash (sealed VV)=hash VV
  ss:sealed (sealed VV)=sealed VV
  ssw:V.wt (sealed (sealed VV))≤4294967296
  ur:V.right (V.withV (sealed VV) kUnsigned PP)=true
  uw:V.wt (V.withV (sealed VV) kUnsigned PP)≤940000
  uc:cost (V.withV (sealed VV) kUnsigned PP)≤740000
  uh:hashed (V.withV (sealed VV) kUnsigned PP)=true
  or:V.right (V.withV (sealed VV) kOther PP)=true
  ow:V.wt (V.withV (sealed VV) kOther PP)≤940000
  oc:cost (V.withV (sealed VV) kOther PP)≤740000
  oh:((hash (V.withV (sealed VV) kOther PP)).toList == (hash VV).toList)=hashed (V.withV (sealed VV) kOther PP)
  yr:V.right (V.withV (sealed VV) kDepth ⟨3,0,⟨#[110,111,116]⟩,[],[]⟩)=true
  yw:V.wt (V.withV (sealed VV) kDepth ⟨3,0,⟨#[110,111,116]⟩,[],[]⟩)≤940000
  yc:cost (V.withV (sealed VV) kDepth ⟨3,0,⟨#[110,111,116]⟩,[],[]⟩)≤740000
  yh:((hash (V.withV (sealed VV) kDepth ⟨3,0,⟨#[110,111,116]⟩,[],[]⟩)).toList == (hash VV).toList)=hashed (V.withV (sealed VV) kDepth ⟨3,0,⟨#[110,111,116]⟩,[],[]⟩)
theorem hashed_with {v x:V} {key:ByteArray} (hv:V.right v=true) (h5:v.kind=5) (hk:V.utf key=true) (hx:V.right x=true) (hne:kHashes≠key):hashed (V.withV (sealed v) key x)=((hash v).toList == (hash (V.withV (sealed v) key x)).toList):=by
  have s:=sealed_right' hv h5
  refine told_str _ _ (told_sum _ _ ?_)
  rw [V.get_with s.1 s.2 hk hx,if_neg hne]
  unfold sealed
  rw [get_sealed hv h5 (utf_hash v),if_pos rfl]
theorem seal_all {VV PP:V} (vr:V.right VV=true) (v5:VV.kind=5) (vw:V.wt VV≤460000) (vc:cost VV≤730000) (pr:V.right PP=true) (pw:V.wt PP≤4000) (pc:cost PP≤6400):Fs VV PP:=by
  have s:=sealed_right' vr v5
  have s2:=wt_sealed VV
  have s3:=cost_sealed VV
  have s4:=wt_sealed (sealed VV)
  have hs:=hash_sealed vr v5
  have ss:sealed (sealed VV)=sealed VV:=by
    have e:=sealed_sealed vr v5 (utf_hash VV)
    unfold sealed at hs ⊢
    rw [hs]
    exact e
  have uo:V.utf kOther=true:=by kernel_rfl
  have ud:V.utf kDepth=true:=by kernel_rfl
  have nr:V.right ⟨3,0,⟨#[110,111,116]⟩,[],[]⟩=true:=V.right_str (s:=⟨#[110,111,116]⟩) (by kernel_rfl)
  have nw:V.wt ⟨3,0,⟨#[110,111,116]⟩,[],[]⟩=4:=wt_str ⟨#[110,111,116]⟩
  have nc:cost ⟨3,0,⟨#[110,111,116]⟩,[],[]⟩=42:=cost_str ⟨#[110,111,116]⟩
  have k1:kUnsigned.size=8:=rfl
  have k2:kOther.size=5:=rfl
  have k3:kDepth.size=5:=rfl
  have u1:=V.wt_with_le (sealed VV) kUnsigned PP
  have u2:=cost_with (sealed VV) kUnsigned PP
  have o1:=V.wt_with_le (sealed VV) kOther PP
  have o2:=cost_with (sealed VV) kOther PP
  have y1:=V.wt_with_le (sealed VV) kDepth ⟨3,0,⟨#[110,111,116]⟩,[],[]⟩
  have y2:=cost_with (sealed VV) kDepth ⟨3,0,⟨#[110,111,116]⟩,[],[]⟩
  have ho:=hashed_with vr v5 uo pr (ne_of_data (by kernel_rfl))
  have hy:=hashed_with vr v5 ud nr (ne_of_data (by kernel_rfl))
  have hu:=hashed_with vr v5 utf_unsigned pr (ne_of_data (by kernel_rfl))
  have ur:=V.right_with s.1 s.2 utf_unsigned pr
  have hru:hash (V.withV (sealed VV) kUnsigned PP)=hash VV:=by
    rw [← hs]
    exact hash_congr (rest_congr ur s.1 (V.kind5_with _ _ _) s.2 (fun o _ e=>by rw [V.get_with s.1 s.2 utf_unsigned pr,if_neg e]))
  rw [hru] at hu
  exact ⟨vr,v5,vw,vc,s.1,s.2,by omega,by omega,hashed_sealed vr v5,hs,ss,by omega,ur,by omega,by omega,by rw [hu];simp,V.right_with s.1 s.2 uo pr,by omega,by omega,by rw [ho,beq_comm_list],V.right_with s.1 s.2 ud nr,by omega,by omega,by rw [hy,beq_comm_list]⟩
theorem seal_facts {zs:List Int} (hz:∀ n ∈ zs,(Lit.int .u8 n).wf=true) (len:Nat) (k:Int) (z1:List Int) (len1:Nat):Fs (wide zs len k) (V.part z1 len1 k) :=
  seal_all (wide_right hz len k) (wide_5 zs len k) (wide_wt zs len k) (wide_cost zs len k) (V.right_part _ _ _) (V.wt_part _ _ _) (cost_part _ _ _)
end Xr

set_option maxHeartbeats 4000000 in
theorem redactSeal_walk (a0:Option Addr) (len0 cap0:Nat) (z0:List Int) (a1:Option Addr) (len1 cap1:Nat) (z1:List Int) (a2:Int) (w:World) (w0:IsRow .u8 w a0 len0 cap0 z0) (w1:IsRow .u8 w a1 len1 cap1 z1) (w2:(Lit.int .u8 a2).wf=true) (hT:Tabs w) :
    Calls Tryz.prog 5 #[.slice a0 len0 cap0,.slice a1 len1 cap1,.int .u8 a2] w fun e w'=>e=.returned (.bool true)∧Below w.heap.size w w':=by
  have HT:=hide hT
  have HR0:=hide w0
  have HR1:=hide w1
  obtain ⟨hk0,hk1⟩:=wf_u8 w2
  have hz0:=(IsRow.view w0).2.2.1
  have HF:=hide (Xr.seal_facts hz0 len0 a2 z1 len1)
  have L:=hide (Below.refl w.heap.size w)
  clear hT w0 w1 w2 hz0
  obtain ⟨VV,hVV⟩:∃ v,Xr.wide z0 len0 a2=v:=⟨_,rfl⟩
  obtain ⟨PP,hPP⟩:∃ v,V.part z1 len1 a2=v:=⟨_,rfl⟩
  rw [hVV,hPP] at HF
  have HVV:=hide hVV
  have HPP:=hide hPP
  clear hVV hPP
  go_enter Tryz.func5,Tryz.ntmps5
  go_wp2_with fail
  refine (wide_any a0 len0 cap0 z0 a2 w HR0.out hk0 hk1).mono ?_
  rintro e v1 ⟨vk,vn,vt,va1,vn1,vc1,va2,vn2,vc2,rfl,h1,b1⟩
  have bA:=below_alloc v1 (.cells #[.int .i64 vk,.int .i64 vn,.string vt,.slice va1 vn1 vc1,.slice va2 vn2 vc2] 27)
  have bb:=bthen b1 bA
  replace HT:=hide (HT.out.below bb)
  replace HR0:=hide (isRow_keep HR0.out bb)
  replace HR1:=hide (isRow_keep HR1.out bb)
  replace L:=hide (bthen L.out bb)
  have Iv:=hide ((h1.below bA).weak (S':=fun _=>True) (fun _ _ _=>trivial))
  have Xv:=hide (b5_new v1 (.int .i64 vk) (.int .i64 vn) (.string vt) (.slice va1 vn1 vc1) (.slice va2 vn2 vc2) _ rfl)
  clear h1 bA b1 bb
  go_upto_region 2 with fail
  generalize v1.alloc (.cells #[.int .i64 vk,.int .i64 vn,.string vt,.slice va1 vn1 vc1,.slice va2 vn2 vc2] 27)=w11 at HT L HR0 HR1 Iv Xv ⊢
  generalize v1.heap.size=gv at Xv ⊢
  rw [HVV.out] at Iv
  obtain ⟨p00,p01,p02,p03,p04⟩:=Xv.out.cells
  go_wp2_with fail
  clear p00 p01 p02 p03 p04
  refine (sealed_any Iv.out HF.out.vr (Nat.le_trans HF.out.vw (by decide)) (Nat.le_trans HF.out.vc (by decide)) HT.out).mono ?_
  rintro e v2 ⟨sk,sn,st,sa1,sn1,sc1,sa2,sn2,sc2,rfl,h1,b1⟩
  have bA:=below_alloc v2 (.cells #[.int .i64 sk,.int .i64 sn,.string st,.slice sa1 sn1 sc1,.slice sa2 sn2 sc2] 27)
  have bb:=bthen b1 bA
  replace HT:=hide (HT.out.below bb)
  replace Iv:=hide (Iv.out.below bb)
  replace Xv:=hide (Xv.out.keep bb)
  replace HR0:=hide (isRow_keep HR0.out bb)
  replace HR1:=hide (isRow_keep HR1.out bb)
  replace L:=hide (bthen L.out bb)
  have Is:=hide ((h1.below bA).weak (S':=fun _=>True) (fun _ _ _=>trivial))
  have Xs:=hide (b5_new v2 (.int .i64 sk) (.int .i64 sn) (.string st) (.slice sa1 sn1 sc1) (.slice sa2 sn2 sc2) _ rfl)
  clear h1 bA b1 bb
  go_upto_region 3 with fail
  generalize v2.alloc (.cells #[.int .i64 sk,.int .i64 sn,.string st,.slice sa1 sn1 sc1,.slice sa2 sn2 sc2] 27)=w12 at HT L HR0 HR1 Iv Is Xv Xs ⊢
  generalize v2.heap.size=gs at Xs ⊢
  go_wp2_with fail
  refine (part_any a1 len1 cap1 z1 a2 _ HR1.out hk0 hk1).mono ?_
  rintro e v3 ⟨xk,xn,xt,xa1,xn1,xc1,xa2,xn2,xc2,rfl,h1,b1⟩
  have bA:=below_alloc v3 (.cells #[.int .i64 xk,.int .i64 xn,.string xt,.slice xa1 xn1 xc1,.slice xa2 xn2 xc2] 27)
  have bb:=bthen b1 bA
  replace HT:=hide (HT.out.below bb)
  replace Iv:=hide (Iv.out.below bb)
  replace Is:=hide (Is.out.below bb)
  replace Xv:=hide (Xv.out.keep bb)
  replace Xs:=hide (Xs.out.keep bb)
  replace HR0:=hide (isRow_keep HR0.out bb)
  replace HR1:=hide (isRow_keep HR1.out bb)
  replace L:=hide (bthen L.out bb)
  have Ix:=hide ((h1.below bA).weak (S':=fun _=>True) (fun _ _ _=>trivial))
  have Xx:=hide (b5_new v3 (.int .i64 xk) (.int .i64 xn) (.string xt) (.slice xa1 xn1 xc1) (.slice xa2 xn2 xc2) _ rfl)
  clear h1 bA b1 bb
  go_upto_region 4 with fail
  generalize v3.alloc (.cells #[.int .i64 xk,.int .i64 xn,.string xt,.slice xa1 xn1 xc1,.slice xa2 xn2 xc2] 27)=w13 at HT L HR0 HR1 Iv Is Ix Xv Xs Xx ⊢
  generalize v3.heap.size=gx at Xx ⊢
  rw [HPP.out] at Ix
  obtain ⟨p00,p01,p02,p03,p04⟩:=Xs.out.cells
  obtain ⟨p10,p11,p12,p13,p14⟩:=Xx.out.cells
  go_wp2_with fail
  clear p00 p01 p02 p03 p04 p10 p11 p12 p13 p14
  refine (refWith_any5 Is.out Ix.out (Nat.le_trans HF.out.sw (by decide)) kUnsigned (by decide) HF.out.s5).mono ?_
  rintro e v4 ⟨uk,un,ut,ua1,un1,uc1,ua2,un2,uc2,rfl,h1,b1⟩
  have bA:=below_alloc v4 (.cells #[.int .i64 uk,.int .i64 un,.string ut,.slice ua1 un1 uc1,.slice ua2 un2 uc2] 27)
  have bb:=bthen b1 bA
  replace HT:=hide (HT.out.below bb)
  replace Iv:=hide (Iv.out.below bb)
  replace Is:=hide (Is.out.below bb)
  replace Ix:=hide (Ix.out.below bb)
  replace Xv:=hide (Xv.out.keep bb)
  replace Xs:=hide (Xs.out.keep bb)
  replace Xx:=hide (Xx.out.keep bb)
  replace HR0:=hide (isRow_keep HR0.out bb)
  replace HR1:=hide (isRow_keep HR1.out bb)
  replace L:=hide (bthen L.out bb)
  have Iu:=hide ((h1.below bA).weak (S':=fun _=>True) (fun _ _ _=>trivial))
  have Xu:=hide (b5_new v4 (.int .i64 uk) (.int .i64 un) (.string ut) (.slice ua1 un1 uc1) (.slice ua2 un2 uc2) _ rfl)
  clear h1 bA b1 bb
  go_upto_region 5 with fail
  generalize v4.alloc (.cells #[.int .i64 uk,.int .i64 un,.string ut,.slice ua1 un1 uc1,.slice ua2 un2 uc2] 27)=w14 at HT L HR0 HR1 Iv Is Ix Iu Xv Xs Xx Xu ⊢
  generalize v4.heap.size=gu at Xu ⊢
  obtain ⟨p00,p01,p02,p03,p04⟩:=Xs.out.cells
  obtain ⟨p10,p11,p12,p13,p14⟩:=Xx.out.cells
  go_wp2_with fail
  clear p00 p01 p02 p03 p04 p10 p11 p12 p13 p14
  refine (refWith_any5 Is.out Ix.out (Nat.le_trans HF.out.sw (by decide)) kOther (by decide) HF.out.s5).mono ?_
  rintro e v5 ⟨ok,on,ot,oa1,on1,oc1,oa2,on2,oc2,rfl,h1,b1⟩
  have bA:=below_alloc v5 (.cells #[.int .i64 ok,.int .i64 on,.string ot,.slice oa1 on1 oc1,.slice oa2 on2 oc2] 27)
  have bb:=bthen b1 bA
  replace HT:=hide (HT.out.below bb)
  replace Iv:=hide (Iv.out.below bb)
  replace Is:=hide (Is.out.below bb)
  replace Ix:=hide (Ix.out.below bb)
  replace Iu:=hide (Iu.out.below bb)
  replace Xv:=hide (Xv.out.keep bb)
  replace Xs:=hide (Xs.out.keep bb)
  replace Xx:=hide (Xx.out.keep bb)
  replace Xu:=hide (Xu.out.keep bb)
  replace HR0:=hide (isRow_keep HR0.out bb)
  replace HR1:=hide (isRow_keep HR1.out bb)
  replace L:=hide (bthen L.out bb)
  have Io:=hide ((h1.below bA).weak (S':=fun _=>True) (fun _ _ _=>trivial))
  have Xo:=hide (b5_new v5 (.int .i64 ok) (.int .i64 on) (.string ot) (.slice oa1 on1 oc1) (.slice oa2 on2 oc2) _ rfl)
  clear h1 bA b1 bb
  go_upto_region 6 with fail
  generalize v5.alloc (.cells #[.int .i64 ok,.int .i64 on,.string ot,.slice oa1 on1 oc1,.slice oa2 on2 oc2] 27)=w15 at HT L HR0 HR1 Iv Is Ix Iu Io Xv Xs Xx Xu Xo ⊢
  generalize v5.heap.size=go at Xo ⊢
  obtain ⟨G,hGG⟩:∃ G,G=w15.heap.size:=⟨_,rfl⟩
  have HG:Hid (G=w15.heap.size):=hide hGG
  have Jv:=hide (Iv.out.weak (S':=fun b=>b < G) (fun b hb _=>by rw [hGG];exact hb))
  have Js:=hide (Is.out.weak (S':=fun b=>b < G) (fun b hb _=>by rw [hGG];exact hb))
  have Jx:=hide (Ix.out.weak (S':=fun b=>b < G) (fun b hb _=>by rw [hGG];exact hb))
  have Ju:=hide (Iu.out.weak (S':=fun b=>b < G) (fun b hb _=>by rw [hGG];exact hb))
  have Jo:=hide (Io.out.weak (S':=fun b=>b < G) (fun b hb _=>by rw [hGG];exact hb))
  have ltv:gv < G:=by rw [hGG];exact Xv.out.lt
  have lts:gs < G:=by rw [hGG];exact Xs.out.lt
  have ltx:gx < G:=by rw [hGG];exact Xx.out.lt
  have ltu:gu < G:=by rw [hGG];exact Xu.out.lt
  have lto:go < G:=by rw [hGG];exact Xo.out.lt
  clear hGG Iv Is Ix Iu Io
  refine' wp_region_factsM [(fun _ v _=>v=(.agg #[.int .i64 sk,.int .i64 sn,.string st,.slice sa1 sn1 sc1,.slice sa2 sn2 sc2])),(fun _ v _=>v=(.agg #[.int .i64 3,.int .i64 0,.string ⟨#[110,111,116]⟩,.slice none 0 0,.slice none 0 0])),(ValM G (V.withV (Xr.sealed VV) kDepth ⟨3,0,⟨#[110,111,116]⟩,[],[]⟩)),BoxM] (by kernel_rfl) rfl ?hA (by kernel_rfl) (by kernel_rfl) (by kernel_rfl) rfl ?mono ?steps ?last
  case hA =>
    intro vs
    simp only [puts,Act.put,List.setIfInBounds_toArray,List.set_cons_zero,List.set_cons_succ,Nat.zero_add,Nat.reduceAdd]
    rfl
  case mono=>exact ⟨monoM_eq _,monoM_eq _,monoM_val _ _,monoM_box,trivial⟩
  case steps =>
    intro Q'
    refine And.intro ?_ <| And.intro ?_ <| And.intro ?_ <| And.intro ?_ <| trivial
    all_goals
      intro vs MM w' hM hd K' hK
      dsimp only at hK ⊢
      simp only [Act.put,List.setIfInBounds_toArray,List.set_cons_zero,List.set_cons_succ] at hK
    · obtain ⟨p0,p1,p2,p3,p4⟩:=(Xs.out.keep hM).cells
      go_simp
      exact hK.out _ _ rfl (Below.refl _ _)
    · go_simp
      refine (refStr_any _ _).mono ?_
      rintro e w7 ⟨rfl,b7⟩
      exact hK.out _ _ rfl b7
    · have e0:vs 0=(.agg #[.int .i64 sk,.int .i64 sn,.string st,.slice sa1 sn1 sc1,.slice sa2 sn2 sc2]):=hd 0 (by kernel_rfl)
      have e1:vs 1=(.agg #[.int .i64 3,.int .i64 0,.string ⟨#[110,111,116]⟩,.slice none 0 0,.slice none 0 0]):=hd 1 (by kernel_rfl)
      simp only [e0,e1] at hK ⊢
      clear e0 e1
      go_simp
      refine (refWith_any5 (Js.out.below hM) (is_plain w' (fun b=>b < G) 3 0 ⟨#[110,111,116]⟩ (by decide)) (Nat.le_trans HF.out.sw (by decide)) kDepth (by decide) HF.out.s5).mono ?_
      rintro e w7 ⟨k7,n7,t7,a17,n17,c17,a27,n27,c27,rfl,h7,b7⟩
      exact hK.out _ _ ⟨_,_,_,_,_,_,_,_,_,rfl,hide (h7.weak (fun b hb hs=>hs.elim .inl (fun h9=>.inr (.inr ⟨h9,hb⟩))))⟩ b7
    · go_simp
      exact hK.out _ _ ⟨_,rfl,.inr ⟨Nat.le_refl _,by simp⟩,hide (b5_new _ _ _ _ _ _ _ rfl)⟩ (below_alloc _ _)
  case last =>
    intro vs lo hi w' hM hlo hap hall K' Q' hK
    obtain ⟨_,_,h2,h3,_⟩:=hall
    obtain ⟨yk,yn,yt,ya1,yn1,yc1,ya2,yn2,yc2,e2,H2⟩:=h2
    obtain ⟨gy,e3,hg3,HX3⟩:=h3
    dsimp only
    simp only [e2,e3]
    have hz3:=(hlo 3 (by decide)).1
    obtain ⟨hno,hg8,hg9⟩:=ownM_box 3 (k:=2) hg3 (by kernel_rfl) rfl rfl (by decide) (fun j hj=>hap j 3 (Nat.lt_of_le_of_lt hj (by decide)) (by decide) (by omega))
    have hgG:G≤gy:=by have:=HG.out;omega
    obtain ⟨y0,y1,y2,y3,y4⟩:=HX3.out.cells
    have fu0:=HX3.out.free 0
    have fu1:=HX3.out.free 1
    have fu2:=HX3.out.free 2
    have fu3:=HX3.out.free 3
    have fu4:=HX3.out.free 4
    go_simp
    refine hK.out _ _ ?_
    clear hK y0 y1 y2 y3 y4 fu0 fu1 fu2 fu3 fu4 e2 e3
    have hGs:=HG.out
    have b9:Below w15.heap.size w15 (((((w'.setCell ⟨gy,0,none⟩ (.int .i64 yk)).setCell ⟨gy,1,none⟩ (.int .i64 yn)).setCell ⟨gy,2,none⟩ (.string yt)).setCell ⟨gy,3,none⟩ (.slice ya1 yn1 yc1)).setCell ⟨gy,4,none⟩ (.slice ya2 yn2 yc2)):=hM.trans (below5 (B:=w15.heap.size) (g:=gy) (w:=w') (by omega) (.int .i64 yk) (.int .i64 yn) (.string yt) (.slice ya1 yn1 yc1) (.slice ya2 yn2 yc2))
    have Iy:=hide ((H2.out.keep (keeps_chain (S:=fun b=>b < G∨ownM _ lo hi 2 b) (w:=w') (g:=gy) (fun h=>h.elim (fun h1=>absurd h1 (by omega)) hno) (.int .i64 yk) (.int .i64 yn) (.string yt) (.slice ya1 yn1 yc1) (.slice ya2 yn2 yc2))).weak (S':=fun _=>True) (fun _ _ _=>trivial))
    have Xy:=hide (HX3.out.all (.int .i64 yk) (.int .i64 yn) (.string yt) (.slice ya1 yn1 yc1) (.slice ya2 yn2 yc2))
    replace Xv:=hide ((Xv.out.keep hM).past5 (g':=gy) (by omega) (.int .i64 yk) (.int .i64 yn) (.string yt) (.slice ya1 yn1 yc1) (.slice ya2 yn2 yc2))
    replace Xs:=hide ((Xs.out.keep hM).past5 (g':=gy) (by omega) (.int .i64 yk) (.int .i64 yn) (.string yt) (.slice ya1 yn1 yc1) (.slice ya2 yn2 yc2))
    replace Xx:=hide ((Xx.out.keep hM).past5 (g':=gy) (by omega) (.int .i64 yk) (.int .i64 yn) (.string yt) (.slice ya1 yn1 yc1) (.slice ya2 yn2 yc2))
    replace Xu:=hide ((Xu.out.keep hM).past5 (g':=gy) (by omega) (.int .i64 yk) (.int .i64 yn) (.string yt) (.slice ya1 yn1 yc1) (.slice ya2 yn2 yc2))
    replace Xo:=hide ((Xo.out.keep hM).past5 (g':=gy) (by omega) (.int .i64 yk) (.int .i64 yn) (.string yt) (.slice ya1 yn1 yc1) (.slice ya2 yn2 yc2))
    have Iv:=hide (((Jv.out.below hM).keep (keeps_chain (S:=fun b=>b < G) (by show ¬ (gy < G);omega) (.int .i64 yk) (.int .i64 yn) (.string yt) (.slice ya1 yn1 yc1) (.slice ya2 yn2 yc2))).weak (S':=fun _=>True) (fun _ _ _=>trivial))
    have Is:=hide (((Js.out.below hM).keep (keeps_chain (S:=fun b=>b < G) (by show ¬ (gy < G);omega) (.int .i64 yk) (.int .i64 yn) (.string yt) (.slice ya1 yn1 yc1) (.slice ya2 yn2 yc2))).weak (S':=fun _=>True) (fun _ _ _=>trivial))
    have Ix:=hide (((Jx.out.below hM).keep (keeps_chain (S:=fun b=>b < G) (by show ¬ (gy < G);omega) (.int .i64 yk) (.int .i64 yn) (.string yt) (.slice ya1 yn1 yc1) (.slice ya2 yn2 yc2))).weak (S':=fun _=>True) (fun _ _ _=>trivial))
    have Iu:=hide (((Ju.out.below hM).keep (keeps_chain (S:=fun b=>b < G) (by show ¬ (gy < G);omega) (.int .i64 yk) (.int .i64 yn) (.string yt) (.slice ya1 yn1 yc1) (.slice ya2 yn2 yc2))).weak (S':=fun _=>True) (fun _ _ _=>trivial))
    have Io:=hide (((Jo.out.below hM).keep (keeps_chain (S:=fun b=>b < G) (by show ¬ (gy < G);omega) (.int .i64 yk) (.int .i64 yn) (.string yt) (.slice ya1 yn1 yc1) (.slice ya2 yn2 yc2))).weak (S':=fun _=>True) (fun _ _ _=>trivial))
    replace HT:=hide (HT.out.below b9)
    replace L:=hide (bthen L.out b9)
    clear hM hlo hap hg3 hno HX3 H2 b9 hGs HG hz3 hg8 hg9 hgG HR0 HR1 Jv Js Jx Ju Jo ltv lts ltx ltu lto
    generalize (((((w'.setCell ⟨gy,0,none⟩ (.int .i64 yk)).setCell ⟨gy,1,none⟩ (.int .i64 yn)).setCell ⟨gy,2,none⟩ (.string yt)).setCell ⟨gy,3,none⟩ (.slice ya1 yn1 yc1)).setCell ⟨gy,4,none⟩ (.slice ya2 yn2 yc2))=wz at HT L Iv Is Ix Iu Io Iy Xv Xs Xx Xu Xo Xy ⊢
    go_upto_region 7 with fail
    obtain ⟨H0,h0⟩:∃ h,Xr.hash VV=h:=⟨_,rfl⟩
    obtain ⟨H1,h1⟩:∃ h,Xr.hash (V.withV (Xr.sealed VV) kOther PP)=h:=⟨_,rfl⟩
    obtain ⟨H2,h2⟩:∃ h,Xr.hash (V.withV (Xr.sealed VV) kDepth ⟨3,0,⟨#[110,111,116]⟩,[],[]⟩)=h:=⟨_,rfl⟩
    obtain ⟨q1,hq1⟩:∃ q,Xr.hashed (V.withV (Xr.sealed VV) kOther PP)=q:=⟨_,rfl⟩
    obtain ⟨q2,hq2⟩:∃ q,Xr.hashed (V.withV (Xr.sealed VV) kDepth ⟨3,0,⟨#[110,111,116]⟩,[],[]⟩)=q:=⟨_,rfl⟩
    have he1:=HF.out.oh
    have he2:=HF.out.yh
    rw [h0,h1,hq1] at he1
    rw [h0,h2,hq2] at he2
    have HH0:=hide h0
    have HH1:=hide h1
    have HH2:=hide h2
    have HQ1:=hide hq1
    have HQ2:=hide hq2
    have HE1:=hide he1
    have HE2:=hide he2
    have HB1:Hid ((q1 == q1)=true):=hide (by simp)
    have HB2:Hid ((q2 == q2)=true):=hide (by simp)
    have HE0:Hid ((H0.toList == H0.toList)=true):=hide (by simp)
    clear h0 h1 h2 hq1 hq2 he1 he2
    refine' wp_region_facts [(fun _ _ v _=>v=(.bool true)),(fun _ _ v _=>v=(.bool true)),(fun _ _ v _=>v=(.agg #[.int .i64 sk,.int .i64 sn,.string st,.slice sa1 sn1 sc1,.slice sa2 sn2 sc2])),(fun _ _ v _=>v=(.bool true)),(fun _ _ v _=>v=(.bool true)),(fun _ _ v _=>v=(.bool true)),(fun _ _ v _=>v=(.agg #[.int .i64 uk,.int .i64 un,.string ut,.slice ua1 un1 uc1,.slice ua2 un2 uc2])),(fun _ _ v _=>v=(.bool true)),(fun _ _ v _=>v=(.bool true)),(fun _ _ v _=>v=(.bool true)),(fun _ _ v _=>v=(.agg #[.int .i64 ok,.int .i64 on,.string ot,.slice oa1 on1 oc1,.slice oa2 on2 oc2])),(fun _ _ v _=>v=(.bool q1)),(fun _ _ v _=>v=(.agg #[.int .i64 ok,.int .i64 on,.string ot,.slice oa1 on1 oc1,.slice oa2 on2 oc2])),(fun _ _ v _=>v=(.string H1)),(fun _ _ v _=>v=(.agg #[.int .i64 vk,.int .i64 vn,.string vt,.slice va1 vn1 vc1,.slice va2 vn2 vc2])),(fun _ _ v _=>v=(.string H0)),(fun _ _ v _=>v=(.bool q1)),(fun _ _ v _=>v=(.bool true)),(fun _ _ v _=>v=(.bool true)),(fun _ _ v _=>v=(.bool true)),(fun _ _ v _=>v=(.agg #[.int .i64 yk,.int .i64 yn,.string yt,.slice ya1 yn1 yc1,.slice ya2 yn2 yc2])),(fun _ _ v _=>v=(.bool q2)),(fun _ _ v _=>v=(.agg #[.int .i64 yk,.int .i64 yn,.string yt,.slice ya1 yn1 yc1,.slice ya2 yn2 yc2])),(fun _ _ v _=>v=(.string H2)),(fun _ _ v _=>v=(.agg #[.int .i64 vk,.int .i64 vn,.string vt,.slice va1 vn1 vc1,.slice va2 vn2 vc2])),(fun _ _ v _=>v=(.string H0)),(fun _ _ v _=>v=(.bool q2)),(fun _ _ v _=>v=(.bool true)),(fun _ _ v _=>v=(.bool true)),(fun _ _ v _=>v=(.bool true)),(fun _ _ v _=>v=(.agg #[.int .i64 sk,.int .i64 sn,.string st,.slice sa1 sn1 sc1,.slice sa2 sn2 sc2])),(AnyF (Xr.sealed (Xr.sealed VV))),(fun _ _ v _=>v=(.agg #[.int .i64 sk,.int .i64 sn,.string st,.slice sa1 sn1 sc1,.slice sa2 sn2 sc2])),(fun _ _ v _=>v=(.bool true)),(fun _ _ v _=>v=(.bool true)),(fun _ _ v _=>v=(.bool true)),(fun _ _ v _=>v=(.agg #[.int .i64 sk,.int .i64 sn,.string st,.slice sa1 sn1 sc1,.slice sa2 sn2 sc2])),(fun _ _ v _=>v=(.string H0)),(fun _ _ v _=>v=(.agg #[.int .i64 vk,.int .i64 vn,.string vt,.slice va1 vn1 vc1,.slice va2 vn2 vc2])),(fun _ _ v _=>v=(.string H0)),(fun _ _ v _=>v=(.bool true)),(fun _ _ v _=>v=(.bool true))] (by kernel_rfl) rfl ?hA (by kernel_rfl) (by kernel_rfl) (by kernel_rfl) rfl ?mono ?steps ?last
    case hA =>
      intro vs
      simp only [puts,Act.put,List.setIfInBounds_toArray,List.set_cons_zero,List.set_cons_succ,Nat.zero_add,Nat.reduceAdd]
      rfl
    case mono=>exact ⟨mono_eq _,mono_eq _,mono_eq _,mono_eq _,mono_eq _,mono_eq _,mono_eq _,mono_eq _,mono_eq _,mono_eq _,mono_eq _,mono_eq _,mono_eq _,mono_eq _,mono_eq _,mono_eq _,mono_eq _,mono_eq _,mono_eq _,mono_eq _,mono_eq _,mono_eq _,mono_eq _,mono_eq _,mono_eq _,mono_eq _,mono_eq _,mono_eq _,mono_eq _,mono_eq _,mono_eq _,mono_any _,mono_eq _,mono_eq _,mono_eq _,mono_eq _,mono_eq _,mono_eq _,mono_eq _,mono_eq _,mono_eq _,mono_eq _,trivial⟩
    case steps =>
      intro Q'
      refine And.intro ?_ <| And.intro ?_ <| And.intro ?_ <| And.intro ?_ <| And.intro ?_ <| And.intro ?_ <| And.intro ?_ <| And.intro ?_ <| And.intro ?_ <| And.intro ?_ <| And.intro ?_ <| And.intro ?_ <| And.intro ?_ <| And.intro ?_ <| And.intro ?_ <| And.intro ?_ <| And.intro ?_ <| And.intro ?_ <| And.intro ?_ <| And.intro ?_ <| And.intro ?_ <| And.intro ?_ <| And.intro ?_ <| And.intro ?_ <| And.intro ?_ <| And.intro ?_ <| And.intro ?_ <| And.intro ?_ <| And.intro ?_ <| And.intro ?_ <| And.intro ?_ <| And.intro ?_ <| And.intro ?_ <| And.intro ?_ <| And.intro ?_ <| And.intro ?_ <| And.intro ?_ <| And.intro ?_ <| And.intro ?_ <| And.intro ?_ <| And.intro ?_ <| And.intro ?_ <| trivial
      all_goals
        intro vs lo hi w' hM hd K' hK
        dsimp only at hK ⊢
        simp only [Act.put,List.setIfInBounds_toArray,List.set_cons_zero,List.set_cons_succ] at hK
      · go_simp
        refine (xknown_any _ (HT.out.below hM)).mono ?_
        rintro e w7 ⟨rfl,b7⟩
        exact hK.out _ _ rfl b7
      · have e0:vs 0=(.bool true):=hd 0 (by kernel_rfl)
        simp only [e0] at hK ⊢
        clear e0
        go_simp
        exact hK.out _ _ rfl (Below.refl _ _)
      · have e1:vs 1=(.bool true):=hd 1 (by kernel_rfl)
        simp only [e1] at hK ⊢
        clear e1
        obtain ⟨p0,p1,p2,p3,p4⟩:=(Xs.out.keep hM).cells
        go_simp
        exact hK.out _ _ rfl (Below.refl _ _)
      · have e2:vs 2=(.agg #[.int .i64 sk,.int .i64 sn,.string st,.slice sa1 sn1 sc1,.slice sa2 sn2 sc2]):=hd 2 (by kernel_rfl)
        have e1:vs 1=(.bool true):=hd 1 (by kernel_rfl)
        simp only [e2,e1] at hK ⊢
        clear e2 e1
        go_simp
        refine (hashed_any (Is.out.below hM) HF.out.sr (Nat.le_trans HF.out.sw (by decide)) (Nat.le_trans HF.out.sc (by decide)) (HT.out.below hM)).mono ?_
        rintro e w7 ⟨rfl,b7⟩
        rw [HF.out.sh]
        exact hK.out _ _ rfl b7
      · have e1:vs 1=(.bool true):=hd 1 (by kernel_rfl)
        have e3:vs 3=(.bool true):=hd 3 (by kernel_rfl)
        simp only [e1,e3] at hK ⊢
        clear e1 e3
        go_simp
        exact hK.out _ _ rfl (Below.refl _ _)
      · have e4:vs 4=(.bool true):=hd 4 (by kernel_rfl)
        simp only [e4] at hK ⊢
        clear e4
        go_simp
        exact hK.out _ _ rfl (Below.refl _ _)
      · have e5:vs 5=(.bool true):=hd 5 (by kernel_rfl)
        simp only [e5] at hK ⊢
        clear e5
        obtain ⟨p0,p1,p2,p3,p4⟩:=(Xu.out.keep hM).cells
        go_simp
        exact hK.out _ _ rfl (Below.refl _ _)
      · have e6:vs 6=(.agg #[.int .i64 uk,.int .i64 un,.string ut,.slice ua1 un1 uc1,.slice ua2 un2 uc2]):=hd 6 (by kernel_rfl)
        have e5:vs 5=(.bool true):=hd 5 (by kernel_rfl)
        simp only [e6,e5] at hK ⊢
        clear e6 e5
        go_simp
        refine (hashed_any (Iu.out.below hM) HF.out.ur (Nat.le_trans HF.out.uw (by decide)) (Nat.le_trans HF.out.uc (by decide)) (HT.out.below hM)).mono ?_
        rintro e w7 ⟨rfl,b7⟩
        rw [HF.out.uh]
        exact hK.out _ _ rfl b7
      · have e5:vs 5=(.bool true):=hd 5 (by kernel_rfl)
        have e7:vs 7=(.bool true):=hd 7 (by kernel_rfl)
        simp only [e5,e7] at hK ⊢
        clear e5 e7
        go_simp
        exact hK.out _ _ rfl (Below.refl _ _)
      · have e8:vs 8=(.bool true):=hd 8 (by kernel_rfl)
        simp only [e8] at hK ⊢
        clear e8
        go_simp
        exact hK.out _ _ rfl (Below.refl _ _)
      · have e9:vs 9=(.bool true):=hd 9 (by kernel_rfl)
        simp only [e9] at hK ⊢
        clear e9
        obtain ⟨p0,p1,p2,p3,p4⟩:=(Xo.out.keep hM).cells
        go_simp
        exact hK.out _ _ rfl (Below.refl _ _)
      · have e10:vs 10=(.agg #[.int .i64 ok,.int .i64 on,.string ot,.slice oa1 on1 oc1,.slice oa2 on2 oc2]):=hd 10 (by kernel_rfl)
        have e9:vs 9=(.bool true):=hd 9 (by kernel_rfl)
        simp only [e10,e9] at hK ⊢
        clear e10 e9
        go_simp
        refine (hashed_any (Io.out.below hM) HF.out.or (Nat.le_trans HF.out.ow (by decide)) (Nat.le_trans HF.out.oc (by decide)) (HT.out.below hM)).mono ?_
        rintro e w7 ⟨rfl,b7⟩
        rw [HQ1.out]
        exact hK.out _ _ rfl b7
      · have e9:vs 9=(.bool true):=hd 9 (by kernel_rfl)
        simp only [e9] at hK ⊢
        clear e9
        obtain ⟨p0,p1,p2,p3,p4⟩:=(Xo.out.keep hM).cells
        go_simp
        exact hK.out _ _ rfl (Below.refl _ _)
      · have e12:vs 12=(.agg #[.int .i64 ok,.int .i64 on,.string ot,.slice oa1 on1 oc1,.slice oa2 on2 oc2]):=hd 12 (by kernel_rfl)
        have e9:vs 9=(.bool true):=hd 9 (by kernel_rfl)
        simp only [e12,e9] at hK ⊢
        clear e12 e9
        go_simp
        refine (hash_any (Io.out.below hM) HF.out.or (Nat.le_trans HF.out.ow (by decide)) (Nat.le_trans HF.out.oc (by decide)) (HT.out.below hM)).mono ?_
        rintro e w7 ⟨rfl,b7⟩
        rw [HH1.out]
        exact hK.out _ _ rfl b7
      · have e9:vs 9=(.bool true):=hd 9 (by kernel_rfl)
        simp only [e9] at hK ⊢
        clear e9
        obtain ⟨p0,p1,p2,p3,p4⟩:=(Xv.out.keep hM).cells
        go_simp
        exact hK.out _ _ rfl (Below.refl _ _)
      · have e14:vs 14=(.agg #[.int .i64 vk,.int .i64 vn,.string vt,.slice va1 vn1 vc1,.slice va2 vn2 vc2]):=hd 14 (by kernel_rfl)
        have e9:vs 9=(.bool true):=hd 9 (by kernel_rfl)
        simp only [e14,e9] at hK ⊢
        clear e14 e9
        go_simp
        refine (hash_any (Iv.out.below hM) HF.out.vr (Nat.le_trans HF.out.vw (by decide)) (Nat.le_trans HF.out.vc (by decide)) (HT.out.below hM)).mono ?_
        rintro e w7 ⟨rfl,b7⟩
        rw [HH0.out]
        exact hK.out _ _ rfl b7
      · have e13:vs 13=(.string H1):=hd 13 (by kernel_rfl)
        have e15:vs 15=(.string H0):=hd 15 (by kernel_rfl)
        have e9:vs 9=(.bool true):=hd 9 (by kernel_rfl)
        simp only [e13,e15,e9] at hK ⊢
        clear e13 e15 e9
        have hq:=HE1.out
        go_simp
        exact hK.out _ _ rfl (Below.refl _ _)
      · have e11:vs 11=(.bool q1):=hd 11 (by kernel_rfl)
        have e16:vs 16=(.bool q1):=hd 16 (by kernel_rfl)
        have e9:vs 9=(.bool true):=hd 9 (by kernel_rfl)
        simp only [e11,e16,e9] at hK ⊢
        clear e11 e16 e9
        have hq:=HB1.out
        go_simp
        exact hK.out _ _ rfl (Below.refl _ _)
      · have e9:vs 9=(.bool true):=hd 9 (by kernel_rfl)
        have e17:vs 17=(.bool true):=hd 17 (by kernel_rfl)
        simp only [e9,e17] at hK ⊢
        clear e9 e17
        go_simp
        exact hK.out _ _ rfl (Below.refl _ _)
      · have e18:vs 18=(.bool true):=hd 18 (by kernel_rfl)
        simp only [e18] at hK ⊢
        clear e18
        go_simp
        exact hK.out _ _ rfl (Below.refl _ _)
      · have e19:vs 19=(.bool true):=hd 19 (by kernel_rfl)
        simp only [e19] at hK ⊢
        clear e19
        obtain ⟨p0,p1,p2,p3,p4⟩:=(Xy.out.keep hM).cells
        go_simp
        exact hK.out _ _ rfl (Below.refl _ _)
      · have e20:vs 20=(.agg #[.int .i64 yk,.int .i64 yn,.string yt,.slice ya1 yn1 yc1,.slice ya2 yn2 yc2]):=hd 20 (by kernel_rfl)
        have e19:vs 19=(.bool true):=hd 19 (by kernel_rfl)
        simp only [e20,e19] at hK ⊢
        clear e20 e19
        go_simp
        refine (hashed_any (Iy.out.below hM) HF.out.yr (Nat.le_trans HF.out.yw (by decide)) (Nat.le_trans HF.out.yc (by decide)) (HT.out.below hM)).mono ?_
        rintro e w7 ⟨rfl,b7⟩
        rw [HQ2.out]
        exact hK.out _ _ rfl b7
      · have e19:vs 19=(.bool true):=hd 19 (by kernel_rfl)
        simp only [e19] at hK ⊢
        clear e19
        obtain ⟨p0,p1,p2,p3,p4⟩:=(Xy.out.keep hM).cells
        go_simp
        exact hK.out _ _ rfl (Below.refl _ _)
      · have e22:vs 22=(.agg #[.int .i64 yk,.int .i64 yn,.string yt,.slice ya1 yn1 yc1,.slice ya2 yn2 yc2]):=hd 22 (by kernel_rfl)
        have e19:vs 19=(.bool true):=hd 19 (by kernel_rfl)
        simp only [e22,e19] at hK ⊢
        clear e22 e19
        go_simp
        refine (hash_any (Iy.out.below hM) HF.out.yr (Nat.le_trans HF.out.yw (by decide)) (Nat.le_trans HF.out.yc (by decide)) (HT.out.below hM)).mono ?_
        rintro e w7 ⟨rfl,b7⟩
        rw [HH2.out]
        exact hK.out _ _ rfl b7
      · have e19:vs 19=(.bool true):=hd 19 (by kernel_rfl)
        simp only [e19] at hK ⊢
        clear e19
        obtain ⟨p0,p1,p2,p3,p4⟩:=(Xv.out.keep hM).cells
        go_simp
        exact hK.out _ _ rfl (Below.refl _ _)
      · have e24:vs 24=(.agg #[.int .i64 vk,.int .i64 vn,.string vt,.slice va1 vn1 vc1,.slice va2 vn2 vc2]):=hd 24 (by kernel_rfl)
        have e19:vs 19=(.bool true):=hd 19 (by kernel_rfl)
        simp only [e24,e19] at hK ⊢
        clear e24 e19
        go_simp
        refine (hash_any (Iv.out.below hM) HF.out.vr (Nat.le_trans HF.out.vw (by decide)) (Nat.le_trans HF.out.vc (by decide)) (HT.out.below hM)).mono ?_
        rintro e w7 ⟨rfl,b7⟩
        rw [HH0.out]
        exact hK.out _ _ rfl b7
      · have e23:vs 23=(.string H2):=hd 23 (by kernel_rfl)
        have e25:vs 25=(.string H0):=hd 25 (by kernel_rfl)
        have e19:vs 19=(.bool true):=hd 19 (by kernel_rfl)
        simp only [e23,e25,e19] at hK ⊢
        clear e23 e25 e19
        have hq:=HE2.out
        go_simp
        exact hK.out _ _ rfl (Below.refl _ _)
      · have e21:vs 21=(.bool q2):=hd 21 (by kernel_rfl)
        have e26:vs 26=(.bool q2):=hd 26 (by kernel_rfl)
        have e19:vs 19=(.bool true):=hd 19 (by kernel_rfl)
        simp only [e21,e26,e19] at hK ⊢
        clear e21 e26 e19
        have hq:=HB2.out
        go_simp
        exact hK.out _ _ rfl (Below.refl _ _)
      · have e19:vs 19=(.bool true):=hd 19 (by kernel_rfl)
        have e27:vs 27=(.bool true):=hd 27 (by kernel_rfl)
        simp only [e19,e27] at hK ⊢
        clear e19 e27
        go_simp
        exact hK.out _ _ rfl (Below.refl _ _)
      · have e28:vs 28=(.bool true):=hd 28 (by kernel_rfl)
        simp only [e28] at hK ⊢
        clear e28
        go_simp
        exact hK.out _ _ rfl (Below.refl _ _)
      · have e29:vs 29=(.bool true):=hd 29 (by kernel_rfl)
        simp only [e29] at hK ⊢
        clear e29
        obtain ⟨p0,p1,p2,p3,p4⟩:=(Xs.out.keep hM).cells
        go_simp
        exact hK.out _ _ rfl (Below.refl _ _)
      · have e30:vs 30=(.agg #[.int .i64 sk,.int .i64 sn,.string st,.slice sa1 sn1 sc1,.slice sa2 sn2 sc2]):=hd 30 (by kernel_rfl)
        have e29:vs 29=(.bool true):=hd 29 (by kernel_rfl)
        simp only [e30,e29] at hK ⊢
        clear e30 e29
        go_simp
        refine (sealed_any (Is.out.below hM) HF.out.sr (Nat.le_trans HF.out.sw (by decide)) (Nat.le_trans HF.out.sc (by decide)) (HT.out.below hM)).mono ?_
        rintro e w7 ⟨k7,n7,t7,a17,n17,c17,a27,n27,c27,rfl,h7,b7⟩
        exact hK.out _ _ ⟨_,_,_,_,_,_,_,_,_,rfl,hide (h7.weak (fun _ _ _=>trivial))⟩ b7
      · have e29:vs 29=(.bool true):=hd 29 (by kernel_rfl)
        simp only [e29] at hK ⊢
        clear e29
        obtain ⟨p0,p1,p2,p3,p4⟩:=(Xs.out.keep hM).cells
        go_simp
        exact hK.out _ _ rfl (Below.refl _ _)
      · obtain ⟨k31,n31,t31,a131,n131,c131,a231,n231,c231,e31,H31⟩:=hd 31 (by kernel_rfl)
        have e32:vs 32=(.agg #[.int .i64 sk,.int .i64 sn,.string st,.slice sa1 sn1 sc1,.slice sa2 sn2 sc2]):=hd 32 (by kernel_rfl)
        have e29:vs 29=(.bool true):=hd 29 (by kernel_rfl)
        simp only [e31,e32,e29] at hK ⊢
        clear e31 e32 e29
        go_simp
        refine (refSame_any H31.out (Is.out.below hM) HF.out.ssw (Nat.le_trans HF.out.sw (by decide)) true ⟨fun _=>HF.out.ss,fun _=>rfl⟩).mono ?_
        rintro e w7 ⟨rfl,b7⟩
        exact hK.out _ _ rfl b7
      · have e29:vs 29=(.bool true):=hd 29 (by kernel_rfl)
        have e33:vs 33=(.bool true):=hd 33 (by kernel_rfl)
        simp only [e29,e33] at hK ⊢
        clear e29 e33
        go_simp
        exact hK.out _ _ rfl (Below.refl _ _)
      · have e34:vs 34=(.bool true):=hd 34 (by kernel_rfl)
        simp only [e34] at hK ⊢
        clear e34
        go_simp
        exact hK.out _ _ rfl (Below.refl _ _)
      · have e35:vs 35=(.bool true):=hd 35 (by kernel_rfl)
        simp only [e35] at hK ⊢
        clear e35
        obtain ⟨p0,p1,p2,p3,p4⟩:=(Xs.out.keep hM).cells
        go_simp
        exact hK.out _ _ rfl (Below.refl _ _)
      · have e36:vs 36=(.agg #[.int .i64 sk,.int .i64 sn,.string st,.slice sa1 sn1 sc1,.slice sa2 sn2 sc2]):=hd 36 (by kernel_rfl)
        have e35:vs 35=(.bool true):=hd 35 (by kernel_rfl)
        simp only [e36,e35] at hK ⊢
        clear e36 e35
        go_simp
        refine (hash_any (Is.out.below hM) HF.out.sr (Nat.le_trans HF.out.sw (by decide)) (Nat.le_trans HF.out.sc (by decide)) (HT.out.below hM)).mono ?_
        rintro e w7 ⟨rfl,b7⟩
        rw [HF.out.sv,HH0.out]
        exact hK.out _ _ rfl b7
      · have e35:vs 35=(.bool true):=hd 35 (by kernel_rfl)
        simp only [e35] at hK ⊢
        clear e35
        obtain ⟨p0,p1,p2,p3,p4⟩:=(Xv.out.keep hM).cells
        go_simp
        exact hK.out _ _ rfl (Below.refl _ _)
      · have e38:vs 38=(.agg #[.int .i64 vk,.int .i64 vn,.string vt,.slice va1 vn1 vc1,.slice va2 vn2 vc2]):=hd 38 (by kernel_rfl)
        have e35:vs 35=(.bool true):=hd 35 (by kernel_rfl)
        simp only [e38,e35] at hK ⊢
        clear e38 e35
        go_simp
        refine (hash_any (Iv.out.below hM) HF.out.vr (Nat.le_trans HF.out.vw (by decide)) (Nat.le_trans HF.out.vc (by decide)) (HT.out.below hM)).mono ?_
        rintro e w7 ⟨rfl,b7⟩
        rw [HH0.out]
        exact hK.out _ _ rfl b7
      · have e37:vs 37=(.string H0):=hd 37 (by kernel_rfl)
        have e39:vs 39=(.string H0):=hd 39 (by kernel_rfl)
        have e35:vs 35=(.bool true):=hd 35 (by kernel_rfl)
        simp only [e37,e39,e35] at hK ⊢
        clear e37 e39 e35
        have hq:=HE0.out
        go_simp
        exact hK.out _ _ rfl (Below.refl _ _)
      · have e35:vs 35=(.bool true):=hd 35 (by kernel_rfl)
        have e40:vs 40=(.bool true):=hd 40 (by kernel_rfl)
        simp only [e35,e40] at hK ⊢
        clear e35 e40
        go_simp
        exact hK.out _ _ rfl (Below.refl _ _)
    case last =>
      intro vs lo hi w' hM hlo hap hall K' Q' hK
      have h41:vs 41=.bool true:=hall.2.2.2.2.2.2.2.2.2.2.2.2.2.2.2.2.2.2.2.2.2.2.2.2.2.2.2.2.2.2.2.2.2.2.2.2.2.2.2.2.2.1
      dsimp only
      simp only [h41]
      clear h41 hall hap hlo
      go_simp
      refine hK.out _ _ ?_
      clear hK
      try go_wp2_with fail
      go_ret
      exact ⟨rfl,bthen L.out hM⟩
end Go.Proofs.YtapcmbbhhclepaaGreatDoor
