/-
  THE WALK of the law RedactName (layer 7).
-/
import Derived.Test.YtapcmbbhhclepaaGreatDoorBxXWide
import Derived.Test.YtapcmbbhhclepaaGreatDoorB25
import Derived.Deep.DeepCutAuto
import Derived.Deep.CutBlock
set_option linter.unusedVariables false
set_option linter.unusedSimpArgs false
set_option maxRecDepth 100000
namespace Go.Proofs.YtapcmbbhhclepaaGreatDoor
open Go.RowKit

namespace Xr
structure Fn (VV PP:V):Prop where
  vr:V.right VV=true
  v5:VV.kind=5
  vw:V.wt VV≤460000
  vx:cost VV≤900000
  ar:V.right (V.withV VV kUnsigned PP)=true
  aw:V.wt (V.withV VV kUnsigned PP)≤470000
  ax:cost (V.withV VV kUnsigned PP)≤900000
  br:V.right (V.withV VV kSender ⟨3,0,⟨#[64,111,116,104,101,114,58,115]⟩,[],[]⟩)=true
  bw:V.wt (V.withV VV kSender ⟨3,0,⟨#[64,111,116,104,101,114,58,115]⟩,[],[]⟩)≤470000
  bx:cost (V.withV VV kSender ⟨3,0,⟨#[64,111,116,104,101,114,58,115]⟩,[],[]⟩)≤900000
  ra:redact (V.withV VV kUnsigned PP)=redact VV
  rbw:V.wt (redact (V.withV VV kSender ⟨3,0,⟨#[64,111,116,104,101,114,58,115]⟩,[],[]⟩))≤4294967296
  rvw:V.wt (redact VV)≤4294967296
theorem so_right:V.right ⟨3,0,⟨#[64,111,116,104,101,114,58,115]⟩,[],[]⟩=true:=V.right_str (s:=⟨#[64,111,116,104,101,114,58,115]⟩) (by kernel_rfl)
theorem name_same {VV:V} (vr:V.right VV=true) (v5:VV.kind=5) (h:V.get VV kSender=some ⟨3,0,⟨#[64,111,116,104,101,114,58,115]⟩,[],[]⟩):V.withV VV kSender ⟨3,0,⟨#[64,111,116,104,101,114,58,115]⟩,[],[]⟩=VV:=by
  refine V.ext5 (V.right_with vr v5 utf_sender so_right) vr (V.kind5_with _ _ _) v5 (fun o=>?_)
  rw [V.get_with vr v5 utf_sender so_right]
  by_cases e:o=kSender
  · rw [if_pos e,e,h]
  · rw [if_neg e]
theorem name_tells {VV:V} (vr:V.right VV=true) (v5:VV.kind=5) (h:redact (V.withV VV kSender ⟨3,0,⟨#[64,111,116,104,101,114,58,115]⟩,[],[]⟩)=redact VV):V.get VV kSender=some ⟨3,0,⟨#[64,111,116,104,101,114,58,115]⟩,[],[]⟩:=by
  have h1:V.get (redact (V.withV VV kSender ⟨3,0,⟨#[64,111,116,104,101,114,58,115]⟩,[],[]⟩)) kSender=V.get (redact VV) kSender:=by rw [h]
  rw [get_redact (V.right_with vr v5 utf_sender so_right) (V.kind5_with _ _ _),get_redact vr v5,if_pos senderE,if_neg sender_ne,if_pos senderE,if_neg sender_ne,V.get_with vr v5 utf_sender so_right,if_pos rfl] at h1
  exact h1.symm
theorem name_all {VV PP:V} (vr:V.right VV=true) (v5:VV.kind=5) (vw:V.wt VV≤460000) (vc:cost VV≤730000) (pr:V.right PP=true) (pw:V.wt PP≤4000) (pc:cost PP≤6400):Fn VV PP:=by
  have nw:V.wt ⟨3,0,⟨#[64,111,116,104,101,114,58,115]⟩,[],[]⟩=9:=wt_str ⟨#[64,111,116,104,101,114,58,115]⟩
  have nc:cost ⟨3,0,⟨#[64,111,116,104,101,114,58,115]⟩,[],[]⟩=72:=cost_str ⟨#[64,111,116,104,101,114,58,115]⟩
  have k1:kUnsigned.size=8:=rfl
  have k2:kSender.size=6:=rfl
  have u1:=V.wt_with_le VV kUnsigned PP
  have u2:=cost_with VV kUnsigned PP
  have o1:=V.wt_with_le VV kSender ⟨3,0,⟨#[64,111,116,104,101,114,58,115]⟩,[],[]⟩
  have o2:=cost_with VV kSender ⟨3,0,⟨#[64,111,116,104,101,114,58,115]⟩,[],[]⟩
  have r1:=wt_redact (V.withV VV kSender ⟨3,0,⟨#[64,111,116,104,101,114,58,115]⟩,[],[]⟩)
  have r2:=wt_redact VV
  have ar:=V.right_with vr v5 utf_unsigned pr
  have ga:∀ o,Lib.containsS lEvent o=true→V.get (V.withV VV kUnsigned PP) o=V.get VV o:=fun o ho=>by
    rw [V.get_with vr v5 utf_unsigned pr,if_neg (fun e=>by rw [e,unsignedE] at ho;cases ho)]
  exact ⟨vr,v5,vw,by omega,ar,by omega,by omega,V.right_with vr v5 utf_sender so_right,by omega,by omega,redact_congr ar vr (V.kind5_with _ _ _) v5 (fun o ho _=>ga o ho) (by rw [ga kContent contentE]),by omega,by omega⟩
theorem name_facts {zs:List Int} (hz:∀ n ∈ zs,(Lit.int .u8 n).wf=true) (len:Nat) (k:Int) (z1:List Int) (len1:Nat):Fn (wide zs len k) (V.part z1 len1 k) :=
  name_all (wide_right hz len k) (wide_5 zs len k) (wide_wt zs len k) (wide_cost zs len k) (V.right_part _ _ _) (V.wt_part _ _ _) (cost_part _ _ _)
end Xr

set_option maxHeartbeats 4000000 in
theorem redactName_walk (a0:Option Addr) (len0 cap0:Nat) (z0:List Int) (a1:Option Addr) (len1 cap1:Nat) (z1:List Int) (a2:Int) (w:World) (w0:IsRow .u8 w a0 len0 cap0 z0) (w1:IsRow .u8 w a1 len1 cap1 z1) (w2:(Lit.int .u8 a2).wf=true) (hT:Tabs w) :
    Calls Tryz.prog 6 #[.slice a0 len0 cap0,.slice a1 len1 cap1,.int .u8 a2] w fun e w'=>e=.returned (.bool true)∧Below w.heap.size w w':=by
  have HT:=hide hT
  have HR0:=hide w0
  have HR1:=hide w1
  obtain ⟨hk0,hk1⟩:=wf_u8 w2
  have hz0:=(IsRow.view w0).2.2.1
  have HF:=hide (Xr.name_facts hz0 len0 a2 z1 len1)
  have L:=hide (Below.refl w.heap.size w)
  clear hT w0 w1 w2 hz0
  obtain ⟨VV,hVV⟩:∃ v,Xr.wide z0 len0 a2=v:=⟨_,rfl⟩
  obtain ⟨PP,hPP⟩:∃ v,V.part z1 len1 a2=v:=⟨_,rfl⟩
  rw [hVV,hPP] at HF
  have HVV:=hide hVV
  have HPP:=hide hPP
  clear hVV hPP
  go_enter Tryz.func6,Tryz.ntmps6
  go_wp2_with fail
  refine (wide_any a0 len0 cap0 z0 a2 w HR0.out hk0 hk1).mono ?_
  rintro e v1 ⟨vk,vn,vt,va1,vn1,vc1,va2,vn2,vc2,rfl,h1,b1⟩
  have bA:=below_alloc v1 (.cells #[.int .i64 vk,.int .i64 vn,.string vt,.slice va1 vn1 vc1,.slice va2 vn2 vc2] 27)
  have bb:=bthen b1 bA
  replace HT:=hide (HT.out.below bb)
  replace HR0:=hide (isRow_keep HR0.out bb)
  replace HR1:=hide (isRow_keep HR1.out bb)
  replace L:=hide (bthen L.out bb)
  have Iv:=hide ((h1.below bA).weak (S':=fun _=>True) (fun _ _ _=>trivial))
  have Xv:=hide (b5_new v1 (.int .i64 vk) (.int .i64 vn) (.string vt) (.slice va1 vn1 vc1) (.slice va2 vn2 vc2) _ rfl)
  clear h1 bA b1 bb
  go_upto_region 2 with fail
  generalize v1.alloc (.cells #[.int .i64 vk,.int .i64 vn,.string vt,.slice va1 vn1 vc1,.slice va2 vn2 vc2] 27)=w11 at HT L HR0 HR1 Iv Xv ⊢
  generalize v1.heap.size=gv at Xv ⊢
  rw [HVV.out] at Iv
  go_wp2_with fail
  refine (part_any a1 len1 cap1 z1 a2 _ HR1.out hk0 hk1).mono ?_
  rintro e v2 ⟨xk,xn,xt,xa1,xn1,xc1,xa2,xn2,xc2,rfl,h1,b1⟩
  have bA:=below_alloc v2 (.cells #[.int .i64 xk,.int .i64 xn,.string xt,.slice xa1 xn1 xc1,.slice xa2 xn2 xc2] 27)
  have bb:=bthen b1 bA
  replace HT:=hide (HT.out.below bb)
  replace Iv:=hide (Iv.out.below bb)
  replace Xv:=hide (Xv.out.keep bb)
  replace HR0:=hide (isRow_keep HR0.out bb)
  replace HR1:=hide (isRow_keep HR1.out bb)
  replace L:=hide (bthen L.out bb)
  have Ix:=hide ((h1.below bA).weak (S':=fun _=>True) (fun _ _ _=>trivial))
  have Xx:=hide (b5_new v2 (.int .i64 xk) (.int .i64 xn) (.string xt) (.slice xa1 xn1 xc1) (.slice xa2 xn2 xc2) _ rfl)
  clear h1 bA b1 bb
  go_upto_region 3 with fail
  generalize v2.alloc (.cells #[.int .i64 xk,.int .i64 xn,.string xt,.slice xa1 xn1 xc1,.slice xa2 xn2 xc2] 27)=w12 at HT L HR0 HR1 Iv Ix Xv Xx ⊢
  generalize v2.heap.size=gx at Xx ⊢
  rw [HPP.out] at Ix
  obtain ⟨p00,p01,p02,p03,p04⟩:=Xv.out.cells
  obtain ⟨p10,p11,p12,p13,p14⟩:=Xx.out.cells
  go_wp2_with fail
  clear p00 p01 p02 p03 p04 p10 p11 p12 p13 p14
  refine (refWith_any5 Iv.out Ix.out (Nat.le_trans HF.out.vw (by decide)) kUnsigned (by decide) HF.out.v5).mono ?_
  rintro e v3 ⟨qk,qn,qt,qa1,qn1,qc1,qa2,qn2,qc2,rfl,h1,b1⟩
  have bA:=below_alloc v3 (.cells #[.int .i64 qk,.int .i64 qn,.string qt,.slice qa1 qn1 qc1,.slice qa2 qn2 qc2] 27)
  have bb:=bthen b1 bA
  replace HT:=hide (HT.out.below bb)
  replace Iv:=hide (Iv.out.below bb)
  replace Ix:=hide (Ix.out.below bb)
  replace Xv:=hide (Xv.out.keep bb)
  replace Xx:=hide (Xx.out.keep bb)
  replace HR0:=hide (isRow_keep HR0.out bb)
  replace HR1:=hide (isRow_keep HR1.out bb)
  replace L:=hide (bthen L.out bb)
  have Iq:=hide ((h1.below bA).weak (S':=fun _=>True) (fun _ _ _=>trivial))
  have Xq:=hide (b5_new v3 (.int .i64 qk) (.int .i64 qn) (.string qt) (.slice qa1 qn1 qc1) (.slice qa2 qn2 qc2) _ rfl)
  clear h1 bA b1 bb
  go_upto_region 4 with fail
  generalize v3.alloc (.cells #[.int .i64 qk,.int .i64 qn,.string qt,.slice qa1 qn1 qc1,.slice qa2 qn2 qc2] 27)=w13 at HT L HR0 HR1 Iv Ix Iq Xv Xx Xq ⊢
  generalize v3.heap.size=gq at Xq ⊢
  obtain ⟨G,hGG⟩:∃ G,G=w13.heap.size:=⟨_,rfl⟩
  have HG:Hid (G=w13.heap.size):=hide hGG
  have Jv:=hide (Iv.out.weak (S':=fun b=>b < G) (fun b hb _=>by rw [hGG];exact hb))
  have Jx:=hide (Ix.out.weak (S':=fun b=>b < G) (fun b hb _=>by rw [hGG];exact hb))
  have Jq:=hide (Iq.out.weak (S':=fun b=>b < G) (fun b hb _=>by rw [hGG];exact hb))
  have ltv:gv < G:=by rw [hGG];exact Xv.out.lt
  have ltx:gx < G:=by rw [hGG];exact Xx.out.lt
  have ltq:gq < G:=by rw [hGG];exact Xq.out.lt
  clear hGG Iv Ix Iq
  refine' wp_region_factsM [(fun _ v _=>v=(.agg #[.int .i64 vk,.int .i64 vn,.string vt,.slice va1 vn1 vc1,.slice va2 vn2 vc2])),(fun _ v _=>v=(.agg #[.int .i64 3,.int .i64 0,.string ⟨#[64,111,116,104,101,114,58,115]⟩,.slice none 0 0,.slice none 0 0])),(ValM G (V.withV VV kSender ⟨3,0,⟨#[64,111,116,104,101,114,58,115]⟩,[],[]⟩)),BoxM] (by kernel_rfl) rfl ?hA (by kernel_rfl) (by kernel_rfl) (by kernel_rfl) rfl ?mono ?steps ?last
  case hA =>
    intro vs
    simp only [puts,Act.put,List.setIfInBounds_toArray,List.set_cons_zero,List.set_cons_succ,Nat.zero_add,Nat.reduceAdd]
    rfl
  case mono=>exact ⟨monoM_eq _,monoM_eq _,monoM_val _ _,monoM_box,trivial⟩
  case steps =>
    intro Q'
    refine And.intro ?_ <| And.intro ?_ <| And.intro ?_ <| And.intro ?_ <| trivial
    all_goals
      intro vs MM w' hM hd K' hK
      dsimp only at hK ⊢
      simp only [Act.put,List.setIfInBounds_toArray,List.set_cons_zero,List.set_cons_succ] at hK
    · obtain ⟨p0,p1,p2,p3,p4⟩:=(Xv.out.keep hM).cells
      go_simp
      exact hK.out _ _ rfl (Below.refl _ _)
    · go_simp
      refine (refStr_any _ _).mono ?_
      rintro e w7 ⟨rfl,b7⟩
      exact hK.out _ _ rfl b7
    · have e0:vs 0=(.agg #[.int .i64 vk,.int .i64 vn,.string vt,.slice va1 vn1 vc1,.slice va2 vn2 vc2]):=hd 0 (by kernel_rfl)
      have e1:vs 1=(.agg #[.int .i64 3,.int .i64 0,.string ⟨#[64,111,116,104,101,114,58,115]⟩,.slice none 0 0,.slice none 0 0]):=hd 1 (by kernel_rfl)
      simp only [e0,e1] at hK ⊢
      clear e0 e1
      go_simp
      refine (refWith_any5 (Jv.out.below hM) (is_plain w' (fun b=>b < G) 3 0 ⟨#[64,111,116,104,101,114,58,115]⟩ (by decide)) (Nat.le_trans HF.out.vw (by decide)) kSender (by decide) HF.out.v5).mono ?_
      rintro e w7 ⟨k7,n7,t7,a17,n17,c17,a27,n27,c27,rfl,h7,b7⟩
      exact hK.out _ _ ⟨_,_,_,_,_,_,_,_,_,rfl,hide (h7.weak (fun b hb hs=>hs.elim .inl (fun h9=>.inr (.inr ⟨h9,hb⟩))))⟩ b7
    · go_simp
      exact hK.out _ _ ⟨_,rfl,.inr ⟨Nat.le_refl _,by simp⟩,hide (b5_new _ _ _ _ _ _ _ rfl)⟩ (below_alloc _ _)
  case last =>
    intro vs lo hi w' hM hlo hap hall K' Q' hK
    obtain ⟨_,_,h2,h3,_⟩:=hall
    obtain ⟨bk,bn,bt,ba1,bn1,bc1,ba2,bn2,bc2,e2,H2⟩:=h2
    obtain ⟨gb,e3,hg3,HX3⟩:=h3
    dsimp only
    simp only [e2,e3]
    have hz3:=(hlo 3 (by decide)).1
    obtain ⟨hno,hg8,hg9⟩:=ownM_box 3 (k:=2) hg3 (by kernel_rfl) rfl rfl (by decide) (fun j hj=>hap j 3 (Nat.lt_of_le_of_lt hj (by decide)) (by decide) (by omega))
    have hgG:G≤gb:=by have:=HG.out;omega
    obtain ⟨y0,y1,y2,y3,y4⟩:=HX3.out.cells
    have fu0:=HX3.out.free 0
    have fu1:=HX3.out.free 1
    have fu2:=HX3.out.free 2
    have fu3:=HX3.out.free 3
    have fu4:=HX3.out.free 4
    go_simp
    refine hK.out _ _ ?_
    clear hK y0 y1 y2 y3 y4 fu0 fu1 fu2 fu3 fu4 e2 e3
    have hGs:=HG.out
    have b9:Below w13.heap.size w13 (((((w'.setCell ⟨gb,0,none⟩ (.int .i64 bk)).setCell ⟨gb,1,none⟩ (.int .i64 bn)).setCell ⟨gb,2,none⟩ (.string bt)).setCell ⟨gb,3,none⟩ (.slice ba1 bn1 bc1)).setCell ⟨gb,4,none⟩ (.slice ba2 bn2 bc2)):=hM.trans (below5 (B:=w13.heap.size) (g:=gb) (w:=w') (by omega) (.int .i64 bk) (.int .i64 bn) (.string bt) (.slice ba1 bn1 bc1) (.slice ba2 bn2 bc2))
    have Ib:=hide ((H2.out.keep (keeps_chain (S:=fun b=>b < G∨ownM _ lo hi 2 b) (w:=w') (g:=gb) (fun h=>h.elim (fun h1=>absurd h1 (by omega)) hno) (.int .i64 bk) (.int .i64 bn) (.string bt) (.slice ba1 bn1 bc1) (.slice ba2 bn2 bc2))).weak (S':=fun _=>True) (fun _ _ _=>trivial))
    have Xb:=hide (HX3.out.all (.int .i64 bk) (.int .i64 bn) (.string bt) (.slice ba1 bn1 bc1) (.slice ba2 bn2 bc2))
    replace Xv:=hide ((Xv.out.keep hM).past5 (g':=gb) (by omega) (.int .i64 bk) (.int .i64 bn) (.string bt) (.slice ba1 bn1 bc1) (.slice ba2 bn2 bc2))
    replace Xx:=hide ((Xx.out.keep hM).past5 (g':=gb) (by omega) (.int .i64 bk) (.int .i64 bn) (.string bt) (.slice ba1 bn1 bc1) (.slice ba2 bn2 bc2))
    replace Xq:=hide ((Xq.out.keep hM).past5 (g':=gb) (by omega) (.int .i64 bk) (.int .i64 bn) (.string bt) (.slice ba1 bn1 bc1) (.slice ba2 bn2 bc2))
    have Iv:=hide (((Jv.out.below hM).keep (keeps_chain (S:=fun b=>b < G) (by show ¬ (gb < G);omega) (.int .i64 bk) (.int .i64 bn) (.string bt) (.slice ba1 bn1 bc1) (.slice ba2 bn2 bc2))).weak (S':=fun _=>True) (fun _ _ _=>trivial))
    have Ix:=hide (((Jx.out.below hM).keep (keeps_chain (S:=fun b=>b < G) (by show ¬ (gb < G);omega) (.int .i64 bk) (.int .i64 bn) (.string bt) (.slice ba1 bn1 bc1) (.slice ba2 bn2 bc2))).weak (S':=fun _=>True) (fun _ _ _=>trivial))
    have Iq:=hide (((Jq.out.below hM).keep (keeps_chain (S:=fun b=>b < G) (by show ¬ (gb < G);omega) (.int .i64 bk) (.int .i64 bn) (.string bt) (.slice ba1 bn1 bc1) (.slice ba2 bn2 bc2))).weak (S':=fun _=>True) (fun _ _ _=>trivial))
    replace HT:=hide (HT.out.below b9)
    replace L:=hide (bthen L.out b9)
    clear hM hlo hap hg3 hno HX3 H2 b9 hGs HG hz3 hg8 hg9 hgG HR0 HR1 Jv Jx Jq ltv ltx ltq
    generalize (((((w'.setCell ⟨gb,0,none⟩ (.int .i64 bk)).setCell ⟨gb,1,none⟩ (.int .i64 bn)).setCell ⟨gb,2,none⟩ (.string bt)).setCell ⟨gb,3,none⟩ (.slice ba1 bn1 bc1)).setCell ⟨gb,4,none⟩ (.slice ba2 bn2 bc2))=wz at HT L Iv Ix Iq Ib Xv Xx Xq Xb ⊢
    go_upto_region 5 with fail
    obtain ⟨p00,p01,p02,p03,p04⟩:=Xv.out.cells
    go_wp2_with fail
    clear p00 p01 p02 p03 p04
    refine (refGet_all Iv.out kSender (Nat.le_trans HF.out.vw (by decide))).mono ?_
    rintro e vd ⟨dk,dn,dt,da1,dn1,dc1,da2,dn2,dc2,is,rfl,his,h1,b1⟩
    have bA:=below_alloc vd (.cells #[.int .i64 dk,.int .i64 dn,.string dt,.slice da1 dn1 dc1,.slice da2 dn2 dc2] 27)
    have bb:=bthen b1 bA
    replace HT:=hide (HT.out.below bb)
    replace Iv:=hide (Iv.out.below bb)
    replace Ix:=hide (Ix.out.below bb)
    replace Iq:=hide (Iq.out.below bb)
    replace Ib:=hide (Ib.out.below bb)
    replace Xv:=hide (Xv.out.keep bb)
    replace Xx:=hide (Xx.out.keep bb)
    replace Xq:=hide (Xq.out.keep bb)
    replace Xb:=hide (Xb.out.keep bb)
    replace L:=hide (bthen L.out bb)
    have Id:=hide (h1.below bA)
    have Xd:=hide (b5_new vd (.int .i64 dk) (.int .i64 dn) (.string dt) (.slice da1 dn1 dc1) (.slice da2 dn2 dc2) _ rfl)
    have HIS:=hide his
    clear h1 bA b1 bb his
    go_upto_region 6 with fail
    generalize vd.alloc (.cells #[.int .i64 dk,.int .i64 dn,.string dt,.slice da1 dn1 dc1,.slice da2 dn2 dc2] 27)=we at HT L Iv Ix Iq Ib Id Xv Xx Xq Xb Xd ⊢
    generalize vd.heap.size=gd at Xd ⊢
    go_cut [13] (fun sv wc=>∃ sm:Bool,sv=.bool sm∧Hid ((sm=true ↔ V.get VV kSender=some ⟨3,0,⟨#[64,111,116,104,101,114,58,115]⟩,[],[]⟩)∧Below we.heap.size we wc))
    case first =>
      cases hgt:V.get VV kSender with
      | none =>
        have HGT:=hide hgt
        have his:is=false:=by rw [HIS.out,hgt];rfl
        subst his
        clear hgt
        refine' wp_region_facts [(fun _ _ v _=>v=(.bool false)),(fun _ _ v _=>v=(.bool false)),(fun _ _ v _=>v=undef),(fun _ _ v _=>v=undef),(fun _ _ v _=>v=undef),(fun _ _ v _=>v=(.bool false))] (by kernel_rfl) rfl ?hA (by kernel_rfl) (by kernel_rfl) (by kernel_rfl) rfl ?mono ?steps ?last
        case hA =>
          intro vs
          simp only [puts,Act.put,List.setIfInBounds_toArray,List.set_cons_zero,List.set_cons_succ,Nat.zero_add,Nat.reduceAdd]
          rfl
        case mono=>exact ⟨mono_eq _,mono_eq _,mono_eq _,mono_eq _,mono_eq _,mono_eq _,trivial⟩
        case steps =>
          intro Q'
          refine And.intro ?_ <| And.intro ?_ <| And.intro ?_ <| And.intro ?_ <| And.intro ?_ <| And.intro ?_ <| trivial
          all_goals
            intro vs lo hi w' hM hd K' hK
            dsimp only at hK ⊢
            simp only [Act.put,List.setIfInBounds_toArray,List.set_cons_zero,List.set_cons_succ] at hK
          · go_simp
            exact hK.out _ _ rfl (Below.refl _ _)
          · have e0:vs 0=(.bool false):=hd 0 (by kernel_rfl)
            simp only [e0] at hK ⊢
            clear e0
            go_simp
            exact hK.out _ _ rfl (Below.refl _ _)
          · have e1:vs 1=(.bool false):=hd 1 (by kernel_rfl)
            simp only [e1] at hK ⊢
            clear e1
            go_simp
            exact hK.out _ _ rfl (Below.refl _ _)
          · have e1:vs 1=(.bool false):=hd 1 (by kernel_rfl)
            simp only [e1] at hK ⊢
            clear e1
            go_simp
            exact hK.out _ _ rfl (Below.refl _ _)
          · have e2:vs 2=undef:=hd 2 (by kernel_rfl)
            have e3:vs 3=undef:=hd 3 (by kernel_rfl)
            have e1:vs 1=(.bool false):=hd 1 (by kernel_rfl)
            simp only [e2,e3,e1] at hK ⊢
            clear e2 e3 e1
            go_simp
            exact hK.out _ _ rfl (Below.refl _ _)
          · have e1:vs 1=(.bool false):=hd 1 (by kernel_rfl)
            have e4:vs 4=undef:=hd 4 (by kernel_rfl)
            simp only [e1,e4] at hK ⊢
            clear e1 e4
            go_simp
            exact hK.out _ _ rfl (Below.refl _ _)
        case last =>
          intro vs lo hi w' hM hlo hap hall K' Q' hK
          have h5:vs 5=.bool false:=hall.2.2.2.2.2.1
          dsimp only
          simp only [h5]
          clear h5 hall hap hlo
          go_simp
          refine hK.out _ _ ?_
          clear hK
          try go_wp2_with fail
          go_meet
          exact ⟨false,rfl,hide ⟨by rw [HGT.out];simp,hM⟩⟩
      | some y =>
        have HGT:=hide hgt
        have his:is=true:=by rw [HIS.out,hgt];rfl
        subst his
        rw [hgt] at Id
        have HDW:Hid (V.wt ((some y).getD V.nul)≤4294967296):=hide (by have h1:=Xr.wt_get hgt;have h2:=HF.out.vw;simp only [Option.getD_some];omega)
        obtain ⟨q,hq⟩:∃ q:Bool,q=true ↔ (some y).getD V.nul=⟨3,0,⟨#[64,111,116,104,101,114,58,115]⟩,[],[]⟩:=by
          by_cases h:(some y).getD V.nul=⟨3,0,⟨#[64,111,116,104,101,114,58,115]⟩,[],[]⟩
          · exact ⟨true,fun _=>h,fun _=>rfl⟩
          · exact ⟨false,fun h2=>absurd h2 (by decide),fun h2=>absurd h2 h⟩
        have HQ:=hide hq
        clear hgt hq
        refine' wp_region_facts [(fun _ _ v _=>v=(.bool true)),(fun _ _ v _=>v=(.bool true)),(fun _ _ v _=>v=(.agg #[.int .i64 dk,.int .i64 dn,.string dt,.slice da1 dn1 dc1,.slice da2 dn2 dc2])),(fun _ _ v _=>v=(.agg #[.int .i64 3,.int .i64 0,.string ⟨#[64,111,116,104,101,114,58,115]⟩,.slice none 0 0,.slice none 0 0])),(fun _ _ v _=>v=(.bool q)),(fun _ _ v _=>v=(.bool q))] (by kernel_rfl) rfl ?hA (by kernel_rfl) (by kernel_rfl) (by kernel_rfl) rfl ?mono ?steps ?last
        case hA =>
          intro vs
          simp only [puts,Act.put,List.setIfInBounds_toArray,List.set_cons_zero,List.set_cons_succ,Nat.zero_add,Nat.reduceAdd]
          rfl
        case mono=>exact ⟨mono_eq _,mono_eq _,mono_eq _,mono_eq _,mono_eq _,mono_eq _,trivial⟩
        case steps =>
          intro Q'
          refine And.intro ?_ <| And.intro ?_ <| And.intro ?_ <| And.intro ?_ <| And.intro ?_ <| And.intro ?_ <| trivial
          all_goals
            intro vs lo hi w' hM hd K' hK
            dsimp only at hK ⊢
            simp only [Act.put,List.setIfInBounds_toArray,List.set_cons_zero,List.set_cons_succ] at hK
          · go_simp
            exact hK.out _ _ rfl (Below.refl _ _)
          · have e0:vs 0=(.bool true):=hd 0 (by kernel_rfl)
            simp only [e0] at hK ⊢
            clear e0
            go_simp
            exact hK.out _ _ rfl (Below.refl _ _)
          · have e1:vs 1=(.bool true):=hd 1 (by kernel_rfl)
            simp only [e1] at hK ⊢
            clear e1
            obtain ⟨p0,p1,p2,p3,p4⟩:=(Xd.out.keep hM).cells
            go_simp
            exact hK.out _ _ rfl (Below.refl _ _)
          · have e1:vs 1=(.bool true):=hd 1 (by kernel_rfl)
            simp only [e1] at hK ⊢
            clear e1
            go_simp
            refine (refStr_any _ _).mono ?_
            rintro e w7 ⟨rfl,b7⟩
            exact hK.out _ _ rfl b7
          · have e2:vs 2=(.agg #[.int .i64 dk,.int .i64 dn,.string dt,.slice da1 dn1 dc1,.slice da2 dn2 dc2]):=hd 2 (by kernel_rfl)
            have e3:vs 3=(.agg #[.int .i64 3,.int .i64 0,.string ⟨#[64,111,116,104,101,114,58,115]⟩,.slice none 0 0,.slice none 0 0]):=hd 3 (by kernel_rfl)
            have e1:vs 1=(.bool true):=hd 1 (by kernel_rfl)
            simp only [e2,e3,e1] at hK ⊢
            clear e2 e3 e1
            go_simp
            refine (refSame_any (Id.out.below hM) (is_plain w' (fun _=>True) 3 0 ⟨#[64,111,116,104,101,114,58,115]⟩ (by decide)) HDW.out (by rw [V.wt_mk];decide) q HQ.out).mono ?_
            rintro e w7 ⟨rfl,b7⟩
            exact hK.out _ _ rfl b7
          · have e1:vs 1=(.bool true):=hd 1 (by kernel_rfl)
            have e4:vs 4=(.bool q):=hd 4 (by kernel_rfl)
            simp only [e1,e4] at hK ⊢
            clear e1 e4
            go_simp
            exact hK.out _ _ rfl (Below.refl _ _)
        case last =>
          intro vs lo hi w' hM hlo hap hall K' Q' hK
          have h5:vs 5=.bool q:=hall.2.2.2.2.2.1
          dsimp only
          simp only [h5]
          clear h5 hall hap hlo
          go_simp
          refine hK.out _ _ ?_
          clear hK
          try go_wp2_with fail
          go_meet
          exact ⟨q,rfl,hide ⟨by rw [HGT.out,HQ.out];simp,hM⟩⟩
    case rest =>
      obtain ⟨wf,rfl⟩:∃ wf,wf=wc:=⟨_,rfl⟩
      obtain ⟨sm,rfl,HC⟩:=hcut
      have HSM:=hide HC.out.1
      have bb:=HC.out.2
      replace HT:=hide (HT.out.below bb)
      replace Iv:=hide (Iv.out.below bb)
      replace Ix:=hide (Ix.out.below bb)
      replace Iq:=hide (Iq.out.below bb)
      replace Ib:=hide (Ib.out.below bb)
      replace Xv:=hide (Xv.out.keep bb)
      replace Xx:=hide (Xx.out.keep bb)
      replace Xq:=hide (Xq.out.keep bb)
      replace Xb:=hide (Xb.out.keep bb)
      replace L:=hide (bthen L.out bb)
      clear bb HC
      go_upto_region 7 with fail
      obtain ⟨IDV,hid⟩:∃ i,Xr.ident VV=i:=⟨_,rfl⟩
      have hia:Xr.ident (V.withV VV kUnsigned PP)=IDV:=by rw [← hid];exact Xr.ident_congr HF.out.ra
      have HID:=hide hid
      have HIA:=hide hia
      have HQ0:Hid ((IDV.toList == IDV.toList)=true):=hide (by simp)
      clear hid hia
      cases sm with
      | true =>
        have hbv:(V.withV VV kSender ⟨3,0,⟨#[64,111,116,104,101,114,58,115]⟩,[],[]⟩)=VV:=Xr.name_same HF.out.vr HF.out.v5 (HSM.out.1 rfl)
        have HIB:Hid (Xr.ident (V.withV VV kSender ⟨3,0,⟨#[64,111,116,104,101,114,58,115]⟩,[],[]⟩)=IDV):=hide (by rw [hbv];exact HID.out)
        have HSB:Hid ((true:Bool)=true ↔ Xr.redact (V.withV VV kSender ⟨3,0,⟨#[64,111,116,104,101,114,58,115]⟩,[],[]⟩)=Xr.redact VV):=hide ⟨fun _=>by rw [hbv],fun _=>rfl⟩
        clear hbv
        refine' wp_region_facts [(fun _ _ v _=>v=(.bool true)),(fun _ _ v _=>v=(.bool true)),(fun _ _ v _=>v=(.agg #[.int .i64 qk,.int .i64 qn,.string qt,.slice qa1 qn1 qc1,.slice qa2 qn2 qc2])),(fun _ _ v _=>v=(.string IDV)),(fun _ _ v _=>v=(.agg #[.int .i64 vk,.int .i64 vn,.string vt,.slice va1 vn1 vc1,.slice va2 vn2 vc2])),(fun _ _ v _=>v=(.string IDV)),(fun _ _ v _=>v=(.bool true)),(fun _ _ v _=>v=(.bool true)),(fun _ _ v _=>v=(.bool true)),(fun _ _ v _=>v=(.bool true)),(fun _ _ v _=>v=(.bool false)),(fun _ _ v _=>v=(.bool false)),(fun _ _ v _=>v=(.agg #[.int .i64 bk,.int .i64 bn,.string bt,.slice ba1 bn1 bc1,.slice ba2 bn2 bc2])),(fun _ _ v _=>v=(.string IDV)),(fun _ _ v _=>v=(.agg #[.int .i64 vk,.int .i64 vn,.string vt,.slice va1 vn1 vc1,.slice va2 vn2 vc2])),(fun _ _ v _=>v=(.string IDV)),(fun _ _ v _=>v=(.bool true)),(fun _ _ v _=>v=(.bool true)),(fun _ _ v _=>v=(.bool true)),(fun _ _ v _=>v=(.bool true)),(fun _ _ v _=>v=(.agg #[.int .i64 bk,.int .i64 bn,.string bt,.slice ba1 bn1 bc1,.slice ba2 bn2 bc2])),(AnyF (Xr.redact (V.withV VV kSender ⟨3,0,⟨#[64,111,116,104,101,114,58,115]⟩,[],[]⟩))),(fun _ _ v _=>v=(.agg #[.int .i64 vk,.int .i64 vn,.string vt,.slice va1 vn1 vc1,.slice va2 vn2 vc2])),(AnyF (Xr.redact VV)),(fun _ _ v _=>v=(.bool true)),(fun _ _ v _=>v=(.bool true)),(fun _ _ v _=>v=(.bool true)),(fun _ _ v _=>v=(.bool true))] (by kernel_rfl) rfl ?hA (by kernel_rfl) (by kernel_rfl) (by kernel_rfl) rfl ?mono ?steps ?last
        case hA =>
          intro vs
          simp only [puts,Act.put,List.setIfInBounds_toArray,List.set_cons_zero,List.set_cons_succ,Nat.zero_add,Nat.reduceAdd]
          rfl
        case mono=>exact ⟨mono_eq _,mono_eq _,mono_eq _,mono_eq _,mono_eq _,mono_eq _,mono_eq _,mono_eq _,mono_eq _,mono_eq _,mono_eq _,mono_eq _,mono_eq _,mono_eq _,mono_eq _,mono_eq _,mono_eq _,mono_eq _,mono_eq _,mono_eq _,mono_eq _,mono_any _,mono_eq _,mono_any _,mono_eq _,mono_eq _,mono_eq _,mono_eq _,trivial⟩
        case steps =>
          intro Q'
          refine And.intro ?_ <| And.intro ?_ <| And.intro ?_ <| And.intro ?_ <| And.intro ?_ <| And.intro ?_ <| And.intro ?_ <| And.intro ?_ <| And.intro ?_ <| And.intro ?_ <| And.intro ?_ <| And.intro ?_ <| And.intro ?_ <| And.intro ?_ <| And.intro ?_ <| And.intro ?_ <| And.intro ?_ <| And.intro ?_ <| And.intro ?_ <| And.intro ?_ <| And.intro ?_ <| And.intro ?_ <| And.intro ?_ <| And.intro ?_ <| And.intro ?_ <| And.intro ?_ <| And.intro ?_ <| And.intro ?_ <| trivial
          all_goals
            intro vs lo hi w' hM hd K' hK
            dsimp only at hK ⊢
            simp only [Act.put,List.setIfInBounds_toArray,List.set_cons_zero,List.set_cons_succ] at hK
          · go_simp
            refine (xknown_any _ (HT.out.below hM)).mono ?_
            rintro e w7 ⟨rfl,b7⟩
            exact hK.out _ _ rfl b7
          · have e0:vs 0=(.bool true):=hd 0 (by kernel_rfl)
            simp only [e0] at hK ⊢
            clear e0
            go_simp
            exact hK.out _ _ rfl (Below.refl _ _)
          · have e1:vs 1=(.bool true):=hd 1 (by kernel_rfl)
            simp only [e1] at hK ⊢
            clear e1
            obtain ⟨p0,p1,p2,p3,p4⟩:=(Xq.out.keep hM).cells
            go_simp
            exact hK.out _ _ rfl (Below.refl _ _)
          · have e2:vs 2=(.agg #[.int .i64 qk,.int .i64 qn,.string qt,.slice qa1 qn1 qc1,.slice qa2 qn2 qc2]):=hd 2 (by kernel_rfl)
            have e1:vs 1=(.bool true):=hd 1 (by kernel_rfl)
            simp only [e2,e1] at hK ⊢
            clear e2 e1
            go_simp
            refine (id_any2 (Iq.out.below hM) HF.out.ar (Nat.le_trans HF.out.aw (by decide)) HF.out.ax (HT.out.below hM)).mono ?_
            rintro e w7 ⟨rfl,b7⟩
            rw [HIA.out]
            exact hK.out _ _ rfl b7
          · have e1:vs 1=(.bool true):=hd 1 (by kernel_rfl)
            simp only [e1] at hK ⊢
            clear e1
            obtain ⟨p0,p1,p2,p3,p4⟩:=(Xv.out.keep hM).cells
            go_simp
            exact hK.out _ _ rfl (Below.refl _ _)
          · have e4:vs 4=(.agg #[.int .i64 vk,.int .i64 vn,.string vt,.slice va1 vn1 vc1,.slice va2 vn2 vc2]):=hd 4 (by kernel_rfl)
            have e1:vs 1=(.bool true):=hd 1 (by kernel_rfl)
            simp only [e4,e1] at hK ⊢
            clear e4 e1
            go_simp
            refine (id_any2 (Iv.out.below hM) HF.out.vr (Nat.le_trans HF.out.vw (by decide)) HF.out.vx (HT.out.below hM)).mono ?_
            rintro e w7 ⟨rfl,b7⟩
            rw [HID.out]
            exact hK.out _ _ rfl b7
          · have e3:vs 3=(.string IDV):=hd 3 (by kernel_rfl)
            have e5:vs 5=(.string IDV):=hd 5 (by kernel_rfl)
            have e1:vs 1=(.bool true):=hd 1 (by kernel_rfl)
            simp only [e3,e5,e1] at hK ⊢
            clear e3 e5 e1
            have hq:=HQ0.out
            go_simp
            exact hK.out _ _ rfl (Below.refl _ _)
          · have e1:vs 1=(.bool true):=hd 1 (by kernel_rfl)
            have e6:vs 6=(.bool true):=hd 6 (by kernel_rfl)
            simp only [e1,e6] at hK ⊢
            clear e1 e6
            go_simp
            exact hK.out _ _ rfl (Below.refl _ _)
          · have e7:vs 7=(.bool true):=hd 7 (by kernel_rfl)
            simp only [e7] at hK ⊢
            clear e7
            go_simp
            exact hK.out _ _ rfl (Below.refl _ _)
          · have e8:vs 8=(.bool true):=hd 8 (by kernel_rfl)
            simp only [e8] at hK ⊢
            clear e8
            go_simp
            exact hK.out _ _ rfl (Below.refl _ _)
          · have e9:vs 9=(.bool true):=hd 9 (by kernel_rfl)
            have e8:vs 8=(.bool true):=hd 8 (by kernel_rfl)
            simp only [e9,e8] at hK ⊢
            clear e9 e8
            go_simp
            exact hK.out _ _ rfl (Below.refl _ _)
          · have e10:vs 10=(.bool false):=hd 10 (by kernel_rfl)
            have e8:vs 8=(.bool true):=hd 8 (by kernel_rfl)
            simp only [e10,e8] at hK ⊢
            clear e10 e8
            go_simp
            exact hK.out _ _ rfl (Below.refl _ _)
          · have e11:vs 11=(.bool false):=hd 11 (by kernel_rfl)
            simp only [e11] at hK ⊢
            clear e11
            obtain ⟨p0,p1,p2,p3,p4⟩:=(Xb.out.keep hM).cells
            go_simp
            exact hK.out _ _ rfl (Below.refl _ _)
          · have e12:vs 12=(.agg #[.int .i64 bk,.int .i64 bn,.string bt,.slice ba1 bn1 bc1,.slice ba2 bn2 bc2]):=hd 12 (by kernel_rfl)
            have e11:vs 11=(.bool false):=hd 11 (by kernel_rfl)
            simp only [e12,e11] at hK ⊢
            clear e12 e11
            go_simp
            refine (id_any2 (Ib.out.below hM) HF.out.br (Nat.le_trans HF.out.bw (by decide)) HF.out.bx (HT.out.below hM)).mono ?_
            rintro e w7 ⟨rfl,b7⟩
            rw [HIB.out]
            exact hK.out _ _ rfl b7
          · have e11:vs 11=(.bool false):=hd 11 (by kernel_rfl)
            simp only [e11] at hK ⊢
            clear e11
            obtain ⟨p0,p1,p2,p3,p4⟩:=(Xv.out.keep hM).cells
            go_simp
            exact hK.out _ _ rfl (Below.refl _ _)
          · have e14:vs 14=(.agg #[.int .i64 vk,.int .i64 vn,.string vt,.slice va1 vn1 vc1,.slice va2 vn2 vc2]):=hd 14 (by kernel_rfl)
            have e11:vs 11=(.bool false):=hd 11 (by kernel_rfl)
            simp only [e14,e11] at hK ⊢
            clear e14 e11
            go_simp
            refine (id_any2 (Iv.out.below hM) HF.out.vr (Nat.le_trans HF.out.vw (by decide)) HF.out.vx (HT.out.below hM)).mono ?_
            rintro e w7 ⟨rfl,b7⟩
            rw [HID.out]
            exact hK.out _ _ rfl b7
          · have e13:vs 13=(.string IDV):=hd 13 (by kernel_rfl)
            have e15:vs 15=(.string IDV):=hd 15 (by kernel_rfl)
            have e11:vs 11=(.bool false):=hd 11 (by kernel_rfl)
            simp only [e13,e15,e11] at hK ⊢
            clear e13 e15 e11
            have hq:=HQ0.out
            go_simp
            exact hK.out _ _ rfl (Below.refl _ _)
          · have e11:vs 11=(.bool false):=hd 11 (by kernel_rfl)
            have e16:vs 16=(.bool true):=hd 16 (by kernel_rfl)
            have e8:vs 8=(.bool true):=hd 8 (by kernel_rfl)
            simp only [e11,e16,e8] at hK ⊢
            clear e11 e16 e8
            go_simp
            exact hK.out _ _ rfl (Below.refl _ _)
          · have e8:vs 8=(.bool true):=hd 8 (by kernel_rfl)
            have e17:vs 17=(.bool true):=hd 17 (by kernel_rfl)
            simp only [e8,e17] at hK ⊢
            clear e8 e17
            go_simp
            exact hK.out _ _ rfl (Below.refl _ _)
          · have e18:vs 18=(.bool true):=hd 18 (by kernel_rfl)
            simp only [e18] at hK ⊢
            clear e18
            go_simp
            exact hK.out _ _ rfl (Below.refl _ _)
          · have e19:vs 19=(.bool true):=hd 19 (by kernel_rfl)
            simp only [e19] at hK ⊢
            clear e19
            obtain ⟨p0,p1,p2,p3,p4⟩:=(Xb.out.keep hM).cells
            go_simp
            exact hK.out _ _ rfl (Below.refl _ _)
          · have e20:vs 20=(.agg #[.int .i64 bk,.int .i64 bn,.string bt,.slice ba1 bn1 bc1,.slice ba2 bn2 bc2]):=hd 20 (by kernel_rfl)
            have e19:vs 19=(.bool true):=hd 19 (by kernel_rfl)
            simp only [e20,e19] at hK ⊢
            clear e20 e19
            go_simp
            refine (redact_any (Ib.out.below hM) (Nat.le_trans HF.out.bw (by decide))).mono ?_
            rintro e w7 ⟨k7,n7,t7,a17,n17,c17,a27,n27,c27,rfl,h7,b7⟩
            exact hK.out _ _ ⟨_,_,_,_,_,_,_,_,_,rfl,hide (h7.weak (fun _ _ _=>trivial))⟩ b7
          · have e19:vs 19=(.bool true):=hd 19 (by kernel_rfl)
            simp only [e19] at hK ⊢
            clear e19
            obtain ⟨p0,p1,p2,p3,p4⟩:=(Xv.out.keep hM).cells
            go_simp
            exact hK.out _ _ rfl (Below.refl _ _)
          · have e22:vs 22=(.agg #[.int .i64 vk,.int .i64 vn,.string vt,.slice va1 vn1 vc1,.slice va2 vn2 vc2]):=hd 22 (by kernel_rfl)
            have e19:vs 19=(.bool true):=hd 19 (by kernel_rfl)
            simp only [e22,e19] at hK ⊢
            clear e22 e19
            go_simp
            refine (redact_any (Iv.out.below hM) (Nat.le_trans HF.out.vw (by decide))).mono ?_
            rintro e w7 ⟨k7,n7,t7,a17,n17,c17,a27,n27,c27,rfl,h7,b7⟩
            exact hK.out _ _ ⟨_,_,_,_,_,_,_,_,_,rfl,hide (h7.weak (fun _ _ _=>trivial))⟩ b7
          · obtain ⟨k21,n21,t21,a121,n121,c121,a221,n221,c221,e21,H21⟩:=hd 21 (by kernel_rfl)
            obtain ⟨k23,n23,t23,a123,n123,c123,a223,n223,c223,e23,H23⟩:=hd 23 (by kernel_rfl)
            have e19:vs 19=(.bool true):=hd 19 (by kernel_rfl)
            simp only [e21,e23,e19] at hK ⊢
            clear e21 e23 e19
            go_simp
            refine (refSame_any H21.out H23.out HF.out.rbw HF.out.rvw true HSB.out).mono ?_
            rintro e w7 ⟨rfl,b7⟩
            exact hK.out _ _ rfl b7
          · have e19:vs 19=(.bool true):=hd 19 (by kernel_rfl)
            simp only [e19] at hK ⊢
            clear e19
            go_simp
            exact hK.out _ _ rfl (Below.refl _ _)
          · have e24:vs 24=(.bool true):=hd 24 (by kernel_rfl)
            have e25:vs 25=(.bool true):=hd 25 (by kernel_rfl)
            have e19:vs 19=(.bool true):=hd 19 (by kernel_rfl)
            simp only [e24,e25,e19] at hK ⊢
            clear e24 e25 e19
            go_simp
            exact hK.out _ _ rfl (Below.refl _ _)
          · have e19:vs 19=(.bool true):=hd 19 (by kernel_rfl)
            have e26:vs 26=(.bool true):=hd 26 (by kernel_rfl)
            simp only [e19,e26] at hK ⊢
            clear e19 e26
            go_simp
            exact hK.out _ _ rfl (Below.refl _ _)
        case last =>
          intro vs lo hi w' hM hlo hap hall K' Q' hK
          have h27:vs 27=.bool true:=hall.2.2.2.2.2.2.2.2.2.2.2.2.2.2.2.2.2.2.2.2.2.2.2.2.2.2.2.1
          dsimp only
          simp only [h27]
          clear h27 hall hap hlo
          go_simp
          refine hK.out _ _ ?_
          clear hK
          try go_wp2_with fail
          go_ret
          exact ⟨rfl,bthen L.out hM⟩
      | false =>
        have HSB:Hid ((false:Bool)=true ↔ Xr.redact (V.withV VV kSender ⟨3,0,⟨#[64,111,116,104,101,114,58,115]⟩,[],[]⟩)=Xr.redact VV):=hide ⟨fun h=>absurd h (by decide),fun h=>HSM.out.2 (Xr.name_tells HF.out.vr HF.out.v5 h)⟩
        refine' wp_region_facts [(fun _ _ v _=>v=(.bool true)),(fun _ _ v _=>v=(.bool true)),(fun _ _ v _=>v=(.agg #[.int .i64 qk,.int .i64 qn,.string qt,.slice qa1 qn1 qc1,.slice qa2 qn2 qc2])),(fun _ _ v _=>v=(.string IDV)),(fun _ _ v _=>v=(.agg #[.int .i64 vk,.int .i64 vn,.string vt,.slice va1 vn1 vc1,.slice va2 vn2 vc2])),(fun _ _ v _=>v=(.string IDV)),(fun _ _ v _=>v=(.bool true)),(fun _ _ v _=>v=(.bool true)),(fun _ _ v _=>v=(.bool true)),(fun _ _ v _=>v=(.bool false)),(fun _ _ v _=>v=(.bool true)),(fun _ _ v _=>v=(.bool true)),(fun _ _ v _=>v=undef),(fun _ _ v _=>v=undef),(fun _ _ v _=>v=undef),(fun _ _ v _=>v=undef),(fun _ _ v _=>v=undef),(fun _ _ v _=>v=(.bool true)),(fun _ _ v _=>v=(.bool true)),(fun _ _ v _=>v=(.bool true)),(fun _ _ v _=>v=(.agg #[.int .i64 bk,.int .i64 bn,.string bt,.slice ba1 bn1 bc1,.slice ba2 bn2 bc2])),(AnyF (Xr.redact (V.withV VV kSender ⟨3,0,⟨#[64,111,116,104,101,114,58,115]⟩,[],[]⟩))),(fun _ _ v _=>v=(.agg #[.int .i64 vk,.int .i64 vn,.string vt,.slice va1 vn1 vc1,.slice va2 vn2 vc2])),(AnyF (Xr.redact VV)),(fun _ _ v _=>v=(.bool false)),(fun _ _ v _=>v=(.bool false)),(fun _ _ v _=>v=(.bool true)),(fun _ _ v _=>v=(.bool true))] (by kernel_rfl) rfl ?hA (by kernel_rfl) (by kernel_rfl) (by kernel_rfl) rfl ?mono ?steps ?last
        case hA =>
          intro vs
          simp only [puts,Act.put,List.setIfInBounds_toArray,List.set_cons_zero,List.set_cons_succ,Nat.zero_add,Nat.reduceAdd]
          rfl
        case mono=>exact ⟨mono_eq _,mono_eq _,mono_eq _,mono_eq _,mono_eq _,mono_eq _,mono_eq _,mono_eq _,mono_eq _,mono_eq _,mono_eq _,mono_eq _,mono_eq _,mono_eq _,mono_eq _,mono_eq _,mono_eq _,mono_eq _,mono_eq _,mono_eq _,mono_eq _,mono_any _,mono_eq _,mono_any _,mono_eq _,mono_eq _,mono_eq _,mono_eq _,trivial⟩
        case steps =>
          intro Q'
          refine And.intro ?_ <| And.intro ?_ <| And.intro ?_ <| And.intro ?_ <| And.intro ?_ <| And.intro ?_ <| And.intro ?_ <| And.intro ?_ <| And.intro ?_ <| And.intro ?_ <| And.intro ?_ <| And.intro ?_ <| And.intro ?_ <| And.intro ?_ <| And.intro ?_ <| And.intro ?_ <| And.intro ?_ <| And.intro ?_ <| And.intro ?_ <| And.intro ?_ <| And.intro ?_ <| And.intro ?_ <| And.intro ?_ <| And.intro ?_ <| And.intro ?_ <| And.intro ?_ <| And.intro ?_ <| And.intro ?_ <| trivial
          all_goals
            intro vs lo hi w' hM hd K' hK
            dsimp only at hK ⊢
            simp only [Act.put,List.setIfInBounds_toArray,List.set_cons_zero,List.set_cons_succ] at hK
          · go_simp
            refine (xknown_any _ (HT.out.below hM)).mono ?_
            rintro e w7 ⟨rfl,b7⟩
            exact hK.out _ _ rfl b7
          · have e0:vs 0=(.bool true):=hd 0 (by kernel_rfl)
            simp only [e0] at hK ⊢
            clear e0
            go_simp
            exact hK.out _ _ rfl (Below.refl _ _)
          · have e1:vs 1=(.bool true):=hd 1 (by kernel_rfl)
            simp only [e1] at hK ⊢
            clear e1
            obtain ⟨p0,p1,p2,p3,p4⟩:=(Xq.out.keep hM).cells
            go_simp
            exact hK.out _ _ rfl (Below.refl _ _)
          · have e2:vs 2=(.agg #[.int .i64 qk,.int .i64 qn,.string qt,.slice qa1 qn1 qc1,.slice qa2 qn2 qc2]):=hd 2 (by kernel_rfl)
            have e1:vs 1=(.bool true):=hd 1 (by kernel_rfl)
            simp only [e2,e1] at hK ⊢
            clear e2 e1
            go_simp
            refine (id_any2 (Iq.out.below hM) HF.out.ar (Nat.le_trans HF.out.aw (by decide)) HF.out.ax (HT.out.below hM)).mono ?_
            rintro e w7 ⟨rfl,b7⟩
            rw [HIA.out]
            exact hK.out _ _ rfl b7
          · have e1:vs 1=(.bool true):=hd 1 (by kernel_rfl)
            simp only [e1] at hK ⊢
            clear e1
            obtain ⟨p0,p1,p2,p3,p4⟩:=(Xv.out.keep hM).cells
            go_simp
            exact hK.out _ _ rfl (Below.refl _ _)
          · have e4:vs 4=(.agg #[.int .i64 vk,.int .i64 vn,.string vt,.slice va1 vn1 vc1,.slice va2 vn2 vc2]):=hd 4 (by kernel_rfl)
            have e1:vs 1=(.bool true):=hd 1 (by kernel_rfl)
            simp only [e4,e1] at hK ⊢
            clear e4 e1
            go_simp
            refine (id_any2 (Iv.out.below hM) HF.out.vr (Nat.le_trans HF.out.vw (by decide)) HF.out.vx (HT.out.below hM)).mono ?_
            rintro e w7 ⟨rfl,b7⟩
            rw [HID.out]
            exact hK.out _ _ rfl b7
          · have e3:vs 3=(.string IDV):=hd 3 (by kernel_rfl)
            have e5:vs 5=(.string IDV):=hd 5 (by kernel_rfl)
            have e1:vs 1=(.bool true):=hd 1 (by kernel_rfl)
            simp only [e3,e5,e1] at hK ⊢
            clear e3 e5 e1
            have hq:=HQ0.out
            go_simp
            exact hK.out _ _ rfl (Below.refl _ _)
          · have e1:vs 1=(.bool true):=hd 1 (by kernel_rfl)
            have e6:vs 6=(.bool true):=hd 6 (by kernel_rfl)
            simp only [e1,e6] at hK ⊢
            clear e1 e6
            go_simp
            exact hK.out _ _ rfl (Below.refl _ _)
          · have e7:vs 7=(.bool true):=hd 7 (by kernel_rfl)
            simp only [e7] at hK ⊢
            clear e7
            go_simp
            exact hK.out _ _ rfl (Below.refl _ _)
          · have e8:vs 8=(.bool true):=hd 8 (by kernel_rfl)
            simp only [e8] at hK ⊢
            clear e8
            go_simp
            exact hK.out _ _ rfl (Below.refl _ _)
          · have e9:vs 9=(.bool false):=hd 9 (by kernel_rfl)
            have e8:vs 8=(.bool true):=hd 8 (by kernel_rfl)
            simp only [e9,e8] at hK ⊢
            clear e9 e8
            go_simp
            exact hK.out _ _ rfl (Below.refl _ _)
          · have e10:vs 10=(.bool true):=hd 10 (by kernel_rfl)
            have e8:vs 8=(.bool true):=hd 8 (by kernel_rfl)
            simp only [e10,e8] at hK ⊢
            clear e10 e8
            go_simp
            exact hK.out _ _ rfl (Below.refl _ _)
          · have e11:vs 11=(.bool true):=hd 11 (by kernel_rfl)
            simp only [e11] at hK ⊢
            clear e11
            go_simp
            exact hK.out _ _ rfl (Below.refl _ _)
          · have e12:vs 12=undef:=hd 12 (by kernel_rfl)
            have e11:vs 11=(.bool true):=hd 11 (by kernel_rfl)
            simp only [e12,e11] at hK ⊢
            clear e12 e11
            go_simp
            exact hK.out _ _ rfl (Below.refl _ _)
          · have e11:vs 11=(.bool true):=hd 11 (by kernel_rfl)
            simp only [e11] at hK ⊢
            clear e11
            go_simp
            exact hK.out _ _ rfl (Below.refl _ _)
          · have e14:vs 14=undef:=hd 14 (by kernel_rfl)
            have e11:vs 11=(.bool true):=hd 11 (by kernel_rfl)
            simp only [e14,e11] at hK ⊢
            clear e14 e11
            go_simp
            exact hK.out _ _ rfl (Below.refl _ _)
          · have e13:vs 13=undef:=hd 13 (by kernel_rfl)
            have e15:vs 15=undef:=hd 15 (by kernel_rfl)
            have e11:vs 11=(.bool true):=hd 11 (by kernel_rfl)
            simp only [e13,e15,e11] at hK ⊢
            clear e13 e15 e11
            go_simp
            exact hK.out _ _ rfl (Below.refl _ _)
          · have e11:vs 11=(.bool true):=hd 11 (by kernel_rfl)
            have e16:vs 16=undef:=hd 16 (by kernel_rfl)
            have e8:vs 8=(.bool true):=hd 8 (by kernel_rfl)
            simp only [e11,e16,e8] at hK ⊢
            clear e11 e16 e8
            go_simp
            exact hK.out _ _ rfl (Below.refl _ _)
          · have e8:vs 8=(.bool true):=hd 8 (by kernel_rfl)
            have e17:vs 17=(.bool true):=hd 17 (by kernel_rfl)
            simp only [e8,e17] at hK ⊢
            clear e8 e17
            go_simp
            exact hK.out _ _ rfl (Below.refl _ _)
          · have e18:vs 18=(.bool true):=hd 18 (by kernel_rfl)
            simp only [e18] at hK ⊢
            clear e18
            go_simp
            exact hK.out _ _ rfl (Below.refl _ _)
          · have e19:vs 19=(.bool true):=hd 19 (by kernel_rfl)
            simp only [e19] at hK ⊢
            clear e19
            obtain ⟨p0,p1,p2,p3,p4⟩:=(Xb.out.keep hM).cells
            go_simp
            exact hK.out _ _ rfl (Below.refl _ _)
          · have e20:vs 20=(.agg #[.int .i64 bk,.int .i64 bn,.string bt,.slice ba1 bn1 bc1,.slice ba2 bn2 bc2]):=hd 20 (by kernel_rfl)
            have e19:vs 19=(.bool true):=hd 19 (by kernel_rfl)
            simp only [e20,e19] at hK ⊢
            clear e20 e19
            go_simp
            refine (redact_any (Ib.out.below hM) (Nat.le_trans HF.out.bw (by decide))).mono ?_
            rintro e w7 ⟨k7,n7,t7,a17,n17,c17,a27,n27,c27,rfl,h7,b7⟩
            exact hK.out _ _ ⟨_,_,_,_,_,_,_,_,_,rfl,hide (h7.weak (fun _ _ _=>trivial))⟩ b7
          · have e19:vs 19=(.bool true):=hd 19 (by kernel_rfl)
            simp only [e19] at hK ⊢
            clear e19
            obtain ⟨p0,p1,p2,p3,p4⟩:=(Xv.out.keep hM).cells
            go_simp
            exact hK.out _ _ rfl (Below.refl _ _)
          · have e22:vs 22=(.agg #[.int .i64 vk,.int .i64 vn,.string vt,.slice va1 vn1 vc1,.slice va2 vn2 vc2]):=hd 22 (by kernel_rfl)
            have e19:vs 19=(.bool true):=hd 19 (by kernel_rfl)
            simp only [e22,e19] at hK ⊢
            clear e22 e19
            go_simp
            refine (redact_any (Iv.out.below hM) (Nat.le_trans HF.out.vw (by decide))).mono ?_
            rintro e w7 ⟨k7,n7,t7,a17,n17,c17,a27,n27,c27,rfl,h7,b7⟩
            exact hK.out _ _ ⟨_,_,_,_,_,_,_,_,_,rfl,hide (h7.weak (fun _ _ _=>trivial))⟩ b7
          · obtain ⟨k21,n21,t21,a121,n121,c121,a221,n221,c221,e21,H21⟩:=hd 21 (by kernel_rfl)
            obtain ⟨k23,n23,t23,a123,n123,c123,a223,n223,c223,e23,H23⟩:=hd 23 (by kernel_rfl)
            have e19:vs 19=(.bool true):=hd 19 (by kernel_rfl)
            simp only [e21,e23,e19] at hK ⊢
            clear e21 e23 e19
            go_simp
            refine (refSame_any H21.out H23.out HF.out.rbw HF.out.rvw false HSB.out).mono ?_
            rintro e w7 ⟨rfl,b7⟩
            exact hK.out _ _ rfl b7
          · have e19:vs 19=(.bool true):=hd 19 (by kernel_rfl)
            simp only [e19] at hK ⊢
            clear e19
            go_simp
            exact hK.out _ _ rfl (Below.refl _ _)
          · have e24:vs 24=(.bool false):=hd 24 (by kernel_rfl)
            have e25:vs 25=(.bool false):=hd 25 (by kernel_rfl)
            have e19:vs 19=(.bool true):=hd 19 (by kernel_rfl)
            simp only [e24,e25,e19] at hK ⊢
            clear e24 e25 e19
            go_simp
            exact hK.out _ _ rfl (Below.refl _ _)
          · have e19:vs 19=(.bool true):=hd 19 (by kernel_rfl)
            have e26:vs 26=(.bool true):=hd 26 (by kernel_rfl)
            simp only [e19,e26] at hK ⊢
            clear e19 e26
            go_simp
            exact hK.out _ _ rfl (Below.refl _ _)
        case last =>
          intro vs lo hi w' hM hlo hap hall K' Q' hK
          have h27:vs 27=.bool true:=hall.2.2.2.2.2.2.2.2.2.2.2.2.2.2.2.2.2.2.2.2.2.2.2.2.2.2.2.1
          dsimp only
          simp only [h27]
          clear h27 hall hap hlo
          go_simp
          refine hK.out _ _ ?_
          clear hK
          try go_wp2_with fail
          go_ret
          exact ⟨rfl,bthen L.out hM⟩
end Go.Proofs.YtapcmbbhhclepaaGreatDoor
