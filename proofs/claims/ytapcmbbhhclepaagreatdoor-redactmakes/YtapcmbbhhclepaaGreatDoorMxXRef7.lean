/-
  THE WALKS of heliastref07's Hash and Sealed (layer 7).
-/
import Derived.Test.YtapcmbbhhclepaaGreatDoorM25
set_option linter.unusedVariables false
set_option linter.unusedSimpArgs false
set_option maxRecDepth 100000
namespace Go.Proofs.YtapcmbbhhclepaaGreatDoor
open Go.RowKit

set_option maxHeartbeats 2000000 in
theorem ref7Hash_any {v:Value} {x:V} {w:World} {S:Nat→Prop} (h:Is w S v x) (hr:V.right x=true) (hwt:V.wt x≤10000000) (hc:Xr.cost x≤900000) :
    Calls Tryz.prog 32 #[v] w fun e w'=>e=.returned (.string (Xr.hash x))∧Below w.heap.size w w':=by
  obtain ⟨kv,lv,rfl,h2,h8,_⟩:=id h.open;obtain ⟨a1,c1,rfl,_⟩:=id h2;obtain ⟨a2,c2,_,rfl,_⟩:=id h8;clear h2 h8;have b0:=below_alloc w (.cells #[.int .i64 x.kind,.int .i64 x.num,.string x.text,.slice a1 x.keys.length c1,.slice a2 x.list.length c2] 27);have HI:=hide (h.below b0);have x0:=hide (b5_new w (.int .i64 x.kind) (.int .i64 x.num) (.string x.text) (.slice a1 x.keys.length c1) (.slice a2 x.list.length c2) w.heap.size rfl);have B0:=hide b0;have HWT:=hide hwt;have HR:=hide (Xr.rest_right' hr);have HP:Hid ((Cn.print (Xr.rest x)).length≤900000):=hide (by have h1:=Xr.print_cost (Xr.rest x);have h2:=Xr.cost_rest x;omega);have HW4:Hid (V.wt (Xr.rest x)≤4294967296):=hide (by have h1:=Xr.wt_rest x;omega);have HW1:Hid (V.wt (V.without x kHashes)≤1000000000):=hide (by have h1:=V.wt_without x kHashes;omega);unfold Xr.hash;obtain ⟨R,hR⟩:∃ R:ByteArray,R=⟨(Cn.print (Xr.rest x)).toArray⟩:=⟨_,rfl⟩;have hRl:R.data.toList=Cn.print (Xr.rest x):=by rw [hR]
  have HRS:Hid (R.size≤900000):=hide (by have h1:=HP.out;rw [← hRl,Xr.data_len] at h1;omega);rw [← hRl];have HRR:=hide hR;clear hR hRl b0 h hr hwt hc;go_enter Tryz.func32,Tryz.ntmps32
  obtain ⟨p0,p1,p2,p3,p4⟩:=x0.out.cells
  go_wp2_with fail
  clear p0 p1 p2 p3 p4;refine (refWithout_any HI.out kHashes (Nat.le_trans HWT.out (by decide))).mono ?_;rintro e w1 ⟨k3,n3,t3,a3,m3,c3,a4,m4,c4,rfl,h3,b3⟩;have I3:=hide h3;have B3:=hide (bthen B0.out b3);clear h3 b3
  go_wp2_with fail
  refine (refWithout_any I3.out kUnsigned HW1.out).mono ?_;rintro e w2 ⟨k5,n5,t5,a5,m5,c5,a6,m6,c6,rfl,h5,b5⟩;have I5:=hide h5;have B5:=hide (bthen B3.out b5);clear h5 b5
  go_wp2_with fail
  refine (refPrint_any I5.out HR.out HW4.out (Nat.le_trans HP.out (by decide))).mono ?_;rintro e w3 ⟨he,b7⟩;have hrr:=HRR.out;unfold Xr.rest at hrr;rw [← hrr] at he;clear hrr;subst he;have hcv:=Lib.run_convert_string_bytes (P:=Tryz.prog) w3 9 22 5 R Tryz.underlying9 Tryz.underlying22 Tryz.underlying5;have b8:=Dig.below_bytes w3 R;have I8:=hide (Dig.bytes_isB w3 R (Nat.le_trans HRS.out (by decide)));have B8:=hide (bthen B5.out (bthen b7 b8));clear b7 b8;generalize Lib.bytesWorld w3 5 R=w8 at hcv I8 B8;generalize grownCap w3 R.size 0 5=c8 at hcv I8
  go_wp2_with fail
  refine (Dig.refSum_any _ _ _ _ _ I8.out HRS.out).mono ?_;rintro e w9 ⟨a9,c9,rfl,h9,b9⟩;have I9:=hide h9;have B9:=hide (bthen B8.out b9);clear h9 b9 hcv
  go_wp2_with fail
  refine (Dig.refText_any _ _ _ _ _ I9.out (by decide)).mono ?_;rintro e w10 ⟨rfl,rfl⟩
  go_wp2_with fail
  go_ret
  exact ⟨rfl,B9.out⟩

theorem strs_new (w:World) (l:List ByteArray) (hl:l.length≤100) (hs:∀ k ∈ l,k.size≤maxLen) (S:Nat→Prop) (hS:S w.heap.size):Strs (w.alloc (.cells (l.map Value.string).toArray 9)) S (.slice (some ⟨w.heap.size,0,none⟩) l.length l.length) l :=
  ⟨_,_,rfl,Nat.le_refl _,by unfold maxLen;omega,hs,fun _=>⟨w.heap.size,0,rfl,hS,fun i hi=>by rw [Nat.zero_add];exact rowS_new w l _ rfl i hi⟩⟩
/-- the hashes' value,as it is laid -/
theorem sum_is {w:World} {S:Nat→Prop} {K:ByteArray} (hK:K.size≤maxLen) {kv:Value} (hk:Strs w S kv [kSum]) {gl:Nat} (hl:Row w gl 5 (fun i=>(#[.int .i64 3,.int .i64 0,.string K,.slice none 0 0,.slice none 0 0]:Array Value).getD i undef)) (hS:S gl):Is w S (.agg #[.int .i64 5,.int .i64 0,.string ⟨#[]⟩,kv,.slice (some ⟨gl,0,none⟩) 1 1]) (Xr.sumV K):=by
  refine Is.shut (x:=Xr.sumV K) hk ?_ (Nat.zero_le _);refine ⟨_,_,_,rfl,Nat.le_refl _,by decide,Row.cells hl hS (n:=5) (Nat.le_refl _),?_⟩;intro i hi;have:i=0:=by have h2:i < 1:=hi;omega
  subst this;exact is_plain _ _ 3 0 K hK

set_option maxHeartbeats 2000000 in
theorem ref7Sealed_any {v:Value} {x:V} {w:World} {S:Nat→Prop} (h:Is w S v x) (hr:V.right x=true) (hwt:V.wt x≤10000000) (hc:Xr.cost x≤900000) :
    Calls Tryz.prog 13 #[v] w fun e w'=>∃ k n t a1 n1 c1 a2 n2 c2,e=.returned (.agg #[.int .i64 k,.int .i64 n,.string t,.slice a1 n1 c1,.slice a2 n2 c2])∧Is w' (fun _=>True) (.agg #[.int .i64 k,.int .i64 n,.string t,.slice a1 n1 c1,.slice a2 n2 c2]) (Xr.sealed x)∧Below w.heap.size w w':=by
  replace h:=h.weak (S':=fun b=>b < w.heap.size) (fun b hb _=>hb);obtain ⟨kv,lv,rfl,h2,h8,_⟩:=id h.open;obtain ⟨a1,c1,rfl,_⟩:=id h2;obtain ⟨a2,c2,_,rfl,_⟩:=id h8;clear h2 h8;have bA:=below_alloc w (.cells #[.int .i64 x.kind,.int .i64 x.num,.string x.text,.slice a1 x.keys.length c1,.slice a2 x.list.length c2] 27);have bB:=below_alloc (w.alloc (.cells #[.int .i64 x.kind,.int .i64 x.num,.string x.text,.slice a1 x.keys.length c1,.slice a2 x.list.length c2] 27)) (.cells #[.int .i64 0,.int .i64 0,.string ⟨#[]⟩,.slice none 0 0,.slice none 0 0] 27);have b0:=bthen bA bB;have HI:=hide ((h.weak (S':=fun b=>b < w.heap.size∨w.heap.size+2≤b) (fun b _ hb=>Or.inl hb)).below b0);have B0:=hide b0;have x0:=hide ((b5_new w (.int .i64 x.kind) (.int .i64 x.num) (.string x.text) (.slice a1 x.keys.length c1) (.slice a2 x.list.length c2) w.heap.size rfl).keep bB);have u0:=hide (b5_new (w.alloc (.cells #[.int .i64 x.kind,.int .i64 x.num,.string x.text,.slice a1 x.keys.length c1,.slice a2 x.list.length c2] 27)) (.int .i64 0) (.int .i64 0) (.string ⟨#[]⟩) (.slice none 0 0) (.slice none 0 0) (w.heap.size+1) (by simp));have n0:Hid (((w.alloc (.cells #[.int .i64 x.kind,.int .i64 x.num,.string x.text,.slice a1 x.keys.length c1,.slice a2 x.list.length c2] 27)).alloc (.cells #[.int .i64 0,.int .i64 0,.string ⟨#[]⟩,.slice none 0 0,.slice none 0 0] 27)).heap.size=w.heap.size+2):=hide (by simp);obtain ⟨w0,hw0⟩:∃ w0,w0=(w.alloc (.cells #[.int .i64 x.kind,.int .i64 x.num,.string x.text,.slice a1 x.keys.length c1,.slice a2 x.list.length c2] 27)).alloc (.cells #[.int .i64 0,.int .i64 0,.string ⟨#[]⟩,.slice none 0 0,.slice none 0 0] 27):=⟨_,rfl⟩;rw [← hw0] at B0 HI x0 u0 n0;have W0:=hide hw0;have HWT:=hide hwt;have HR:=hide hr;have HC:=hide hc;have hsz:=Xr.hash_size x;unfold Xr.sealed;obtain ⟨K,hK⟩:∃ K,Xr.hash x=K:=⟨_,rfl⟩;rw [hK] at hsz ⊢;have HSZ:Hid (K.size≤maxLen):=hide (Nat.le_trans hsz (by decide));have HKK:=hide hK;have bR:=below_alloc w0 (.cells #[.string ⟨#[115,104,97,50,53,54]⟩] 9);have SR:=hide (strs_new w0 [kSum] (by decide) (by intro k hk;rw [List.mem_singleton] at hk;subst hk;decide) (fun b=>b < w.heap.size∨w.heap.size+2≤b) (Or.inr (Nat.le_of_eq n0.out.symm)));simp only [List.map_cons,List.map_nil,List.length_cons,List.length_nil,Nat.zero_add] at SR;have SR1:Hid (Strs (w0.alloc (.cells #[.string ⟨#[115,104,97,50,53,54]⟩] 9)) (fun b=>b < w.heap.size∨w.heap.size+2≤b) (.slice (some ⟨w0.heap.size,0,none⟩) 1 1) [kSum]):=hide SR.out;have X1:=hide (x0.out.keep bR);have U1:=hide (u0.out.keep bR);have I1:=hide (HI.out.below bR);have L1:=hide (bthen B0.out bR);have M1:Hid (w.heap.size+2≤(w0.alloc (.cells #[.string ⟨#[115,104,97,50,53,54]⟩] 9)).heap.size):=hide (by have:=n0.out;simp;omega);clear bA bB b0 h hw0 hr hwt hc hsz hK bR SR HI B0 x0 u0;go_enter Tryz.func13,Tryz.ntmps13
  go_upto_region 1 with fail
  rw [← W0.out];obtain ⟨p0,p1,p2,p3,p4⟩:=X1.out.cells
  go_wp2_with fail
  clear p0 p1 p2 p3 p4;generalize w0.alloc (.cells #[.string ⟨#[115,104,97,50,53,54]⟩] 9)=wR at SR1 X1 U1 I1 L1 M1 ⊢;generalize w0.heap.size=gk at SR1 ⊢;refine (ref7Hash_any I1.out HR.out HWT.out HC.out).mono ?_;rintro e w1 ⟨rfl,b1⟩;rw [HKK.out];replace SR1:=hide (SR1.out.below b1);replace X1:=hide (X1.out.keep b1);replace U1:=hide (U1.out.keep b1);replace I1:=hide (I1.out.below b1);replace L1:=hide (bthen L1.out b1);replace M1:=hide (Nat.le_trans M1.out b1.size);clear b1
  go_wp2_with fail
  refine (refStr_any K w1).mono ?_;rintro e w2 ⟨rfl,b2⟩;have bL:=below_alloc w2 (.cells #[.int .i64 3,.int .i64 0,.string K,.slice none 0 0,.slice none 0 0] 27);have bX:=below_alloc (w2.alloc (.cells #[.int .i64 3,.int .i64 0,.string K,.slice none 0 0,.slice none 0 0] 27)) (.cells #[.int .i64 5,.int .i64 0,.string ⟨#[]⟩,.slice (some ⟨gk,0,none⟩) 1 1,.slice (some ⟨w2.heap.size,0,none⟩) 1 1] 27);have bb:=bthen b2 (bthen bL bX);have hm2:w.heap.size+2≤w2.heap.size:=Nat.le_trans M1.out b2.size;have hlr:=row_new w2 #[.int .i64 3,.int .i64 0,.string K,.slice none 0 0,.slice none 0 0] 27 w2.heap.size rfl;have IS:Hid (Is ((w2.alloc (.cells #[.int .i64 3,.int .i64 0,.string K,.slice none 0 0,.slice none 0 0] 27)).alloc (.cells #[.int .i64 5,.int .i64 0,.string ⟨#[]⟩,.slice (some ⟨gk,0,none⟩) 1 1,.slice (some ⟨w2.heap.size,0,none⟩) 1 1] 27)) (fun b=>b < w.heap.size∨w.heap.size+2≤b) (.agg #[.int .i64 5,.int .i64 0,.string ⟨#[]⟩,.slice (some ⟨gk,0,none⟩) 1 1,.slice (some ⟨w2.heap.size,0,none⟩) 1 1]) (Xr.sumV K)):=hide ((sum_is HSZ.out (SR1.out.below (bthen b2 bL)) hlr (Or.inr hm2)).below bX);have XS:=hide (b5_new (w2.alloc (.cells #[.int .i64 3,.int .i64 0,.string K,.slice none 0 0,.slice none 0 0] 27)) (.int .i64 5) (.int .i64 0) (.string ⟨#[]⟩) (.slice (some ⟨gk,0,none⟩) 1 1) (.slice (some ⟨w2.heap.size,0,none⟩) 1 1) (w2.heap.size+1) (by simp));replace X1:=hide (X1.out.keep bb);replace U1:=hide (U1.out.keep bb);replace I1:=hide (I1.out.below bb);replace L1:=hide (bthen L1.out bb);have M2:Hid (w.heap.size+2≤((w2.alloc (.cells #[.int .i64 3,.int .i64 0,.string K,.slice none 0 0,.slice none 0 0] 27)).alloc (.cells #[.int .i64 5,.int .i64 0,.string ⟨#[]⟩,.slice (some ⟨gk,0,none⟩) 1 1,.slice (some ⟨w2.heap.size,0,none⟩) 1 1] 27)).heap.size):=hide (Nat.le_trans hm2 (bthen bL bX).size);clear b2 bL bX bb hlr SR1 M1 hm2;obtain ⟨p0,p1,p2,p3,p4⟩:=X1.out.cells;obtain ⟨q0,q1,q2,q3,q4⟩:=XS.out.cells
  go_wp2_with fail
  clear p0 p1 p2 p3 p4 q0 q1 q2 q3 q4;refine (refWith_S I1.out IS.out (Nat.le_trans HWT.out (by decide)) kHashes (by decide)).mono ?_;rintro e w6 ⟨k5,n5,t5,a15,n15,c15,a25,n25,c25,rfl,h7,b7⟩;have U6:=hide (U1.out.keep b7);obtain ⟨q0,q1,q2,q3,q4⟩:=U6.out.cells;have fu0:=U6.out.free 0;have fu1:=U6.out.free 1;have fu2:=U6.out.free 2;have fu3:=U6.out.free 3;have fu4:=U6.out.free 4
  go_wp2_with fail
  have hu:=U6.out.all (.int .i64 k5) (.int .i64 n5) (.string t5) (.slice a15 n15 c15) (.slice a25 n25 c25);clear q0 q1 q2 q3 q4 fu0 fu1 fu2 fu3 fu4;obtain ⟨p0,p1,p2,p3,p4⟩:=hu.cells;have n5':=M2.out;refine bodyPost_ret (v:=.agg #[.int .i64 k5,.int .i64 n5,.string t5,.slice a15 n15 c15,.slice a25 n25 c25]) (by simp [results,Tryz.results13,go_sem,p0,p1,p2,p3,p4]) rfl ⟨_,_,_,_,_,_,_,_,_,rfl,?_,(bthen L1.out b7).trans (below5 (by omega) _ _ _ _ _)⟩;refine (h7.keep (keeps_chain ?_ _ _ _ _ _)).weak (fun _ _ _=>trivial);rintro ((h9 | h9) | h9)
  · omega
  · omega
  · have h10:=Nat.le_trans n5' h9;omega
end Go.Proofs.YtapcmbbhhclepaaGreatDoor
