/-
  What this claim takes of the earlier layers' texts: XCostB XContent RWithS RGetS RTailP XNameP XTabs.
-/
import Derived.Test.YtapcmbbhhclepaaGreatDoorM24
import Derived.Lib.LaidTab
import Derived.WalkSmall
import Derived.Deep.DeepHandedRow
set_option linter.unusedVariables false
set_option linter.unusedSimpArgs false
set_option maxRecDepth 100000
namespace Go.Proofs.YtapcmbbhhclepaaGreatDoor
open Go.RowKit
open V
namespace Xr
theorem cost_obj (c:Int) (kids:List V) (j:Nat) (hj:j≤kids.length):cost (objTo c kids j)≤24+63 * j+costL (kids.take j):=by
  induction j with
  | zero =>
    have e3:cost none5=24:=by unfold none5;rw [cost_mk];rfl
    simp only [objTo,e3];omega
  | succ j ih =>
    have h1:=cost_with (objTo c kids j) (objKey c j) (kids.getD j nul);have h2:=ih (by omega);have h3:=objKey_size c j;have h4:kids.getD j nul=kids[j]:=by simp [List.getD,List.getElem?_eq_getElem (show j < kids.length by omega)]
    have h5:costL (kids.take (j+1))=costL (kids.take j)+cost kids[j]:=by
      rw [List.take_succ_eq_append_getElem (by omega),costL_append,costL_cons,costL_nil];omega
    simp only [objTo];rw [h4] at h1;rw [h5,h4];omega
theorem cost_step (zs:List Int) (len i:Nat) (l:List V):costL (stepV zs len i l)≤costL l+213:=by
  unfold stepV;generalize zs.getD i 0 % 12=b;generalize zs.getD (i+1) 0=c;rw [costL_append,costL_cons,costL_nil];have hk:kidsN c l≤l.length:=by unfold kidsN;omega
  have hk4:kidsN c l≤3:=by unfold kidsN;omega
  have hs:=costL_append (l.take (l.length - kidsN c l)) (l.drop (l.length - kidsN c l));rw [List.take_append_drop] at hs;have hd:(l.drop (l.length - kidsN c l)).length=kidsN c l:=by rw [List.length_drop];omega
  have hb:∀ (k n:Int) (t:ByteArray),t.size≤12→cost ⟨k,n,t,[],[]⟩≤96:=by
    intro k n t ht;rw [cost_mk];simp only [costK,costL_nil];omega
  have e0:(⟨#[]⟩:ByteArray).size≤12:=by decide
  by_cases h0:b=0
  · rw [stepX_0 h0,stepL_all (by omega)];have:=hb 1 (c % 2) ⟨#[]⟩ e0;omega
  · by_cases h1:b=1∨b=2∨b=3
    · rw [stepX_1 h1,stepL_all (by omega)];have:=hb 2 (c - 100) ⟨#[]⟩ e0;omega
    · by_cases h4:b=4
      · rw [stepX_4 h4,stepL_all (by omega)];have:=hb 2 (9007199254740991 - c % 2) ⟨#[]⟩ e0;omega
      · by_cases h5:b=5∨b=6
        · rw [stepX_5 h5,stepL_all (by omega)];have:=hb 3 0 _ (textOf_size zs len i);omega
        · by_cases h7:b=7
          · rw [stepX_7 h7,stepL_cut (by omega),cost_mk]
            have e1:(⟨#[]⟩:ByteArray).size=0:=rfl;simp only [costK,e1];omega
          · by_cases h8:b=8∨b=9∨b=10
            · rw [stepX_8 h8,stepL_cut (by omega)]
              have h1:=cost_obj c (l.drop (l.length - kidsN c l)) (kidsN c l) (by omega);have h2:=costL_take (l.drop (l.length - kidsN c l)) (kidsN c l);omega
            · rw [stepX_e (by omega),stepL_all (by omega)];have:=hb 0 0 ⟨#[]⟩ e0;unfold nul;omega
theorem cost_valTo (zs:List Int) (len r:Nat):costL (valTo zs len r)≤213 * r:=by
  induction r with
  | zero=>simp [valTo,costL_nil]
  | succ r ih=>have:=cost_step zs len (2 * r) (valTo zs len r);simp only [valTo];omega
theorem cost_part (zs:List Int) (len:Nat) (k:Int):cost (V.part zs len k)≤6400:=by
  unfold V.part;have hn:cost nul=24:=by unfold nul;rw [cost_mk];rfl
  split
  · omega
  · have h1:costL (valV zs len).list≤6390:=by
      have:=cost_valTo zs len (min 30 (len / 2))
      show costL (valTo zs len (min 30 (len / 2)))≤6390
      omega
    simp only [List.getD];cases h:(valV zs len).list[k.toNat % (valV zs len).list.length]? with
    | none=>simp only [Option.getD_none];omega
    | some x =>
      have h2:=costL_mem (List.mem_of_getElem? h);simp only [Option.getD_some];omega
theorem cost_str (s:ByteArray):cost (str s)=24+6 * s.size:=by unfold str;rw [cost_mk];simp [costK,costL_nil]
theorem cost_num (n:Int):cost (numV n)=24:=by
  unfold numV;rw [cost_mk];have e:(⟨#[]⟩:ByteArray).size=0:=rfl;simp [costK,costL_nil,e]
end Xr
def Xr.kindsL:List ByteArray:=[⟨#[109,46,114,111,111,109,46,99,114,101,97,116,101]⟩,⟨#[109,46,114,111,111,109,46,109,101,109,98,101,114]⟩,⟨#[109,46,114,111,111,109,46,112,111,119,101,114,95,108,101,118,101,108,115]⟩,⟨#[109,46,114,111,111,109,46,106,111,105,110,95,114,117,108,101,115]⟩,⟨#[109,46,114,111,111,109,46,115,101,114,118,101,114,95,97,99,108]⟩,⟨#[109,46,114,111,111,109,46,109,101,115,115,97,103,101]⟩,⟨#[116]⟩]
def Xr.kindN (k:Int):ByteArray:=Xr.kindsL.getD (k % 7).toNat ByteArray.empty
theorem kind_any (k:Int) (w:World) (hk0:0≤k) (hk1:k≤255) :
    Calls Tryz.prog 17 #[.int .u8 k] w fun e w'=>e=.returned (.string (Xr.kindN k))∧Below w.heap.size w w':=by
  have hrow:(w.alloc (.cells (Xr.kindsL.map Value.string).toArray 9)).cell? ⟨w.heap.size,(k % 7).toNat,none⟩=some (.string (Xr.kindsL.getD (k % 7).toNat ByteArray.empty)):=by
    have hl:(k % 7).toNat < Xr.kindsL.length:=by show _ < 7;omega
    obtain ⟨h1,_⟩:=row_new w (Xr.kindsL.map Value.string).toArray 9 w.heap.size rfl (k % 7).toNat (by simpa using hl);rw [h1];simp [List.getD,hl]
  have hp1:0≤k % 7:=by omega
  have hp2:k % 7 < 7:=by omega
  unfold Xr.kindN;generalize Xr.kindsL.getD (k % 7).toNat ByteArray.empty=Q at hrow;simp only [Xr.kindsL,List.map_cons,List.map_nil] at hrow;go_enter Tryz.func17,Tryz.ntmps17
  go_wp2_with fail
  go_ret
  exact ⟨rfl,below_alloc _ _⟩
end Go.Proofs.YtapcmbbhhclepaaGreatDoor
namespace Go.Proofs.YtapcmbbhhclepaaGreatDoor
open Go.RowKit
namespace Xr
theorem kindN_size (k:Int):(kindN k).size≤20:=key_small kindsL 20 (by decide) _
theorem kindN_utf (k:Int):V.utf (kindN k)=true:=utf_list kindsL (by kernel_rfl) _
theorem bodyX_cost (zs:List Int) (len:Nat) (k:Int) (i:Nat):cost (bodyX zs len k i)≤6400:=by
  unfold bodyX
  split
  · rw [cost_str];have:=key_small words5 10 (by decide) (zs.getD i 0 / 10 % 5).toNat;omega
  · split
    · rw [cost_str];have:=key_small words3 10 (by decide) (zs.getD i 0 / 10 % 3).toNat;omega
    · split
      · exact cost_part _ _ _
      · rw [cost_num];omega
theorem bodyTo_cost (zs:List Int) (len:Nat) (k:Int):∀ i,cost (bodyTo zs len k i)≤24+6500 * i
  | 0=>by show cost V.none5≤_;unfold V.none5;rw [cost_mk];decide
  | i+1=>by
    have h1:=bodyTo_cost zs len k i;have h2:=cost_with (bodyTo zs len k i) (bodyKeys.getD (zs.getD i 0 % 10).toNat ByteArray.empty) (bodyX zs len k i);have h3:=bodyX_cost zs len k i;have h4:=bodyKey_size (zs.getD i 0 % 10).toNat;simp only [bodyTo];omega
theorem body_cost (zs:List Int) (len:Nat) (k:Int):cost (body zs len k)≤40000:=by have:=bodyTo_cost zs len k (min 6 len);unfold body;omega
theorem body_wt (zs:List Int) (len:Nat) (k:Int):V.wt (body zs len k)≤25000:=by have:=bodyTo_wt zs len k (min 6 len);unfold body;omega
theorem body_right {zs:List Int} (h:∀ n ∈ zs,(Lit.int .u8 n).wf=true) (len:Nat) (k:Int):V.right (body zs len k)=true:=bodyTo_right h len k _
end Xr
end Go.Proofs.YtapcmbbhhclepaaGreatDoor
namespace Go.Proofs.YtapcmbbhhclepaaGreatDoor
open Go.RowKit Go.Sort
set_option maxHeartbeats 2000000 in
set_option maxRecDepth 100000 in
theorem refWithout_S {v:Value} {x:V} {w:World} {S:Nat→Prop} (h:Is w S v x) (key:ByteArray) (hwt:V.wt x≤1000000000) :
    Calls Tryz.prog 66 #[v,.string key] w fun e w'=>∃ k n t a1 n1 c1 a2 n2 c2,e=.returned (.agg #[.int .i64 k,.int .i64 n,.string t,.slice a1 n1 c1,.slice a2 n2 c2])∧Is w' (fun b=>S b∨w.heap.size≤b) (.agg #[.int .i64 k,.int .i64 n,.string t,.slice a1 n1 c1,.slice a2 n2 c2]) (V.without x key)∧Below w.heap.size w w':=by
  replace h:=h.weak (S':=fun b=>b < w.heap.size∧S b) (fun b hb hs=>⟨hb,hs⟩);obtain ⟨kv,lv,rfl,h2,h8,_⟩:=id h.open;obtain ⟨a1,c1,rfl,h3,h4,_,h5⟩:=id h2;obtain ⟨a,cap,c,rfl,h6,h7,_⟩:=id h8;obtain ⟨p,hp⟩:∃ p,V.place x key=p:=⟨_,rfl⟩;have HP:=hide hp;have HH:=hide h;clear hp h5 h4 h7 h8 h2 h;have b0:Below w.heap.size w ((w.alloc (.cells #[.int .i64 x.kind,.int .i64 x.num,.string x.text,.slice a1 x.keys.length c1,.slice a x.list.length cap] 27)).alloc (.cells #[.int .i64 0,.int .i64 0,.string ⟨#[]⟩,.slice none 0 0,.slice none 0 0] 27)):=bthen (below_alloc _ _) (below_alloc _ _);have HB0:=hide b0;clear b0;obtain ⟨x0,x1,x2,x3,x4⟩:Box5 ((w.alloc (.cells #[.int .i64 x.kind,.int .i64 x.num,.string x.text,.slice a1 x.keys.length c1,.slice a x.list.length cap] 27)).alloc (.cells #[.int .i64 0,.int .i64 0,.string ⟨#[]⟩,.slice none 0 0,.slice none 0 0] 27)) w.heap.size _ _ _ _ _:=(box5_new w _ _ _ _ _ 27).keep (below_alloc _ _);go_enter Tryz.func66,Tryz.ntmps66
  go_wp2_with fail
  clear x0 x1 x2 x3 x4;refine (refPlace_any (HH.out.below HB0.out) (Nat.le_trans hwt (by decide)) key p HP.out).mono ?_;rintro e w1 ⟨rfl,b1⟩;have q:BoxF w1 (w.heap.size+1) _ _ _ _ _:=(boxF_at _ _ _ _ _ _ 27 _ (by simp)).keep b1;have hbx:Box5 w1 w.heap.size _ _ _ _ _:=((box5_new w _ _ _ _ _ 27).keep (below_alloc _ _)).keep b1;have HQ:=hide q;have bb:=bthen HB0.out b1;have HBB:=hide bb;have hsz:w.heap.size+2≤w1.heap.size:=by have:=b1.size;simpa using this
  clear b1 bb;obtain ⟨x0,x1,x2,x3,x4⟩:=hbx
  by_cases hneg:p < 0
  · obtain ⟨⟨y0,y1,y2,y3,y4⟩,g0,g1,g2,g3,g4⟩:=id q
    clear q
    go_wp2_with fail
    obtain ⟨u0,u1,u2,u3,u4⟩:=Box5.all HQ.out.1 (.int .i64 x.kind) (.int .i64 x.num) (.string x.text) (.slice a1 x.keys.length c1) (.slice a x.list.length cap);refine bodyPost_ret (v:=.agg #[.int .i64 x.kind,.int .i64 x.num,.string x.text,.slice a1 x.keys.length c1,.slice a x.list.length cap]) (by simp [results,Tryz.results66,go_sem,u0,u1,u2,u3,u4]) rfl ?_;have e1:V.without x key=x:=by unfold V.without;rw [HP.out,if_neg (by omega)]
    rw [e1];refine ⟨_,_,_,_,_,_,_,_,_,rfl,?_,((((HBB.out.setCell (Nat.le_succ _) _).setCell (Nat.le_succ _) _).setCell (Nat.le_succ _) _).setCell (Nat.le_succ _) _).setCell (Nat.le_succ _) _⟩;have kp:=keeps_set5 (S:=fun b=>b < w.heap.size∧S b) (w:=w1) (g:=w.heap.size+1) (o:=0) (.int .i64 x.kind) (.int .i64 x.num) (.string x.text) (.slice a1 x.keys.length c1) (.slice a x.list.length cap) (by rintro ⟨h1,_⟩;omega);exact ((HH.out.below HBB.out).keep kp).weak (fun b _ hb=>Or.inl hb.2)
  · have hpl:=V.place_lt x key (by rw [HP.out];omega)
    rw [HP.out] at hpl;obtain ⟨m,hm⟩:∃ m:Nat,p.toNat=m:=⟨_,rfl⟩;have hpm:p=(m:Int):=by omega
    subst hpm;have hml:m+1≤min x.keys.length x.list.length:=by have:=hpl.2;omega
    have H5:=hide hpl.1;have HML:=hide hml;clear hm hpl hml q
    go_wp2_with fail
    clear x0 x1 x2 x3 x4;refine (refWith_core (HH.out.below HBB.out) hwt H5.out m 1 _ _ [] [] (strs_nil _ _) (isL_nil _ _) HML.out (by simp) (by simp)).mono ?_;rintro e w2 ⟨k5,n5,t5,a5,m5,c5,a6,m6,c6,rfl,his,b2⟩;have q2:=HQ.out.keep b2;have HQ2:=hide q2;have HIS:=hide his;have HB2:=hide (bthen HBB.out b2);clear his b2;obtain ⟨⟨y0,y1,y2,y3,y4⟩,g0,g1,g2,g3,g4⟩:=id q2;clear q2
    go_wp2_with fail
    obtain ⟨u0,u1,u2,u3,u4⟩:=Box5.all HQ2.out.1 (.int .i64 k5) (.int .i64 n5) (.string t5) (.slice a5 m5 c5) (.slice a6 m6 c6);refine bodyPost_ret (v:=.agg #[.int .i64 k5,.int .i64 n5,.string t5,.slice a5 m5 c5,.slice a6 m6 c6]) (by simp [results,Tryz.results66,go_sem,u0,u1,u2,u3,u4]) rfl ?_;have e1:V.without x key=V.laid x m (m+1) [] []:=by unfold V.without;rw [HP.out,if_pos (by omega),Int.toNat_natCast]
    rw [e1];refine ⟨_,_,_,_,_,_,_,_,_,rfl,?_,((((HB2.out.setCell (Nat.le_succ _) _).setCell (Nat.le_succ _) _).setCell (Nat.le_succ _) _).setCell (Nat.le_succ _) _).setCell (Nat.le_succ _) _⟩;have kp:=keeps_set5 (S:=fun b=>(b < w.heap.size∧S b)∨w1.heap.size≤b) (w:=w2) (g:=w.heap.size+1) (o:=0) (.int .i64 k5) (.int .i64 n5) (.string t5) (.slice a5 m5 c5) (.slice a6 m6 c6) (by rintro (⟨h1,_⟩ | h1) <;> omega);exact (HIS.out.keep kp).weak (fun b _ hb=>hb.elim (fun h1=>Or.inl h1.2) (fun h1=>Or.inr (by omega)))
set_option maxHeartbeats 2000000 in
set_option maxRecDepth 100000 in
theorem refWith_newS {v vy:Value} {x y:V} {w:World} {S:Nat→Prop} (h:Is w S v x) (h':Is w S vy y) (key:ByteArray) (hkey:key.size≤1000000000) (h5:x.kind≠5) :
    Calls Tryz.prog 25 #[v,.string key,vy] w fun e w'=>∃ k n t a1 n1 c1 a2 n2 c2,e=.returned (.agg #[.int .i64 k,.int .i64 n,.string t,.slice a1 n1 c1,.slice a2 n2 c2])∧Is w' (fun b=>S b∨w.heap.size≤b) (.agg #[.int .i64 k,.int .i64 n,.string t,.slice a1 n1 c1,.slice a2 n2 c2]) ⟨5,0,⟨#[]⟩,[key],[y]⟩∧Below w.heap.size w w':=by
  replace h':=h'.weak (S':=fun b=>b < w.heap.size∧S b) (fun b hb hs=>⟨hb,hs⟩);obtain ⟨kv,lv,rfl,h2,h8,_⟩:=id h.open;obtain ⟨a1,c1,rfl,_⟩:=id h2;obtain ⟨a,cap,c,rfl,_⟩:=id h8;obtain ⟨kv',lv',rfl,h2',h8',_⟩:=id h'.open;obtain ⟨b1,d1,rfl,_⟩:=id h2';obtain ⟨b2,d2,c',rfl,_⟩:=id h8';have t5:(x.kind != 5)=true:=by simpa using h5
  have HH:=hide h';clear h h' h2 h8 h2' h8' h5;generalize x.kind=xk at t5 ⊢;generalize x.num=xn;generalize x.text=xt;generalize x.keys.length=xa;generalize x.list.length=xb;go_enter Tryz.func25,Tryz.ntmps25
  go_wp2_with fail
  have bw:Below w.heap.size w (((((w.alloc (.cells #[.int .i64 xk,.int .i64 xn,.string xt,.slice a1 xa c1,.slice a xb cap] 27)).alloc (.cells #[.int .i64 y.kind,.int .i64 y.num,.string y.text,.slice b1 y.keys.length d1,.slice b2 y.list.length d2] 27)).alloc (.cells #[.int .i64 5,.int .i64 0,.string ⟨#[]⟩,.slice (some ⟨w.heap.size+1+1+1,0,none⟩) 1 1,.slice (some ⟨w.heap.size+1+1+1+1,0,none⟩) 1 1] 27)).alloc (.cells #[.string key] 9)).alloc (.cells #[.int .i64 y.kind,.int .i64 y.num,.string y.text,.slice b1 y.keys.length d1,.slice b2 y.list.length d2] 27)):=bthen (below_alloc _ _) (bthen (below_alloc _ _) (bthen (below_alloc _ _) (bthen (below_alloc _ _) (below_alloc _ _))));obtain ⟨u0,u1,u2,u3,u4⟩:Box5 (((((w.alloc (.cells #[.int .i64 xk,.int .i64 xn,.string xt,.slice a1 xa c1,.slice a xb cap] 27)).alloc (.cells #[.int .i64 y.kind,.int .i64 y.num,.string y.text,.slice b1 y.keys.length d1,.slice b2 y.list.length d2] 27)).alloc (.cells #[.int .i64 5,.int .i64 0,.string ⟨#[]⟩,.slice (some ⟨w.heap.size+1+1+1,0,none⟩) 1 1,.slice (some ⟨w.heap.size+1+1+1+1,0,none⟩) 1 1] 27)).alloc (.cells #[.string key] 9)).alloc (.cells #[.int .i64 y.kind,.int .i64 y.num,.string y.text,.slice b1 y.keys.length d1,.slice b2 y.list.length d2] 27)) (w.heap.size+1+1) _ _ _ _ _:=((box5_at _ _ _ _ _ _ 27 _ (by simp)).keep (below_alloc _ _)).keep (below_alloc _ _);refine bodyPost_ret (v:=.agg #[.int .i64 5,.int .i64 0,.string ⟨#[]⟩,.slice (some ⟨w.heap.size+1+1+1,0,none⟩) 1 1,.slice (some ⟨w.heap.size+1+1+1+1,0,none⟩) 1 1]) (by simp [results,Tryz.results25,go_sem,u0,u1,u2,u3,u4]) rfl ?_;refine ⟨_,_,_,_,_,_,_,_,_,rfl,?_,bw⟩;refine Is.shut (x:=⟨5,0,⟨#[]⟩,[key],[y]⟩) ?_ ?_ (Nat.zero_le _)
  · exact strs_of_raw (ks:=[key]) ((raw_one_str (((w.alloc (.cells #[.int .i64 xk,.int .i64 xn,.string xt,.slice a1 xa c1,.slice a xb cap] 27)).alloc (.cells #[.int .i64 y.kind,.int .i64 y.num,.string y.text,.slice b1 y.keys.length d1,.slice b2 y.list.length d2] 27)).alloc (.cells #[.int .i64 5,.int .i64 0,.string ⟨#[]⟩,.slice (some ⟨w.heap.size+1+1+1,0,none⟩) 1 1,.slice (some ⟨w.heap.size+1+1+1+1,0,none⟩) 1 1] 27)) key (fun b=>S b∨w.heap.size≤b) _ (by simp) (Or.inr (by omega))).below (below_alloc _ _)) (fun k hk=>by rw [List.mem_singleton.1 hk];exact Nat.le_trans hkey (by decide))
  · exact isL_of_raw (raw_one_val ((((w.alloc (.cells #[.int .i64 xk,.int .i64 xn,.string xt,.slice a1 xa c1,.slice a xb cap] 27)).alloc (.cells #[.int .i64 y.kind,.int .i64 y.num,.string y.text,.slice b1 y.keys.length d1,.slice b2 y.list.length d2] 27)).alloc (.cells #[.int .i64 5,.int .i64 0,.string ⟨#[]⟩,.slice (some ⟨w.heap.size+1+1+1,0,none⟩) 1 1,.slice (some ⟨w.heap.size+1+1+1+1,0,none⟩) 1 1] 27)).alloc (.cells #[.string key] 9)) y.kind y.num y.text b1 y.keys.length d1 b2 y.list.length d2 (fun b=>S b∨w.heap.size≤b) _ (by simp) (Or.inr (by omega))) (Els.one (x:=y) ((HH.out.weak (S':=fun b=>S b∨w.heap.size≤b) (fun b _ hb=>Or.inl hb.2)).below bw))
theorem refWith_S {v vy:Value} {x y:V} {w:World} {S:Nat→Prop} (h:Is w S v x) (h':Is w S vy y) (hwx:V.wt x≤1000000000) (key:ByteArray) (hkey:key.size≤1000000000) :
    Calls Tryz.prog 25 #[v,.string key,vy] w fun e w'=>∃ k n t a1 n1 c1 a2 n2 c2,e=.returned (.agg #[.int .i64 k,.int .i64 n,.string t,.slice a1 n1 c1,.slice a2 n2 c2])∧Is w' (fun b=>S b∨w.heap.size≤b) (.agg #[.int .i64 k,.int .i64 n,.string t,.slice a1 n1 c1,.slice a2 n2 c2]) (V.withV x key y)∧Below w.heap.size w w':=by
  by_cases h5:x.kind=5
  · exact refWith_any5 h h' hwx key hkey h5
  · have e1:V.withV x key y=⟨5,0,⟨#[]⟩,[key],[y]⟩:=by
      unfold V.withV V.with5;rw [if_neg h5]
      have:¬ (0:Int)≤V.place V.none5 key:=by
        show ¬ (0:Int)≤Lib.idxOfS [] key
        rw [Lib.idxOfS_nonneg_iff];simp
      rw [if_neg this];rfl
    rw [e1];exact refWith_newS h h' key hkey h5
end Go.Proofs.YtapcmbbhhclepaaGreatDoor
namespace Go.Proofs.YtapcmbbhhclepaaGreatDoor
open Go.RowKit Go.Sort
set_option maxHeartbeats 2000000 in
theorem refGet_S {v:Value} {x:V} {w:World} {S:Nat→Prop} (h:Is w S v x) (key:ByteArray) (hwt:V.wt x≤4294967296) :
    Calls Tryz.prog 19 #[v,.string key] w fun e w'=>∃ k n t a1 n1 c1 a2 n2 c2 is,e=.returned (.tuple #[.agg #[.int .i64 k,.int .i64 n,.string t,.slice a1 n1 c1,.slice a2 n2 c2],.bool is])∧is=(V.get x key).isSome∧Is w' S (.agg #[.int .i64 k,.int .i64 n,.string t,.slice a1 n1 c1,.slice a2 n2 c2]) ((V.get x key).getD V.nul)∧Below w.heap.size w w':=by
  replace h:=h.weak (S':=fun b=>b < w.heap.size∧S b) (fun b hb hs=>⟨hb,hs⟩);obtain ⟨kv,lv,rfl,h2,h8,_⟩:=id h.open;obtain ⟨a1,c1,rfl,h3,h4,_,h5⟩:=id h2;obtain ⟨a,cap,c,rfl,h6,h7,_⟩:=id h8;obtain ⟨p,hp⟩:∃ p,V.place x key=p:=⟨_,rfl⟩;have hlen:x.list.length≤4294967296:=by have:=V.len_wt x;omega
  have HP:=hide hp;have H8:=hide h8;have HH:=hide h;clear hp h5 h4 h7 h8 h2 h;have b0:Below w.heap.size w ((w.alloc (.cells #[.int .i64 x.kind,.int .i64 x.num,.string x.text,.slice a1 x.keys.length c1,.slice a x.list.length cap] 27)).alloc (.cells #[.int .i64 0,.int .i64 0,.string ⟨#[]⟩,.slice none 0 0,.slice none 0 0] 27)):=bthen (below_alloc _ _) (below_alloc _ _);have HB0:=hide b0;clear b0;obtain ⟨x0,x1,x2,x3,x4⟩:Box5 ((w.alloc (.cells #[.int .i64 x.kind,.int .i64 x.num,.string x.text,.slice a1 x.keys.length c1,.slice a x.list.length cap] 27)).alloc (.cells #[.int .i64 0,.int .i64 0,.string ⟨#[]⟩,.slice none 0 0,.slice none 0 0] 27)) w.heap.size _ _ _ _ _:=(box5_new w _ _ _ _ _ 27).keep (below_alloc _ _);go_enter Tryz.func19,Tryz.ntmps19
  go_wp2_with fail
  clear x0 x1 x2 x3 x4;refine (refPlace_any (HH.out.below HB0.out) hwt key p HP.out).mono ?_;rintro e w1 ⟨rfl,b1⟩;have q:BoxF w1 (w.heap.size+1) _ _ _ _ _:=(boxF_at _ _ _ _ _ _ 27 _ (by simp)).keep b1;have hbx:Box5 w1 w.heap.size _ _ _ _ _:=((box5_new w _ _ _ _ _ 27).keep (below_alloc _ _)).keep b1;have HQ:=hide q;have bb:=bthen HB0.out b1;have HBB:=hide bb;clear b1;obtain ⟨⟨y0,y1,y2,y3,y4⟩,g0,g1,g2,g3,g4⟩:=id q;clear q
  by_cases hneg:p < 0
  · clear bb
    go_wp2_with fail
    obtain ⟨u0,u1,u2,u3,u4⟩:=Box5.all HQ.out.1 (.int .i64 0) (.int .i64 0) (.string ⟨#[]⟩) (.slice none 0 0) (.slice none 0 0);refine bodyPost_ret (v:=.tuple #[.agg #[.int .i64 0,.int .i64 0,.string ⟨#[]⟩,.slice none 0 0,.slice none 0 0],.bool false]) (by simp [results,Tryz.results19,go_sem,u0,u1,u2,u3,u4]) rfl ?_;have e1:V.get x key=none:=by rw [V.get_eq',HP.out,if_pos hneg]
    rw [e1];exact ⟨_,_,_,_,_,_,_,_,_,_,rfl,rfl,is_plain _ _ 0 0 ⟨#[]⟩ (by decide),((((HBB.out.setCell (Nat.le_succ _) _).setCell (Nat.le_succ _) _).setCell (Nat.le_succ _) _).setCell (Nat.le_succ _) _).setCell (Nat.le_succ _) _⟩
  · have hpl:=(V.place_lt x key (by rw [HP.out];omega)).2
    rw [HP.out] at hpl;obtain ⟨m,hm⟩:∃ m:Nat,p.toNat=m:=⟨_,rfl⟩;have hpm:p=(m:Int):=by omega
    have hml:m < x.list.length:=by omega
    subst hpm;clear hm hpl;obtain ⟨b,off,k',n',t',a1',n1',c1',a2',n2',c2',rfl,hel,e0,e1,e2,e3,e4⟩:=isL_open H8.out bb hml;have HEL:=hide hel;have hget:V.get x key=some x.list[m]:=by rw [V.get_eq',HP.out,if_neg (by omega),Int.toNat_natCast,List.getElem?_eq_getElem hml]
    have HG:=hide hget;clear hel hget bb;obtain ⟨x0,x1,x2,x3,x4⟩:=hbx
    go_wp2_with fail
    obtain ⟨u0,u1,u2,u3,u4⟩:=Box5.all HQ.out.1 (.int .i64 k') (.int .i64 n') (.string t') (.slice a1' n1' c1') (.slice a2' n2' c2');refine bodyPost_ret (v:=.tuple #[.agg #[.int .i64 k',.int .i64 n',.string t',.slice a1' n1' c1',.slice a2' n2' c2'],.bool true]) (by simp [results,Tryz.results19,go_sem,u0,u1,u2,u3,u4]) rfl ?_;rw [HG.out];refine ⟨_,_,_,_,_,_,_,_,_,_,rfl,rfl,?_,((((HBB.out.setCell (Nat.le_succ _) _).setCell (Nat.le_succ _) _).setCell (Nat.le_succ _) _).setCell (Nat.le_succ _) _).setCell (Nat.le_succ _) _⟩;have kp:=keeps_set5 (S:=fun b=>b < w.heap.size∧S b) (w:=w1) (g:=w.heap.size+1) (o:=0) (.int .i64 k') (.int .i64 n') (.string t') (.slice a1' n1' c1') (.slice a2' n2' c2') (fun hh=>by have:=hh.1;omega);exact (HEL.out.keep kp).weak (fun _ _ hs=>hs.2)
end Go.Proofs.YtapcmbbhhclepaaGreatDoor
namespace Go.Proofs.YtapcmbbhhclepaaGreatDoor
open Go.RowKit
theorem wpAny_factsP {P:Program} {L:List Oper} {n:Nat} {Q:Exit→Act→World→Prop} {Fs:List Fact} {a0:Act} {w0:World} {A:(Nat→Value)→Act}
    (hA:∀ vs,puts vs 0 L a0=A vs) (hd:dstB L=true) (hbk:backB 0 L=true) (hn:n < L.length) (p:Nat) (hp:p < n) (hwt:((List.range n).all fun i=>i == p || Region.waitsFor .any L.toArray n i)=true) (hr2:Region.ready .any L.toArray (((Array.replicate n true ++ Array.replicate (L.length - n) false).setIfInBounds p false).setIfInBounds n true)=[p])
    (hseq2:Region.seqB .any L.toArray (L.drop (n+1)).length (n+1) ((((Array.replicate n true ++ Array.replicate (L.length - n) false).setIfInBounds p false).setIfInBounds n true).setIfInBounds p true)=true)
    (hch:Region.chainB .any L.toArray n=true)
    (hseq:Region.seqB .any L.toArray (L.drop n).length n (Array.replicate n true ++ Array.replicate (L.length - n) false)=true) (hF:MonoAll Fs) (hlen:Fs.length=n)
    (hs:StepsH P L.toArray Q Fs A w0 0 (L.take n))
    (hl:∀ vs lo hi w,Below w0.heap.size w0 w→(∀ k,k < n→w0.heap.size≤lo k∧hi k≤w.heap.size)→AllF vs lo hi w 0 Fs→wpList P L.toArray Q (L.drop n) (A vs) w)
    (hl2:∀ (vs:Nat→Value) (lo hi:Nat→Nat) (w:World),Below w0.heap.size w0 w→(∀ k,k < n→k≠p→w0.heap.size≤lo k∧hi k≤w.heap.size)→(∀ k,k < n→k≠p→fct Fs k (lo k) (hi k) (vs k) w)→∀ on op,L[n]? = some on→L[p]? = some op→wpList P L.toArray Q (on :: op :: L.drop (n+1)) (A vs) w) :
    ∀ (fuel:Nat) (listed:Array Bool) (vs:Nat→Value) (lo hi:Nat→Nat) (w:World),HeadInv .any L.toArray n listed→listed.toList.count false≤fuel→Below w0.heap.size w0 w →
      (∀ k,listed.getD k false=true→(w0.heap.size≤lo k∧hi k≤w.heap.size)∧fct Fs k (lo k) (hi k) (vs k) w)→wpAny P .any L.toArray Q fuel listed (A vs) w:=by
  intro fuel
  induction fuel with
  | zero =>
    intro listed vs lo hi w inv hcnt;have ht:=inv.tail n (Nat.le_refl _) (by simpa using hn);have hi:n < listed.size:=by rw [inv.size];simpa using hn
    have hv:listed[n]=false:=by simpa [hi] using ht
    have h3:0 < listed.toList.count false:=List.count_pos_iff.2 (by rw [← hv,← Array.getElem_toList];exact List.getElem_mem _);omega
  | succ fuel ih =>
    intro listed vs lo hi w inv hcnt hb hf
    by_cases hall:∀ i,i < n→listed.getD i false=true
    · have hls:listed=Array.replicate n true ++ Array.replicate (L.length - n) false:=by
        have hsz:=inv.size
        apply Array.ext
        · rw [hsz];simp;omega
        · intro i h1 h2
          by_cases hin:i < n
          · have h3:=hall i hin
            rw [Array.getElem_append_left (by simpa using hin)]
            simpa [h1] using h3
          · have h3:=inv.tail i (by omega) (by rw [← hsz];exact h1)
            rw [Array.getElem_append_right (by simp;omega)]
            simpa [h1] using h3
      have hcm:(L.drop n).length≤fuel+1:=by
        rw [hls] at hcnt;simp [List.count_replicate] at hcnt ⊢;omega
      obtain ⟨f,hf'⟩:∃ f,fuel+1=f+(L.drop n).length:=⟨fuel+1 - (L.drop n).length,by omega⟩;rw [hf',hls];refine wpAny_seqF (L.drop n) n f _ _ _ (fun j=>by simp) hseq ?_;exact hl vs lo hi w hb (fun k hk=>(hf k (hall k hk)).1) (allF_of Fs 0 (fun i hi'=>by rw [Nat.zero_add];exact (hf i (hall i (by omega))).2))
    · have hun:∃ i,i < n∧listed.getD i true=false:=by
        apply Classical.byContradiction
        intro h
        apply hall
        intro i hi';cases hc:listed.getD i false with
        | true=>rfl
        | false=>exact (h ⟨i,hi',getD_in (by rw [inv.size];simp;omega) hc⟩).elim
      obtain ⟨i0,hi0,hu0⟩:=hun
      have hnext:∀ i,i ∈ Region.ready .any L.toArray listed→wpOp P L.toArray Q i (wpAny P .any L.toArray Q fuel (listed.setIfInBounds i true)) (A vs) w:=by
        intro i hrd;rcases Nat.lt_or_ge i n with hin | hge
        · obtain ⟨hun,o,ho,hallr⟩:=mem_ready.1 hrd
          have ho':L[i]? = some o:=by simpa using ho
          have hst:=StepsH.at (L.take n) 0 hs i o (by rw [List.getElem?_take,if_pos hin];exact ho');rw [Nat.zero_add] at hst;refine wpOp_step ho (fun K' hK=>hst vs lo hi w hb (fun d hdep=>?_) K' (fun v w' hv hbw=>?_))
          · obtain ⟨e,he,h2,h3⟩:=depB_spec hdep
            subst h2;exact (hf _ (hallr e he h3)).2
          · refine hK _ _ ?_
            have hset:(A vs).put o.dst v=A (fun i'=>if i'=i then v else vs i'):=by
              rw [← hA,← hA];exact puts_set vs v i L 0 a0 o hd (Nat.zero_le _) ho'
            rw [hset];refine ih _ _ (fun i'=>if i'=i then w.heap.size else lo i') (fun i'=>if i'=i then w'.heap.size else hi i') _ (inv.set hrd hin) ?_ (bthen hb hbw) (fun k hk=>?_)
            · have:=falses_set hun
              omega
            · have h9:=hbw.size
              have h8:=hb.size
              by_cases hki:k=i
              · subst hki
                simp only [if_pos];exact ⟨⟨h8,Nat.le_refl _⟩,hv⟩
              · simp only [if_neg hki]
                rcases getD_set_self hk with h5 | h5
                · exact absurd h5 hki
                · have h6:=(hf k h5).1
                  exact ⟨⟨h6.1,by omega⟩,hF.at k _ _ _ _ _ (hf k h5).2 hbw⟩
        · obtain ⟨hun,o,ho,hallr⟩:=mem_ready.1 hrd
          have hil:i < L.length:=by
            rcases Nat.lt_or_ge i L.length with h | h
            · exact h
            · simp [List.getElem?_eq_none h] at ho
          have hin:i=n:=by
            rcases Nat.eq_or_lt_of_le hge with h | h
            · exact h.symm
            · exfalso
              have hc:=List.all_eq_true.1 hch i (List.mem_range.2 (by simpa using hil));rcases Bool.or_eq_true .. ▸ hc with h9 | h9
              · have:=of_decide_eq_true h9;omega
              · obtain ⟨oj,hoj,e,he,hb9,hon⟩:=Region.waitsFor_spec h9
                obtain rfl:=Option.some.inj (hoj.symm.trans ho);have h8:=hallr e he hb9;rw [hon] at h8;have h7:=getD_both (inv.tail (i - 1) (by omega) (by simp;omega));rw [h7] at h8;cases h8
          subst hin
          have hk:∀ k,k < i→k≠p→listed.getD k false=true:=fun k hk hkp=>by
            have hc:=List.all_eq_true.1 hwt k (List.mem_range.2 hk);rcases Bool.or_eq_true .. ▸ hc with h9 | h9
            · exact absurd (by simpa using h9) hkp
            · obtain ⟨oj,hoj,e,he,hb9,hon⟩:=Region.waitsFor_spec h9
              obtain rfl:=Option.some.inj (hoj.symm.trans ho);have h8:=hallr e he hb9
              rwa [hon] at h8
          have hpu:listed.getD p true=false:=by
            by_cases h:i0=p
            · rw [← h];exact hu0
            · have h1:=hk i0 hi0 h
              have h2:=getD_both hu0;rw [h2] at h1;cases h1
          have hls:listed=(Array.replicate i true ++ Array.replicate (L.length - i) false).setIfInBounds p false:=by
            have hsz:=inv.size
            apply Array.ext
            · rw [hsz];simp;omega
            · intro k h1 h2
              rw [Array.getElem_setIfInBounds (by simpa using h2)]
              by_cases hkp:k=p
              · subst hkp
                rw [if_pos rfl]
                simpa [h1] using hpu
              · rw [if_neg (fun h=>hkp h.symm)]
                by_cases hki:k < i
                · rw [Array.getElem_append_left (by simpa using hki)]
                  have h3:=hk k hki hkp
                  simpa [h1] using h3
                · rw [Array.getElem_append_right (by simp;omega)]
                  have h3:=inv.tail k (by omega) (by rw [← hsz];exact h1)
                  simpa [h1] using h3
          have hpo:L[p]? = some L[p]:=List.getElem?_eq_getElem (by omega);have h:=hl2 vs lo hi w hb (fun k h1 h2=>(hf k (hk k h1 h2)).1) (fun k h1 h2=>(hf k (hk k h1 h2)).2) o L[p] (by simpa using ho) hpo;have hw1:wpOp P L.toArray Q i (wpList P L.toArray Q (L[p] :: L.drop (i+1))) (A vs) w:=by unfold wpOp;simp only [ho];exact h
          refine wpOp_mono (fun a' w' h'=>?_) hw1
          have hfu:(L.drop (i+1)).length+1≤fuel:=by
            rw [hls] at hcnt
            have h5:((Array.replicate i true ++ Array.replicate (L.length - i) false).setIfInBounds p false).toList.count false=(L.length - i)+1:=by
              have h6:=falses_set (listed:=(Array.replicate i true ++ Array.replicate (L.length - i) false).setIfInBounds p false) (i:=p) (by simp;omega)
              have h7:((Array.replicate i true ++ Array.replicate (L.length - i) false).setIfInBounds p false).setIfInBounds p true=Array.replicate i true ++ Array.replicate (L.length - i) false:=by
                apply Array.ext
                · simp
                · intro k h1 h2
                  rw [Array.getElem_setIfInBounds (by simpa using h2)]
                  by_cases hkp:p=k
                  · subst hkp
                    rw [if_pos rfl,Array.getElem_append_left (by simpa using hp)];simp
                  · rw [if_neg hkp,Array.getElem_setIfInBounds (by simpa using h2),if_neg hkp]
              rw [h7] at h6;rw [← h6];simp [List.count_replicate]
            rw [h5] at hcnt;rw [List.length_drop];omega
          obtain ⟨f,hf'⟩:∃ f,fuel=(f+(L.drop (i+1)).length)+1:=⟨fuel - ((L.drop (i+1)).length+1),by omega⟩;rw [hf',hls];refine ⟨fun h1=>(by rw [hr2] at h1;cases h1),fun j hj=>?_⟩;rw [hr2] at hj;have hjp:j=p:=by simpa using hj
          subst hjp;have hw2:wpOp P L.toArray Q j (wpList P L.toArray Q (L.drop (i+1))) a' w':=by unfold wpOp;simp only [List.getElem?_toArray,hpo];exact h'
          exact wpOp_mono (fun a'' w'' h''=>wpAny_seqF (L.drop (i+1)) (i+1) f _ a'' w'' (fun m=>by simp) hseq2 h'') hw2
      refine ⟨fun hnil=>?_,hnext⟩;exfalso
      obtain ⟨m,hm,hpm,hmin⟩:=least (p:=fun j=>listed.getD j true=false) i0 hu0
      have hmo:∃ o,L.toArray[m]? = some o:=by
        rw [List.getElem?_toArray];exact ⟨_,List.getElem?_eq_getElem (by omega)⟩
      obtain ⟨o,ho⟩:=hmo
      have hin:m ∈ Region.ready .any L.toArray listed:=mem_ready.2 ⟨hpm,o,ho,fun e he hbn=>by
        have h1:=backB_at L 0 hbk m o (by simpa using ho) e he hbn;have h2:=hmin e.on (by omega);have h3:e.on < listed.size:=by rw [inv.size];simp;omega
        simp [h3] at h2 ⊢
        exact h2⟩
      rw [hnil] at hin;cases hin
theorem wp_region_factsP {P:Program} {id:Nat} {L:List Oper} {Q:Exit→Act→World→Prop} (n p:Nat) (Fs:List Fact) {a0:Act} {w0:World} {A:(Nat→Value)→Act} (hm:P.follows .mixedOrders=true) (hA:∀ vs,puts vs 0 L a0=A vs)
    (hB:(dstB L && backB 0 L && decide (n < L.length) && decide (p < n) && ((List.range n).all fun i=>i == p || Region.waitsFor .any L.toArray n i) && decide (Region.ready .any L.toArray (((Array.replicate n true ++ Array.replicate (L.length - n) false).setIfInBounds p false).setIfInBounds n true)=[p]) && Region.seqB .any L.toArray (L.drop (n+1)).length (n+1) ((((Array.replicate n true ++ Array.replicate (L.length - n) false).setIfInBounds p false).setIfInBounds n true).setIfInBounds p true) && Region.chainB .any L.toArray n && Region.seqB .any L.toArray (L.drop n).length n (Array.replicate n true ++ Array.replicate (L.length - n) false))=true)
    (hlen:Fs.length=n) (hF:MonoAll Fs)
    (hs:∀ Q',StepsH P L.toArray Q' Fs A w0 0 (L.take n))
    (hl:∀ vs lo hi w,Below w0.heap.size w0 w→(∀ k,k < n→w0.heap.size≤lo k∧hi k≤w.heap.size)→AllF vs lo hi w 0 Fs→wpList P L.toArray Q (L.drop n) (A vs) w)
    (hl2:∀ (vs:Nat→Value) (lo hi:Nat→Nat) (w:World),Below w0.heap.size w0 w→(∀ k,k < n→k≠p→w0.heap.size≤lo k∧hi k≤w.heap.size)→(∀ k,k < n→k≠p→fct Fs k (lo k) (hi k) (vs k) w)→∀ on op,L[n]? = some on→L[p]? = some op→wpList P L.toArray Q (on :: op :: L.drop (n+1)) (A vs) w) :
    (Code.region id L.toArray true).wp P Q a0 w0:=by
  simp only [Bool.and_eq_true,decide_eq_true_eq] at hB;obtain ⟨⟨⟨⟨⟨⟨⟨⟨hd,hbk⟩,hn⟩,hp⟩,hwt⟩,hr2⟩,hseq2⟩,hch⟩,hseq⟩:=hB;refine wp_region_any hm ?_
  obtain ⟨vs,hvs⟩:∃ vs:Nat→Value,∀ i o,L[i]? = some o→vs (0+i)=own a0 o :=
    ⟨fun i=>match L[i]? with | some o=>own a0 o | none=>undef,fun i o ho=>by simp only [Nat.zero_add,ho]⟩
  have e:a0=A vs:=by rw [← hA,puts_own a0 vs _ 0 hvs]
  have inv0:HeadInv .any L.toArray n (Array.replicate L.toArray.size false) :=
    ⟨by simp,fun j oj _ hl=>(by rw [getD_replicate_false] at hl;cases hl),fun t _ ht=>getD_in (by simpa using ht) (getD_replicate_false _ _)⟩
  have h:=wpAny_factsP hA hd hbk hn p hp hwt hr2 hseq2 hch hseq hF hlen (hs Q) hl hl2 L.toArray.size (Array.replicate L.toArray.size false) vs (fun _=>0) (fun _=>0) w0.drew inv0
    (Nat.le_trans List.count_le_length (by simp)) (Below.refl _ _).drew (fun k hk=>by simp [Array.getD] at hk)
  rw [← e] at h;exact h
end Go.Proofs.YtapcmbbhhclepaaGreatDoor
namespace Go.Proofs.YtapcmbbhhclepaaGreatDoor
open Go.RowKit
namespace Xr
theorem cost_with_hit {t:V} (ht:V.right t=true) (h5:t.kind=5) {key:ByteArray} {c:V} (hg:V.get t key=some c) (y:V):cost (V.withV t key y)+cost c=cost t+cost y:=by
  have hin:=(V.get_keys ht h5 key c hg).1;obtain ⟨ks,l,rfl,hu,hl,ha⟩:=V.obj_open ht h5;obtain ⟨ka,kb,la,z,lb,rfl,rfl,h1,h2⟩:=V.split_at hl hin;have h3:=V.get_hit 0 ⟨#[]⟩ key z h1 h2 hu;rw [h3] at hg;cases hg
  rw [(V.hit_form 0 ⟨#[]⟩ key c h1 h2 hu).2.1 y,cost_mk,cost_mk,costL_append,costL_cons,costL_append,costL_cons];omega
theorem cost_redact_le {x:V} (h:V.right x=true):cost (redact x)≤cost x:=by
  by_cases h5:x.kind=5
  · have ht:=taken_right h h5 lEvent
    have hc:=cost_taken x lEvent;unfold redact;rw [if_pos h5]
    by_cases hk:(content x).kind=5
    · rw [if_pos hk]
      have hg:∃ c,V.get x kContent=some c:=by
        unfold content at hk;cases hg:V.get x kContent with
        | none=>rw [hg] at hk;simp [V.nul] at hk
        | some c=>exact ⟨c,rfl⟩
      obtain ⟨c,hg⟩:=hg;have e:content x=c:=by unfold content;rw [hg];rfl
      rw [e];have h1:=cost_with_hit ht.1 ht.2 (key:=kContent) (c:=c) (by rw [get_taken h h5,if_pos contentE];exact hg) (ofContent c (kindOf x))
      have h2:cost (ofContent c (kindOf x))≤cost c:=by
        unfold ofContent
        split
        · exact Nat.le_refl _
        · exact cost_taken _ _
      omega
    · rw [if_neg hk];exact hc
  · rw [redact_no5 h5]
    have e:cost V.nul=24:=by unfold V.nul;rw [cost_mk];rfl
    rw [e];exact cost_pos x
end Xr
set_option maxHeartbeats 2000000 in
theorem id_any2 {v:Value} {x:V} {w:World} {S:Nat→Prop} (h:Is w S v x) (hr:V.right x=true) (hwt:V.wt x≤10000000) (hc:Xr.cost x≤900000) (hT:Tabs w) :
    Calls Tryz.prog 21 #[v] w fun e w'=>e=.returned (.string (Xr.ident x))∧Below w.heap.size w w':=by
  obtain ⟨kv,lv,rfl,h2,h8,_⟩:=id h.open;obtain ⟨a1,c1,rfl,_⟩:=id h2;obtain ⟨a2,c2,_,rfl,_⟩:=id h8;clear h2 h8;have b0:=below_alloc w (.cells #[.int .i64 x.kind,.int .i64 x.num,.string x.text,.slice a1 x.keys.length c1,.slice a2 x.list.length c2] 27);have HI:=hide (h.below b0);have HT:=hide (hT.below b0);have B0:=hide b0;have HWT:=hide hwt;have HR:=hide (Xr.redact_right hr);have HP:Hid ((Cn.print (Xr.redact x)).length≤900100):=hide (by have h1:=Xr.print_cost (Xr.redact x);have h2:=Xr.cost_redact_le hr;omega);have HW4:Hid (V.wt (Xr.redact x)≤4294967296):=hide (by have h1:=Xr.wt_redact x;omega);unfold Xr.ident;obtain ⟨R,hR⟩:∃ R:ByteArray,R=⟨(Cn.print (Xr.redact x)).toArray⟩:=⟨_,rfl⟩;have hRl:R.data.toList=Cn.print (Xr.redact x):=by rw [hR]
  have HRS:Hid (R.size≤1000000):=hide (by have h1:=HP.out;rw [← hRl,Xr.data_len] at h1;omega);rw [← hRl];have HRR:=hide hR;clear hR hRl b0 h hT hr hwt hc;go_enter Tryz.func21,Tryz.ntmps21
  go_wp2_with fail
  refine (redact_any HI.out (Nat.le_trans HWT.out (by decide))).mono ?_;rintro e w1 ⟨k3,n3,t3,a3,m3,c3,a4,m4,c4,rfl,h3,b3⟩;have I3:=hide h3;have T3:=hide (HT.out.below b3);have B3:=hide (bthen B0.out b3);clear h3 b3
  go_wp2_with fail
  refine (print_any I3.out HR.out HW4.out (Nat.le_trans HP.out (by decide)) T3.out.tab R HRR.out).mono ?_;rintro e w3 ⟨rfl,b7⟩;have T8:=hide (T3.out.below b7);have B8:=hide (bthen B3.out b7);clear b7
  go_wp2_with fail
  refine (Dig.ident_any R w3 HRS.out T8.out.cubes).mono ?_;rintro e w9 ⟨rfl,b9⟩
  go_wp2_with fail
  go_ret
  exact ⟨rfl,bthen B8.out b9⟩
end Go.Proofs.YtapcmbbhhclepaaGreatDoor
namespace Go.Proofs.YtapcmbbhhclepaaGreatDoor
theorem tab_of_vars {P:Program} {W:World} {name:String} {k:IntKind} {zs:List Int} {g:Nat} {t e:TypeId} {n:Nat}
    (hg:P.globalNamed name=some g) (hty:(P.globals[g]?).map (·.type)=some t) (ht:P.underlying t=some (.array n e)) (he:P.underlying e=some (.int k)) (hce:P.cellsOf e=1) (hct:P.cellsOf t=n) :
    ∀ {laid:List (String×DataW Unit)} {ps:List MemPlace},DataW.LaidVars P W laid ps→(name,Lib.tabData k zs) ∈ laid→Lib.TabIs P W name k zs
  | [],_,_,h=>by cases h
  | (nm,d) :: r,_,h,hm=>by
    obtain ⟨g',t',cs,fuel,p,q,hg',ht',hvar,hd,hr,_⟩:=h;rcases List.mem_cons.1 hm with hm | hm
    · cases hm
      obtain rfl:=Option.some.inj (hg.symm.trans hg');obtain rfl:=Option.some.inj (hty.symm.trans ht');unfold Lib.TabIs;rw [hvar,← Lib.cells_of_tab ht he hce hct hd]
    · exact tab_of_vars hg hty ht he hce hct hr hm
theorem var_lt {P:Program} {W:World} {n:String} {g:Nat} {cs:Array Value} (hg:P.globalNamed n=some g) (h:W.var? P n=some cs):g < W.heap.size:=by
  unfold World.var? at h;rw [hg] at h;simp only [Option.bind_some] at h;rcases Nat.lt_or_ge g W.heap.size with h1 | h1
  · exact h1
  · rw [Array.getElem?_eq_none h1] at h
    cases h
theorem gCubes : Tryz.prog.globalNamed "heliast/digest.cubes" = some 0 := by kernel_rfl
theorem gPow : Tryz.prog.globalNamed "internal/strconv.uint64pow10" = some 2 := by kernel_rfl
theorem tabs_of {W : World} {laid : List (String × DataW Unit)} {ps : List MemPlace} (h : DataW.LaidVars Tryz.prog W laid ps) (h1 : ("internal/strconv.uint64pow10", Lib.tabData .u64 Lib.pow10Tab) ∈ laid) (h2 : ("heliast/digest.cubes", Lib.tabData .u32 Dig.Dg.K) ∈ laid) : Tabs W := by
  have t1:=tab_of_vars gPow (t:=160) (by kernel_rfl) Tryz.underlying160 Tryz.underlying110 (by kernel_rfl) (by kernel_rfl) h h1;have t2:=tab_of_vars gCubes (t:=147) (by kernel_rfl) Tryz.underlying147 Tryz.underlying123 (by kernel_rfl) (by kernel_rfl) h h2;refine ⟨fun i hi=>?_,fun w2 b2=>var?_below b2 gPow (var_lt gPow t1) t1⟩;rw [t2.cell gCubes i hi];simp
def litCells:DataW Unit→Array Value
  | .agg l=>(l.map (fun d=>match d with | .lit (.int k z)=>Value.int k z | _=>undef)).toArray
  | _=>#[]
end Go.Proofs.YtapcmbbhhclepaaGreatDoor
