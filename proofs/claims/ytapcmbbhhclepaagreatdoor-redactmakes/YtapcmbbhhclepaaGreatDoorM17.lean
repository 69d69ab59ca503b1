/-
  What this claim takes of the earlier layers' texts: XTake XTakeW XOfB XOf XPlain XPlainB.
-/
import Derived.Test.YtapcmbbhhclepaaGreatDoorM16
import Derived.BigRegion
import Derived.Deep.LoopGhost
import Derived.Deep.RegionLaw
import Derived.Lib.AppendZeros
set_option linter.unusedVariables false
set_option linter.unusedSimpArgs false
set_option maxRecDepth 100000
namespace Go.Proofs.YtapcmbbhhclepaaGreatDoor
open Go.RowKit
def HeldS (G:Nat) (wr:World) (lv:Value) (L:List ByteArray):Prop:=wr.ownsRow G 9 1 lv L.length (L.map Value.string)∧∀ k ∈ L,k.size≤maxLen
theorem HeldS.push {G:Nat} {wc:World} {la:Option Addr} {lc:Nat} {L:List ByteArray} (h:HeldS G wc (.slice la L.length lc) L) (x:ByteArray) (hx:x.size≤maxLen) (hl:L.length+1≤4294967296) (hG:G≤wc.heap.size) :
    ∃ na nc w2,(Builtin.append_ #[24,24] 24 #[.slice la L.length lc,.slice (some ⟨wc.heap.size,0,none⟩) 1 1]).run Tryz.prog (wc.alloc (.cells #[.string x] 9))=.ok (.slice na (L.length+1) nc) w2∧HeldS G w2 (.slice na (L.length+1) nc) (L ++ [x])∧(wc.alloc (.cells #[.string x] 9)).grownBy w2 (Value.slice la L.length lc).ownBlock:=by
  obtain ⟨ho,hz⟩:=h;have hox:=own_below ho (below_alloc wc (.cells #[.string x] 9))
  have hrx:Raw (wc.alloc (.cells #[.string x] 9)) (fun _=>True) (.slice (some ⟨wc.heap.size,0,none⟩) 1 1) 1 1 [.string x]:=by
    refine ⟨_,_,rfl,Nat.le_refl _,by decide,rfl,(fun u hu=>by rw [List.mem_singleton] at hu;subst hu;rfl),fun _=>⟨wc.heap.size,0,rfl,trivial,fun i hi=>?_⟩⟩;have:i=0:=by omega
    subst this;exact cell_new _ _ _ _ rfl
  obtain ⟨v2,w2,hr2,ho2,hg2⟩:=append_part 24 24 9 _ 1 16 Tryz.underlying24 info_str rfl (by decide) G _ _ _ hox hrx (by unfold maxLen;omega) (by omega) (by simp;omega);obtain ⟨na,nc,rfl⟩:=own_shape ho2;refine ⟨na,nc,w2,hr2,⟨?_,fun k hk=>?_⟩,hg2⟩
  · rw [List.length_append,List.length_singleton,List.map_append];exact ho2
  · rcases List.mem_append.1 hk with hk | hk
    · exact hz k hk
    · rw [List.mem_singleton] at hk;rw [hk];exact hx
def HeldT (G E:Nat) (wr:World) (lv:Value) (L:List V):Prop:=∃ es,wr.ownsRow (G+3) 27 5 lv L.length (cellsQ es)∧Els wr (fun b=>b < E) es L∧E≤G
theorem HeldT.push {G E:Nat} {wc:World} {la:Option Addr} {lc:Nat} {L:List V} (h:HeldT G E wc (.slice la L.length lc) L) {k m:Int} {t:ByteArray} {a1:Option Addr} {m1 d1:Nat} {a2:Option Addr} {m2 d2:Nat} {X:V}
    (hx:Is wc (fun b=>b < E) (.agg #[.int .i64 k,.int .i64 m,.string t,.slice a1 m1 d1,.slice a2 m2 d2]) X) (hl:L.length+1≤4294967296) (hG:G+3≤wc.heap.size) :
    ∃ na nc w2,(Builtin.append_ #[25,25] 25 #[.slice la L.length lc,.slice (some ⟨wc.heap.size,0,none⟩) 1 1]).run Tryz.prog (wc.alloc (.cells #[.int .i64 k,.int .i64 m,.string t,.slice a1 m1 d1,.slice a2 m2 d2] 27))=.ok (.slice na (L.length+1) nc) w2 ∧
      HeldT G E w2 (.slice na (L.length+1) nc) (L ++ [X])∧(wc.alloc (.cells #[.int .i64 k,.int .i64 m,.string t,.slice a1 m1 d1,.slice a2 m2 d2] 27)).grownBy w2 (Value.slice la L.length lc).ownBlock:=by
  obtain ⟨es,ho,he,hE⟩:=h;have hox:=own_below ho (below_alloc wc (.cells #[.int .i64 k,.int .i64 m,.string t,.slice a1 m1 d1,.slice a2 m2 d2] 27));have hrx:=raw_one_val wc k m t a1 m1 d1 a2 m2 d2 (fun _=>True) wc.heap.size rfl trivial;obtain ⟨v2,w2,hr2,ho2,hg2⟩:=append_part 25 25 27 _ 5 80 Tryz.underlying25 info_val rfl (by decide) (G+3) _ _ _ hox hrx (by unfold maxLen;omega) (by omega) (by simp;omega);obtain ⟨na,nc,rfl⟩:=own_shape ho2;rw [← cellsQ_append] at ho2;refine ⟨na,nc,w2,hr2,⟨es ++ [(.int .i64 k,.int .i64 m,.string t,.slice a1 m1 d1,.slice a2 m2 d2)],?_,?_,hE⟩,hg2⟩
  · rw [List.length_append,List.length_singleton];exact ho2
  · refine (he.append (Els.one (e:=(.int .i64 k,.int .i64 m,.string t,.slice a1 m1 d1,.slice a2 m2 d2)) hx)).keep (fun b hb hl=>?_)
    rw [hg2.block b (by simp;omega) (fun e=>by have:=(hox.lt b e.symm).1;omega)];exact Below.heap_alloc _ _ _ hl
theorem grown_old {wc w2:World} {o x:Obj} {row:Option Nat} {g:Nat} (hg:(wc.alloc o).grownBy w2 row) (h:wc.heap[g]? = some x) (hr:some g≠row):w2.heap[g]? = some x:=by
  have hl:=(Array.getElem?_eq_some_iff.1 h).1;rw [hg.block g (by simp;omega) hr,Below.heap_alloc _ _ _ hl];exact h
end Go.Proofs.YtapcmbbhhclepaaGreatDoor
namespace Go.Proofs.YtapcmbbhhclepaaGreatDoor
open Go.RowKit
theorem own_apart {w:World} {B1 B2 s1 s2 n1 n2:Nat} {e1 e2:TypeId} {v1 v2:Value} {xs1 xs2:List Value} (h1:w.ownsRow B1 e1 s1 v1 n1 xs1) (h2:w.ownsRow B2 e2 s2 v2 n2 xs2) (hne:e2≠e1):∀ g,v2.ownBlock=some g→some g≠v1.ownBlock:=by
  intro g hg;rcases h2.2 with ⟨hv,_⟩ | ⟨g2,cap,cur,hv,hb,hh,_⟩
  · rw [hv] at hg;cases hg
  · rw [hv] at hg
    have:g2=g:=by simpa [Value.ownBlock] using hg
    subst this;rcases h1.2 with ⟨hv1,_⟩ | ⟨g3,cap3,cur3,hv1,hb3,hh3,_⟩
    · rw [hv1];intro e;cases e
    · rw [hv1]
      intro e;have e3:g2=g3:=by simpa [Value.ownBlock] using e
      rw [e3,hh3] at hh
      injection hh with hh
      injection hh with _ he _
      exact hne he.symm
theorem step_append_run {P:Program} {ops:Array Oper} {o:Oper} {a:Act} {w:World} {K:Act→World→Prop} {Q:Exit→Act→World→Prop} {E:Prop} (hg:o.guard=none) (s x:Operand) (t:TypeId)
    (ho:o.op=.call { callee:=.builtin .append,args:=#[s,x],argTypes:=#[t,t] }) (vs vx:Value) (hs:a.eval s=vs) (hx:a.eval x=vx) {v':Value} {w':World}
    (hr:(Builtin.append_ #[t,t] o.type #[vs,vx]).run P w=.ok v' w') (h:K (a.put o.dst v') w'):if Region.wanted o (yielded ops a.tmps)=true then Oper.wp P o a w K Q else E:=by
  have hw:Region.wanted o (yielded ops a.tmps)=true:=by simp [Region.wanted,hg]
  rw [if_pos hw];exact Lib.wp_append_run w s x t t ho vs vx hs hx v' w' hr h
theorem B5.grown {wc w2:World} {o:Obj} {row:Option Nat} {g:Nat} {c0 c1 c2 c3 c4:Value} (h:B5 wc g c0 c1 c2 c3 c4) (hg:(wc.drew.alloc o).grownBy w2 row) (hr:some g≠row):B5 w2 g c0 c1 c2 c3 c4:=grown_old (wc:=wc.drew) hg h hr
theorem Z5.grown {wc w2:World} {o:Obj} {row:Option Nat} {g:Nat} (h:Z5 wc g) (hg:(wc.drew.alloc o).grownBy w2 row) (hr:some g≠row):Z5 w2 g:=grown_old (wc:=wc.drew) hg h hr
theorem HeldT.drew {G E:Nat} {wc:World} {lv:Value} {L:List V} (h:HeldT G E wc lv L):HeldT G E wc.drew lv L:=by
  obtain ⟨es,ho,he,hE⟩:=h;exact ⟨es,ho,he.keep (fun b _ _=>rfl),hE⟩
theorem HeldT.over {G E:Nat} {wc w2:World} {o:Obj} {row:Option Nat} {lv:Value} {L:List V} (h:HeldT G E wc lv L) (hg:(wc.alloc o).grownBy w2 row) (hr:∀ g,lv.ownBlock=some g→some g≠row) (hG:∀ g,row=some g→G+3≤g):HeldT G E w2 lv L:=by
  obtain ⟨es,ho,he,hE⟩:=h;have old:∀ g,g < wc.heap.size→some g≠row→w2.heap[g]? = wc.heap[g]? := fun g hl hn=>by rw [hg.block g (by simp;omega) hn,Below.heap_alloc _ _ _ hl]
  exact ⟨es,own_keep ho (fun g hgg=>old g (ho.lt g hgg).2 (hr g hgg)),he.keep (fun b hb hl=>old b hl (fun e=>by have:=hG b e.symm;omega)),hE⟩
theorem HeldS.over {G:Nat} {wc w2:World} {o:Obj} {row:Option Nat} {lv:Value} {L:List ByteArray} (h:HeldS G wc lv L) (hg:(wc.alloc o).grownBy w2 row) (hr:∀ g,lv.ownBlock=some g→some g≠row):HeldS G w2 lv L:=by
  obtain ⟨ho,hz⟩:=h;exact ⟨own_keep ho (fun g hgg=>by rw [hg.block g (by simp;have:=(ho.lt g hgg).2;omega) (hr g hgg),Below.heap_alloc _ _ _ (ho.lt g hgg).2]),hz⟩
theorem strs_own {G n:Nat} {w:World} {a:Option Addr} {c:Nat} {L:List ByteArray} (hn:L.length=n) (h:w.ownsRow G 9 1 (.slice a n c) L.length (L.map Value.string)) (hz:∀ k ∈ L,k.size≤maxLen):Strs w (fun b=>G≤b) (.slice a n c) L:=by
  obtain ⟨a',cap,h1,h2,h3,h4,h5,h6⟩:=Raw.of_own h (fun u hu=>by obtain ⟨k,_,rfl⟩:=List.mem_map.1 hu;rfl);refine ⟨a',cap,by rw [← hn] at h1 ⊢;exact h1,h2,h3,hz,?_⟩;rw [Nat.mul_one] at h6;refine h6.congr (fun i hi=>?_);simp [List.getD,hi]
theorem HeldT.set {G E:Nat} {wc:World} {lv:Value} {L:List V} (h:HeldT G E wc lv L) {g o:Nat} (v:Value) (hg:G≤g) (hg2:g < G+3):HeldT G E (wc.setCell ⟨g,o,none⟩ v) lv L:=by
  obtain ⟨es,ho,he,hE⟩:=h;exact ⟨es,own_keep ho (fun k hk=>Below.heap_setCell _ _ _ _ (by have:=(ho.lt k hk).1;simp only;omega)),he.keep (fun b hb _=>Below.heap_setCell _ _ _ _ (by simp only;omega)),hE⟩
theorem HeldS.set {G:Nat} {wc:World} {lv:Value} {L:List ByteArray} (h:HeldS G wc lv L) {g o:Nat} (v:Value) (hg2:g < G):HeldS G (wc.setCell ⟨g,o,none⟩ v) lv L :=
  ⟨own_keep h.1 (fun k hk=>Below.heap_setCell _ _ _ _ (by have:=(h.1.lt k hk).1;simp only;omega)),h.2⟩
set_option maxHeartbeats 2000000 in
theorem taken_any (k n:Int) (t:ByteArray) (a1:Option Addr) (n1 c1:Nat) (a2:Option Addr) (n2 c2:Nat) (x:V) (stay:List ByteArray) (sa:Option Addr) (sn sc:Nat) (w:World) (B:Nat) (S2:Nat→Prop) (hB:B≤w.heap.size) (h:Is w (fun b=>b < B) (.agg #[.int .i64 k,.int .i64 n,.string t,.slice a1 n1 c1,.slice a2 n2 c2]) x) (hwt:V.wt x≤4294967296) (hst:Strs w S2 (.slice sa sn sc) stay) :
    Calls Tryz.prog 40 #[.agg #[.int .i64 k,.int .i64 n,.string t,.slice a1 n1 c1,.slice a2 n2 c2],.slice sa sn sc] w fun e w'=>∃ ka kn kc la ln lc,e=.returned (.agg #[.int .i64 5,.int .i64 0,.string ⟨#[]⟩,.slice ka kn kc,.slice la ln lc])∧Is w' (fun b=>b < B∨w.heap.size≤b) (.agg #[.int .i64 5,.int .i64 0,.string ⟨#[]⟩,.slice ka kn kc,.slice la ln lc]) (Xr.taken x stay)∧Below w.heap.size w w':=by
  obtain ⟨kv,lv,hv,hks,hls,_⟩:=h.open;simp only [Value.agg.injEq,Array.mk.injEq,List.cons.injEq,and_true,Value.int.injEq,Value.string.injEq,true_and] at hv;obtain ⟨rfl,rfl,rfl,rfl,rfl⟩:=hv;obtain ⟨rfl,hk2,hk3,hkz,hkc⟩:=hks.out;obtain ⟨hn2,hl2,hl3⟩:=isL_len hls;have HKC:=hide hkc;have HBB:=hide hB;clear hB;have HLS:=hide hls;have HST:=hide hst;have HKZ:=hide hkz;have hkl:x.keys.length≤4294967296:=Nat.le_trans (V.wtK_len _) (Nat.le_trans (Nat.le_of_lt (V.wtK_keys x)) hwt);have hll:x.list.length≤4294967296:=Nat.le_trans (Nat.le_of_lt (V.len_wt x)) hwt;subst hn2;clear hks hls hst hkz hkc hwt h;obtain ⟨m,hm⟩:∃ m,m=min x.keys.length x.list.length:=⟨_,rfl⟩;have hmz:min (x.keys.length:Int) (x.list.length:Int)=(m:Int):=by omega
  have hm1:m≤x.keys.length:=by omega
  have hm2:m≤x.list.length:=by omega
  have HM:=hide hm;have hzl:(x.keys.zip x.list).length=m:=by rw [List.length_zip,hm]
  clear hm;have b0:=bthen (bthen (below_alloc w (.cells #[.int .i64 x.kind,.int .i64 x.num,.string x.text,.slice a1 x.keys.length c1,.slice a2 x.list.length c2] 27)) (below_alloc _ (.cells #[.int .i64 0,.int .i64 0,.string ⟨#[]⟩,.slice none 0 0,.slice none 0 0] 27))) (below_alloc _ (.cells #[.int .i64 5,.int .i64 0,.string ⟨#[]⟩,.slice none 0 0,.slice none 0 0] 27));have x0:=((b5_new w (.int .i64 x.kind) (.int .i64 x.num) (.string x.text) (.slice a1 x.keys.length c1) (.slice a2 x.list.length c2) w.heap.size rfl).keep (below_alloc _ (.cells #[.int .i64 0,.int .i64 0,.string ⟨#[]⟩,.slice none 0 0,.slice none 0 0] 27))).keep (below_alloc _ (.cells #[.int .i64 5,.int .i64 0,.string ⟨#[]⟩,.slice none 0 0,.slice none 0 0] 27));have u0:=(b5_new (w.alloc (.cells #[.int .i64 x.kind,.int .i64 x.num,.string x.text,.slice a1 x.keys.length c1,.slice a2 x.list.length c2] 27)) (.int .i64 0) (.int .i64 0) (.string ⟨#[]⟩) (.slice none 0 0) (.slice none 0 0) (w.heap.size+1) (by simp)).keep (below_alloc _ (.cells #[.int .i64 5,.int .i64 0,.string ⟨#[]⟩,.slice none 0 0,.slice none 0 0] 27));have q0:=b5_new ((w.alloc (.cells #[.int .i64 x.kind,.int .i64 x.num,.string x.text,.slice a1 x.keys.length c1,.slice a2 x.list.length c2] 27)).alloc (.cells #[.int .i64 0,.int .i64 0,.string ⟨#[]⟩,.slice none 0 0,.slice none 0 0] 27)) (.int .i64 5) (.int .i64 0) (.string ⟨#[]⟩) (.slice none 0 0) (.slice none 0 0) (w.heap.size+1+1) (by simp);have hz0:w.heap.size+3≤(((w.alloc (.cells #[.int .i64 x.kind,.int .i64 x.num,.string x.text,.slice a1 x.keys.length c1,.slice a2 x.list.length c2] 27)).alloc (.cells #[.int .i64 0,.int .i64 0,.string ⟨#[]⟩,.slice none 0 0,.slice none 0 0] 27)).alloc (.cells #[.int .i64 5,.int .i64 0,.string ⟨#[]⟩,.slice none 0 0,.slice none 0 0] 27)).heap.size:=by simp
  obtain ⟨w0,hw0⟩:∃ w0,w0=(((w.alloc (.cells #[.int .i64 x.kind,.int .i64 x.num,.string x.text,.slice a1 x.keys.length c1,.slice a2 x.list.length c2] 27)).alloc (.cells #[.int .i64 0,.int .i64 0,.string ⟨#[]⟩,.slice none 0 0,.slice none 0 0] 27)).alloc (.cells #[.int .i64 5,.int .i64 0,.string ⟨#[]⟩,.slice none 0 0,.slice none 0 0] 27)):=⟨_,rfl⟩;rw [← hw0] at b0 x0 u0 q0 hz0;have W0:=hide hw0;have X0:=hide x0;have U0:=hide u0;have Q0:=hide q0;have H0:=hide b0;have N0:=hide hz0;clear b0 x0 u0 q0 hz0 hw0;obtain ⟨x0,x1,x2,x3,x4⟩:=X0.out.cells;go_enter Tryz.func40,Tryz.ntmps40
  go_upto_region 2 with fail
  rw [← W0.out];clear W0
  go_wp2_with fail
  clear x0 x1 x2 x3 x4
  go_loopg [15] m (fun g i wr=>∃ (j:Nat) (ka:Option Addr) (kc:Nat) (la:Option Addr) (lc:Nat) (ps:List (ByteArray×V)),j+g=m∧i=.int .i64 j∧Hid (ps=Xr.stays stay ((x.keys.zip x.list).take j))∧Hid (B5 wr w.heap.size (.int .i64 x.kind) (.int .i64 x.num) (.string x.text) (.slice a1 x.keys.length c1) (.slice a2 x.list.length c2))∧Hid (Z5 wr (w.heap.size+1))∧Hid (B5 wr (w.heap.size+1+1) (.int .i64 5) (.int .i64 0) (.string ⟨#[]⟩) (.slice ka ps.length kc) (.slice la ps.length lc))∧Hid (HeldS (w.heap.size+3) wr (.slice ka ps.length kc) (ps.map (·.1)))∧Hid (HeldT w.heap.size B wr (.slice la ps.length lc) (ps.map (·.2)))∧Hid (Below w.heap.size w wr)∧Hid (w.heap.size+3≤wr.heap.size))
  case atStart=>exact ⟨0,none,0,none,0,[],by omega,rfl,rfl,X0.out,U0.out,Q0.out,⟨World.ownsRow_nil _ _ _ _,by simp⟩,⟨[],World.ownsRow_nil _ _ _ _,Els.nil _ _,HBB.out⟩,H0.out,N0.out⟩
  case round =>
    clear X0 U0 Q0 H0 N0;obtain ⟨j,ka,kc,la,lc,ps,hj,rfl,HPS,X1,U1,Q1,K1,L1,H1,N1⟩:=hrel;have hpl:ps.length≤j:=by rw [HPS.out];unfold Xr.stays;exact Nat.le_trans (List.length_filter_le _ _) (by rw [List.length_take];omega)
    obtain ⟨x0,x1,x2,x3,x4⟩:=X1.out.cells
    by_cases hlt:j < m
    · have htk:(x.keys.zip x.list).take (j+1)=(x.keys.zip x.list).take j ++ [(x.keys[j]'(by omega),x.list[j]'(by omega))]:=by
        rw [List.take_succ_eq_append_getElem (by omega),List.getElem_zip]
      have HTK:=hide htk;obtain ⟨kb,ko,KK,hka,hKK,ek⟩:=str_at' HKC.out H1.out (i:=j) (by omega);subst hka;have hK2:KK=x.keys[j]'(by omega):=by rw [hKK.out];simp [List.getD,show j < x.keys.length by omega]
      have HK2:=hide hK2;have hksz:KK.size≤maxLen:=by rw [hKK.out];exact getD_size HKZ.out j
      obtain ⟨b,off,k',n',t',a1',n1',c1',a2',n2',c2',hla,hel,e0,e1,e2,e3,e4⟩:=isL_open HLS.out H1.out (i:=j) (by omega);subst hla;have HE5:Hid (w.heap.size≤w.heap.size∧wr.cell? ⟨b,off+j * 5,none⟩=some (.int .i64 k')∧wr.cell? ⟨b,off+j * 5+1,none⟩=some (.int .i64 n')∧wr.cell? ⟨b,off+j * 5+2,none⟩=some (.string t')∧wr.cell? ⟨b,off+j * 5+3,none⟩=some (.slice a1' n1' c1')∧wr.cell? ⟨b,off+j * 5+4,none⟩=some (.slice a2' n2' c2')):=hide ⟨Nat.le_refl _,e0,e1,e2,e3,e4⟩;have HEL:=hide hel;have HEK:=hide ek;have HST1:=hide (HST.out.below H1.out);clear hel e0 e1 e2 e3 e4 hKK hK2 htk
      go_wp2_with fail
      refine (contains_any HST1.out KK).mono ?_;rintro e w2 ⟨rfl,rfl⟩;cases hq:Lib.containsS stay KK with
      | false =>
        have hst2:Xr.stays stay ((x.keys.zip x.list).take (j+1))=ps:=by rw [HTK.out,Xr.stays_snoc,HPS.out];simp only;rw [← HK2.out,hq];rfl
        go_wp2_with fail
        go_roundg (gk - 1)
        case measure=>omega
        case rel=>exact ⟨j+1,ka,kc,la,lc,ps,by omega,rfl,hst2.symm,X1.out,U1.out,Q1.out,K1.out,L1.out,H1.out,N1.out⟩
      | true =>
        have hst2:Xr.stays stay ((x.keys.zip x.list).take (j+1))=ps ++ [(KK,x.list[j]'(by omega))]:=by rw [HTK.out,Xr.stays_snoc,HPS.out];simp only;rw [← HK2.out,hq];rfl
        have HST2:=hide hst2;clear hst2 hq;have l1:(ps.map (·.1)).length=ps.length:=List.length_map _;have l2:(ps.map (·.2)).length=ps.length:=List.length_map _;have k1:HeldS (w.heap.size+3) w2.drew (.slice ka (ps.map (·.1)).length kc) (ps.map (·.1)):=by rw [l1];exact K1.out
        obtain ⟨na,nc,w4,hrun,hK4,hg4⟩:=k1.push KK hksz (by rw [l1];omega) N1.out;rw [l1] at hrun hK4 hg4;have hrun2:(Builtin.append_ #[24,24] 24 #[.slice ka ps.length kc,.slice (some ⟨w2.heap.size,0,none⟩) 1 1]).run Tryz.prog (w2.alloc (.cells #[.string KK] 9)).drew=.ok (.slice na (ps.length+1) nc) w4:=hrun;have lt1:∀ g,(Value.slice ka ps.length kc).ownBlock=some g→w.heap.size+3≤g:=fun g hg=>(K1.out.1.lt g (by rw [l1] at *;exact hg)).1
        have ne:∀ g,g < w.heap.size+3→some g≠(Value.slice ka ps.length kc).ownBlock:=fun g hg e=>by have:=lt1 g e.symm;omega
        have X4:=hide (X1.out.grown hg4 (ne _ (by omega)));have U4:=hide (U1.out.grown hg4 (ne _ (by omega)));have Q4:=hide (Q1.out.grown hg4 (ne _ (by omega)))
        have L4:=hide (HeldT.over (wc:=w2.drew) L1.out.drew hg4 (by
          obtain ⟨es,ho,_⟩:=L1.out
          exact own_apart K1.out.1 ho (by decide)) (fun g hg=>lt1 g hg))
        have K4:=hide hK4;have H4:Hid (Below w.heap.size w w4):=hide (((Below.drew H1.out).alloc (by have:=N1.out;show w.heap.size≤w2.heap.size;omega) _).grown hg4 (by have:=N1.out;simp;omega) (fun g hg=>by have:=lt1 g hg;omega));have N4:Hid (w.heap.size+3≤w4.heap.size):=hide (by have h1:=hg4.size;have:=N1.out;simp at h1;omega);have HRUN:=hide hrun2;have hek:=HEK.out;have HEL4:=hide (HEL.out);obtain ⟨q0,q1,q2,q3,q4⟩:=Q1.out.cells;obtain ⟨r0,r1,r2,r3,r4⟩:=Q4.out.cells;have fr:=Q4.out.free 3;clear hrun hK4 hg4 k1 lt1 ne hrun2 K1 L1 U1;have hn1:=N1.out
        have q3b:(w2.alloc (.cells #[.string KK] 9)).drew.cell? ⟨w.heap.size+1+1,3,none⟩=some (.slice ka ps.length kc):=by
          have hb:=Below.heap_alloc w2 (.cells #[.string KK] 9) (w.heap.size+1+1) (by omega);have hq:=Q1.out;have h5:B5 (w2.alloc (.cells #[.string KK] 9)) (w.heap.size+1+1) (.int .i64 5) (.int .i64 0) (.string ⟨#[]⟩) (.slice ka ps.length kc) (.slice la ps.length lc):=by unfold B5 at hq ⊢;rw [hb];exact hq
          exact h5.cells.2.2.2.1
        have hjk:j < x.keys.length:=by omega
        have hjl:j < x.list.length:=by omega
        obtain ⟨kb4,ko4,KK4,hka4,hKK4,ek4⟩:=str_at' HKC.out H4.out (i:=j) (by omega);simp only [Option.some.injEq,Addr.mk.injEq,and_true] at hka4;obtain ⟨rfl,rfl⟩:=hka4;have hk4:KK4=KK:=by rw [hKK4.out,HK2.out];simp [List.getD,show j < x.keys.length by omega]
        rw [hk4] at ek4;have S4:w4.cell? ⟨w.heap.size,3,none⟩=some (.slice (some ⟨kb,ko,none⟩) x.keys.length c1)∧w4.cell? ⟨kb,ko+j,none⟩=some (.string KK):=⟨X4.out.cells.2.2.2.1,ek4⟩;clear hKK4 hk4
        go_upto_region 6 with fail
        go_region_law (refine step_append_run rfl (.tmp 26) (.tmp 32) 24 rfl _ _ (by simp [Act.eval,Act.put]) (by simp [Act.eval,Act.put]) HRUN.out ?_)
        all_goals
          clear S4 ek4;clear hn1;clear x0 x1 x2 x3 x4 q0 q1 q2 q3 q4 r0 r1 r2 r3 r4 fr hek HRUN;have X5:=hide (X4.out.other (g':=w.heap.size+1+1) (o:=3) (.slice na (ps.length+1) nc) (by omega));have U5:Hid (Z5 (w4.setCell ⟨w.heap.size+1+1,3,none⟩ (.slice na (ps.length+1) nc)) (w.heap.size+1)):=hide (U4.out.other _ (by omega));have Q5:=hide (Q4.out.set3 (.slice na (ps.length+1) nc));have K5:=hide (K4.out.set (g:=w.heap.size+1+1) (o:=3) (.slice na (ps.length+1) nc) (by omega));have L5:=hide (L4.out.set (g:=w.heap.size+1+1) (o:=3) (.slice na (ps.length+1) nc) (by omega) (by omega));have H5:Hid (Below w.heap.size w (w4.setCell ⟨w.heap.size+1+1,3,none⟩ (.slice na (ps.length+1) nc))):=hide (H4.out.setCell (p:=⟨w.heap.size+1+1,3,none⟩) (by show w.heap.size≤w.heap.size+1+1;omega) _);have N5:Hid (w.heap.size+3≤(w4.setCell ⟨w.heap.size+1+1,3,none⟩ (.slice na (ps.length+1) nc)).heap.size):=hide (by have:=N4.out;simpa using this);clear X4 U4 Q4 K4 L4 H4 N4 X1 Q1;generalize w4.setCell ⟨w.heap.size+1+1,3,none⟩ (.slice na (ps.length+1) nc)=w5 at X5 U5 Q5 K5 L5 H5 N5 ⊢;obtain ⟨b',off',k6,n6,t6,a6,m6,c6,a7,m7,c7,hla',hel0,d0,d1,d2,d3,d4⟩:=isL_open HLS.out (Below.refl _ _) (i:=j) (by omega);simp only [Option.some.injEq,Addr.mk.injEq,and_true] at hla';obtain ⟨rfl,rfl⟩:=hla';have hel6:=(hel0.below H5.out).keep (w':=w5.drew) (fun b _ _=>rfl);have e0:=cell_keep d0 H5.out;have e1:=cell_keep d1 H5.out;have e2:=cell_keep d2 H5.out;have e3:=cell_keep d3 H5.out;have e4:=cell_keep d4 H5.out;clear hel0;have lk1:(ps.map (·.1) ++ [KK]).length=ps.length+1:=by simp
          have t1:HeldT w.heap.size B w5.drew (.slice la (ps.map (·.2)).length lc) (ps.map (·.2)):=by rw [l2];exact L5.out.drew
          obtain ⟨ma,mc,w6,hrun,hL6,hg6⟩:=t1.push (X:=x.list[j]'(by omega)) hel6 (by rw [l2];omega) N5.out;rw [l2] at hrun hL6 hg6;have hrun2:(Builtin.append_ #[25,25] 25 #[.slice la ps.length lc,.slice (some ⟨w5.heap.size,0,none⟩) 1 1]).run Tryz.prog (w5.alloc (.cells #[.int .i64 k6,.int .i64 n6,.string t6,.slice a6 m6 c6,.slice a7 m7 c7] 27)).drew=.ok (.slice ma (ps.length+1) mc) w6:=hrun;obtain ⟨es5,hoL,_⟩:=id L5.out;have lt1:∀ g,(Value.slice la ps.length lc).ownBlock=some g→w.heap.size+3≤g:=fun g hg=>(hoL.lt g hg).1
          have ne:∀ g,g < w.heap.size+3→some g≠(Value.slice la ps.length lc).ownBlock:=fun g hg e=>by have:=lt1 g e.symm;omega
          have X6:=hide (X5.out.grown hg6 (ne _ (by omega)));have U6:=hide (U5.out.grown hg6 (ne _ (by omega)));have Q6:=hide (Q5.out.grown hg6 (ne _ (by omega)));have K6:=hide (HeldS.over (wc:=w5.drew) K5.out hg6 (own_apart hoL K5.out.1 (by decide)));have L6:=hide hL6;have H6:Hid (Below w.heap.size w w6):=hide (((Below.drew H5.out).alloc (by have:=N5.out;show w.heap.size≤w5.heap.size;omega) _).grown hg6 (by have:=N5.out;simp;omega) (fun g hg=>by have:=lt1 g hg;omega));have N6:Hid (w.heap.size+3≤w6.heap.size):=hide (by have h1:=hg6.size;have:=N5.out;simp at h1;omega);have HRUN:=hide hrun2;obtain ⟨x0,x1,x2,x3,x4⟩:=X5.out.cells;obtain ⟨q0,q1,q2,q3,q4⟩:=Q5.out.cells;obtain ⟨r0,r1,r2,r3,r4⟩:=Q6.out.cells;have fr:=Q6.out.free 4;clear hrun hL6 hg6 t1 lt1 ne hrun2 K5 L5 U5 hoL hel6;have hn5:=N5.out
          have q4b:(w5.alloc (.cells #[.int .i64 k6,.int .i64 n6,.string t6,.slice a6 m6 c6,.slice a7 m7 c7] 27)).drew.cell? ⟨w.heap.size+1+1,4,none⟩=some (.slice la ps.length lc):=by
            have hb:=Below.heap_alloc w5 (.cells #[.int .i64 k6,.int .i64 n6,.string t6,.slice a6 m6 c6,.slice a7 m7 c7] 27) (w.heap.size+1+1) (by omega);have hq:=Q5.out;have h5:B5 (w5.alloc (.cells #[.int .i64 k6,.int .i64 n6,.string t6,.slice a6 m6 c6,.slice a7 m7 c7] 27)) (w.heap.size+1+1) (.int .i64 5) (.int .i64 0) (.string ⟨#[]⟩) (.slice na (ps.length+1) nc) (.slice la ps.length lc):=by unfold B5 at hq ⊢;rw [hb];exact hq
            exact h5.cells.2.2.2.2
          have f0:=cell_keep d0 H6.out;have f1:=cell_keep d1 H6.out;have f2:=cell_keep d2 H6.out;have f3:=cell_keep d3 H6.out;have f4:=cell_keep d4 H6.out;clear d0 d1 d2 d3 d4;have S6:w6.cell? ⟨w.heap.size,4,none⟩=some (.slice (some ⟨b,off,none⟩) x.list.length c2)∧w6.cell? ⟨b,off+j * 5,none⟩=some (.int .i64 k6)∧w6.cell? ⟨b,off+j * 5+1,none⟩=some (.int .i64 n6)∧w6.cell? ⟨b,off+j * 5+2,none⟩=some (.string t6)∧w6.cell? ⟨b,off+j * 5+3,none⟩=some (.slice a6 m6 c6)∧w6.cell? ⟨b,off+j * 5+4,none⟩=some (.slice a7 m7 c7):=⟨X6.out.cells.2.2.2.2,f0,f1,f2,f3,f4⟩
          go_upto_region 7 with fail
          go_region_law (refine step_append_run rfl (.tmp 36) (.tmp 42) 25 rfl _ _ (by simp [Act.eval,Act.put]) (by simp [Act.eval,Act.put]) HRUN.out ?_)
          all_goals
            clear S6 f0 f1 f2 f3 f4;clear hn5;clear x0 x1 x2 x3 x4 q0 q1 q2 q3 q4 r0 r1 r2 r3 r4 fr HRUN e0 e1 e2 e3 e4
            go_wp2_with fail
            go_roundg (gk - 1)
            case measure=>omega
            case rel=>exact ⟨j+1,na,nc,ma,mc,ps ++ [(KK,x.list[j]'(by omega))],by omega,rfl,HST2.out.symm,X6.out.other _ (by omega),U6.out.other _ (by omega),by rw [List.length_append,List.length_singleton];exact Q6.out.set4 _,by rw [List.length_append,List.length_singleton,List.map_append];exact K6.out.set _ (by omega),by rw [List.length_append,List.length_singleton,List.map_append];exact L6.out.set _ (by omega) (by omega),H6.out.setCell (p:=⟨w.heap.size+1+1,4,none⟩) (by show w.heap.size≤w.heap.size+1+1;omega) _,hide (by have:=N6.out;simpa using this)⟩
    · have hje:j=m:=by omega
      have hall:ps=Xr.stays stay (x.keys.zip x.list):=by rw [HPS.out,hje,← hzl,List.take_length]
      have HALL:=hide hall;clear hall;obtain ⟨u0,u1,u2,u3,u4⟩:=U1.out.cells;obtain ⟨q0,q1,q2,q3,q4⟩:=Q1.out.cells;have fu:=U1.out.free;have fu0:=fu 0;have fu1:=fu 1;have fu2:=fu 2;have fu3:=fu 3;have fu4:=fu 4;clear fu
      go_wp2_with fail
      have hu:=U1.out.all (.int .i64 5) (.int .i64 0) (.string ⟨#[]⟩) (.slice ka ps.length kc) (.slice la ps.length lc);clear u0 u1 u2 u3 u4 q0 q1 q2 q3 q4;obtain ⟨p0,p1,p2,p3,p4⟩:=hu.cells;refine bodyPost_ret (v:=.agg #[.int .i64 5,.int .i64 0,.string ⟨#[]⟩,.slice ka ps.length kc,.slice la ps.length lc]) (by simp [results,Tryz.results40,go_sem,p0,p1,p2,p3,p4]) rfl ⟨ka,ps.length,kc,la,ps.length,lc,rfl,?_,H1.out.trans (below5 (by omega) _ _ _ _ _)⟩
      have ks:Strs wr (fun b=>w.heap.size+3≤b) (.slice ka ps.length kc) (ps.map (·.1)):=by
        have:=K1.out
        exact strs_own (by simp) this.1 this.2
      obtain ⟨es,ho,he,_⟩:=L1.out;have hB:=HBB.out
      have ls:IsL wr (fun b=>b < B∨w.heap.size+3≤b) (.slice la ps.length lc) (ps.map (·.2)):=by
        have hraw:=Raw.of_own ho he.cells
        have hr2:Raw wr (fun b=>b < B∨w.heap.size+3≤b) (.slice la ps.length lc) 5 (ps.map (·.2)).length (cellsQ es):=by
          obtain ⟨a,cap,h1,h2,h3,h4,h5,h6⟩:=hraw;exact ⟨a,cap,h1,h2,h3,h4,h5,h6.weak (fun b _ hb=>.inr hb)⟩
        exact isL_of_raw hr2 (he.weak (fun b _ hb=>.inl hb))
      have kp:∀ {v0 v1 v2 v3 v4:Value},Keeps (fun b=>b < B∨w.heap.size+3≤b) wr (((((wr.setCell ⟨w.heap.size+1,0,none⟩ v0).setCell ⟨w.heap.size+1,1,none⟩ v1).setCell ⟨w.heap.size+1,2,none⟩ v2).setCell ⟨w.heap.size+1,3,none⟩ v3).setCell ⟨w.heap.size+1,4,none⟩ v4):=fun b hb _=>by
        have hne:∀ o:Nat,b≠(⟨w.heap.size+1,o,none⟩:Addr).block:=fun o=>by simp only;omega
        rw [Below.heap_setCell _ _ _ _ (hne 4),Below.heap_setCell _ _ _ _ (hne 3),Below.heap_setCell _ _ _ _ (hne 2),Below.heap_setCell _ _ _ _ (hne 1),Below.heap_setCell _ _ _ _ (hne 0)]
      have hx:Xr.taken x stay=⟨5,0,⟨#[]⟩,ps.map (·.1),ps.map (·.2)⟩:=by unfold Xr.taken;rw [HALL.out]
      rw [hx];exact ((Is.shut (x:=⟨5,0,⟨#[]⟩,ps.map (·.1),ps.map (·.2)⟩) (ks.weak (S':=fun b=>b < B∨w.heap.size+3≤b) (fun b _ hb=>.inr hb)) ls (show (⟨#[]⟩:ByteArray).size≤maxLen by decide)).keep kp).weak (S':=fun b=>b < B∨w.heap.size≤b) (fun b _ hb=>Or.elim hb Or.inl (fun h=>Or.inr (by omega)))
end Go.Proofs.YtapcmbbhhclepaaGreatDoor
namespace Go.Proofs.YtapcmbbhhclepaaGreatDoor
open Go.RowKit
set_option maxHeartbeats 2000000 in
theorem ofEvent_any (w:World) :
    Calls Tryz.prog 41 #[] w fun e w'=>∃ a,e=.returned (.slice a 10 10)∧Strs w' (fun b=>w.heap.size≤b) (.slice a 10 10) lEvent∧Below w.heap.size w w':=by
  go_enter Tryz.func41,Tryz.ntmps41
  go_wp2_with fail
  go_ret
  exact ⟨_,rfl,strs_heap (l:=lEvent) (by show (w.heap.push _)[w.heap.size]? = _;rw [Array.getElem?_push_size];rfl) rfl (by decide) (by decide) _ (Nat.le_refl _),below_alloc _ _⟩
set_option maxHeartbeats 4000000 in
theorem ofContent_any {v:Value} {x:V} {w:World} {S:Nat→Prop} (h:Is w S v x) (hwt:V.wt x≤4294967296) (kind:ByteArray) (hk:kind.size≤maxLen) :
    Calls Tryz.prog 45 #[v,.string kind] w fun e w'=>∃ k n t a1 n1 c1 a2 n2 c2,e=.returned (.agg #[.int .i64 k,.int .i64 n,.string t,.slice a1 n1 c1,.slice a2 n2 c2])∧Is w' (fun _=>True) (.agg #[.int .i64 k,.int .i64 n,.string t,.slice a1 n1 c1,.slice a2 n2 c2]) (Xr.ofContent x kind)∧Below w.heap.size w w':=by
  obtain ⟨kv,lv,rfl,h2,h8,_⟩:=id h.open;obtain ⟨a1,c1,rfl,_⟩:=id h2;obtain ⟨a2,c2,_,rfl,_⟩:=id h8;clear h2 h8;obtain ⟨q,hq⟩:∃ q,(kind.toList == kCreate.toList)=q:=⟨_,rfl⟩;unfold Xr.ofContent;rw [hq];have e:kCreate.toList=[109,46,114,111,111,109,46,99,114,101,97,116,101]:=by kernel_rfl
  rw [e] at hq;clear e;have bA:=below_alloc w (.cells #[.int .i64 x.kind,.int .i64 x.num,.string x.text,.slice a1 x.keys.length c1,.slice a2 x.list.length c2] 27);have bB:=below_alloc (w.alloc (.cells #[.int .i64 x.kind,.int .i64 x.num,.string x.text,.slice a1 x.keys.length c1,.slice a2 x.list.length c2] 27)) (.cells #[.int .i64 0,.int .i64 0,.string ⟨#[]⟩,.slice none 0 0,.slice none 0 0] 27);have b0:=bthen bA bB;have h':=h.weak (S':=fun b=>b < w.heap.size) (fun b hb _=>hb);have HI:=hide (h'.below b0);have B0:=hide b0;have x0:=hide ((b5_new w (.int .i64 x.kind) (.int .i64 x.num) (.string x.text) (.slice a1 x.keys.length c1) (.slice a2 x.list.length c2) w.heap.size rfl).keep bB);have u0:=hide (b5_new (w.alloc (.cells #[.int .i64 x.kind,.int .i64 x.num,.string x.text,.slice a1 x.keys.length c1,.slice a2 x.list.length c2] 27)) (.int .i64 0) (.int .i64 0) (.string ⟨#[]⟩) (.slice none 0 0) (.slice none 0 0) (w.heap.size+1) (by simp));have n0:Hid (w.heap.size+2≤((w.alloc (.cells #[.int .i64 x.kind,.int .i64 x.num,.string x.text,.slice a1 x.keys.length c1,.slice a2 x.list.length c2] 27)).alloc (.cells #[.int .i64 0,.int .i64 0,.string ⟨#[]⟩,.slice none 0 0,.slice none 0 0] 27)).heap.size):=hide (by simp);obtain ⟨w0,hw0⟩:∃ w0,w0=(w.alloc (.cells #[.int .i64 x.kind,.int .i64 x.num,.string x.text,.slice a1 x.keys.length c1,.slice a2 x.list.length c2] 27)).alloc (.cells #[.int .i64 0,.int .i64 0,.string ⟨#[]⟩,.slice none 0 0,.slice none 0 0] 27):=⟨_,rfl⟩;rw [← hw0] at B0 HI x0 u0 n0;have W0:=hide hw0;clear bA bB b0 h h' hw0;cases q with
  | true =>
    go_enter Tryz.func45,Tryz.ntmps45
    go_upto_region 1 with fail
    rw [← W0.out];obtain ⟨p0,p1,p2,p3,p4⟩:=x0.out.cells;obtain ⟨q0,q1,q2,q3,q4⟩:=u0.out.cells;have fu:=u0.out.free;have fu0:=fu 0;have fu1:=fu 1;have fu2:=fu 2;have fu3:=fu 3;have fu4:=fu 4;clear fu
    go_wp2_with fail
    have hu:=u0.out.all (.int .i64 x.kind) (.int .i64 x.num) (.string x.text) (.slice a1 x.keys.length c1) (.slice a2 x.list.length c2);clear p0 p1 p2 p3 p4 q0 q1 q2 q3 q4;obtain ⟨p0,p1,p2,p3,p4⟩:=hu.cells;refine bodyPost_ret (v:=.agg #[.int .i64 x.kind,.int .i64 x.num,.string x.text,.slice a1 x.keys.length c1,.slice a2 x.list.length c2]) (by simp [results,Tryz.results45,go_sem,p0,p1,p2,p3,p4]) rfl ⟨_,_,_,_,_,_,_,_,_,rfl,?_,B0.out.trans (below5 (by omega) _ _ _ _ _)⟩
    have kp:∀ {v0 v1 v2 v3 v4:Value},Keeps (fun b=>b < w.heap.size) w0 (((((w0.setCell ⟨w.heap.size+1,0,none⟩ v0).setCell ⟨w.heap.size+1,1,none⟩ v1).setCell ⟨w.heap.size+1,2,none⟩ v2).setCell ⟨w.heap.size+1,3,none⟩ v3).setCell ⟨w.heap.size+1,4,none⟩ v4):=fun b hb _=>by
      have hne:∀ o:Nat,b≠(⟨w.heap.size+1,o,none⟩:Addr).block:=fun o=>by simp only;omega
      rw [Below.heap_setCell _ _ _ _ (hne 4),Below.heap_setCell _ _ _ _ (hne 3),Below.heap_setCell _ _ _ _ (hne 2),Below.heap_setCell _ _ _ _ (hne 1),Below.heap_setCell _ _ _ _ (hne 0)]
    exact (HI.out.keep kp).weak (fun _ _ _=>trivial)
  | false =>
    go_enter Tryz.func45,Tryz.ntmps45
    go_upto_region 3 with fail
    rw [← W0.out];obtain ⟨p0,p1,p2,p3,p4⟩:=x0.out.cells
    go_region_with (first
      | (go_at_call 38;go_loud (refine (kept_any _).mono ?_;rintro e w1 ⟨b1,b2,b3,b4,rfl,hown,h1,h2,h3,h4,_,hb⟩;obtain ⟨la,ln,lc,hrun,hs⟩:=lookup_any w1 _ b1 b2 b3 b4 0 hown h1 h2 h3 h4 kind hk;have hrun':(Instr.lookup 48 (.map (some w0.heap.size)) (.string kind) false).run Tryz.prog w1=.ok (.slice la ln lc) w1:=hrun;clear hrun;have HS:=hide hs;have hb':Below w0.heap.size w0 w1:=bthen (Below.drew (show Below w0.heap.size w0 w0 from Below.refl _ _)) hb;have HB:=hide hb';obtain ⟨r0,r1,r2,r3,r4⟩:=(x0.out.keep hb').cells;clear hown h1 h2 h3 h4 hs hb hb'))
      | (go_at_call 40;go_loud (refine (taken_any _ _ _ _ _ _ _ _ _ x (keptL kind) _ _ _ _ w.heap.size (fun _=>True) (by have h1:=n0.out;have h2:=HB.out.size;omega) (HI.out.below HB.out) hwt HS.out).mono ?_;rintro e w2 ⟨ka,kn,kc,la2,ln2,lc2,rfl,hT,bT⟩;have HT:=hide hT;have BT:=hide bT;have u2:=hide ((u0.out.keep HB.out).keep bT);obtain ⟨q0,q1,q2,q3,q4⟩:=u2.out.cells;have fu:=u2.out.free;have fu0:=fu 0;have fu1:=fu 1;have fu2:=fu 2;have fu3:=fu 3;have fu4:=fu 4;clear fu hT bT)))
    all_goals
      clear p0 p1 p2 p3 p4 q0 q1 q2 q3 q4
      try go_wp2_with fail
      have hu:=u2.out.all (.int .i64 5) (.int .i64 0) (.string ⟨#[]⟩) (.slice ka kn kc) (.slice la2 ln2 lc2);obtain ⟨p0,p1,p2,p3,p4⟩:=hu.cells;refine bodyPost_ret (v:=.agg #[.int .i64 5,.int .i64 0,.string ⟨#[]⟩,.slice ka kn kc,.slice la2 ln2 lc2]) (by simp [results,Tryz.results45,go_sem,p0,p1,p2,p3,p4]) rfl ⟨_,_,_,_,_,_,_,_,_,rfl,?_,(bthen (bthen B0.out HB.out) BT.out).trans (below5 (by omega) _ _ _ _ _)⟩;have hn0:=n0.out;have hnb:=HB.out.size
      have kp:∀ {v0 v1 v2 v3 v4:Value},Keeps (fun b=>b < w.heap.size∨w1.heap.size≤b) w2 (((((w2.setCell ⟨w.heap.size+1,0,none⟩ v0).setCell ⟨w.heap.size+1,1,none⟩ v1).setCell ⟨w.heap.size+1,2,none⟩ v2).setCell ⟨w.heap.size+1,3,none⟩ v3).setCell ⟨w.heap.size+1,4,none⟩ v4):=fun b hb _=>by
        have hne:∀ o:Nat,b≠(⟨w.heap.size+1,o,none⟩:Addr).block:=fun o=>by simp only;omega
        rw [Below.heap_setCell _ _ _ _ (hne 4),Below.heap_setCell _ _ _ _ (hne 3),Below.heap_setCell _ _ _ _ (hne 2),Below.heap_setCell _ _ _ _ (hne 1),Below.heap_setCell _ _ _ _ (hne 0)]
      exact (HT.out.keep kp).weak (fun _ _ _=>trivial)
end Go.Proofs.YtapcmbbhhclepaaGreatDoor
namespace Go.Proofs.YtapcmbbhhclepaaGreatDoor
open Go.RowKit
theorem getX_all {v:Value} {x:V} {w:World} {S:Nat→Prop} (h:Is w S v x) (key:ByteArray) (hwt:V.wt x≤4294967296) :
    Calls Tryz.prog 42 #[v,.string key] w fun e w'=>∃ k n t a1 n1 c1 a2 n2 c2 is,e=.returned (.tuple #[.agg #[.int .i64 k,.int .i64 n,.string t,.slice a1 n1 c1,.slice a2 n2 c2],.bool is])∧is=(V.get x key).isSome∧Is w' (fun _=>True) (.agg #[.int .i64 k,.int .i64 n,.string t,.slice a1 n1 c1,.slice a2 n2 c2]) ((V.get x key).getD V.nul)∧Below w.heap.size w w':=by
  by_cases hp:V.place x key < 0
  · refine (get_none h key hp).mono ?_
    rintro e w' ⟨rfl,b⟩;have e1:V.get x key=none:=by rw [V.get_eq',if_pos hp]
    refine ⟨_,_,_,_,_,_,_,_,_,_,rfl,by rw [e1];rfl,?_,b⟩;rw [e1];exact is_plain w' _ 0 0 ⟨#[]⟩ (by decide)
  · have hpl:=(V.place_lt x key (by omega)).2
    have hpl2:(V.place x key).toNat < x.list.length:=by omega
    refine (get_some h key (V.place x key).toNat (by omega) hpl2 hwt).mono ?_;rintro e w' ⟨k,n,t,a1,n1,c1,a2,n2,c2,rfl,his,b⟩;have e1:V.get x key=some x.list[(V.place x key).toNat]:=by rw [V.get_eq',if_neg hp,List.getElem?_eq_getElem hpl2]
    exact ⟨k,n,t,a1,n1,c1,a2,n2,c2,true,rfl,by rw [e1];rfl,by rw [e1];exact his.weak (fun _ _ _=>trivial),b⟩
set_option maxHeartbeats 2000000 in
theorem kindOf_any {v:Value} {x:V} {w:World} {S:Nat→Prop} (h:Is w S v x) (hwt:V.wt x≤4294967296) :
    Calls Tryz.prog 46 #[v] w fun e w'=>e=.returned (.string (Xr.kindOf x))∧Below w.heap.size w w':=by
  obtain ⟨kv,lv,rfl,h2,h8,_⟩:=id h.open;obtain ⟨a1,c1,rfl,_⟩:=id h2;obtain ⟨a2,c2,_,rfl,_⟩:=id h8;clear h2 h8;have b0:=below_alloc w (.cells #[.int .i64 x.kind,.int .i64 x.num,.string x.text,.slice a1 x.keys.length c1,.slice a2 x.list.length c2] 27);have H1:=hide (h.below b0);have B0:=hide b0;clear b0 h;unfold Xr.kindOf;obtain ⟨y,hy⟩:∃ y,(V.get x kType).getD V.nul=y:=⟨_,rfl⟩;rw [hy];have HYY:=hide hy;clear hy;go_enter Tryz.func46,Tryz.ntmps46
  go_wp2_with fail
  refine (getX_all H1.out kType hwt).mono ?_;rintro e w1 ⟨k,n,t,d1,n1,e1,d2,n2,e2,is,rfl,_,his,b1⟩;have B1:=hide (bthen B0.out b1);rw [HYY.out] at his;clear b1;obtain ⟨kv,lv,hv,hks,hls,_⟩:=his.open;simp only [Value.agg.injEq,Array.mk.injEq,List.cons.injEq,and_true,Value.int.injEq,Value.string.injEq,true_and] at hv;obtain ⟨rfl,rfl,rfl,rfl,rfl⟩:=hv;clear hks hls his
  by_cases h3:y.kind=3
  · go_wp2_with fail
    go_ret
    exact ⟨rfl,(B1.out.alloc (by have:=B1.out.size;omega) _)⟩
  · go_wp2_with fail
    go_ret
    exact ⟨rfl,(B1.out.alloc (by have:=B1.out.size;omega) _)⟩
end Go.Proofs.YtapcmbbhhclepaaGreatDoor
namespace Go.Proofs.YtapcmbbhhclepaaGreatDoor
namespace V
theorem ba_nil {t:ByteArray} (h:t.toList.isEmpty=true):t=⟨#[]⟩:=by
  refine ba_ext ?_;have e:(⟨#[]⟩:ByteArray).toList=[]:=by rw [Lib.toList_data]
  rw [e]
  simpa using h
theorem get_def (x:V) (key:ByteArray):get x key=if place x key < 0 then none else x.list[(place x key).toNat]? := rfl
theorem place_no5 {x:V} (h:x.kind≠5) (o:ByteArray):place x o=-1:=by
  obtain ⟨k,n,t,ks,l⟩:=x;simp only at h;simp only [place];rw [if_neg h]
theorem obj_open {x:V} (h:right x=true) (h5:x.kind=5):∃ ks l,x=⟨5,0,⟨#[]⟩,ks,l⟩∧Up ks∧ks.length=l.length∧l.all right=true:=by
  obtain ⟨k,n,t,ks,l⟩:=x;simp only at h5;subst h5;obtain ⟨hn,ht,hu,hl,ha⟩:=right_obj h;subst hn;obtain rfl:=ba_nil ht;exact ⟨ks,l,rfl,hu,hl,ha⟩
theorem obj_mk {ks:List ByteArray} {l:List V} (h3:Up ks) (h4:ks.length=l.length) (h5:l.all right=true):right ⟨5,0,⟨#[]⟩,ks,l⟩=true :=
  obj_right rfl (by rw [Lib.toList_data];rfl) h3 h4 h5
theorem split_at {ks:List ByteArray} {l:List V} (hl:ks.length=l.length) {key:ByteArray} (hin:key ∈ ks) :
    ∃ ka kb la z lb,ks=ka ++ key :: kb∧l=la ++ z :: lb∧ka.length=la.length∧kb.length=lb.length:=by
  obtain ⟨ka,kb,rfl⟩:=List.append_of_mem hin;have hlt:ka.length < l.length:=by simp at hl;omega
  have hsp:l=l.take ka.length ++ l[ka.length] :: l.drop (ka.length+1):=by
    rw [← List.drop_eq_getElem_cons hlt,List.take_append_drop]
  exact ⟨ka,kb,_,_,_,rfl,hsp,by rw [List.length_take];omega,by simp at hl ⊢;omega⟩
theorem get_hit (n:Int) (t:ByteArray) (key:ByteArray) (z:V) {ka kb:List ByteArray} {la lb:List V} (h1:ka.length=la.length) (h2:kb.length=lb.length) (hu:Up (ka ++ key :: kb)) :
    get ⟨5,n,t,ka ++ key :: kb,la ++ z :: lb⟩ key=some z:=by
  have hp:=(hit_form n t key z h1 h2 hu).1;rw [get_def];rw [hp,if_neg (by omega)];simp [h1]
theorem get_miss (n:Int) (t:ByteArray) (key:ByteArray) {ks:List ByteArray} {l:List V} (hl:ks.length=l.length) (hno:key ∉ ks):get ⟨5,n,t,ks,l⟩ key=none:=by
  rw [get_def];rw [place_obj n t hl,if_pos (idx_no hno)]
theorem get_mem (n:Int) (t:ByteArray) {ks:List ByteArray} {l:List V} (hl:ks.length=l.length) (hu:Up ks) (key:ByteArray) (z:V):get ⟨5,n,t,ks,l⟩ key=some z ↔ (key,z) ∈ ks.zip l:=by
  by_cases hin:key ∈ ks
  · obtain ⟨ka,kb,la,y,lb,rfl,rfl,h1,h2⟩:=split_at hl hin
    rw [get_hit n t key y h1 h2 hu,List.zip_append h1,List.zip_cons_cons];obtain ⟨n1,n2⟩:=up_no hu;constructor
    · intro h
      cases h
      simp
    · intro h
      rcases List.mem_append.1 h with h | h
      · exact absurd (List.of_mem_zip h).1 n1
      · rcases List.mem_cons.1 h with h | h
        · cases h;rfl
        · exact absurd (List.of_mem_zip h).1 n2
  · rw [get_miss n t key hl hin]
    constructor
    · intro h;cases h
    · intro h;exact absurd (List.of_mem_zip h).1 hin
theorem get_no5 {x:V} (h:x.kind≠5) (o:ByteArray):get x o=none:=by
  rw [get_def,place_no5 h,if_pos (by omega)]
theorem get_keys {x:V} (h:right x=true) (h5:x.kind=5) (o:ByteArray) (z:V) (hg:get x o=some z):o ∈ x.keys∧z ∈ x.list:=by
  obtain ⟨ks,l,rfl,hu,hl,ha⟩:=obj_open h h5;exact List.of_mem_zip ((get_mem 0 _ hl hu o z).1 hg)
theorem get_right {x:V} (h:right x=true) {o:ByteArray} {z:V} (hg:get x o=some z):right z=true:=by
  by_cases h5:x.kind=5
  · have:=(get_keys h h5 o z hg).2
    obtain ⟨ks,l,rfl,hu,hl,ha⟩:=obj_open h h5;exact List.all_eq_true.1 ha z this
  · rw [get_no5 h5] at hg;cases hg
theorem pairs_ext:∀ (ps qs:List (ByteArray×V)),ps.Pairwise (fun a b=>less a.1 b.1=true)→qs.Pairwise (fun a b=>less a.1 b.1=true)→(∀ p,p ∈ ps ↔ p ∈ qs)→ps=qs
  | [],[],_,_,_=>rfl
  | [],q :: qs,_,_,h=>absurd ((h q).2 (by simp)) (by simp)
  | p :: ps,[],_,_,h=>absurd ((h p).1 (by simp)) (by simp)
  | p :: ps,q :: qs,hp,hq,h=>by
    rw [List.pairwise_cons] at hp hq
    have e:p=q:=by
      rcases List.mem_cons.1 ((h p).1 (by simp)) with e | e
      · exact e
      · rcases List.mem_cons.1 ((h q).2 (by simp)) with e2 | e2
        · exact e2.symm
        · have h1:=hq.1 p e
          have h2:=hp.1 q e2;have:=less_trans h1 h2
          rw [less_irr] at this;cases this
    subst e;refine congrArg _ (pairs_ext ps qs hp.2 hq.2 (fun r=>⟨fun hr=>?_,fun hr=>?_⟩))
    · rcases List.mem_cons.1 ((h r).1 (List.mem_cons_of_mem _ hr)) with e | e
      · subst e
        have:=hp.1 r hr
        rw [less_irr] at this;cases this
      · exact e
    · rcases List.mem_cons.1 ((h r).2 (List.mem_cons_of_mem _ hr)) with e | e
      · subst e
        have:=hq.1 r hr
        rw [less_irr] at this;cases this
      · exact e
theorem zip_pairs {ks:List ByteArray} {l:List V} (hl:ks.length=l.length) (hu:Up ks):(ks.zip l).Pairwise (fun a b=>less a.1 b.1=true):=by
  have h:=hu.2;have e:(ks.zip l).map Prod.fst=ks:=List.map_fst_zip (by omega);rw [← e,List.pairwise_map] at h;exact h
theorem ext5 {a b:V} (ha:right a=true) (hb:right b=true) (h5:a.kind=5) (h5':b.kind=5) (h:∀ o,get a o=get b o):a=b:=by
  obtain ⟨ks,l,rfl,hu,hl,_⟩:=obj_open ha h5;obtain ⟨ks',l',rfl,hu',hl',_⟩:=obj_open hb h5'
  have e:=pairs_ext _ _ (zip_pairs hl hu) (zip_pairs hl' hu') (fun p=>by
    obtain ⟨o,z⟩:=p
    rw [← get_mem 0 ⟨#[]⟩ hl hu,← get_mem 0 ⟨#[]⟩ hl' hu',h o])
  have e1:ks=ks':=by
    have h1:(ks.zip l).map Prod.fst=ks:=List.map_fst_zip (by omega);have h2:(ks'.zip l').map Prod.fst=ks':=List.map_fst_zip (by omega);rw [← h1,← h2,e]
  have e2:l=l':=by
    have h1:(ks.zip l).map Prod.snd=l:=List.map_snd_zip (by omega);have h2:(ks'.zip l').map Prod.snd=l':=List.map_snd_zip (by omega);rw [← h1,← h2,e]
  rw [e1,e2]
theorem get_with {x:V} (h:right x=true) (h5:x.kind=5) {key:ByteArray} (hk:utf key=true) {y:V} (hy:right y=true) (o:ByteArray):get (withV x key y) o=if o=key then some y else get x o:=by
  have L:=laid_all h h5 key o hk y hy
  by_cases e:o=key
  · subst e
    obtain ⟨p,hp,hl⟩:=L.put;rw [if_pos rfl,get_def,if_neg (by omega),hp];exact hl
  · rw [if_neg e]
    rcases L.rest with h1 | ⟨h1,h2⟩ | ⟨z,p,q,h1,h2,h3,h4⟩
    · exact absurd h1 e
    · rw [get_def,get_def,if_pos h2,if_pos h1]
    · rw [get_def,get_def,if_neg (by omega),if_neg (by omega),h1,h3]
      simp only [Int.toNat_natCast];rw [h2,h4]
theorem right_with {x:V} (h:right x=true) (h5:x.kind=5) {key:ByteArray} (hk:utf key=true) {y:V} (hy:right y=true):right (withV x key y)=true:=(laid_all h h5 key key hk y hy).rw
theorem kind5_with (x:V) (key:ByteArray) (y:V):(withV x key y).kind=5:=by
  unfold withV
  by_cases h:x.kind=5
  · rw [if_pos h]
    obtain ⟨k,n,t,ks,l⟩:=x;simp only at h;subst h;unfold with5
    split <;> rfl
  · rw [if_neg h]
    unfold with5
    split <;> rfl
theorem without_hit {ka kb:List ByteArray} {la lb:List V} (n:Int) (t:ByteArray) (key:ByteArray) (z:V) (h1:ka.length=la.length) (h2:kb.length=lb.length) (hu:Up (ka ++ key :: kb)):without ⟨5,n,t,ka ++ key :: kb,la ++ z :: lb⟩ key=⟨5,n,t,ka ++ kb,la ++ lb⟩:=(hit_form n t key z h1 h2 hu).2.2
theorem without_miss {ks:List ByteArray} {l:List V} (n:Int) (t:ByteArray) (key:ByteArray) (hl:ks.length=l.length) (hno:key ∉ ks):without ⟨5,n,t,ks,l⟩ key=⟨5,n,t,ks,l⟩:=by
  unfold without;rw [place_obj n t hl,if_neg (by have:=idx_no hno;omega)]
theorem right_without {x:V} (h:right x=true) (h5:x.kind=5) (key:ByteArray):right (without x key)=true∧(without x key).kind=5:=by
  obtain ⟨ks,l,rfl,hu,hl,ha⟩:=obj_open h h5
  by_cases hin:key ∈ ks
  · obtain ⟨ka,kb,la,y,lb,rfl,rfl,h1,h2⟩:=split_at hl hin
    rw [without_hit 0 _ key y h1 h2 hu];refine ⟨obj_mk (up_sub hu) (by simp [h1,h2]) ?_,rfl⟩;rw [List.all_eq_true] at ha ⊢;intro z hz;refine ha z ?_;rcases List.mem_append.1 hz with hz | hz
    · exact List.mem_append.2 (.inl hz)
    · exact List.mem_append.2 (.inr (List.mem_cons_of_mem _ hz))
  · rw [without_miss 0 _ key hl hin]
    exact ⟨h,rfl⟩
theorem get_without {x:V} (h:right x=true) (h5:x.kind=5) (key:ByteArray) (o:ByteArray):get (without x key) o=if o=key then none else get x o:=by
  obtain ⟨ks,l,rfl,hu,hl,ha⟩:=obj_open h h5
  by_cases hin:key ∈ ks
  · obtain ⟨ka,kb,la,y,lb,rfl,rfl,h1,h2⟩:=split_at hl hin
    rw [without_hit 0 _ key y h1 h2 hu];have hl2:(ka ++ kb).length=(la ++ lb).length:=by simp [h1,h2]
    by_cases e:o=key
    · subst e
      rw [if_pos rfl];refine get_miss 0 _ o hl2 ?_;have:=up_no hu
      simp [this.1,this.2]
    · rw [if_neg e]
      refine Option.ext (fun z=>?_);rw [get_mem 0 _ hl2 (up_sub hu),get_mem 0 _ hl hu,List.zip_append h1,List.zip_append h1,List.zip_cons_cons];simp only [List.mem_append,List.mem_cons,Prod.mk.injEq];constructor
      · rintro (h | h)
        · exact .inl h
        · exact .inr (.inr h)
      · rintro (h | h | h)
        · exact .inl h
        · exact absurd h.1 e
        · exact .inr h
  · rw [without_miss 0 _ key hl hin]
    by_cases e:o=key
    · subst e
      rw [if_pos rfl,get_miss 0 _ o hl hin]
    · rw [if_neg e]
theorem without_def (x:V) (key:ByteArray):without x key=if 0≤place x key then laid x (place x key).toNat ((place x key).toNat+1) [] [] else x:=rfl
theorem without_no5 {x:V} (h:x.kind≠5) (key:ByteArray):without x key=x:=by
  rw [without_def,place_no5 h,if_neg (by omega)]
theorem right_str {s:ByteArray} (h:utf s=true):right (str s)=true:=by
  unfold str;rw [right_mk];simp [kindOk,numOk,textOk,keysOk,h]
theorem right_nul0:right nul=true:=by
  unfold nul;rw [right_mk];have e2:textOk 0 ⟨#[]⟩=true:=by unfold textOk;rw [Lib.toList_data];rfl
  rw [e2];rfl
theorem right_none5:right none5=true:=obj_mk ⟨by simp,List.Pairwise.nil⟩ rfl rfl
theorem one_key (key:ByteArray) (y:V):withV nul key y=⟨5,0,⟨#[]⟩,[key],[y]⟩:=by
  unfold withV;rw [if_neg (by show ¬ ((0:Int)=5);decide)];unfold with5
  have hp:place none5 key < 0:=by
    unfold none5;rw [place_obj 0 _ rfl];exact idx_no (by simp)
  rw [if_neg (by omega)];rfl
theorem one_get (key:ByteArray) (y:V):get ⟨5,0,⟨#[]⟩,[key],[y]⟩ key=some y:=by
  rw [get_def]
  have hp:place ⟨5,0,⟨#[]⟩,[key],[y]⟩ key=0:=by
    rw [place_obj 0 _ rfl];exact idx_yes [] [] rfl (by simp)
  rw [hp];rfl
theorem one_right {key:ByteArray} (hk:utf key=true) {y:V} (hy:right y=true):right ⟨5,0,⟨#[]⟩,[key],[y]⟩=true :=
  obj_mk ⟨by intro k hh;rw [List.mem_singleton] at hh;rw [hh];exact hk,List.pairwise_singleton _ _⟩ rfl (by simp [hy])
end V
end Go.Proofs.YtapcmbbhhclepaaGreatDoor
namespace Go.Proofs.YtapcmbbhhclepaaGreatDoor
open V
def kHashes:ByteArray:=⟨#[104,97,115,104,101,115]⟩
def kUnsigned:ByteArray:=⟨#[117,110,115,105,103,110,101,100]⟩
def kSum:ByteArray:=⟨#[115,104,97,50,53,54]⟩
theorem utf_hashes:utf kHashes=true:=by kernel_rfl
theorem utf_sum:utf kSum=true:=by kernel_rfl
theorem utf_content:utf kContent=true:=by kernel_rfl
theorem lEvent_utf:∀ k ∈ lEvent,utf k=true:=by
  have h:lEvent.all utf=true:=by kernel_rfl
  exact List.all_eq_true.1 h
namespace Xr
theorem zip_maps (ps:List (ByteArray×V)):(ps.map (·.1)).zip (ps.map (·.2))=ps:=by
  induction ps with
  | nil=>rfl
  | cons p ps ih=>simp only [List.map_cons,List.zip_cons_cons,ih]
theorem taken_right {x:V} (h:right x=true) (h5:x.kind=5) (stay:List ByteArray):right (taken x stay)=true∧(taken x stay).kind=5:=by
  obtain ⟨ks,l,rfl,hu,hl,ha⟩:=obj_open h h5;unfold taken
  have hk:((stays stay (ks.zip l)).map (·.1)).Sublist ks:=by
    have h1:(ks.zip l).map Prod.fst=ks:=List.map_fst_zip (by omega)
    have h2:((stays stay (ks.zip l)).map Prod.fst).Sublist ((ks.zip l).map Prod.fst):=by
      unfold stays;exact List.filter_sublist.map Prod.fst
    rw [h1] at h2;exact h2
  refine ⟨obj_mk ⟨fun k hk'=>hu.1 k (hk.subset hk'),hu.2.sublist hk⟩ (by simp) ?_,rfl⟩;rw [List.all_eq_true];intro z hz;obtain ⟨p,hp,rfl⟩:=List.mem_map.1 hz;unfold stays at hp;have hp1:=(List.mem_filter.1 hp).1;obtain ⟨p1,p2⟩:=p;exact List.all_eq_true.1 ha _ (List.of_mem_zip hp1).2
theorem get_taken {x:V} (h:right x=true) (h5:x.kind=5) (stay:List ByteArray) (o:ByteArray):get (taken x stay) o=if Lib.containsS stay o=true then get x o else none:=by
  have hr:=(taken_right h h5 stay).1;obtain ⟨ks,l,rfl,hu,hl,ha⟩:=obj_open h h5;unfold taken at hr ⊢;obtain ⟨_,_,hu2,hl2,_⟩:=right_obj hr;refine Option.ext (fun z=>?_);rw [get_mem 0 _ hl2 hu2,zip_maps];unfold stays;rw [List.mem_filter]
  by_cases c:Lib.containsS stay o=true
  · rw [if_pos c,get_mem 0 _ hl hu]
    simp [c]
  · rw [if_neg c]
    simp [c]
theorem ofContent_right {c:V} (h:right c=true) (h5:c.kind=5) (kind:ByteArray):right (ofContent c kind)=true∧(ofContent c kind).kind=5:=by
  unfold ofContent
  split
  · exact ⟨h,h5⟩
  · exact taken_right h h5 _
theorem get_ofContent {c:V} (h:right c=true) (h5:c.kind=5) (kind:ByteArray) (o:ByteArray):get (ofContent c kind) o=if keptB kind o=true then get c o else none:=by
  unfold ofContent keptB
  by_cases e:(kind.toList == kCreate.toList)=true
  · rw [if_pos e,e,Bool.true_or,if_pos rfl]
  · rw [if_neg e,get_taken h h5]
    rw [Bool.not_eq_true] at e;rw [e,Bool.false_or]
def keep (kind:ByteArray) (c:V):V:=if c.kind=5 then ofContent c kind else c
theorem keep_right {c:V} (h:right c=true) (kind:ByteArray):right (keep kind c)=true:=by
  unfold keep
  split
  · rename_i h5;exact (ofContent_right h h5 kind).1
  · exact h
def content (x:V):V:=(get x kContent).getD nul
def redact (x:V):V:=if x.kind=5 then (if (content x).kind=5 then withV (taken x lEvent) kContent (ofContent (content x) (kindOf x)) else taken x lEvent) else nul
theorem contentE:Lib.containsS lEvent kContent=true:=by kernel_rfl
theorem redact_right {x:V} (h:right x=true):right (redact x)=true:=by
  unfold redact
  split
  · rename_i h5
    have ht:=taken_right h h5 lEvent
    split
    · rename_i hc
      have hg:∃ c,get x kContent=some c:=by
        unfold content at hc;cases hg:get x kContent with
        | none=>rw [hg] at hc;simp [nul] at hc
        | some c=>exact ⟨c,rfl⟩
      obtain ⟨c,hg⟩:=hg;have e:content x=c:=by unfold content;rw [hg];rfl
      rw [e] at hc ⊢;exact right_with ht.1 ht.2 utf_content (ofContent_right (get_right h hg) hc _).1
    · exact ht.1
  · exact right_nul0
theorem redact_5 {x:V} (h:right x=true) (h5:x.kind=5):(redact x).kind=5:=by
  unfold redact;rw [if_pos h5]
  split
  · exact kind5_with _ _ _
  · exact (taken_right h h5 lEvent).2
theorem get_redact {x:V} (h:right x=true) (h5:x.kind=5) (o:ByteArray):get (redact x) o=if Lib.containsS lEvent o=true then (if o=kContent then (get x o).map (keep (kindOf x)) else get x o) else none:=by
  have ht:=taken_right h h5 lEvent;unfold redact;rw [if_pos h5]
  by_cases hc:(content x).kind=5
  · rw [if_pos hc]
    have hg:∃ c,get x kContent=some c:=by
      unfold content at hc;cases hg:get x kContent with
      | none=>rw [hg] at hc;simp [nul] at hc
      | some c=>exact ⟨c,rfl⟩
    obtain ⟨c,hg⟩:=hg;have e:content x=c:=by unfold content;rw [hg];rfl
    rw [e] at hc ⊢;rw [get_with ht.1 ht.2 utf_content (ofContent_right (get_right h hg) hc _).1]
    by_cases eo:o=kContent
    · subst eo
      rw [if_pos rfl,if_pos contentE,if_pos rfl,hg];simp only [Option.map_some,keep];rw [if_pos hc]
    · rw [if_neg eo,if_neg eo,get_taken h h5]
  · rw [if_neg hc,get_taken h h5]
    by_cases eo:o=kContent
    · subst eo
      rw [if_pos contentE,if_pos contentE,if_pos rfl];cases hg:get x kContent with
      | none=>rfl
      | some c =>
        have e:content x=c:=by unfold content;rw [hg];rfl
        rw [e] at hc;simp only [Option.map_some,keep];rw [if_neg hc]
    · rw [if_neg eo]
def rest (x:V):V:=without (without x kHashes) kUnsigned
theorem rest_right {x:V} (h:right x=true) (h5:x.kind=5):right (rest x)=true∧(rest x).kind=5 :=
  right_without (right_without h h5 kHashes).1 (right_without h h5 kHashes).2 kUnsigned
theorem rest_right' {x:V} (h:right x=true):right (rest x)=true:=by
  by_cases h5:x.kind=5
  · exact (rest_right h h5).1
  · unfold rest
    rw [without_no5 h5,without_no5 h5];exact h
theorem rest_congr {a b:V} (ha:right a=true) (hb:right b=true) (ha5:a.kind=5) (hb5:b.kind=5) (h:∀ o,o≠kHashes→o≠kUnsigned→get a o=get b o):rest a=rest b:=by
  have e:∀ {x:V},right x=true→x.kind=5→∀ o,get (rest x) o=if o=kUnsigned then none else if o=kHashes then none else get x o:=fun hx hx5 o=>by
    have h1:=right_without hx hx5 kHashes;unfold rest;rw [get_without h1.1 h1.2,get_without hx hx5]
  refine ext5 (rest_right ha ha5).1 (rest_right hb hb5).1 (rest_right ha ha5).2 (rest_right hb hb5).2 (fun o=>?_);rw [e ha ha5,e hb hb5]
  by_cases e1:o=kUnsigned
  · rw [if_pos e1,if_pos e1]
  · rw [if_neg e1,if_neg e1]
    by_cases e2:o=kHashes
    · rw [if_pos e2,if_pos e2]
    · rw [if_neg e2,if_neg e2,h o e2 e1]
def sumV (h:ByteArray):V:=⟨5,0,⟨#[]⟩,[kSum],[str h]⟩
theorem sumV_right {h:ByteArray} (hu:utf h=true):right (sumV h)=true:=one_right utf_sum (right_str hu)
def sealedBy (h:ByteArray) (x:V):V:=withV x kHashes (sumV h)
def told (x:V):V:=(get ((get x kHashes).getD nul) kSum).getD nul
theorem sealed_right {x:V} {h:ByteArray} (hx:right x=true) (h5:x.kind=5) (hu:utf h=true):right (sealedBy h x)=true∧(sealedBy h x).kind=5 :=
  ⟨right_with hx h5 utf_hashes (sumV_right hu),kind5_with _ _ _⟩
theorem get_sealed {x:V} {h:ByteArray} (hx:right x=true) (h5:x.kind=5) (hu:utf h=true) (o:ByteArray):get (sealedBy h x) o=if o=kHashes then some (sumV h) else get x o:=get_with hx h5 utf_hashes (sumV_right hu) o
theorem rest_sealed {x:V} {h:ByteArray} (hx:right x=true) (h5:x.kind=5) (hu:utf h=true):rest (sealedBy h x)=rest x :=
  rest_congr (sealed_right hx h5 hu).1 hx (sealed_right hx h5 hu).2 h5 (fun o e1 e2=>by rw [get_sealed hx h5 hu,if_neg e1])
theorem told_sum (x:V) (h:ByteArray) (hg:get x kHashes=some (sumV h)):told x=str h:=by
  unfold told;rw [hg];simp only [Option.getD_some];unfold sumV;rw [one_get];rfl
theorem told_sealed {x:V} {h:ByteArray} (hx:right x=true) (h5:x.kind=5) (hu:utf h=true):told (sealedBy h x)=str h :=
  told_sum _ h (by rw [get_sealed hx h5 hu,if_pos rfl])
def contentTo (kind:ByteArray) (c:V):Nat→V
  | 0=>c
  | i+1=>if keptB kind (c.keys.getD i ByteArray.empty)=true then contentTo kind c i else without (contentTo kind c i) (c.keys.getD i ByteArray.empty)
theorem contentTo_is {c:V} (h:right c=true) (h5:c.kind=5) (kind:ByteArray):∀ i,i≤c.keys.length→right (contentTo kind c i)=true∧(contentTo kind c i).kind=5∧∀ o,get (contentTo kind c i) o=if Lib.containsS (c.keys.take i) o=true∧keptB kind o=false then none else get c o
  | 0,_=>⟨h,h5,fun o=>by rw [if_neg (by rw [Lib.containsS_iff];simp)];rfl⟩
  | i+1,hi=>by
    obtain ⟨h1,h2,h3⟩:=contentTo_is h h5 kind i (by omega);have ek:c.keys.getD i ByteArray.empty=c.keys[i]:=by simp [List.getD,show i < c.keys.length by omega]
    have et:∀ o,Lib.containsS (c.keys.take (i+1)) o=true ↔ Lib.containsS (c.keys.take i) o=true∨o=c.keys[i]:=fun o=>by
      rw [Lib.containsS_iff,Lib.containsS_iff,List.take_succ_eq_append_getElem (by omega),List.mem_append,List.mem_singleton]
    simp only [contentTo,ek]
    by_cases hk:keptB kind c.keys[i]=true
    · rw [if_pos hk]
      refine ⟨h1,h2,fun o=>?_⟩;rw [h3]
      by_cases e:o=c.keys[i]
      · rw [if_neg (by rw [e,hk];simp),if_neg (by rw [e,hk];simp)]
      · simp only [et,e,or_false]
    · rw [if_neg hk]
      rw [Bool.not_eq_true] at hk;have hw:=right_without h1 h2 c.keys[i];refine ⟨hw.1,hw.2,fun o=>?_⟩;rw [get_without h1 h2,h3]
      by_cases e:o=c.keys[i]
      · rw [if_pos e,if_pos ⟨(et o).2 (.inr e),by rw [e];exact hk⟩]
      · rw [if_neg e]
        simp only [et,e,or_false]
theorem contentTo_end {c:V} (h:right c=true) (h5:c.kind=5) (kind:ByteArray):contentTo kind c c.keys.length=ofContent c kind:=by
  obtain ⟨h1,h2,h3⟩:=contentTo_is h h5 kind c.keys.length (Nat.le_refl _);have ho:=ofContent_right h h5 kind;refine ext5 h1 ho.1 h2 ho.2 (fun o=>?_);rw [h3,get_ofContent h h5,List.take_length];cases hk:keptB kind o with
  | true=>simp
  | false =>
    by_cases hm:o ∈ c.keys
    · rw [if_pos ⟨(Lib.containsS_iff _ _).2 hm,rfl⟩]
      simp
    · rw [if_neg (fun hh=>hm ((Lib.containsS_iff _ _).1 hh.1))]
      obtain ⟨ks,l,rfl,hu,hl,ha⟩:=obj_open h h5;rw [get_miss 0 _ o hl hm];rfl
def refTo (x:V) (kind:ByteArray):Nat→V
  | 0=>none5
  | i+1=>match get x (lEvent.getD i ByteArray.empty) with
    | none=>refTo x kind i
    | some y=>withV (refTo x kind i) (lEvent.getD i ByteArray.empty) (if lEvent.getD i ByteArray.empty=kContent then keep kind y else y)
theorem lEvent_nodup:∀ i,i < 10→lEvent.getD i ByteArray.empty ∉ lEvent.take i:=by
  have h:(List.range 10).all (fun i=>(lEvent.take i).all (fun k=>!(k.data.toList == (lEvent.getD i ByteArray.empty).data.toList)))=true:=by kernel_rfl
  intro i hi hm;have h1:=List.all_eq_true.1 h i (List.mem_range.2 hi);have h2:=List.all_eq_true.1 h1 _ hm;simp at h2
theorem refTo_is {x:V} (h:right x=true) (kind:ByteArray):∀ i,i≤10→right (refTo x kind i)=true∧(refTo x kind i).kind=5∧∀ o,get (refTo x kind i) o=if Lib.containsS (lEvent.take i) o=true then (if o=kContent then (get x o).map (keep kind) else get x o) else none
  | 0,_=>⟨right_none5,rfl,fun o=>by
      rw [if_neg (by rw [Lib.containsS_iff];simp)]
      exact get_miss 0 _ o rfl (by simp)⟩
  | i+1,hi=>by
    obtain ⟨h1,h2,h3⟩:=refTo_is h kind i (by omega);have hl:i < lEvent.length:=by have:lEvent.length=10:=rfl;omega
    have hu:utf (lEvent.getD i ByteArray.empty)=true:=by
      have e:lEvent.getD i ByteArray.empty=lEvent[i]:=by simp [List.getD,hl]
      rw [e];exact lEvent_utf _ (List.getElem_mem hl)
    have et:∀ o,Lib.containsS (lEvent.take (i+1)) o=true ↔ Lib.containsS (lEvent.take i) o=true∨o=lEvent.getD i ByteArray.empty:=fun o=>by
      have e:lEvent.getD i ByteArray.empty=lEvent[i]:=by simp [List.getD,hl]
      rw [Lib.containsS_iff,Lib.containsS_iff,e,List.take_succ_eq_append_getElem hl,List.mem_append,List.mem_singleton]
    have hn:¬ Lib.containsS (lEvent.take i) (lEvent.getD i ByteArray.empty)=true:=fun hh=>lEvent_nodup i (by omega) ((Lib.containsS_iff _ _).1 hh)
    simp only [refTo];generalize lEvent.getD i ByteArray.empty=key at hu et hn;cases hg:get x key with
    | none =>
      refine ⟨h1,h2,fun o=>?_⟩;simp only;rw [h3]
      by_cases e:o=key
      · subst e
        rw [if_neg hn,if_pos ((et o).2 (.inr rfl)),hg];simp
      · simp only [et,e,or_false]
    | some y =>
      simp only;have hy:=get_right h hg
      have hz:right (if key=kContent then keep kind y else y)=true:=by
        split
        · exact keep_right hy kind
        · exact hy
      refine ⟨right_with h1 h2 hu hz,kind5_with _ _ _,fun o=>?_⟩;rw [get_with h1 h2 hu hz,h3]
      by_cases e:o=key
      · subst e
        rw [if_pos rfl,if_pos ((et o).2 (.inr rfl)),hg]
        by_cases ec:o=kContent
        · simp [ec]
        · simp [ec]
      · rw [if_neg e]
        simp only [et,e,or_false]
def refKind (x:V):ByteArray:=((get x kType).getD nul).text
theorem refKind_is {x:V} (h:right x=true):refKind x=kindOf x:=by
  unfold refKind kindOf;cases hg:get x kType with
  | none=>rfl
  | some y =>
    simp only [Option.getD_some]
    by_cases h3:y.kind=3
    · rw [if_pos h3]
    · rw [if_neg h3]
      have hy:=get_right h hg;obtain ⟨k,n,t,ks,l⟩:=y;rw [right_mk] at hy;simp only [Bool.and_eq_true] at hy;simp only at h3 ⊢;have ht:=hy.1.1.1.2;unfold textOk at ht;have e:(k == 3)=false:=by simp [h3]
      rw [e] at ht;simp only [Bool.false_and,Bool.or_false] at ht;exact ba_nil ht
theorem ref_redact {x:V} (h:right x=true) (h5:x.kind=5):refTo x (refKind x) 10=redact x:=by
  obtain ⟨h1,h2,h3⟩:=refTo_is h (refKind x) 10 (Nat.le_refl _);refine ext5 h1 (redact_right h) h2 (redact_5 h h5) (fun o=>?_);rw [h3,get_redact h h5,refKind_is h];rfl
end Xr
end Go.Proofs.YtapcmbbhhclepaaGreatDoor
