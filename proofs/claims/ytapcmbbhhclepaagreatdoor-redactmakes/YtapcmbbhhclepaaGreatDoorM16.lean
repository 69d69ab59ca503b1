/-
  What this claim takes of the earlier layers' texts: WVal.
-/
import Derived.Test.YtapcmbbhhclepaaGreatDoorM15
import Derived.Deep.RegionWith
import Derived.BigRegion
import Derived.Deep.DeepCutAuto
import Derived.Deep.CutBlock
import Derived.StillTailTactics
set_option linter.unusedVariables false
set_option linter.unusedSimpArgs false
set_option maxRecDepth 100000
namespace Go.Proofs.YtapcmbbhhclepaaGreatDoor
open Go.RowKit
theorem refWith_any5 {v vy:Value} {x y:V} {w:World} {S:Nat→Prop} (h:Is w S v x) (h':Is w S vy y) (hwx:V.wt x≤1000000000) (key:ByteArray) (hkey:key.size≤1000000000) (h5:x.kind=5) :
    Calls Tryz.prog 25 #[v,.string key,vy] w fun e w'=>∃ k n t a1 n1 c1 a2 n2 c2,e=.returned (.agg #[.int .i64 k,.int .i64 n,.string t,.slice a1 n1 c1,.slice a2 n2 c2])∧Is w' (fun b=>S b∨w.heap.size≤b) (.agg #[.int .i64 k,.int .i64 n,.string t,.slice a1 n1 c1,.slice a2 n2 c2]) (V.withV x key y)∧Below w.heap.size w w':=by
  have e:V.withV x key y=V.with5 x key y:=by unfold V.withV;rw [if_pos h5]
  rw [e];unfold V.with5
  by_cases hp:0≤V.place x key
  · rw [if_pos hp]
    exact refWith_hit h h' hwx key hkey h5 _ (by omega)
  · rw [if_neg hp]
    exact refWith_miss h h' hwx key hkey h5 _ rfl (by omega)
def keyArr:Array Value:=#[.string ⟨#[97]⟩,.string ⟨#[98]⟩,.string ⟨#[109,101,109,98,101,114,115,104,105,112]⟩,.string ⟨#[117,115,101,114,115]⟩,.string ⟨#[195,169]⟩,.string ⟨#[101,118,101,110,116,115]⟩,.string ⟨#[120]⟩,.string ⟨#[116,121,112,101]⟩]
def Held (w wr:World) (lv:Value) (L:List V):Prop :=
  ∃ es,wr.ownsRow (w.heap.size+2) 27 5 lv L.length (cellsQ es)∧Els wr (fun b=>w.heap.size+2≤b∧some b≠lv.ownBlock) es L
def HeldX (w wr:World) (gx:Nat) (lv:Value) (L:List V):Prop :=
  ∃ es,wr.ownsRow (w.heap.size+2) 27 5 lv L.length (cellsQ es)∧Els wr (fun b=>w.heap.size+2≤b∧some b≠lv.ownBlock∧b≠gx) es L
theorem own_keep {w w':World} {base:Nat} {e:TypeId} {sz:Nat} {v:Value} {n:Nat} {xs:List Value} (h:w.ownsRow base e sz v n xs) (k:∀ g,v.ownBlock=some g→w'.heap[g]? = w.heap[g]?):w'.ownsRow base e sz v n xs:=by
  obtain ⟨h1,h2⟩:=h;refine ⟨h1,?_⟩;rcases h2 with h2 | ⟨g,cap,cur,hv,hb,hg,r⟩
  · exact .inl h2
  · refine .inr ⟨g,cap,cur,hv,hb,?_,r⟩
    rw [k g (by rw [hv];rfl)];exact hg
theorem own_below {w w':World} {base:Nat} {e:TypeId} {sz:Nat} {v:Value} {n:Nat} {xs:List Value} (h:w.ownsRow base e sz v n xs) (k:Below w.heap.size w w'):w'.ownsRow base e sz v n xs :=
  own_keep h (fun g hg=>k.block g (h.lt g hg).2)
theorem own_front {w:World} {base:Nat} {e:TypeId} {sz:Nat} {a:Option Addr} {n c:Nat} {xs:List Value} (h:w.ownsRow base e sz (.slice a n c) n xs) {m:Nat} (hm:m≤n):w.ownsRow base e sz (.slice a m c) m (xs.take (m * sz)):=by
  obtain ⟨h1,h2⟩:=h;have hle:m * sz≤n * sz:=Nat.mul_le_mul_right _ hm;refine ⟨by rw [List.length_take];omega,?_⟩;rcases h2 with ⟨hv,hn⟩ | ⟨g,cap,cur,hv,hb,hg,hnc,hcm,hcs,ht⟩
  · simp only [Value.slice.injEq] at hv
    obtain ⟨rfl,_,rfl⟩:=hv;have:m=0:=by omega
    subst this;exact .inl ⟨rfl,rfl⟩
  · simp only [Value.slice.injEq] at hv
    obtain ⟨rfl,_,rfl⟩:=hv;refine .inr ⟨g,c,cur,rfl,hb,hg,by omega,hcm,hcs,?_⟩;rw [← ht,List.take_take,Nat.min_eq_left hle]
theorem Els.cells {w:World} {S:Nat→Prop} {es:List (Value×Value×Value×Value×Value)} {l:List V} (h:Els w S es l):∀ u ∈ cellsQ es,u.oneCell'=true:=by
  intro u hu;obtain ⟨e,he,hue⟩:=List.mem_flatMap.1 hu;obtain ⟨i,hi,rfl⟩:=List.getElem_of_mem he;obtain ⟨kv,lv,q,⟨_,_,rfl,_⟩,⟨_,_,_,rfl,_⟩,_⟩:=(h.2 i hi (by rw [← h.1];exact hi)).open;unfold aggQ at q;simp only [Value.agg.injEq,Array.mk.injEq,List.cons.injEq,and_true] at q;obtain ⟨q0,q1,q2,q3,q4⟩:=q;simp only [five,q0,q1,q2,q3,q4,List.mem_cons,List.not_mem_nil,or_false] at hue;rcases hue with rfl | rfl | rfl | rfl | rfl <;> rfl
def Frame (w wr:World):Prop :=
  Below w.heap.size w wr∧w.heap.size+2≤wr.heap.size∧BoxF wr w.heap.size (.int .i64 0) (.int .i64 0) (.string ⟨#[]⟩) (.slice none 0 0) (.slice none 0 0)∧Row wr (w.heap.size+1) 8 (fun i=>keyArr.getD i undef)
theorem Frame.go {w wr w':World} (h:Frame w wr) (b:Below (w.heap.size+2) wr w'):Frame w w':=by
  obtain ⟨h1,h2,h3,h4⟩:=h;refine ⟨h1.trans (b.mono (by omega)),Nat.le_trans h2 b.size,?_,?_⟩
  · obtain ⟨⟨c0,c1,c2,c3,c4⟩,f0,f1,f2,f3,f4⟩:=h3
    refine ⟨⟨?_,?_,?_,?_,?_⟩,?_,?_,?_,?_,?_⟩
    all_goals first
      | (rw [b.cell (p:=⟨w.heap.size,_,none⟩) (by show w.heap.size < w.heap.size+2;omega)];assumption)
      | (rw [b.frozen (p:=⟨w.heap.size,_,none⟩) (by show w.heap.size < w.heap.size+2;omega)];assumption)
  · intro i hi
    obtain ⟨q1,q2⟩:=h4 i hi;exact ⟨by rw [b.cell (p:=⟨w.heap.size+1,i,none⟩) (by show w.heap.size+1 < w.heap.size+2;omega)];exact q1,by rw [b.frozen (p:=⟨w.heap.size+1,i,none⟩) (by show w.heap.size+1 < w.heap.size+2;omega)];exact q2⟩
def Meet (w wc:World) (gx:Nat) (s:Value) (L':List V) (X:V):Prop :=
  ∃ la lc k n t a1 n1 c1 a2 n2 c2,s=.slice la L'.length lc∧HeldX w wc gx s L'∧BoxF wc gx (.int .i64 k) (.int .i64 n) (.string t) (.slice a1 n1 c1) (.slice a2 n2 c2)∧Is wc (fun b=>w.heap.size+2≤b∧some b≠s.ownBlock∧b≠gx) (.agg #[.int .i64 k,.int .i64 n,.string t,.slice a1 n1 c1,.slice a2 n2 c2]) X∧Frame w wc∧gx < wc.heap.size∧w.heap.size+2≤gx
theorem HeldX.of {w wr w':World} {la:Option Addr} {lc:Nat} {L:List V} {es:List (Value×Value×Value×Value×Value)} (ho:wr.ownsRow (w.heap.size+2) 27 5 (.slice la L.length lc) L.length (cellsQ es)) (he:Els wr (fun b=>w.heap.size+2≤b∧some b≠(Value.slice la L.length lc).ownBlock) es L) (b:Below wr.heap.size wr w') (gx:Nat) (hg:wr.heap.size≤gx) :
    HeldX w w' gx (.slice la L.length lc) L:=by
  refine ⟨es,own_below ho b,?_⟩;exact (he.weak (S':=fun b=>w.heap.size+2≤b∧some b≠(Value.slice la L.length lc).ownBlock∧b≠gx) (fun b hb h=>⟨h.1,h.2,by omega⟩)).keep (Keeps.of_below b)
theorem HeldX.cut {w w':World} {la:Option Addr} {lc gx:Nat} {L:List V} (h:HeldX w w' gx (.slice la L.length lc) L) (m:Nat) (hm:m≤L.length):HeldX w w' gx (.slice la m lc) (L.take m):=by
  obtain ⟨es,h1,h2⟩:=h;have hes:=h2.1;refine ⟨es.take m,?_,?_⟩
  · have:=own_front h1 hm
    rw [cellsQ_take _ _ (by omega)] at this
    rwa [List.length_take,Nat.min_eq_left hm]
  · have:=h2.take m
    cases la with
    | none=>exact this
    | some x=>exact this
theorem meet_plain {w wr w1:World} {la:Option Addr} {lc:Nat} {L:List V} {es:List (Value×Value×Value×Value×Value)} (ho:wr.ownsRow (w.heap.size+2) 27 5 (.slice la L.length lc) L.length (cellsQ es)) (he:Els wr (fun b=>w.heap.size+2≤b∧some b≠(Value.slice la L.length lc).ownBlock) es L) (b:Below wr.heap.size wr w1) (hf:Frame w w1)
    (k n:Int) (t:ByteArray) (ht:t.size≤maxLen):Meet w (w1.alloc (.cells #[.int .i64 k,.int .i64 n,.string t,.slice none 0 0,.slice none 0 0] 27)) w1.heap.size (.slice la L.length lc) L ⟨k,n,t,[],[]⟩:=by
  refine ⟨la,lc,k,n,t,none,0,0,none,0,0,rfl,HeldX.of ho he (bthen b (below_alloc _ _)) _ b.size,boxF_at w1 _ _ _ _ _ _ _ rfl,is_plain _ _ k n t ht,hf.go ((below_alloc _ _).mono hf.2.1),by simp,hf.2.1⟩
theorem meet_box {w wr w1 w3:World} {la:Option Addr} {lc:Nat} {L:List V} {es:List (Value×Value×Value×Value×Value)} {k n:Int} {t:ByteArray} (ho:wr.ownsRow (w.heap.size+2) 27 5 (.slice la L.length lc) L.length (cellsQ es)) (he:Els wr (fun b=>w.heap.size+2≤b∧some b≠(Value.slice la L.length lc).ownBlock) es L) (b:Below wr.heap.size wr w1) (hf:Frame w w1)
    (b3:Below w1.heap.size w1 w3) (hb:BoxF w3 w1.heap.size (.int .i64 k) (.int .i64 n) (.string t) (.slice none 0 0) (.slice none 0 0)) (ht:t.size≤maxLen):Meet w w3 w1.heap.size (.slice la L.length lc) L ⟨k,n,t,[],[]⟩ :=
  ⟨la,lc,k,n,t,none,0,0,none,0,0,rfl,HeldX.of ho he (bthen b b3) _ b.size,hb,is_plain _ _ k n t ht,hf.go (b3.mono hf.2.1),cell_size hb.1.1,hf.2.1⟩
theorem slice_mid_u8 (a:Option Addr) (n cap l h:Nat) (h1:l≤h) (h2:h≤cap) (W:World) :
    (Instr.slice 22 (.slice a n cap) (some (.int .i64 (l:Int))) (some (.int .i64 (h:Int))) none).run Tryz.prog W=.ok (.slice (tailAddr a cap l 1) (h - l) (cap - l)) W:=by
  rw [run_slice_lh (P:=Tryz.prog) W _ a n cap Tryz.underlying22 .i64 .i64 (l:Int) (h:Int) (by omega) (by omega) (by omega)];simp [sliced,go_sem,tailAddr]
theorem val_end {w wr:World} {la:Option Addr} {lc:Nat} {L:List V} {x:V} {es:List (Value×Value×Value×Value×Value)} (ho:wr.ownsRow (w.heap.size+2) 27 5 (.slice la L.length lc) L.length (cellsQ es)) (he:Els wr (fun b=>w.heap.size+2≤b∧some b≠(Value.slice la L.length lc).ownBlock) es L) (b:Below w.heap.size w wr) (hv:x=⟨4,0,⟨#[]⟩,[],L⟩) :
    ∃ a2 n2 c2,Ending.returned (.agg #[.int .i64 4,.int .i64 0,.string ⟨#[]⟩,.slice none 0 0,.slice la L.length lc])=.returned (.agg #[.int .i64 4,.int .i64 0,.string ⟨#[]⟩,.slice none 0 0,.slice a2 n2 c2])∧Is (((((wr.setCell ⟨w.heap.size,0,none⟩ (.int .i64 4)).setCell ⟨w.heap.size,1,none⟩ (.int .i64 0)).setCell ⟨w.heap.size,2,none⟩ (.string ⟨#[]⟩)).setCell ⟨w.heap.size,3,none⟩ (.slice none 0 0)).setCell ⟨w.heap.size,4,none⟩ (.slice la L.length lc)) (fun b=>w.heap.size≤b) (.agg #[.int .i64 4,.int .i64 0,.string ⟨#[]⟩,.slice none 0 0,.slice a2 n2 c2]) x∧Below w.heap.size w (((((wr.setCell ⟨w.heap.size,0,none⟩ (.int .i64 4)).setCell ⟨w.heap.size,1,none⟩ (.int .i64 0)).setCell ⟨w.heap.size,2,none⟩ (.string ⟨#[]⟩)).setCell ⟨w.heap.size,3,none⟩ (.slice none 0 0)).setCell ⟨w.heap.size,4,none⟩ (.slice la L.length lc)):=by
  refine ⟨la,L.length,lc,rfl,?_,((((b.setCell (Nat.le_refl _) _).setCell (Nat.le_refl _) _).setCell (Nat.le_refl _) _).setCell (Nat.le_refl _) _).setCell (Nat.le_refl _) _⟩;subst hv;have kp:=keeps_set5 (S:=fun b=>w.heap.size+2≤b) (w:=wr) (g:=w.heap.size) (o:=0) (.int .i64 4) (.int .i64 0) (.string ⟨#[]⟩) (.slice none 0 0) (.slice la L.length lc) (by omega);refine Is.shut (x:=⟨4,0,⟨#[]⟩,[],L⟩) (strs_nil _ _) ?_ (Nat.zero_le _);exact (isL_of_raw ((Raw.of_own ho he.cells).keep kp) ((he.weak (S':=fun b=>w.heap.size+2≤b) (fun b _ h=>h.1)).keep kp)).weak (fun b _ h=>Nat.le_trans (Nat.le_add_right _ 2) h)
theorem u8_wrap {z:Int} (h0:0≤z) (h1:z≤255):IntKind.u8.wrap z=z:=by
  have:z % 256=z:=Int.emod_eq_of_lt h0 (by omega)
  simp [IntKind.wrap,IntKind.bits,IntKind.signed];omega
theorem own_cut (la:Option Addr) (m m' lc:Nat):(Value.slice la m lc).ownBlock=(Value.slice la m' lc).ownBlock:=by cases la <;> rfl
theorem meet_list {w wr w1:World} {la:Option Addr} {lc:Nat} {L:List V} {es:List (Value×Value×Value×Value×Value)} {ll kk kc:Nat} {ka:Option Addr} (ho:wr.ownsRow (w.heap.size+2) 27 5 (.slice la L.length lc) L.length (cellsQ es)) (he:Els wr (fun b=>w.heap.size+2≤b∧some b≠(Value.slice la L.length lc).ownBlock) es L) (b:Below wr.heap.size wr w1) (hf:Frame w w1)
    (ho1:w1.ownsRow wr.heap.size 27 5 (.slice ka kk kc) kk (cellsQ (es.drop ll))) (hl:ll≤L.length) (hk:L.length - ll=kk) (hwr:w.heap.size+2≤wr.heap.size) :
    Meet w (w1.alloc (.cells #[.int .i64 4,.int .i64 0,.string ⟨#[]⟩,.slice none 0 0,.slice ka kk kc] 27)) w1.heap.size (.slice la ll lc) (L.take ll) ⟨4,0,⟨#[]⟩,[],L.drop ll⟩:=by
  have hx:=(HeldX.of ho he (bthen b (below_alloc w1 (.cells #[.int .i64 4,.int .i64 0,.string ⟨#[]⟩,.slice none 0 0,.slice ka kk kc] 27))) w1.heap.size b.size).cut ll hl;have hown:=ho.lt;refine ⟨la,lc,4,0,⟨#[]⟩,none,0,0,ka,kk,kc,by rw [List.length_take,Nat.min_eq_left hl],hx,boxF_at w1 _ _ _ _ _ _ _ rfl,?_,hf.go ((below_alloc _ _).mono hf.2.1),by simp,hf.2.1⟩;refine Is.below (w:=w1) ?_ (below_alloc _ _);refine Is.shut (x:=⟨4,0,⟨#[]⟩,[],L.drop ll⟩) (strs_nil _ _) ?_ (Nat.zero_le _);have hfs:=hf.2.1;have hbs:=b.size
  have hd:Els w1 (fun b=>w.heap.size+2≤b∧some b≠(Value.slice la ll lc).ownBlock∧b≠w1.heap.size) (es.drop ll) (L.drop ll) :=
    ((he.weak (S':=fun b=>w.heap.size+2≤b∧some b≠(Value.slice la ll lc).ownBlock∧b≠w1.heap.size) (fun b hb h=>⟨h.1,by rw [own_cut la ll L.length];exact h.2,by omega⟩)).keep (Keeps.of_below b)).drop ll
  refine isL_of_raw (m:=kk) ?_ hd;refine (Raw.of_own ho1 hd.cells).weak (fun b hb h=>⟨?_,?_,by omega⟩)
  · exact Nat.le_trans hwr h
  · intro e
    have:=(hown b (by rw [own_cut la L.length ll];exact e.symm)).2
    omega
theorem own_lt {w:World} {base:Nat} {la:Option Addr} {n m lc:Nat} {xs:List Value} (ho:w.ownsRow base 27 5 (.slice la n lc) n xs):∀ g,some g=(Value.slice la m lc).ownBlock→g < w.heap.size:=by
  intro g hg;exact (ho.lt g (by rw [own_cut la n m];exact hg.symm)).2
theorem kids_is {w wr w1:World} {la:Option Addr} {lc:Nat} {L:List V} {es:List (Value×Value×Value×Value×Value)} {ll kk kc:Nat} {ka:Option Addr} (ho:wr.ownsRow (w.heap.size+2) 27 5 (.slice la L.length lc) L.length (cellsQ es)) (he:Els wr (fun b=>w.heap.size+2≤b∧some b≠(Value.slice la L.length lc).ownBlock) es L) (b:Below wr.heap.size wr w1)
    (ho1:w1.ownsRow wr.heap.size 27 5 (.slice ka kk kc) kk (cellsQ (es.drop ll))) (hl:ll≤L.length) (hk:L.length - ll=kk) (hwr:w.heap.size+2≤wr.heap.size) :
    IsL w1 (fun b=>w.heap.size+2≤b∧some b≠(Value.slice la ll lc).ownBlock∧b≠w1.heap.size) (.slice ka kk kc) (L.drop ll):=by
  have hbs:=b.size
  have hd:Els w1 (fun b=>w.heap.size+2≤b∧some b≠(Value.slice la ll lc).ownBlock∧b≠w1.heap.size) (es.drop ll) (L.drop ll) :=
    ((he.weak (S':=fun b=>w.heap.size+2≤b∧some b≠(Value.slice la ll lc).ownBlock∧b≠w1.heap.size) (fun b hb h=>⟨h.1,by rw [own_cut la ll L.length];exact h.2,by omega⟩)).keep (Keeps.of_below b)).drop ll
  refine isL_of_raw (m:=kk) ?_ hd;refine (Raw.of_own ho1 hd.cells).weak (fun b hb h=>⟨Nat.le_trans hwr h,?_,by omega⟩);intro e;have:=own_lt ho b e
  omega
theorem key_at {z1:Int} {jj q:Nat} (h:(z1.toNat / 4+3 * jj) % 8=q) (hq:q < 8):keyArr.getD q undef=.string (V.objKey z1 jj):=by
  unfold V.objKey;rw [h];have:q=0∨q=1∨q=2∨q=3∨q=4∨q=5∨q=6∨q=7:=by omega
  rcases this with rfl | rfl | rfl | rfl | rfl | rfl | rfl | rfl <;> rfl
set_option maxHeartbeats 4000000 in
set_option maxRecDepth 100000 in
theorem val_any (a:Option Addr) (len cap:Nat) (zs:List Int) (w:World) (h:IsRow .u8 w a len cap zs) :
    Calls Tryz.prog 36 #[.slice a len cap] w fun e w'=>∃ a2 n2 c2,e=.returned (.agg #[.int .i64 4,.int .i64 0,.string ⟨#[]⟩,.slice none 0 0,.slice a2 n2 c2])∧Is w' (fun b=>w.heap.size≤b) (.agg #[.int .i64 4,.int .i64 0,.string ⟨#[]⟩,.slice none 0 0,.slice a2 n2 c2]) (V.valV zs len)∧Below w.heap.size w w':=by
  obtain ⟨h1,h2,h3,h4⟩:=h.view;have hlen:len≤9223372036854775807:=h2
  have hlc:len≤cap:=by
    rcases h with ⟨rfl,rfl,rfl,rfl⟩ | ⟨x,_,hl,_⟩
    · exact Nat.le_refl _
    · exact hl
  have HLC:=hide hlc;clear hlc;have H1:=hide h1;have H3:=hide h3;have H4:=hide h4;clear h h1 h2 h3 h4;go_enter Tryz.func36,Tryz.ntmps36
  go_wp2_with fail
  go_loopg [3,5] 31 (fun g lv i wr=>∃ (r n:Nat) (la:Option Addr) (lc:Nat),r+g=31∧r≤min 30 (len / 2)∧Hid (n=2 * r)∧i=.int .i64 n∧lv=.slice la (V.valTo zs len r).length lc∧Hid (Held w wr lv (V.valTo zs len r))∧Hid (Frame w wr))
  case atStart =>
    refine ⟨0,0,none,0,by omega,by omega,rfl,rfl,rfl,⟨[],World.ownsRow_nil _ _ _ _,Els.nil _ _⟩,?_⟩;refine ⟨bthen (below_alloc _ _) (below_alloc _ _),by simp,(boxF_at w _ _ _ _ _ 27 _ rfl).keep (below_alloc _ _),?_⟩;exact row_new _ keyArr 9 _ (by simp)
  case round =>
    obtain ⟨r,n,la,lc,hg,hr,hn,rfl,rfl,HL,HF⟩:=hrel;obtain ⟨L,hL⟩:∃ L,V.valTo zs len r=L:=⟨_,rfl⟩;have hLl:=V.wt_valTo zs len r;rw [hL] at hLl HL;have hLen:L.length≤4000:=Nat.le_trans (V.wtL_len L) (by omega);have HLV:=hide hL;have HLW:=hide hLl;rw [hL];clear hL hLl
    by_cases hrl:r < min 30 (len / 2)
    · have hn1:n+1 < len:=by have:=hn.out;omega
      have hn60:n < 60:=by have:=hn.out;omega
      obtain ⟨b,off,rfl,e0⟩:=H4.out n (by omega);obtain ⟨b',off',hbe,e1⟩:=H4.out (n+1) hn1;simp only [Option.some.injEq,Addr.mk.injEq,and_true] at hbe;obtain ⟨rfl,rfl⟩:=hbe;obtain ⟨z0,hz0⟩:∃ z,zs.getD n 0=z:=⟨_,rfl⟩;obtain ⟨z1,hz1⟩:∃ z,zs.getD (n+1) 0=z:=⟨_,rfl⟩;have w0:=getD_u8 H3.out n (by have:=H1.out;omega);have w1:=getD_u8 H3.out (n+1) (by have:=H1.out;omega);rw [hz0] at e0 w0;rw [hz1] at e1 w1;have HZ0:=hide hz0;have HZ1:=hide hz1;clear hz0 hz1;have e0':=cell_keep e0 HF.out.1;have e1':=cell_keep e1 HF.out.1;clear e0 e1;obtain ⟨kk,hkk⟩:∃ k,V.kidsN z1 L=k:=⟨_,rfl⟩;have hkI:min (z1 % 4) (L.length:Int)=(kk:Int):=by rw [← hkk];unfold V.kidsN;omega
      have hkL:kk≤L.length:=by rw [← hkk];unfold V.kidsN;omega
      have HKK:=hide hkk;clear hkk;obtain ⟨ll,hll⟩:∃ k,L.length - kk=k:=⟨_,rfl⟩;have hllI:(L.length:Int) - (kk:Int)=(ll:Int):=by omega
      have HLL:=hide hll;obtain ⟨es,hown,hels⟩:=HL.out;have hraw:=Raw.of_own hown hels.cells;have hes:=hels.1;have hkl2:L.length - ll=kk:=by omega
      have htail:=hraw.tail (n:=ll) (by omega);rw [cellsQ_drop _ _ (by rw [hes];omega),hkl2] at htail;obtain ⟨v1,w1,hrun,hown1,hgr⟩:=append_part 25 25 27 _ 5 80 Tryz.underlying25 info_val rfl (by decide) wr.heap.size _ _ _ (World.ownsRow_nil wr wr.heap.size 27 5) htail (by unfold maxLen;omega) (by omega) (Nat.le_refl _);obtain ⟨ka,kc,rfl⟩:=own_shape hown1;have bk:Below wr.heap.size wr w1:=(Below.refl _ _).grown hgr (Nat.le_refl _) (fun k hk=>by simp [Value.ownBlock] at hk);rw [List.nil_append,Nat.zero_add] at hown1;rw [Nat.zero_add] at hrun;have s1:=slice_tail_val la L.length lc ll (by omega);rw [hkl2] at s1;obtain ⟨ta,hta⟩:∃ t,tailAddr la lc ll 5=t:=⟨_,rfl⟩;rw [hta] at s1 hrun;have HR:=hide hrun;have HO1:=hide hown1;have HO:=hide hown;have HE:=hide hels;have HBK:=hide bk;have e0w:=cell_keep e0' bk;have e1w:=cell_keep e1' bk;have HF1:=hide (HF.out.go (bk.mono HF.out.2.1));clear hrun hown1 hown hels bk hgr hraw htail hta hll HL;have f0:∀ o,(w1.alloc o).cell? _=_:=fun o=>cell_keep e0w (below_alloc w1 o)
      have f1:∀ o,(w1.alloc o).cell? _=_:=fun o=>cell_keep e1w (below_alloc w1 o)
      have s2:=slice_front_val la L.length lc ll (by
        obtain ⟨_,_,h1,h2,_⟩:=Raw.of_own HO.out HE.out.cells;simp only [Value.slice.injEq] at h1
        omega)
      have f0:∀ o,(w1.alloc o).cell? _=_:=fun o=>cell_keep e0w (below_alloc w1 o)
      have f1:∀ o,(w1.alloc o).cell? _=_:=fun o=>cell_keep e1w (below_alloc w1 o)
      have s2:=slice_front_val la L.length lc ll (by
        obtain ⟨_,_,h1,h2,_⟩:=Raw.of_own HO.out HE.out.cells;simp only [Value.slice.injEq] at h1
        omega)
      have f0:∀ o,(w1.alloc o).cell? _=_:=fun o=>cell_keep e0w (below_alloc w1 o)
      have f1:∀ o,(w1.alloc o).cell? _=_:=fun o=>cell_keep e1w (below_alloc w1 o)
      have s2:=slice_front_val la L.length lc ll (by
        obtain ⟨_,_,h1,h2,_⟩:=Raw.of_own HO.out HE.out.cells;simp only [Value.slice.injEq] at h1
        omega)
      have f0:∀ o,(w1.alloc o).cell? _=_:=fun o=>cell_keep e0w (below_alloc w1 o)
      have f1:∀ o,(w1.alloc o).cell? _=_:=fun o=>cell_keep e1w (below_alloc w1 o)
      have s2:=slice_front_val la L.length lc ll (by
        obtain ⟨_,_,h1,h2,_⟩:=Raw.of_own HO.out HE.out.cells;simp only [Value.slice.injEq] at h1
        omega)
      have f0:∀ o,(w1.alloc o).cell? _=_:=fun o=>cell_keep e0w (below_alloc w1 o)
      have f1:∀ o,(w1.alloc o).cell? _=_:=fun o=>cell_keep e1w (below_alloc w1 o)
      have s2:=slice_front_val la L.length lc ll (by
        obtain ⟨_,_,h1,h2,_⟩:=Raw.of_own HO.out HE.out.cells;simp only [Value.slice.injEq] at h1
        omega)
      have f0:∀ o,(w1.alloc o).cell? _=_:=fun o=>cell_keep e0w (below_alloc w1 o)
      have f1:∀ o,(w1.alloc o).cell? _=_:=fun o=>cell_keep e1w (below_alloc w1 o)
      have s2:=slice_front_val la L.length lc ll (by
        obtain ⟨_,_,h1,h2,_⟩:=Raw.of_own HO.out HE.out.cells;simp only [Value.slice.injEq] at h1
        omega)
      have f0:∀ o,(w1.alloc o).cell? _=_:=fun o=>cell_keep e0w (below_alloc w1 o)
      have f1:∀ o,(w1.alloc o).cell? _=_:=fun o=>cell_keep e1w (below_alloc w1 o)
      have s2:=slice_front_val la L.length lc ll (by
        obtain ⟨_,_,h1,h2,_⟩:=Raw.of_own HO.out HE.out.cells;simp only [Value.slice.injEq] at h1
        omega)
      have f0:∀ o,(w1.alloc o).cell? _=_:=fun o=>cell_keep e0w (below_alloc w1 o)
      have f1:∀ o,(w1.alloc o).cell? _=_:=fun o=>cell_keep e1w (below_alloc w1 o)
      have s2:=slice_front_val la L.length lc ll (by
        obtain ⟨_,_,h1,h2,_⟩:=Raw.of_own HO.out HE.out.cells;simp only [Value.slice.injEq] at h1
        omega)
      have f0:∀ o,(w1.alloc o).cell? _=_:=fun o=>cell_keep e0w (below_alloc w1 o)
      have f1:∀ o,(w1.alloc o).cell? _=_:=fun o=>cell_keep e1w (below_alloc w1 o)
      have s2:=slice_front_val la L.length lc ll (by
        obtain ⟨_,_,h1,h2,_⟩:=Raw.of_own HO.out HE.out.cells;simp only [Value.slice.injEq] at h1
        omega)
      have f0:∀ o,(w1.alloc o).cell? _=_:=fun o=>cell_keep e0w (below_alloc w1 o)
      have f1:∀ o,(w1.alloc o).cell? _=_:=fun o=>cell_keep e1w (below_alloc w1 o)
      have s2:=slice_front_val la L.length lc ll (by
        obtain ⟨_,_,h1,h2,_⟩:=Raw.of_own HO.out HE.out.cells;simp only [Value.slice.injEq] at h1
        omega)
      have f0:∀ o,(w1.alloc o).cell? _=_:=fun o=>cell_keep e0w (below_alloc w1 o)
      have f1:∀ o,(w1.alloc o).cell? _=_:=fun o=>cell_keep e1w (below_alloc w1 o)
      have s2:=slice_front_val la L.length lc ll (by
        obtain ⟨_,_,h1,h2,_⟩:=Raw.of_own HO.out HE.out.cells;simp only [Value.slice.injEq] at h1
        omega)
      have f0:∀ o,(w1.alloc o).cell? _=_:=fun o=>cell_keep e0w (below_alloc w1 o)
      have f1:∀ o,(w1.alloc o).cell? _=_:=fun o=>cell_keep e1w (below_alloc w1 o)
      have s2:=slice_front_val la L.length lc ll (by
        obtain ⟨_,_,h1,h2,_⟩:=Raw.of_own HO.out HE.out.cells;simp only [Value.slice.injEq] at h1
        omega)
      have f0:∀ o,(w1.alloc o).cell? _=_:=fun o=>cell_keep e0w (below_alloc w1 o)
      have f1:∀ o,(w1.alloc o).cell? _=_:=fun o=>cell_keep e1w (below_alloc w1 o)
      have s2:=slice_front_val la L.length lc ll (by
        obtain ⟨_,_,h1,h2,_⟩:=Raw.of_own HO.out HE.out.cells;simp only [Value.slice.injEq] at h1
        omega)
      go_upto_block 2 with (at_builtin;refine Lib.wpList_append_run _ rfl (.tmp 32) (.tmp 38) 25 25 rfl _ _ (by simp [Act.eval,Act.put]) (by simp [Act.eval,Act.put]) _ _ HR.out ?_)
      go_cut [3] (fun s wc=>Hid (Meet w wc w1.heap.size s (V.stepL (z0 % 12) z1 L) (V.stepX zs len n (z0 % 12) z1 L)))
      case first =>
        have hqs:z0 % 12=0∨z0 % 12=1∨z0 % 12=2∨z0 % 12=3∨z0 % 12=4∨z0 % 12=5∨z0 % 12=6∨z0 % 12=7∨z0 % 12=8∨z0 % 12=9∨z0 % 12=10∨z0 % 12=11:=by omega
        rcases hqs with hq | hq | hq | hq | hq | hq | hq | hq | hq | hq | hq | hq
        · have t0:(z0 % 12 == 0)=true:=by rw [hq];rfl
          have HQ:=hide hq;clear hq
          go_wp2_with fail
          go_meet
          rw [V.stepX_0 HQ.out,V.stepL_all (by have:=HQ.out;omega)];exact meet_plain HO.out HE.out HBK.out HF1.out 1 (z1 % 2) ⟨#[]⟩ (by decide)
        · have t0:(z0 % 12 == 0)=false:=by rw [hq];rfl
          have t1:(z0 % 12 == 1)=true:=by rw [hq];rfl
          have HQ:=hide hq;clear hq
          go_wp2_with fail
          go_meet
          rw [V.stepX_1 (.inl HQ.out),V.stepL_all (by have:=HQ.out;omega)];exact meet_plain HO.out HE.out HBK.out HF1.out 2 (z1 - 100) ⟨#[]⟩ (by decide)
        · have t0:(z0 % 12 == 0)=false:=by rw [hq];rfl
          have t1:(z0 % 12 == 1)=false:=by rw [hq];rfl
          have t2:(z0 % 12 == 2)=true:=by rw [hq];rfl
          have HQ:=hide hq;clear hq
          go_wp2_with fail
          go_meet
          rw [V.stepX_1 (.inr (.inl HQ.out)),V.stepL_all (by have:=HQ.out;omega)];exact meet_plain HO.out HE.out HBK.out HF1.out 2 (z1 - 100) ⟨#[]⟩ (by decide)
        · have t0:(z0 % 12 == 0)=false:=by rw [hq];rfl
          have t1:(z0 % 12 == 1)=false:=by rw [hq];rfl
          have t2:(z0 % 12 == 2)=false:=by rw [hq];rfl
          have t3:(z0 % 12 == 3)=true:=by rw [hq];rfl
          have HQ:=hide hq;clear hq
          go_wp2_with fail
          go_meet
          rw [V.stepX_1 (.inr (.inr HQ.out)),V.stepL_all (by have:=HQ.out;omega)];exact meet_plain HO.out HE.out HBK.out HF1.out 2 (z1 - 100) ⟨#[]⟩ (by decide)
        · have t0:(z0 % 12 == 0)=false:=by rw [hq];rfl
          have t1:(z0 % 12 == 1)=false:=by rw [hq];rfl
          have t2:(z0 % 12 == 2)=false:=by rw [hq];rfl
          have t3:(z0 % 12 == 3)=false:=by rw [hq];rfl
          have t4:(z0 % 12 == 4)=true:=by rw [hq];rfl
          have HQ:=hide hq;clear hq
          go_wp2_with fail
          go_meet
          rw [V.stepX_4 HQ.out,V.stepL_all (by have:=HQ.out;omega)];exact meet_plain HO.out HE.out HBK.out HF1.out 2 (9007199254740991 - z1 % 2) ⟨#[]⟩ (by decide)
        · have t0:(z0 % 12 == 0)=false:=by rw [hq];rfl
          have t1:(z0 % 12 == 1)=false:=by rw [hq];rfl
          have t2:(z0 % 12 == 2)=false:=by rw [hq];rfl
          have t3:(z0 % 12 == 3)=false:=by rw [hq];rfl
          have t4:(z0 % 12 == 4)=false:=by rw [hq];rfl
          have t5:(z0 % 12 == 5)=true:=by rw [hq];rfl
          have HQ:=hide hq;clear hq;have hlc:len≤cap:=HLC.out;obtain ⟨hi,hhi⟩:∃ hi:Nat,min len (n+3)=hi:=⟨_,rfl⟩;have hhI:min (len:Int) ((n:Int)+3)=(hi:Int):=by omega
          have hn3:n≤hi:=by omega
          have s3:=slice_mid_u8 (some ⟨b,off,none⟩) len cap n hi hn3 (by omega);have hta:tailAddr (some ⟨b,off,none⟩) cap n 1=some ⟨b,off+n,none⟩:=tail_some b off cap n (by omega);rw [hta] at s3;have HHI:=hide hhi;clear hhi hta
          go_wp2_with fail
          refine (text_row (some ⟨b,off+n,none⟩) (hi - n) (cap - n) (zs.drop n) _ (by have:=H1.out;have:=HHI.out;rw [List.length_drop];omega) (by unfold maxLen;omega) (fun z hz=>H3.out z (List.mem_of_mem_drop hz)) (fun j hj=>⟨b,off+n,rfl,?_⟩)).mono ?_
          · obtain ⟨b',off',hbe,ej⟩:=H4.out (n+j) (by have:=HHI.out;omega)
            simp only [Option.some.injEq,Addr.mk.injEq,and_true] at hbe;obtain ⟨rfl,rfl⟩:=hbe;rw [Nat.add_assoc];have:=cell_keep (cell_keep (cell_keep ej HF.out.1) HBK.out) (below_alloc w1 (.cells #[.int .i64 0,.int .i64 0,.string ⟨#[]⟩,.slice none 0 0,.slice none 0 0] 27))
            rw [this];simp only [List.getD,List.getElem?_drop]
          rintro e w2 ⟨rfl,b2⟩;have hT:(⟨(Gm.pick Gm.textTab (zs.drop n) (min (hi - n) 40)).toArray⟩:ByteArray)=V.textRaw zs len n:=by unfold V.textRaw;rw [HHI.out]
          rw [hT];obtain ⟨T,hTe⟩:∃ T,V.textRaw zs len n=T:=⟨_,rfl⟩;have hTs:=V.textRaw_size zs len n;rw [hTe] at hTs;rw [hTe];have HTE:=hide hTe;clear hT hTe s3 f0 f1;have pb:BoxF w2 w1.heap.size _ _ _ _ _:=(boxF_at w1 (.int .i64 0) (.int .i64 0) (.string ⟨#[]⟩) (.slice none 0 0) (.slice none 0 0) 27 _ rfl).keep b2;obtain ⟨⟨x0,x1,x2,x3,x4⟩,g0,g1,g2,g3,g4⟩:=id pb;have hb5:=Box5.all pb.1 (.int .i64 3) (.int .i64 0) (.string T) (.slice none 0 0) (.slice none 0 0);obtain ⟨u0,u1,u2,u3,u4⟩:=id hb5;have bw2:Below w1.heap.size w1 w2:=bthen (below_alloc _ _) b2
          go_wp2_with fail
          have pb5:BoxF (((((w2.setCell ⟨w1.heap.size,0,none⟩ (.int .i64 3)).setCell ⟨w1.heap.size,1,none⟩ (.int .i64 0)).setCell ⟨w1.heap.size,2,none⟩ (.string T)).setCell ⟨w1.heap.size,3,none⟩ (.slice none 0 0)).setCell ⟨w1.heap.size,4,none⟩ (.slice none 0 0)) w1.heap.size (.int .i64 3) (.int .i64 0) (.string T) (.slice none 0 0) (.slice none 0 0) :=
            ⟨hb5,by simpa only [World.frozen?_setCell] using g0,by simpa only [World.frozen?_setCell] using g1,by simpa only [World.frozen?_setCell] using g2,by simpa only [World.frozen?_setCell] using g3,by simpa only [World.frozen?_setCell] using g4⟩
          have bw5:Below w1.heap.size w1 (((((w2.setCell ⟨w1.heap.size,0,none⟩ (.int .i64 3)).setCell ⟨w1.heap.size,1,none⟩ (.int .i64 0)).setCell ⟨w1.heap.size,2,none⟩ (.string T)).setCell ⟨w1.heap.size,3,none⟩ (.slice none 0 0)).setCell ⟨w1.heap.size,4,none⟩ (.slice none 0 0)):=((((bw2.setCell (Nat.le_refl _) _).setCell (Nat.le_refl _) _).setCell (Nat.le_refl _) _).setCell (Nat.le_refl _) _).setCell (Nat.le_refl _) _;clear x0 x1 x2 x3 x4 g0 g1 g2 g3 g4 u0 u1 u2 u3 u4 hb5 pb b2 bw2;generalize (((((w2.setCell ⟨w1.heap.size,0,none⟩ (.int .i64 3)).setCell ⟨w1.heap.size,1,none⟩ (.int .i64 0)).setCell ⟨w1.heap.size,2,none⟩ (.string T)).setCell ⟨w1.heap.size,3,none⟩ (.slice none 0 0)).setCell ⟨w1.heap.size,4,none⟩ (.slice none 0 0))=W5 at *;obtain ⟨z,hz⟩:∃ z,Gm.checkZ T.data.toList=z:=⟨_,rfl⟩;refine (refCheck_is _ z _ (Nat.le_trans hTs (by decide)) hz).mono ?_;rintro e w3 ⟨rfl,b3⟩;have HZ:=hide hz;clear hz;have pb3:=pb5.keep b3;have bw3:=bthen bw5 b3;obtain ⟨⟨x0,x1,x2,x3,x4⟩,g0,g1,g2,g3,g4⟩:=id pb3
          by_cases hz0:0≤z
          · go_wp2_with fail
            go_meet
            rw [V.stepX_5 (by have:=HQ.out;omega),V.stepL_all (by have:=HQ.out;omega)];have:V.textOf zs len n=⟨#[122]⟩:=by unfold V.textOf;rw [HTE.out,HZ.out,if_pos hz0]
            rw [this];exact meet_box HO.out HE.out HBK.out HF1.out (bw3.setCell (Nat.le_refl _) _) (pb3.set2 _) (by decide)
          · go_wp2_with fail
            go_meet
            rw [V.stepX_5 (by have:=HQ.out;omega),V.stepL_all (by have:=HQ.out;omega)];have:V.textOf zs len n=T:=by unfold V.textOf;rw [HTE.out,HZ.out,if_neg (by omega)]
            rw [this];exact meet_box HO.out HE.out HBK.out HF1.out bw3 pb3 (Nat.le_trans hTs (by decide))
        · have t0:(z0 % 12 == 0)=false:=by rw [hq];rfl
          have t1:(z0 % 12 == 1)=false:=by rw [hq];rfl
          have t2:(z0 % 12 == 2)=false:=by rw [hq];rfl
          have t3:(z0 % 12 == 3)=false:=by rw [hq];rfl
          have t4:(z0 % 12 == 4)=false:=by rw [hq];rfl
          have t5:(z0 % 12 == 5)=false:=by rw [hq];rfl
          have t6:(z0 % 12 == 6)=true:=by rw [hq];rfl
          have HQ:=hide hq;clear hq;have hlc:len≤cap:=HLC.out;obtain ⟨hi,hhi⟩:∃ hi:Nat,min len (n+3)=hi:=⟨_,rfl⟩;have hhI:min (len:Int) ((n:Int)+3)=(hi:Int):=by omega
          have hn3:n≤hi:=by omega
          have s3:=slice_mid_u8 (some ⟨b,off,none⟩) len cap n hi hn3 (by omega);have hta:tailAddr (some ⟨b,off,none⟩) cap n 1=some ⟨b,off+n,none⟩:=tail_some b off cap n (by omega);rw [hta] at s3;have HHI:=hide hhi;clear hhi hta
          go_wp2_with fail
          refine (text_row (some ⟨b,off+n,none⟩) (hi - n) (cap - n) (zs.drop n) _ (by have:=H1.out;have:=HHI.out;rw [List.length_drop];omega) (by unfold maxLen;omega) (fun z hz=>H3.out z (List.mem_of_mem_drop hz)) (fun j hj=>⟨b,off+n,rfl,?_⟩)).mono ?_
          · obtain ⟨b',off',hbe,ej⟩:=H4.out (n+j) (by have:=HHI.out;omega)
            simp only [Option.some.injEq,Addr.mk.injEq,and_true] at hbe;obtain ⟨rfl,rfl⟩:=hbe;rw [Nat.add_assoc];have:=cell_keep (cell_keep (cell_keep ej HF.out.1) HBK.out) (below_alloc w1 (.cells #[.int .i64 0,.int .i64 0,.string ⟨#[]⟩,.slice none 0 0,.slice none 0 0] 27))
            rw [this];simp only [List.getD,List.getElem?_drop]
          rintro e w2 ⟨rfl,b2⟩;have hT:(⟨(Gm.pick Gm.textTab (zs.drop n) (min (hi - n) 40)).toArray⟩:ByteArray)=V.textRaw zs len n:=by unfold V.textRaw;rw [HHI.out]
          rw [hT];obtain ⟨T,hTe⟩:∃ T,V.textRaw zs len n=T:=⟨_,rfl⟩;have hTs:=V.textRaw_size zs len n;rw [hTe] at hTs;rw [hTe];have HTE:=hide hTe;clear hT hTe s3 f0 f1;have pb:BoxF w2 w1.heap.size _ _ _ _ _:=(boxF_at w1 (.int .i64 0) (.int .i64 0) (.string ⟨#[]⟩) (.slice none 0 0) (.slice none 0 0) 27 _ rfl).keep b2;obtain ⟨⟨x0,x1,x2,x3,x4⟩,g0,g1,g2,g3,g4⟩:=id pb;have hb5:=Box5.all pb.1 (.int .i64 3) (.int .i64 0) (.string T) (.slice none 0 0) (.slice none 0 0);obtain ⟨u0,u1,u2,u3,u4⟩:=id hb5;have bw2:Below w1.heap.size w1 w2:=bthen (below_alloc _ _) b2
          go_wp2_with fail
          have pb5:BoxF (((((w2.setCell ⟨w1.heap.size,0,none⟩ (.int .i64 3)).setCell ⟨w1.heap.size,1,none⟩ (.int .i64 0)).setCell ⟨w1.heap.size,2,none⟩ (.string T)).setCell ⟨w1.heap.size,3,none⟩ (.slice none 0 0)).setCell ⟨w1.heap.size,4,none⟩ (.slice none 0 0)) w1.heap.size (.int .i64 3) (.int .i64 0) (.string T) (.slice none 0 0) (.slice none 0 0) :=
            ⟨hb5,by simpa only [World.frozen?_setCell] using g0,by simpa only [World.frozen?_setCell] using g1,by simpa only [World.frozen?_setCell] using g2,by simpa only [World.frozen?_setCell] using g3,by simpa only [World.frozen?_setCell] using g4⟩
          have bw5:Below w1.heap.size w1 (((((w2.setCell ⟨w1.heap.size,0,none⟩ (.int .i64 3)).setCell ⟨w1.heap.size,1,none⟩ (.int .i64 0)).setCell ⟨w1.heap.size,2,none⟩ (.string T)).setCell ⟨w1.heap.size,3,none⟩ (.slice none 0 0)).setCell ⟨w1.heap.size,4,none⟩ (.slice none 0 0)):=((((bw2.setCell (Nat.le_refl _) _).setCell (Nat.le_refl _) _).setCell (Nat.le_refl _) _).setCell (Nat.le_refl _) _).setCell (Nat.le_refl _) _;clear x0 x1 x2 x3 x4 g0 g1 g2 g3 g4 u0 u1 u2 u3 u4 hb5 pb b2 bw2;generalize (((((w2.setCell ⟨w1.heap.size,0,none⟩ (.int .i64 3)).setCell ⟨w1.heap.size,1,none⟩ (.int .i64 0)).setCell ⟨w1.heap.size,2,none⟩ (.string T)).setCell ⟨w1.heap.size,3,none⟩ (.slice none 0 0)).setCell ⟨w1.heap.size,4,none⟩ (.slice none 0 0))=W5 at *;obtain ⟨z,hz⟩:∃ z,Gm.checkZ T.data.toList=z:=⟨_,rfl⟩;refine (refCheck_is _ z _ (Nat.le_trans hTs (by decide)) hz).mono ?_;rintro e w3 ⟨rfl,b3⟩;have HZ:=hide hz;clear hz;have pb3:=pb5.keep b3;have bw3:=bthen bw5 b3;obtain ⟨⟨x0,x1,x2,x3,x4⟩,g0,g1,g2,g3,g4⟩:=id pb3
          by_cases hz0:0≤z
          · go_wp2_with fail
            go_meet
            rw [V.stepX_5 (by have:=HQ.out;omega),V.stepL_all (by have:=HQ.out;omega)];have:V.textOf zs len n=⟨#[122]⟩:=by unfold V.textOf;rw [HTE.out,HZ.out,if_pos hz0]
            rw [this];exact meet_box HO.out HE.out HBK.out HF1.out (bw3.setCell (Nat.le_refl _) _) (pb3.set2 _) (by decide)
          · go_wp2_with fail
            go_meet
            rw [V.stepX_5 (by have:=HQ.out;omega),V.stepL_all (by have:=HQ.out;omega)];have:V.textOf zs len n=T:=by unfold V.textOf;rw [HTE.out,HZ.out,if_neg (by omega)]
            rw [this];exact meet_box HO.out HE.out HBK.out HF1.out bw3 pb3 (Nat.le_trans hTs (by decide))
        · have t0:(z0 % 12 == 0)=false:=by rw [hq];rfl
          have t1:(z0 % 12 == 1)=false:=by rw [hq];rfl
          have t2:(z0 % 12 == 2)=false:=by rw [hq];rfl
          have t3:(z0 % 12 == 3)=false:=by rw [hq];rfl
          have t4:(z0 % 12 == 4)=false:=by rw [hq];rfl
          have t5:(z0 % 12 == 5)=false:=by rw [hq];rfl
          have t6:(z0 % 12 == 6)=false:=by rw [hq];rfl
          have t7:(z0 % 12 == 7)=true:=by rw [hq];rfl
          have HQ:=hide hq;clear hq
          go_wp2_with fail
          go_meet
          rw [V.stepX_7 HQ.out,V.stepL_cut (.inl HQ.out),HKK.out,HLL.out];exact meet_list HO.out HE.out HBK.out HF1.out HO1.out (by omega) hkl2 HF.out.2.1
        · have t0:(z0 % 12 == 0)=false:=by rw [hq];rfl
          have t1:(z0 % 12 == 1)=false:=by rw [hq];rfl
          have t2:(z0 % 12 == 2)=false:=by rw [hq];rfl
          have t3:(z0 % 12 == 3)=false:=by rw [hq];rfl
          have t4:(z0 % 12 == 4)=false:=by rw [hq];rfl
          have t5:(z0 % 12 == 5)=false:=by rw [hq];rfl
          have t6:(z0 % 12 == 6)=false:=by rw [hq];rfl
          have t7:(z0 % 12 == 7)=false:=by rw [hq];rfl
          have t8:(z0 % 12 == 8)=true:=by rw [hq];rfl
          have HQ:=hide hq;clear hq;have hwr2:w.heap.size+2≤wr.heap.size:=HF.out.2.1;have hwr1:wr.heap.size≤w1.heap.size:=HBK.out.size;have hkids:=kids_is HO.out HE.out HBK.out HO1.out (show ll≤L.length by omega) hkl2 hwr2;have hownlt:=own_lt (m:=ll) HO.out;have HKI:=hide hkids;have HOL:=hide hownlt;have hdl:(L.drop ll).length=kk:=by rw [List.length_drop];omega
          have HDL:=hide hdl;clear hkids hownlt hdl
          go_wp2_with fail
          go_loopg [9] kk (fun g j wj=>∃ (jj:Nat) (k m:Int) (t:ByteArray) (a1:Option Addr) (n1 c1:Nat) (a2:Option Addr) (n2 c2:Nat),jj+g=kk∧j=.int .i64 jj∧Hid (BoxF wj w1.heap.size (.int .i64 k) (.int .i64 m) (.string t) (.slice a1 n1 c1) (.slice a2 n2 c2))∧Hid (Is wj (fun b=>w.heap.size+2≤b∧some b≠(Value.slice la ll lc).ownBlock∧b≠w1.heap.size) (.agg #[.int .i64 k,.int .i64 m,.string t,.slice a1 n1 c1,.slice a2 n2 c2]) (V.objTo z1 (L.drop ll) jj))∧Hid (Below w1.heap.size w1 wj))
          case atStart =>
            exact ⟨0,5,0,⟨#[]⟩,none,0,0,none,0,0,by omega,rfl,boxF_at w1 _ _ _ _ _ _ _ rfl,is_plain _ _ 5 0 ⟨#[]⟩ (by decide),below_alloc _ _⟩
          case round =>
            obtain ⟨jj,k2,m2,t2,a12,n12,c12,a22,n22,c22,hjj,rfl,HB2,HI2,HBJ⟩:=hrel
            by_cases hjk:jj < kk
            · obtain ⟨kb,koff,k3,m3,t3,a13,n13,c13,a23,n23,c23,rfl,hel,p0,p1,p2,p3,p4⟩:=isL_open HKI.out HBJ.out (show jj < (L.drop ll).length by rw [HDL.out];exact hjk)
              have e1j:=cell_keep e1w HBJ.out;obtain ⟨q,hq8⟩:∃ q:Nat,(z1.toNat / 4+3 * jj) % 8=q:=⟨_,rfl⟩;have hqI:(z1 / 4+3 * (jj:Int)) % 8=(q:Int):=by omega
              have hqlt:q < 8:=by omega
              have kcell:=((HF1.out.go (HBJ.out.mono HF1.out.2.1)).2.2.2 q hqlt).1;have hkey:keyArr.getD q undef=.string (V.objKey z1 jj):=key_at hq8 hqlt
              change _=some (keyArr.getD q undef) at kcell
              rw [hkey] at kcell;obtain ⟨KEY,hKEY⟩:∃ K,V.objKey z1 jj=K:=⟨_,rfl⟩;have hks:=V.objKey_size z1 jj;rw [hKEY] at kcell hks;have HKEY:=hide hKEY
              have hjk3:jj < 3:=by
                have h4:V.kidsN z1 L≤3:=by unfold V.kidsN;omega
                rw [HKK.out] at h4;omega
              obtain ⟨⟨y0,y1,y2,y3,y4⟩,_⟩:=id HB2.out;clear hkey hKEY
              go_wp2_with fail
              have hI1:(n:Int)+1 < (len:Int):=by omega
              have hI2:(jj:Int) < (kk:Int):=by omega
              have hI3:(q:Int) < 8:=by omega
              have hwo:V.wt (V.objTo z1 (L.drop ll) jj)≤1000000000:=by
                have h1:=V.wt_obj z1 (L.drop ll) jj (by rw [HDL.out];omega);have h2:=V.wtL_take (L.drop ll) jj;have h3:=V.wtL_drop L ll;have h4:=HLW.out;omega
              have HWO:=hide hwo;have HKS:=hide hks;have HEL:=hide hel;clear hwo hks hel;have hI0:(0:Int)≤(n:Int)+1:=by omega
              have hw1:IntKind.i64.wrap ((n:Int)+1)=(n:Int)+1:=by rw [IntKind.wrap_i64];omega
              have hw2:IntKind.i64.wrap (3 * (jj:Int))=3 * (jj:Int):=by rw [IntKind.wrap_i64];omega
              have hw3:IntKind.i64.wrap (z1 / 4+3 * (jj:Int))=z1 / 4+3 * (jj:Int):=by rw [IntKind.wrap_i64];omega
              have hq1:IntKind.u8.wrap (z1.tdiv 4)=z1 / 4:=by rw [Int.tdiv_eq_ediv_of_nonneg (by omega),u8_wrap (by omega) (by omega)]
              have hq2:IntKind.i64.wrap (z1 / 4)=z1 / 4:=by rw [IntKind.wrap_i64];omega
              have hq3:(z1 / 4+3 * (jj:Int)).tmod 8=(q:Int):=by rw [Int.tmod_eq_emod_of_nonneg (by omega)];exact hqI
              go_still_tail 19,(by kernel_rfl)
              go_wp2_with fail
              refine (refWith_any5 (w:=wr.drew) (HI2.out.keep (fun _ _ _=>rfl)) (HEL.out.keep (fun _ _ _=>rfl)) HWO.out KEY (Nat.le_trans HKS.out (by decide)) (V.kind_obj _ _ _)).mono ?_;rintro e w5 ⟨k5,m5,t5,a15,n15,c15,a25,n25,c25,rfl,his5,b5⟩;have b5':Below wr.heap.size wr w5:=((Below.refl wr.heap.size wr).drew).trans b5;clear hq1 hq2 hq3 hw1 hw2 hw3 hqI y0 y1 y2 y3 y4 p0 p1 p2 p3 p4 e1j kcell b5;have pb5:=HB2.out.keep b5';obtain ⟨⟨y0,y1,y2,y3,y4⟩,g0,g1,g2,g3,g4⟩:=id pb5
              go_wp2_with fail
              go_roundg (gk - 1)
              case measure=>omega
              case rel =>
                have hb5:=Box5.all pb5.1 (.int .i64 k5) (.int .i64 m5) (.string t5) (.slice a15 n15 c15) (.slice a25 n25 c25);refine ⟨jj+1,k5,m5,t5,a15,n15,c15,a25,n25,c25,by omega,rfl,?_,?_,?_⟩
                · exact ⟨hb5,by simpa only [World.frozen?_setCell] using g0,by simpa only [World.frozen?_setCell] using g1,by simpa only [World.frozen?_setCell] using g2,by simpa only [World.frozen?_setCell] using g3,by simpa only [World.frozen?_setCell] using g4⟩
                · have hsz:=HBJ.out.size
                  have hge:=cell_size HB2.out.1.1;have kp:=keeps_set5 (S:=fun b=>w.heap.size+2≤b∧some b≠(Value.slice la ll lc).ownBlock∧b≠w1.heap.size) (w:=w5) (g:=w1.heap.size) (o:=0) (.int .i64 k5) (.int .i64 m5) (.string t5) (.slice a15 n15 c15) (.slice a25 n25 c25) (fun h=>h.2.2 rfl)
                  have e2:V.objTo z1 (L.drop ll) (jj+1)=V.withV (V.objTo z1 (L.drop ll) jj) KEY ((L.drop ll)[jj]'(by rw [HDL.out];exact hjk)):=by
                    show V.withV _ (V.objKey z1 jj) ((L.drop ll).getD jj V.nul)=_
                    rw [HKEY.out]
                    congr 1
                    simp [List.getD,List.getElem?_eq_getElem (show jj < (L.drop ll).length by rw [HDL.out];exact hjk)]
                  unfold Hid;rw [e2];refine (his5.weak (S':=fun b=>w.heap.size+2≤b∧some b≠(Value.slice la ll lc).ownBlock∧b≠w1.heap.size) (fun b _ h=>?_)).keep kp;rcases h with h | h
                  · exact h
                  · have h':wr.heap.size≤b:=h
                    refine ⟨by omega,fun e=>?_,by omega⟩;have:=HOL.out b e
                    omega
                · exact ((((((HBJ.out.trans (b5'.mono HBJ.out.size)).setCell (Nat.le_refl _) _).setCell (Nat.le_refl _) _).setCell (Nat.le_refl _) _).setCell (Nat.le_refl _) _).setCell (Nat.le_refl _) _)
            · have hje:jj=kk:=by omega
              subst hje
              go_wp2_with fail
              go_meet
              rw [V.stepX_8 (by have:=HQ.out;omega),V.stepL_cut (by have:=HQ.out;omega),HKK.out,HLL.out];refine ⟨la,lc,k2,m2,t2,a12,n12,c12,a22,n22,c22,by rw [List.length_take,Nat.min_eq_left (by omega)],?_,HB2.out,HI2.out,HF1.out.go (HBJ.out.mono HF1.out.2.1),cell_size HB2.out.1.1,by omega⟩;exact (HeldX.of HO.out HE.out (bthen HBK.out HBJ.out) w1.heap.size HBK.out.size).cut ll (by omega)
        · have t0:(z0 % 12 == 0)=false:=by rw [hq];rfl
          have t1:(z0 % 12 == 1)=false:=by rw [hq];rfl
          have t2:(z0 % 12 == 2)=false:=by rw [hq];rfl
          have t3:(z0 % 12 == 3)=false:=by rw [hq];rfl
          have t4:(z0 % 12 == 4)=false:=by rw [hq];rfl
          have t5:(z0 % 12 == 5)=false:=by rw [hq];rfl
          have t6:(z0 % 12 == 6)=false:=by rw [hq];rfl
          have t7:(z0 % 12 == 7)=false:=by rw [hq];rfl
          have t8:(z0 % 12 == 8)=false:=by rw [hq];rfl
          have t9:(z0 % 12 == 9)=true:=by rw [hq];rfl
          have HQ:=hide hq;clear hq;have hwr2:w.heap.size+2≤wr.heap.size:=HF.out.2.1;have hwr1:wr.heap.size≤w1.heap.size:=HBK.out.size;have hkids:=kids_is HO.out HE.out HBK.out HO1.out (show ll≤L.length by omega) hkl2 hwr2;have hownlt:=own_lt (m:=ll) HO.out;have HKI:=hide hkids;have HOL:=hide hownlt;have hdl:(L.drop ll).length=kk:=by rw [List.length_drop];omega
          have HDL:=hide hdl;clear hkids hownlt hdl
          go_wp2_with fail
          go_loopg [9] kk (fun g j wj=>∃ (jj:Nat) (k m:Int) (t:ByteArray) (a1:Option Addr) (n1 c1:Nat) (a2:Option Addr) (n2 c2:Nat),jj+g=kk∧j=.int .i64 jj∧Hid (BoxF wj w1.heap.size (.int .i64 k) (.int .i64 m) (.string t) (.slice a1 n1 c1) (.slice a2 n2 c2))∧Hid (Is wj (fun b=>w.heap.size+2≤b∧some b≠(Value.slice la ll lc).ownBlock∧b≠w1.heap.size) (.agg #[.int .i64 k,.int .i64 m,.string t,.slice a1 n1 c1,.slice a2 n2 c2]) (V.objTo z1 (L.drop ll) jj))∧Hid (Below w1.heap.size w1 wj))
          case atStart =>
            exact ⟨0,5,0,⟨#[]⟩,none,0,0,none,0,0,by omega,rfl,boxF_at w1 _ _ _ _ _ _ _ rfl,is_plain _ _ 5 0 ⟨#[]⟩ (by decide),below_alloc _ _⟩
          case round =>
            obtain ⟨jj,k2,m2,t2,a12,n12,c12,a22,n22,c22,hjj,rfl,HB2,HI2,HBJ⟩:=hrel
            by_cases hjk:jj < kk
            · obtain ⟨kb,koff,k3,m3,t3,a13,n13,c13,a23,n23,c23,rfl,hel,p0,p1,p2,p3,p4⟩:=isL_open HKI.out HBJ.out (show jj < (L.drop ll).length by rw [HDL.out];exact hjk)
              have e1j:=cell_keep e1w HBJ.out;obtain ⟨q,hq8⟩:∃ q:Nat,(z1.toNat / 4+3 * jj) % 8=q:=⟨_,rfl⟩;have hqI:(z1 / 4+3 * (jj:Int)) % 8=(q:Int):=by omega
              have hqlt:q < 8:=by omega
              have kcell:=((HF1.out.go (HBJ.out.mono HF1.out.2.1)).2.2.2 q hqlt).1;have hkey:keyArr.getD q undef=.string (V.objKey z1 jj):=key_at hq8 hqlt
              change _=some (keyArr.getD q undef) at kcell
              rw [hkey] at kcell;obtain ⟨KEY,hKEY⟩:∃ K,V.objKey z1 jj=K:=⟨_,rfl⟩;have hks:=V.objKey_size z1 jj;rw [hKEY] at kcell hks;have HKEY:=hide hKEY
              have hjk3:jj < 3:=by
                have h4:V.kidsN z1 L≤3:=by unfold V.kidsN;omega
                rw [HKK.out] at h4;omega
              obtain ⟨⟨y0,y1,y2,y3,y4⟩,_⟩:=id HB2.out;clear hkey hKEY
              go_wp2_with fail
              have hI1:(n:Int)+1 < (len:Int):=by omega
              have hI2:(jj:Int) < (kk:Int):=by omega
              have hI3:(q:Int) < 8:=by omega
              have hwo:V.wt (V.objTo z1 (L.drop ll) jj)≤1000000000:=by
                have h1:=V.wt_obj z1 (L.drop ll) jj (by rw [HDL.out];omega);have h2:=V.wtL_take (L.drop ll) jj;have h3:=V.wtL_drop L ll;have h4:=HLW.out;omega
              have HWO:=hide hwo;have HKS:=hide hks;have HEL:=hide hel;clear hwo hks hel;have hI0:(0:Int)≤(n:Int)+1:=by omega
              have hw1:IntKind.i64.wrap ((n:Int)+1)=(n:Int)+1:=by rw [IntKind.wrap_i64];omega
              have hw2:IntKind.i64.wrap (3 * (jj:Int))=3 * (jj:Int):=by rw [IntKind.wrap_i64];omega
              have hw3:IntKind.i64.wrap (z1 / 4+3 * (jj:Int))=z1 / 4+3 * (jj:Int):=by rw [IntKind.wrap_i64];omega
              have hq1:IntKind.u8.wrap (z1.tdiv 4)=z1 / 4:=by rw [Int.tdiv_eq_ediv_of_nonneg (by omega),u8_wrap (by omega) (by omega)]
              have hq2:IntKind.i64.wrap (z1 / 4)=z1 / 4:=by rw [IntKind.wrap_i64];omega
              have hq3:(z1 / 4+3 * (jj:Int)).tmod 8=(q:Int):=by rw [Int.tmod_eq_emod_of_nonneg (by omega)];exact hqI
              go_still_tail 19,(by kernel_rfl)
              go_wp2_with fail
              refine (refWith_any5 (w:=wr.drew) (HI2.out.keep (fun _ _ _=>rfl)) (HEL.out.keep (fun _ _ _=>rfl)) HWO.out KEY (Nat.le_trans HKS.out (by decide)) (V.kind_obj _ _ _)).mono ?_;rintro e w5 ⟨k5,m5,t5,a15,n15,c15,a25,n25,c25,rfl,his5,b5⟩;have b5':Below wr.heap.size wr w5:=((Below.refl wr.heap.size wr).drew).trans b5;clear hq1 hq2 hq3 hw1 hw2 hw3 hqI y0 y1 y2 y3 y4 p0 p1 p2 p3 p4 e1j kcell b5;have pb5:=HB2.out.keep b5';obtain ⟨⟨y0,y1,y2,y3,y4⟩,g0,g1,g2,g3,g4⟩:=id pb5
              go_wp2_with fail
              go_roundg (gk - 1)
              case measure=>omega
              case rel =>
                have hb5:=Box5.all pb5.1 (.int .i64 k5) (.int .i64 m5) (.string t5) (.slice a15 n15 c15) (.slice a25 n25 c25);refine ⟨jj+1,k5,m5,t5,a15,n15,c15,a25,n25,c25,by omega,rfl,?_,?_,?_⟩
                · exact ⟨hb5,by simpa only [World.frozen?_setCell] using g0,by simpa only [World.frozen?_setCell] using g1,by simpa only [World.frozen?_setCell] using g2,by simpa only [World.frozen?_setCell] using g3,by simpa only [World.frozen?_setCell] using g4⟩
                · have hsz:=HBJ.out.size
                  have hge:=cell_size HB2.out.1.1;have kp:=keeps_set5 (S:=fun b=>w.heap.size+2≤b∧some b≠(Value.slice la ll lc).ownBlock∧b≠w1.heap.size) (w:=w5) (g:=w1.heap.size) (o:=0) (.int .i64 k5) (.int .i64 m5) (.string t5) (.slice a15 n15 c15) (.slice a25 n25 c25) (fun h=>h.2.2 rfl)
                  have e2:V.objTo z1 (L.drop ll) (jj+1)=V.withV (V.objTo z1 (L.drop ll) jj) KEY ((L.drop ll)[jj]'(by rw [HDL.out];exact hjk)):=by
                    show V.withV _ (V.objKey z1 jj) ((L.drop ll).getD jj V.nul)=_
                    rw [HKEY.out]
                    congr 1
                    simp [List.getD,List.getElem?_eq_getElem (show jj < (L.drop ll).length by rw [HDL.out];exact hjk)]
                  unfold Hid;rw [e2];refine (his5.weak (S':=fun b=>w.heap.size+2≤b∧some b≠(Value.slice la ll lc).ownBlock∧b≠w1.heap.size) (fun b _ h=>?_)).keep kp;rcases h with h | h
                  · exact h
                  · have h':wr.heap.size≤b:=h
                    refine ⟨by omega,fun e=>?_,by omega⟩;have:=HOL.out b e
                    omega
                · exact ((((((HBJ.out.trans (b5'.mono HBJ.out.size)).setCell (Nat.le_refl _) _).setCell (Nat.le_refl _) _).setCell (Nat.le_refl _) _).setCell (Nat.le_refl _) _).setCell (Nat.le_refl _) _)
            · have hje:jj=kk:=by omega
              subst hje
              go_wp2_with fail
              go_meet
              rw [V.stepX_8 (by have:=HQ.out;omega),V.stepL_cut (by have:=HQ.out;omega),HKK.out,HLL.out];refine ⟨la,lc,k2,m2,t2,a12,n12,c12,a22,n22,c22,by rw [List.length_take,Nat.min_eq_left (by omega)],?_,HB2.out,HI2.out,HF1.out.go (HBJ.out.mono HF1.out.2.1),cell_size HB2.out.1.1,by omega⟩;exact (HeldX.of HO.out HE.out (bthen HBK.out HBJ.out) w1.heap.size HBK.out.size).cut ll (by omega)
        · have t0:(z0 % 12 == 0)=false:=by rw [hq];rfl
          have t1:(z0 % 12 == 1)=false:=by rw [hq];rfl
          have t2:(z0 % 12 == 2)=false:=by rw [hq];rfl
          have t3:(z0 % 12 == 3)=false:=by rw [hq];rfl
          have t4:(z0 % 12 == 4)=false:=by rw [hq];rfl
          have t5:(z0 % 12 == 5)=false:=by rw [hq];rfl
          have t6:(z0 % 12 == 6)=false:=by rw [hq];rfl
          have t7:(z0 % 12 == 7)=false:=by rw [hq];rfl
          have t8:(z0 % 12 == 8)=false:=by rw [hq];rfl
          have t9:(z0 % 12 == 9)=false:=by rw [hq];rfl
          have t10:(z0 % 12 == 10)=true:=by rw [hq];rfl
          have HQ:=hide hq;clear hq;have hwr2:w.heap.size+2≤wr.heap.size:=HF.out.2.1;have hwr1:wr.heap.size≤w1.heap.size:=HBK.out.size;have hkids:=kids_is HO.out HE.out HBK.out HO1.out (show ll≤L.length by omega) hkl2 hwr2;have hownlt:=own_lt (m:=ll) HO.out;have HKI:=hide hkids;have HOL:=hide hownlt;have hdl:(L.drop ll).length=kk:=by rw [List.length_drop];omega
          have HDL:=hide hdl;clear hkids hownlt hdl
          go_wp2_with fail
          go_loopg [9] kk (fun g j wj=>∃ (jj:Nat) (k m:Int) (t:ByteArray) (a1:Option Addr) (n1 c1:Nat) (a2:Option Addr) (n2 c2:Nat),jj+g=kk∧j=.int .i64 jj∧Hid (BoxF wj w1.heap.size (.int .i64 k) (.int .i64 m) (.string t) (.slice a1 n1 c1) (.slice a2 n2 c2))∧Hid (Is wj (fun b=>w.heap.size+2≤b∧some b≠(Value.slice la ll lc).ownBlock∧b≠w1.heap.size) (.agg #[.int .i64 k,.int .i64 m,.string t,.slice a1 n1 c1,.slice a2 n2 c2]) (V.objTo z1 (L.drop ll) jj))∧Hid (Below w1.heap.size w1 wj))
          case atStart =>
            exact ⟨0,5,0,⟨#[]⟩,none,0,0,none,0,0,by omega,rfl,boxF_at w1 _ _ _ _ _ _ _ rfl,is_plain _ _ 5 0 ⟨#[]⟩ (by decide),below_alloc _ _⟩
          case round =>
            obtain ⟨jj,k2,m2,t2,a12,n12,c12,a22,n22,c22,hjj,rfl,HB2,HI2,HBJ⟩:=hrel
            by_cases hjk:jj < kk
            · obtain ⟨kb,koff,k3,m3,t3,a13,n13,c13,a23,n23,c23,rfl,hel,p0,p1,p2,p3,p4⟩:=isL_open HKI.out HBJ.out (show jj < (L.drop ll).length by rw [HDL.out];exact hjk)
              have e1j:=cell_keep e1w HBJ.out;obtain ⟨q,hq8⟩:∃ q:Nat,(z1.toNat / 4+3 * jj) % 8=q:=⟨_,rfl⟩;have hqI:(z1 / 4+3 * (jj:Int)) % 8=(q:Int):=by omega
              have hqlt:q < 8:=by omega
              have kcell:=((HF1.out.go (HBJ.out.mono HF1.out.2.1)).2.2.2 q hqlt).1;have hkey:keyArr.getD q undef=.string (V.objKey z1 jj):=key_at hq8 hqlt
              change _=some (keyArr.getD q undef) at kcell
              rw [hkey] at kcell;obtain ⟨KEY,hKEY⟩:∃ K,V.objKey z1 jj=K:=⟨_,rfl⟩;have hks:=V.objKey_size z1 jj;rw [hKEY] at kcell hks;have HKEY:=hide hKEY
              have hjk3:jj < 3:=by
                have h4:V.kidsN z1 L≤3:=by unfold V.kidsN;omega
                rw [HKK.out] at h4;omega
              obtain ⟨⟨y0,y1,y2,y3,y4⟩,_⟩:=id HB2.out;clear hkey hKEY
              go_wp2_with fail
              have hI1:(n:Int)+1 < (len:Int):=by omega
              have hI2:(jj:Int) < (kk:Int):=by omega
              have hI3:(q:Int) < 8:=by omega
              have hwo:V.wt (V.objTo z1 (L.drop ll) jj)≤1000000000:=by
                have h1:=V.wt_obj z1 (L.drop ll) jj (by rw [HDL.out];omega);have h2:=V.wtL_take (L.drop ll) jj;have h3:=V.wtL_drop L ll;have h4:=HLW.out;omega
              have HWO:=hide hwo;have HKS:=hide hks;have HEL:=hide hel;clear hwo hks hel;have hI0:(0:Int)≤(n:Int)+1:=by omega
              have hw1:IntKind.i64.wrap ((n:Int)+1)=(n:Int)+1:=by rw [IntKind.wrap_i64];omega
              have hw2:IntKind.i64.wrap (3 * (jj:Int))=3 * (jj:Int):=by rw [IntKind.wrap_i64];omega
              have hw3:IntKind.i64.wrap (z1 / 4+3 * (jj:Int))=z1 / 4+3 * (jj:Int):=by rw [IntKind.wrap_i64];omega
              have hq1:IntKind.u8.wrap (z1.tdiv 4)=z1 / 4:=by rw [Int.tdiv_eq_ediv_of_nonneg (by omega),u8_wrap (by omega) (by omega)]
              have hq2:IntKind.i64.wrap (z1 / 4)=z1 / 4:=by rw [IntKind.wrap_i64];omega
              have hq3:(z1 / 4+3 * (jj:Int)).tmod 8=(q:Int):=by rw [Int.tmod_eq_emod_of_nonneg (by omega)];exact hqI
              go_still_tail 19,(by kernel_rfl)
              go_wp2_with fail
              refine (refWith_any5 (w:=wr.drew) (HI2.out.keep (fun _ _ _=>rfl)) (HEL.out.keep (fun _ _ _=>rfl)) HWO.out KEY (Nat.le_trans HKS.out (by decide)) (V.kind_obj _ _ _)).mono ?_;rintro e w5 ⟨k5,m5,t5,a15,n15,c15,a25,n25,c25,rfl,his5,b5⟩;have b5':Below wr.heap.size wr w5:=((Below.refl wr.heap.size wr).drew).trans b5;clear hq1 hq2 hq3 hw1 hw2 hw3 hqI y0 y1 y2 y3 y4 p0 p1 p2 p3 p4 e1j kcell b5;have pb5:=HB2.out.keep b5';obtain ⟨⟨y0,y1,y2,y3,y4⟩,g0,g1,g2,g3,g4⟩:=id pb5
              go_wp2_with fail
              go_roundg (gk - 1)
              case measure=>omega
              case rel =>
                have hb5:=Box5.all pb5.1 (.int .i64 k5) (.int .i64 m5) (.string t5) (.slice a15 n15 c15) (.slice a25 n25 c25);refine ⟨jj+1,k5,m5,t5,a15,n15,c15,a25,n25,c25,by omega,rfl,?_,?_,?_⟩
                · exact ⟨hb5,by simpa only [World.frozen?_setCell] using g0,by simpa only [World.frozen?_setCell] using g1,by simpa only [World.frozen?_setCell] using g2,by simpa only [World.frozen?_setCell] using g3,by simpa only [World.frozen?_setCell] using g4⟩
                · have hsz:=HBJ.out.size
                  have hge:=cell_size HB2.out.1.1;have kp:=keeps_set5 (S:=fun b=>w.heap.size+2≤b∧some b≠(Value.slice la ll lc).ownBlock∧b≠w1.heap.size) (w:=w5) (g:=w1.heap.size) (o:=0) (.int .i64 k5) (.int .i64 m5) (.string t5) (.slice a15 n15 c15) (.slice a25 n25 c25) (fun h=>h.2.2 rfl)
                  have e2:V.objTo z1 (L.drop ll) (jj+1)=V.withV (V.objTo z1 (L.drop ll) jj) KEY ((L.drop ll)[jj]'(by rw [HDL.out];exact hjk)):=by
                    show V.withV _ (V.objKey z1 jj) ((L.drop ll).getD jj V.nul)=_
                    rw [HKEY.out]
                    congr 1
                    simp [List.getD,List.getElem?_eq_getElem (show jj < (L.drop ll).length by rw [HDL.out];exact hjk)]
                  unfold Hid;rw [e2];refine (his5.weak (S':=fun b=>w.heap.size+2≤b∧some b≠(Value.slice la ll lc).ownBlock∧b≠w1.heap.size) (fun b _ h=>?_)).keep kp;rcases h with h | h
                  · exact h
                  · have h':wr.heap.size≤b:=h
                    refine ⟨by omega,fun e=>?_,by omega⟩;have:=HOL.out b e
                    omega
                · exact ((((((HBJ.out.trans (b5'.mono HBJ.out.size)).setCell (Nat.le_refl _) _).setCell (Nat.le_refl _) _).setCell (Nat.le_refl _) _).setCell (Nat.le_refl _) _).setCell (Nat.le_refl _) _)
            · have hje:jj=kk:=by omega
              subst hje
              go_wp2_with fail
              go_meet
              rw [V.stepX_8 (by have:=HQ.out;omega),V.stepL_cut (by have:=HQ.out;omega),HKK.out,HLL.out];refine ⟨la,lc,k2,m2,t2,a12,n12,c12,a22,n22,c22,by rw [List.length_take,Nat.min_eq_left (by omega)],?_,HB2.out,HI2.out,HF1.out.go (HBJ.out.mono HF1.out.2.1),cell_size HB2.out.1.1,by omega⟩;exact (HeldX.of HO.out HE.out (bthen HBK.out HBJ.out) w1.heap.size HBK.out.size).cut ll (by omega)
        · have t0:(z0 % 12 == 0)=false:=by rw [hq];rfl
          have t1:(z0 % 12 == 1)=false:=by rw [hq];rfl
          have t2:(z0 % 12 == 2)=false:=by rw [hq];rfl
          have t3:(z0 % 12 == 3)=false:=by rw [hq];rfl
          have t4:(z0 % 12 == 4)=false:=by rw [hq];rfl
          have t5:(z0 % 12 == 5)=false:=by rw [hq];rfl
          have t6:(z0 % 12 == 6)=false:=by rw [hq];rfl
          have t7:(z0 % 12 == 7)=false:=by rw [hq];rfl
          have t8:(z0 % 12 == 8)=false:=by rw [hq];rfl
          have t9:(z0 % 12 == 9)=false:=by rw [hq];rfl
          have t10:(z0 % 12 == 10)=false:=by rw [hq];rfl
          have HQ:=hide hq;clear hq
          go_wp2_with fail
          go_meet
          rw [V.stepX_e (.inr (by have:=HQ.out;omega)),V.stepL_all (by have:=HQ.out;omega)];exact meet_plain HO.out HE.out HBK.out HF1.out 0 0 ⟨#[]⟩ (by decide)
      case rest =>
        obtain ⟨la',lc',k',m',t',a1',m1',d1',a2',m2',d2',rfl,hx,hbx,his,hf,hgx,hgx2⟩:=hcut.out;obtain ⟨L',hL'⟩:∃ L',V.stepL (z0 % 12) z1 L=L':=⟨_,rfl⟩;obtain ⟨X,hX⟩:∃ X,V.stepX zs len n (z0 % 12) z1 L=X:=⟨_,rfl⟩;rw [hL'] at hx his;rw [hX] at his
        have hstep:V.valTo zs len (r+1)=L' ++ [X]:=by
          show V.stepV zs len (2 * r) (V.valTo zs len r)=_
          rw [HLV.out,← hn.out];unfold V.stepV;rw [HZ0.out,HZ1.out,hL',hX]
        have hstl:=congrArg List.length hstep;have hw1:=V.wt_valTo zs len (r+1);have hl1:=V.wtL_len (V.valTo zs len (r+1));rw [hstep,List.length_append,List.length_singleton] at hl1;rw [hstep] at hw1;have hl4:L'.length+1≤4000:=by omega
        rw [hL'];obtain ⟨es',ho',he'⟩:=hx;have hox:=own_below ho' (below_alloc wc (.cells #[.int .i64 k',.int .i64 m',.string t',.slice a1' m1' d1',.slice a2' m2' d2'] 27));have hrx:=raw_one_val wc k' m' t' a1' m1' d1' a2' m2' d2' (fun _=>True) wc.heap.size rfl trivial;obtain ⟨v2,w2,hr2,ho2,hg2⟩:=append_part 25 25 27 _ 5 80 Tryz.underlying25 info_val rfl (by decide) (w.heap.size+2) _ _ _ hox hrx (by unfold maxLen;omega) (by omega) (by have:=hf.2.1;simp;omega);have hbk2:=append_block 25 25 27 _ 5 80 Tryz.underlying25 info_val (by decide) (w.heap.size+2) _ _ _ hox hrx (by unfold maxLen;omega) (by omega) hr2;obtain ⟨na,nc,rfl⟩:=own_shape ho2;rw [← cellsQ_append] at ho2;have bx:Below (w.heap.size+2) wc w2:=((Below.refl (w.heap.size+2) wc).alloc hf.2.1 _).grown hg2 (by have:=hf.2.1;simp;omega) (own_block hox)
        have HHELD:Hid (Held w w2 (.slice na (L'.length+1) nc) (L' ++ [X])):=by
          refine ⟨es' ++ [(.int .i64 k',.int .i64 m',.string t',.slice a1' m1' d1',.slice a2' m2' d2')],?_,?_⟩
          · rw [List.length_append,List.length_singleton];exact ho2
          · have hall:=he'.append (Els.one (e:=(.int .i64 k',.int .i64 m',.string t',.slice a1' m1' d1',.slice a2' m2' d2')) his)
            have h2:=hall.weak (S':=fun b=>(w.heap.size+2≤b∧some b≠(Value.slice la' L'.length lc').ownBlock)∧b < wc.heap.size) (fun b hb h=>⟨⟨h.1,h.2.1⟩,hb⟩)
            have h3:=h2.keep (w':=w2) (fun b hb hl=>by
              rw [hg2.block b (by simp;omega) hb.1.2]
              exact Below.heap_alloc _ _ _ hl)
            refine h3.weak (fun b _ h=>⟨h.1.1,?_⟩);rcases hbk2 with e | e
            · rw [e];exact h.1.2
            · rw [e];intro e2
              have h5:=h.2;simp at e2;omega
        have HFR:Hid (Frame w w2):=hf.go bx;have HRUN:=hide hr2;have HST:=hide hstep;obtain ⟨⟨x0,x1,x2,x3,x4⟩,_⟩:=id hbx;clear hr2 hstep hstl hw1 hl1 hox hrx ho2 hg2 hbk2 ho' he' bx his hf hbx hcut hL' hX
        go_wp2_with (at_builtin;refine Lib.wpList_append_run _ rfl (.tmp 144) (.tmp 146) 25 25 rfl _ _ (by simp [Act.eval,Act.put]) (by simp [Act.eval,Act.put]) _ _ HRUN.out ?_)
        go_roundg (gk - 1)
        case measure=>omega
        case rel =>
          refine ⟨r+1,n+2,na,nc,by omega,by omega,?_,?_,?_,?_,HFR⟩
          · show n+2=2 * (r+1)
            have:=hn.out
            omega
          · show Value.int .i64 _=Value.int .i64 _
            congr 1
          · rw [HST.out,List.length_append,List.length_singleton]
          · rw [HST.out];exact HHELD.out
    · have hre:r=min 30 (len / 2):=by omega
      have hno:¬ (n+1 < len∧n < 60):=by have:=hn.out;omega
      obtain ⟨hbel,hsz,hbxr,hrow⟩:=HF.out;obtain ⟨es,hown,hels⟩:=HL.out;obtain ⟨⟨x0,x1,x2,x3,x4⟩,g0,g1,g2,g3,g4⟩:=id hbxr;have hv:V.valV zs len=⟨4,0,⟨#[]⟩,[],L⟩:=by unfold V.valV;rw [← hre,HLV.out]
      have HV:=hide hv;have HOWN:=hide hown;have HELS:=hide hels;have HBX:=hide hbxr;clear hv hown hels hbxr hrow;have hn62:n≤60:=by have:=hn.out;omega
      by_cases h60:n+1 < len
      · have h60':¬ n < 60:=by omega
        go_wp2_with fail
        obtain ⟨u0,u1,u2,u3,u4⟩:=Box5.all HBX.out.1 (.int .i64 4) (.int .i64 0) (.string ⟨#[]⟩) (.slice none 0 0) (.slice la L.length lc);refine bodyPost_ret (v:=.agg #[.int .i64 4,.int .i64 0,.string ⟨#[]⟩,.slice none 0 0,.slice la L.length lc]) (by simp [results,Tryz.results36,go_sem,u0,u1,u2,u3,u4]) rfl ?_;exact val_end HOWN.out HELS.out hbel HV.out
      · go_wp2_with fail
        obtain ⟨u0,u1,u2,u3,u4⟩:=Box5.all HBX.out.1 (.int .i64 4) (.int .i64 0) (.string ⟨#[]⟩) (.slice none 0 0) (.slice la L.length lc);refine bodyPost_ret (v:=.agg #[.int .i64 4,.int .i64 0,.string ⟨#[]⟩,.slice none 0 0,.slice la L.length lc]) (by simp [results,Tryz.results36,go_sem,u0,u1,u2,u3,u4]) rfl ?_;exact val_end HOWN.out HELS.out hbel HV.out
end Go.Proofs.YtapcmbbhhclepaaGreatDoor
