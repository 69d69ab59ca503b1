/-
  What this claim takes of the earlier layers' texts: VWalksC VRow VWalksD VMathB VWalksE VConc.
-/
import Derived.Test.YtapcmbbhhclepaaGreatDoorM7
import Derived.WalkSmall
import Derived.Laws.MakeOwn
import Derived.OwnWalk
import Derived.Deep.OwnRows
import Derived.BigQuiet
import Derived.Lib.AppendZeros
import Derived.Laws.AppendOwnNone
set_option linter.unusedVariables false
set_option linter.unusedSimpArgs false
set_option maxRecDepth 100000
namespace Go.Proofs.YtapcmbbhhclepaaGreatDoor
open Go.RowKit
theorem ret_bool {a b:Bool} (h:a=b):Ending.returned (.bool a)=.returned (.bool b):=by rw [h]
theorem box5_at (w:World) (c0 c1 c2 c3 c4:Value) (t:TypeId) (g:Nat) (h:g=w.heap.size):Box5 (w.alloc (.cells #[c0,c1,c2,c3,c4] t)) g c0 c1 c2 c3 c4:=by
  subst h;exact box5_new w c0 c1 c2 c3 c4 t
theorem bytes_ne {t t':ByteArray} (h:¬ t=t'):(t.toList == t'.toList)=false:=by
  rw [Bool.eq_false_iff];intro hh;rw [beq_iff_eq,Lib.toList_data,Lib.toList_data] at hh;exact h (ByteArray.ext (Array.ext' hh))
theorem isL_open {w w':World} {S:Nat→Prop} {a:Option Addr} {m cap:Nat} {l:List V} (h:IsL w S (.slice a m cap) l) (k:Below w.heap.size w w') {i:Nat} (hi:i < l.length) :
    ∃ b off k n t a1 n1 c1 a2 n2 c2,a=some ⟨b,off,none⟩∧Is w' S (.agg #[.int .i64 k,.int .i64 n,.string t,.slice a1 n1 c1,.slice a2 n2 c2]) l[i]∧w'.cell? ⟨b,off+i * 5,none⟩=some (.int .i64 k)∧w'.cell? ⟨b,off+i * 5+1,none⟩=some (.int .i64 n)∧w'.cell? ⟨b,off+i * 5+2,none⟩=some (.string t)∧w'.cell? ⟨b,off+i * 5+3,none⟩=some (.slice a1 n1 c1)∧w'.cell? ⟨b,off+i * 5+4,none⟩=some (.slice a2 n2 c2):=by
  obtain ⟨a',cap',c,h1,h2,h3,h4,h5⟩:=h;simp only [Value.slice.injEq] at h1;obtain ⟨rfl,rfl,rfl⟩:=h1;obtain ⟨d,hd⟩:=h5 i hi;obtain ⟨b,off,k,n,t,a1,n1,c1,a2,n2,c2,q0,q1,q2⟩:=elem_open h4 k hi hd;exact ⟨b,off,k,n,t,a1,n1,c1,a2,n2,c2,q0,⟨d,q1⟩,q2⟩
theorem isL_len {w:World} {S:Nat→Prop} {a:Option Addr} {m cap:Nat} {l:List V} (h:IsL w S (.slice a m cap) l):m=l.length∧m≤cap∧cap≤maxLen:=by
  obtain ⟨a',cap',c,h1,h2,h3,h4,h5⟩:=h;simp only [Value.slice.injEq] at h1;obtain ⟨rfl,rfl,rfl⟩:=h1;exact ⟨rfl,h2,h3⟩
end Go.Proofs.YtapcmbbhhclepaaGreatDoor
namespace Go.Proofs.YtapcmbbhhclepaaGreatDoor
open Go.RowKit
def Row (w:World) (g m:Nat) (c:Nat→Value):Prop:=∀ i,i < m→w.cell? ⟨g,i,none⟩=some (c i)∧w.frozen? ⟨g,i,none⟩=false
theorem row_new (w:World) (M:Array Value) (t:TypeId) (g:Nat) (h:g=w.heap.size):Row (w.alloc (.cells M t)) g M.size (fun i=>M.getD i undef):=by
  subst h;intro i hi;constructor
  · simp only [World.cell?,World.alloc,Array.getElem?_push_size]
    simp [hi]
  · simp only [World.frozen?,World.alloc,Array.getElem?_push_size]
    simp
theorem Row.keep {w w':World} {g m:Nat} {c:Nat→Value} (h:Row w g m c) (hg:g < w.heap.size) (k:Below w.heap.size w w'):Row w' g m c:=by
  intro i hi;obtain ⟨h1,h2⟩:=h i hi;exact ⟨by rw [k.cell (p:=⟨g,i,none⟩) hg];exact h1,by rw [k.frozen (p:=⟨g,i,none⟩) hg];exact h2⟩
theorem Row.set {w:World} {g m:Nat} {c:Nat→Value} (h:Row w g m c) {j:Nat} (hj:j < m) (v:Value):Row (w.setCell ⟨g,j,none⟩ v) g m (fun i=>if i=j then v else c i):=by
  intro i hi;obtain ⟨h1,h2⟩:=h i hi;refine ⟨?_,by rw [World.frozen?_setCell];exact h2⟩
  by_cases e:i=j
  · subst e
    simp only [if_true];exact World.cell?_setCell_same _ _ _ h1
  · simp only [e,if_false]
    rw [World.cell?_setCell_other _ _ _ _ (by simp only [ne_eq,Addr.mk.injEq];omega)];exact h1
theorem Row.cells {w:World} {g m:Nat} {c:Nat→Value} {S:Nat→Prop} (h:Row w g m c) (hS:S g) {n:Nat} (hn:n≤m):Cells w S (some ⟨g,0,none⟩) n c:=by
  intro _;refine ⟨g,0,rfl,hS,fun i hi=>?_⟩;rw [Nat.zero_add];exact (h i (by omega)).1
theorem keeps_set {S:Nat→Prop} {w:World} {g o:Nat} (v:Value) (h:¬ S g):Keeps S w (w.setCell ⟨g,o,none⟩ v):=by
  intro b hb _;refine Below.heap_setCell _ _ _ _ (fun e=>h ?_);have e':b=g:=e;rw [← e'];exact hb
theorem Keeps.trans {S:Nat→Prop} {a b c:World} (h:Keeps S a b) (k:Keeps S b c) (hs:a.heap.size≤b.heap.size):Keeps S a c:=by
  intro x hx hl;rw [k x hx (by omega),h x hx hl]
theorem size_set (w:World) (a:Addr) (v:Value):(w.setCell a v).heap.size=w.heap.size:=by simp [World.setCell]
theorem below_set {B:Nat} {a w:World} (h:Below B a w) {g o:Nat} (hg:B≤g) (v:Value):Below B a (w.setCell ⟨g,o,none⟩ v):=h.setCell hg v
def set5 (w:World) (g o:Nat) (v0 v1 v2 v3 v4:Value):World :=
  ((((w.setCell ⟨g,o,none⟩ v0).setCell ⟨g,o+1,none⟩ v1).setCell ⟨g,o+2,none⟩ v2).setCell ⟨g,o+3,none⟩ v3).setCell ⟨g,o+4,none⟩ v4
theorem size_set5 (w:World) (g o:Nat) (v0 v1 v2 v3 v4:Value):(set5 w g o v0 v1 v2 v3 v4).heap.size=w.heap.size:=by simp [set5,size_set]
theorem Row.set5 {w:World} {g m:Nat} {c:Nat→Value} (h:Row w g m c) {o:Nat} (ho:o+4 < m) (v0 v1 v2 v3 v4:Value) :
    Row (set5 w g o v0 v1 v2 v3 v4) g m (fun i=>if i=o+4 then v4 else if i=o+3 then v3 else if i=o+2 then v2 else if i=o+1 then v1 else if i=o then v0 else c i) :=
  ((((h.set (by omega) v0).set (by omega) v1).set (by omega) v2).set (by omega) v3).set ho v4
theorem keeps_set5 {S:Nat→Prop} {w:World} {g o:Nat} (v0 v1 v2 v3 v4:Value) (h:¬ S g):Keeps S w (set5 w g o v0 v1 v2 v3 v4):=by
  intro b hb hl;have e:b≠g:=fun e=>h (by rw [← e];exact hb)
  unfold set5;rw [Below.heap_setCell _ _ _ _ e,Below.heap_setCell _ _ _ _ e,Below.heap_setCell _ _ _ _ e,Below.heap_setCell _ _ _ _ e,Below.heap_setCell _ _ _ _ e]
theorem below_set5 {B:Nat} {a w:World} (h:Below B a w) {g o:Nat} (hg:B≤g) (v0 v1 v2 v3 v4:Value):Below B a (set5 w g o v0 v1 v2 v3 v4) :=
  ((((h.setCell hg v0).setCell hg v1).setCell hg v2).setCell hg v3).setCell hg v4
theorem elem_set5_same (c:Nat→Value) (j:Nat) (v0 v1 v2 v3 v4:Value) :
    elemV (fun i=>if i=j * 5+4 then v4 else if i=j * 5+3 then v3 else if i=j * 5+2 then v2 else if i=j * 5+1 then v1 else if i=j * 5 then v0 else c i) j=.agg #[v0,v1,v2,v3,v4]:=by
  unfold elemV;simp
theorem elem_set5_other (c:Nat→Value) (i j:Nat) (h:i≠j) (v0 v1 v2 v3 v4:Value) :
    elemV (fun i=>if i=j * 5+4 then v4 else if i=j * 5+3 then v3 else if i=j * 5+2 then v2 else if i=j * 5+1 then v1 else if i=j * 5 then v0 else c i) i=elemV c i:=by
  unfold elemV;have e:∀ x y:Nat,x < 5→y < 5→i * 5+x≠j * 5+y:=by intro x y hx hy;omega
  have e0:∀ y:Nat,y < 5→i * 5≠j * 5+y:=by intro y hy;omega
  have e1:∀ x:Nat,x < 5→i * 5+x≠j * 5:=by intro x hx;omega
  have e2:i * 5≠j * 5:=by omega
  simp [e,e0,e1,e2,h]
end Go.Proofs.YtapcmbbhhclepaaGreatDoor
namespace Go.Proofs.YtapcmbbhhclepaaGreatDoor
open Go.RowKit
def Fre (w:World) (b:Nat):Prop:=∀ o,w.frozen? ⟨b,o,none⟩=false
def Own (w:World) (B:Nat) (b:Nat):Prop:=B≤b∧Fre w b
theorem Fre.below {w w':World} {b:Nat} (h:Fre w b) (hb:b < w.heap.size) (k:Below w.heap.size w w'):Fre w' b:=fun o=>by
  rw [k.frozen (p:=⟨b,o,none⟩) hb];exact h o
theorem Fre.set {w:World} {b:Nat} (h:Fre w b) (a:Addr) (v:Value):Fre (w.setCell a v) b:=fun o=>by
  rw [World.frozen?_setCell];exact h o
theorem fre_new (w:World) (M:Array Value) (t:TypeId) (g:Nat) (h:g=w.heap.size):Fre (w.alloc (.cells M t)) g:=fun o=>by
  subst h;simp only [World.frozen?,World.alloc,Array.getElem?_push_size];simp
theorem Is.ownTo {w w':World} {v:Value} {x:V} {B B':Nat} (h:Is w (Own w B) v x) (kp:Keeps (fun b=>B≤b) w w') (hf:∀ b,b < w.heap.size→Fre w b→Fre w' b) (hB:B'≤B):Is w' (Own w' B') v x :=
  ((h.weak (S':=fun b=>B≤b∧Fre w' b) (fun b hb hs=>⟨hs.1,hf b hb hs.2⟩)).keep (fun b hs hb=>kp b hs.1 hb)).weak (fun b _ hs=>⟨Nat.le_trans hB hs.1,hs.2⟩)
theorem IsL.ownTo {w w':World} {v:Value} {x:List V} {B B':Nat} (h:IsL w (Own w B) v x) (kp:Keeps (fun b=>B≤b) w w') (hf:∀ b,b < w.heap.size→Fre w b→Fre w' b) (hB:B'≤B):IsL w' (Own w' B') v x :=
  ((h.weak (S':=fun b=>B≤b∧Fre w' b) (fun b hb hs=>⟨hs.1,hf b hb hs.2⟩)).keep (fun b hs hb=>kp b hs.1 hb)).weak (fun b _ hs=>⟨Nat.le_trans hB hs.1,hs.2⟩)
theorem Strs.ownTo {w w':World} {v:Value} {x:List ByteArray} {B B':Nat} (h:Strs w (Own w B) v x) (kp:Keeps (fun b=>B≤b) w w') (hf:∀ b,b < w.heap.size→Fre w b→Fre w' b) (hB:B'≤B):Strs w' (Own w' B') v x :=
  ((h.weak (S':=fun b=>B≤b∧Fre w' b) (fun b hb hs=>⟨hs.1,hf b hb hs.2⟩)).keep (fun b hs hb=>kp b hs.1 hb)).weak (fun b _ hs=>⟨Nat.le_trans hB hs.1,hs.2⟩)
theorem Is.ownBelow {w w':World} {v:Value} {x:V} {B B':Nat} (h:Is w (Own w B) v x) (k:Below w.heap.size w w') (hB:B'≤B):Is w' (Own w' B') v x :=
  h.ownTo (Keeps.of_below k) (fun _ hb hf=>hf.below hb k) hB
theorem clone_any (s:ByteArray) (w:World) (hs:s.size≤281474976710656) :
    Calls Tryz.prog 75 #[.string s] w fun e w'=>e=.returned (.string s)∧Below w.heap.size w w':=by
  go_enter Tryz.func75,Tryz.ntmps75
  go_wp2_with fail
  refine (Tryz.stringslite_Clone s w hs).mono ?_;rintro e w1 ⟨rfl,b1⟩
  go_wp2
  go_ret
  exact ⟨rfl,b1⟩
theorem info_str:(Tryz.prog.info? 9).map (fun i=>(i.zero,i.size,i.bytes))=some (some (.string ⟨#[]⟩),1,16):=by kernel_rfl
theorem info_val:(Tryz.prog.info? 27).map (fun i=>(i.zero,i.size,i.bytes))=some (some (.agg #[.int .i64 0,.int .i64 0,.string ⟨#[]⟩,.slice none 0 0,.slice none 0 0]),5,80):=by kernel_rfl
theorem make_str (n:Nat) (hn:n≤4294967296):∃ M:Array Value,M.size=n∧∀ W:World,(Instr.makeSlice 24 (.int .i64 (n:Int)) (.int .i64 (n:Int))).run Tryz.prog W=.ok (.slice (some ⟨W.heap.size,0,none⟩) n n) (W.alloc (.cells M 9)):=by
  obtain ⟨i0,hi,hz0,hz1,hz2⟩:=info_parts info_str;refine ⟨madeCells (Value.string ⟨#[]⟩).cells ((n:Int).toNat * i0.size),?_,fun W=>?_⟩
  rotate_left
  · have h:=run_make (P:=Tryz.prog) W 24 9 i0 _ Tryz.underlying24 hi hz0 .i64 .i64 (n:Int) (n:Int) (by omega) (by omega) (by rw [hz2];omega) (by omega)
    simpa using h
  · rw [size_madeCells,hz1];simp
theorem make_val (n:Nat) (hn:n≤4294967296):∃ M:Array Value,M.size=n * 5∧∀ W:World,(Instr.makeSlice 25 (.int .i64 (n:Int)) (.int .i64 (n:Int))).run Tryz.prog W=.ok (.slice (some ⟨W.heap.size,0,none⟩) n n) (W.alloc (.cells M 27)):=by
  obtain ⟨i0,hi,hz0,hz1,hz2⟩:=info_parts info_val;refine ⟨madeCells (Value.agg #[.int .i64 0,.int .i64 0,.string ⟨#[]⟩,.slice none 0 0,.slice none 0 0]).cells ((n:Int).toNat * i0.size),?_,fun W=>?_⟩
  rotate_left
  · have h:=run_make (P:=Tryz.prog) W 25 27 i0 _ Tryz.underlying25 hi hz0 .i64 .i64 (n:Int) (n:Int) (by omega) (by omega) (by rw [hz2];omega) (by omega)
    simpa using h
  · rw [size_madeCells,hz1];simp
set_option maxHeartbeats 4000000 in
theorem turnedSSF_any {v:Value} {ks:List ByteArray} {w:World} {S:Nat→Prop} (h:Strs w S v ks) (hw:V.wtK ks≤4294967296) :
    Calls Tryz.prog 76 #[v,.func (.func 75) #[] #[]] w fun e w'=>∃ v',e=.returned v'∧Strs w' (Own w' w.heap.size) v' ks∧Below w.heap.size w w':=by
  obtain ⟨a,cap,rfl,h1,h2,h3,h4⟩:=h;have hlen:ks.length≤4294967296:=Nat.le_trans (V.wtK_len ks) (by omega)
  by_cases h0:ks.length=0
  · have hk:ks=[]:=List.eq_nil_of_length_eq_zero h0
    subst hk;go_enter Tryz.func76,Tryz.ntmps76
    go_wp2
    go_ret
    exact ⟨_,rfl,strs_nil _ _,Below.refl _ _⟩
  · have hb:((ks.length:Int) == 0)=false:=by rw [beq_eq_false_iff_ne];omega
    obtain ⟨M,hM,hmk⟩:=make_str ks.length hlen;have HM:Hid _:=hM;have HC:Hid _:=h4;have HW:Hid _:=hw;have H3:Hid _:=h3;clear hM h4 hw h3 h0;go_enter Tryz.func76,Tryz.ntmps76
    go_wp2_with fail
    clear hmk hb
    go_loopg [16] ks.length (fun g i wr=>∃ (j:Nat) (c:Nat→Value),j+g=ks.length∧i=.int .i64 j∧Below w.heap.size w wr∧w.heap.size < wr.heap.size∧Row wr w.heap.size ks.length c∧(∀ i,i < j→c i=.string (ks.getD i ByteArray.empty))∧Hid (Fre wr w.heap.size))
    case atStart=>
      refine ⟨0,fun i=>M.getD i undef,by omega,rfl,below_alloc _ _,by simp,?_,fun i hi=>absurd hi (Nat.not_lt_zero _),fre_new _ _ _ _ rfl⟩;rw [← HM.out];exact row_new _ _ _ _ rfl
    case round =>
      obtain ⟨j,c,hj,rfl,bj,hgs,hrow,hc,HF⟩:=hrel;have HR:Hid _:=hrow;have HD:Hid _:=hc;clear hrow hc
      by_cases hlt:j < ks.length
      · obtain ⟨b,off,K,rfl,hK,ej⟩:=str_at' HC.out bj hlt
        go_wp2_with fail
        refine (clone_any _ _ ?_).mono ?_
        · rw [hK.out];exact Nat.le_trans (getD_wt HW.out hlt) (by decide)
        rintro e w1 ⟨rfl,b1⟩;obtain ⟨r1,r2⟩:=(Row.keep HR.out hgs b1) j hlt
        go_wp2
        go_roundg (gk - 1)
        case measure=>omega
        case rel =>
          refine ⟨j+1,_,by omega,rfl,below_set (bthen bj b1) (Nat.le_refl _) _,by rw [size_set];exact Nat.lt_of_lt_of_le hgs b1.size,Row.set (Row.keep HR.out hgs b1) hlt (.string K),?_,(HF.out.below hgs b1).set _ _⟩;intro i hi
          by_cases e:i=j
          · subst e;simp only [if_true];rw [hK.out]
          · simp only [e,if_false];exact HD.out i (by omega)
      · have hje:j=ks.length:=by omega
        subst hje
        go_wp2
        go_ret
        refine ⟨_,rfl,⟨_,_,rfl,Nat.le_refl _,Nat.le_trans hlen (by decide),H3.out,?_⟩,bj⟩;exact ((Row.cells HR.out (S:=Own wr w.heap.size) ⟨Nat.le_refl _,HF.out⟩ (Nat.le_refl _))).congr (fun i hi=>HD.out i hi)
def CopyAt (d:Nat):Prop:=∀ (v:Value) (x:V) (w:World) (r:Nat) (S:Nat→Prop),IsD w S d v x→V.wt x≤4294967296 →
    w.cell? ⟨r,0,none⟩=some (.func (.func 74) #[] #[.pointer (some ⟨r,0,none⟩)]) →
    Calls Tryz.prog 74 #[v,.pointer (some ⟨r,0,none⟩)] w fun e w'=>∃ k n t a1 n1 c1 a2 n2 c2,e=.returned (.agg #[.int .i64 k,.int .i64 n,.string t,.slice a1 n1 c1,.slice a2 n2 c2])∧Is w' (Own w' w.heap.size) (.agg #[.int .i64 k,.int .i64 n,.string t,.slice a1 n1 c1,.slice a2 n2 c2]) x∧Below w.heap.size w w'
set_option maxHeartbeats 4000000 in
theorem turnedVV_any (d:Nat) (ih:CopyAt d) (a:Option Addr) (cap:Nat) (c:Nat→Value) (l:List V) (w:World) (S:Nat→Prop) (r:Nat)
    (h6:Cells w S a (l.length * 5) c) (h7:∀ i (h:i < l.length),IsD w S d (elemV c i) l[i]) (hw:V.wtL l≤4294967296)
    (hr:w.cell? ⟨r,0,none⟩=some (.func (.func 74) #[] #[.pointer (some ⟨r,0,none⟩)])) :
    Calls Tryz.prog 77 #[.slice a l.length cap,.func (.func 74) #[] #[.pointer (some ⟨r,0,none⟩)]] w fun e w'=>∃ a' n' c',e=.returned (.slice a' n' c')∧IsL w' (Own w' w.heap.size) (.slice a' n' c') l∧Below w.heap.size w w':=by
  have hlen:l.length≤4294967296:=Nat.le_trans (V.wtL_len l) (by omega)
  by_cases h0:l.length=0
  · have hk:l=[]:=List.eq_nil_of_length_eq_zero h0
    subst hk;go_enter Tryz.func77,Tryz.ntmps77
    go_wp2
    go_ret
    exact ⟨_,_,_,rfl,isL_nil _ _,Below.refl _ _⟩
  · have hb:((l.length:Int) == 0)=false:=by rw [beq_eq_false_iff_ne];omega
    obtain ⟨M,hM,hmk⟩:=make_val l.length hlen;have HM:Hid _:=hM;have HW:Hid _:=hw;clear hM hw h0;go_enter Tryz.func77,Tryz.ntmps77
    go_wp2_with fail
    clear hmk hb
    go_loopg [16] l.length (fun g i wr=>∃ (j:Nat) (c:Nat→Value),j+g=l.length∧i=.int .i64 j∧Below w.heap.size w wr∧w.heap.size < wr.heap.size∧Hid (Row wr w.heap.size (l.length * 5) c)∧Hid (∀ i (h:i < l.length),i < j→Is wr (Own wr (w.heap.size+1)) (elemV c i) l[i])∧Hid (Fre wr w.heap.size))
    case atStart=>
      refine ⟨0,fun i=>M.getD i undef,by omega,rfl,below_alloc _ _,by simp,?_,fun i _ hi=>absurd hi (Nat.not_lt_zero _),fre_new _ _ _ _ rfl⟩;unfold Hid;rw [← HM.out];exact row_new _ _ _ _ rfl
    case round =>
      obtain ⟨j,c',hj,rfl,bj,hgs,HR,HD,HF⟩:=hrel
      by_cases hlt:j < l.length
      · obtain ⟨b,off,k',n',t',a1,n1,c1,a2,n2,c2,rfl,hel,e0,e1,e2,e3,e4⟩:=elem_open h6 bj hlt (h7 j hlt)
        have hwx:=V.wtL_mem (List.getElem_mem hlt);have H1:Hid _:=hwx;clear hwx
        go_wp2_with fail
        refine (ih _ _ _ r S (hel.keep (Keeps.of_below (below_alloc wr _))) (Nat.le_trans H1.out HW.out) (cell_keep (cell_keep hr bj) (below_alloc wr _))).mono ?_;rintro e w2 ⟨k3,n3,t3,a3,m3,d3,a4,m4,d4,rfl,his,b2⟩;have bb:=bthen (below_alloc wr _) b2;have hrow2:Row w2 w.heap.size (l.length * 5) c':=Row.keep HR.out hgs bb;obtain ⟨r0,f0⟩:=hrow2 (j * 5) (by omega);obtain ⟨r1,f1⟩:=hrow2 (j * 5+1) (by omega);obtain ⟨r2,f2⟩:=hrow2 (j * 5+2) (by omega);obtain ⟨r3,f3⟩:=hrow2 (j * 5+3) (by omega);obtain ⟨r4,f4⟩:=hrow2 (j * 5+4) (by omega);have HROW:Hid _:=hrow2;clear hrow2
        go_wp2
        go_roundg (gk - 1)
        case measure=>omega
        case rel =>
          refine ⟨j+1,_,by omega,rfl,below_set5 (bthen bj bb) (Nat.le_refl _) _ _ _ _ _,?_,Row.set5 HROW.out (by omega) _ _ _ _ _,?_,((((((HF.out.below hgs bb).set _ _).set _ _).set _ _).set _ _).set _ _)⟩
          · have:=size_set5 w2 w.heap.size (j * 5) (.int .i64 k3) (.int .i64 n3) (.string t3) (.slice a3 m3 d3) (.slice a4 m4 d4)
            unfold set5 at this;rw [this];exact Nat.lt_of_lt_of_le hgs bb.size
          · intro i hi hij
            have kp:Keeps (fun b=>w.heap.size+1≤b) w2 (set5 w2 w.heap.size (j * 5) (.int .i64 k3) (.int .i64 n3) (.string t3) (.slice a3 m3 d3) (.slice a4 m4 d4)):=keeps_set5 _ _ _ _ _ (by omega);have hf5:∀ b,b < w2.heap.size→Fre w2 b→Fre (set5 w2 w.heap.size (j * 5) (.int .i64 k3) (.int .i64 n3) (.string t3) (.slice a3 m3 d3) (.slice a4 m4 d4)) b:=fun b _ hf=>((((hf.set _ _).set _ _).set _ _).set _ _).set _ _
            by_cases e:i=j
            · subst e
              rw [elem_set5_same];have his':Is w2 (Own w2 (w.heap.size+1)) _ _:=his.weak (S':=Own w2 (w.heap.size+1)) (fun b _ hb=>⟨by have:=hb.1;simp at this;omega,hb.2⟩);exact his'.ownTo kp hf5 (Nat.le_refl _)
            · rw [elem_set5_other _ _ _ e]
              exact ((HD.out i hi (by omega)).ownBelow bb (Nat.le_refl _)).ownTo kp hf5 (Nat.le_refl _)
      · have hje:j=l.length:=by omega
        subst hje
        go_wp2
        go_ret
        refine ⟨_,_,_,rfl,⟨_,_,c',rfl,Nat.le_refl _,Nat.le_trans hlen (by decide),Row.cells HR.out (S:=Own wr w.heap.size) ⟨Nat.le_refl _,HF.out⟩ (Nat.le_refl _),?_⟩,bj⟩;intro i hi;exact (HD.out i hi hi).weak (fun b _ hb=>⟨by have:=hb.1;omega,hb.2⟩)
def BoxF (w:World) (g:Nat) (c0 c1 c2 c3 c4:Value):Prop :=
  Box5 w g c0 c1 c2 c3 c4∧w.frozen? ⟨g,0,none⟩=false∧w.frozen? ⟨g,1,none⟩=false∧w.frozen? ⟨g,2,none⟩=false∧w.frozen? ⟨g,3,none⟩=false∧w.frozen? ⟨g,4,none⟩=false
theorem boxF_at (w:World) (c0 c1 c2 c3 c4:Value) (t:TypeId) (g:Nat) (h:g=w.heap.size):BoxF (w.alloc (.cells #[c0,c1,c2,c3,c4] t)) g c0 c1 c2 c3 c4:=by
  subst h;have hr:=row_new w #[c0,c1,c2,c3,c4] t _ rfl;exact ⟨box5_new w c0 c1 c2 c3 c4 t,(hr 0 (by decide:0 < 5)).2,(hr 1 (by decide:1 < 5)).2,(hr 2 (by decide:2 < 5)).2,(hr 3 (by decide:3 < 5)).2,(hr 4 (by decide:4 < 5)).2⟩
theorem BoxF.keep {w w':World} {g:Nat} {c0 c1 c2 c3 c4:Value} (h:BoxF w g c0 c1 c2 c3 c4) (k:Below w.heap.size w w'):BoxF w' g c0 c1 c2 c3 c4:=by
  obtain ⟨h1,f0,f1,f2,f3,f4⟩:=h;have hg:=cell_size h1.1;refine ⟨h1.keep k,?_,?_,?_,?_,?_⟩ <;> rw [k.frozen (p:=⟨g,_,none⟩) hg] <;> assumption
theorem box_other {w:World} {g g' o o':Nat} {v x:Value} (h:w.cell? ⟨g,o,none⟩=some v) (ho:g≠g'∨o≠o'):(w.setCell ⟨g',o',none⟩ x).cell? ⟨g,o,none⟩=some v:=by
  rw [World.cell?_setCell_other _ _ _ _ (by simp only [ne_eq,Addr.mk.injEq];omega)];exact h
theorem BoxF.set2 {w:World} {g:Nat} {c0 c1 c2 c3 c4:Value} (h:BoxF w g c0 c1 c2 c3 c4) (v:Value):BoxF (w.setCell ⟨g,2,none⟩ v) g c0 c1 v c3 c4:=by
  obtain ⟨⟨h0,h1,h2,h3,h4⟩,f⟩:=h;refine ⟨⟨box_other h0 (by omega),box_other h1 (by omega),World.cell?_setCell_same _ _ _ h2,box_other h3 (by omega),box_other h4 (by omega)⟩,?_⟩
  simpa only [World.frozen?_setCell] using f
theorem BoxF.set3 {w:World} {g:Nat} {c0 c1 c2 c3 c4:Value} (h:BoxF w g c0 c1 c2 c3 c4) (v:Value):BoxF (w.setCell ⟨g,3,none⟩ v) g c0 c1 c2 v c4:=by
  obtain ⟨⟨h0,h1,h2,h3,h4⟩,f⟩:=h;refine ⟨⟨box_other h0 (by omega),box_other h1 (by omega),box_other h2 (by omega),World.cell?_setCell_same _ _ _ h3,box_other h4 (by omega)⟩,?_⟩
  simpa only [World.frozen?_setCell] using f
theorem BoxF.set4 {w:World} {g:Nat} {c0 c1 c2 c3 c4:Value} (h:BoxF w g c0 c1 c2 c3 c4) (v:Value):BoxF (w.setCell ⟨g,4,none⟩ v) g c0 c1 c2 c3 v:=by
  obtain ⟨⟨h0,h1,h2,h3,h4⟩,f⟩:=h;refine ⟨⟨box_other h0 (by omega),box_other h1 (by omega),box_other h2 (by omega),box_other h3 (by omega),World.cell?_setCell_same _ _ _ h4⟩,?_⟩
  simpa only [World.frozen?_setCell] using f
theorem BoxF.other {w:World} {g g' o':Nat} {c0 c1 c2 c3 c4:Value} (h:BoxF w g c0 c1 c2 c3 c4) (hg:g≠g') (v:Value):BoxF (w.setCell ⟨g',o',none⟩ v) g c0 c1 c2 c3 c4:=by
  obtain ⟨⟨h0,h1,h2,h3,h4⟩,f⟩:=h;refine ⟨⟨box_other h0 (.inl hg),box_other h1 (.inl hg),box_other h2 (.inl hg),box_other h3 (.inl hg),box_other h4 (.inl hg)⟩,?_⟩
  simpa only [World.frozen?_setCell] using f
theorem Box5.all {w:World} {g:Nat} {c0 c1 c2 c3 c4:Value} (h:Box5 w g c0 c1 c2 c3 c4) (v0 v1 v2 v3 v4:Value) :
    Box5 (((((w.setCell ⟨g,0,none⟩ v0).setCell ⟨g,1,none⟩ v1).setCell ⟨g,2,none⟩ v2).setCell ⟨g,3,none⟩ v3).setCell ⟨g,4,none⟩ v4) g v0 v1 v2 v3 v4:=by
  obtain ⟨h0,h1,h2,h3,h4⟩:=h;refine ⟨?_,?_,?_,?_,?_⟩
  · exact box_other (box_other (box_other (box_other (World.cell?_setCell_same _ _ _ h0) (by omega)) (by omega)) (by omega)) (by omega)
  · exact box_other (box_other (box_other (World.cell?_setCell_same _ _ _ (box_other h1 (by omega))) (by omega)) (by omega)) (by omega)
  · exact box_other (box_other (World.cell?_setCell_same _ _ _ (box_other (box_other h2 (by omega)) (by omega))) (by omega)) (by omega)
  · exact box_other (World.cell?_setCell_same _ _ _ (box_other (box_other (box_other h3 (by omega)) (by omega)) (by omega))) (by omega)
  · exact World.cell?_setCell_same _ _ _ (box_other (box_other (box_other (box_other h4 (by omega)) (by omega)) (by omega)) (by omega))
theorem keeps5 (w:World) (g:Nat) (v0 v1 v2 v3 v4:Value) :
    Keeps (fun b=>g+2≤b) w (((((w.setCell ⟨g+1,0,none⟩ v0).setCell ⟨g+1,1,none⟩ v1).setCell ⟨g+1,2,none⟩ v2).setCell ⟨g+1,3,none⟩ v3).setCell ⟨g+1,4,none⟩ v4):=by
  intro b hb _;have e:b≠g+1:=by omega
  rw [Below.heap_setCell _ _ _ _ e,Below.heap_setCell _ _ _ _ e,Below.heap_setCell _ _ _ _ e,Below.heap_setCell _ _ _ _ e,Below.heap_setCell _ _ _ _ e]
theorem keeps6 (w:World) (g:Nat) (x v0 v1 v2 v3 v4:Value) :
    Keeps (fun b=>g+2≤b) w ((((((w.setCell ⟨g,4,none⟩ x).setCell ⟨g+1,0,none⟩ v0).setCell ⟨g+1,1,none⟩ v1).setCell ⟨g+1,2,none⟩ v2).setCell ⟨g+1,3,none⟩ v3).setCell ⟨g+1,4,none⟩ v4) :=
  (keeps_set x (by omega)).trans (keeps5 _ g v0 v1 v2 v3 v4) (by rw [size_set];exact Nat.le_refl _)
set_option maxHeartbeats 4000000 in
theorem copy1_any (d:Nat):CopyAt d:=by
  induction d with
  | zero=>intro v x w r S h;exact h.elim
  | succ d ih =>
    intro v x w r S h hwt hr;obtain ⟨kv,a,cap,c,rfl,h2,h3,h4,h5,h6,h7⟩:=h;obtain ⟨k,n,t,ks,l⟩:=x;simp only at *;rw [V.wt_mk] at hwt;obtain ⟨a1,c1,rfl,_⟩:=id h2;have HW:Hid _:=hwt;clear hwt;go_enter Tryz.func74,Tryz.ntmps74
    go_wp2_with fail
    refine (clone_any _ _ (by have:=HW.out;omega)).mono ?_;rintro e w1 ⟨rfl,b1⟩;have p1:BoxF w1 w.heap.size _ _ _ _ _:=((boxF_at w _ _ _ _ _ 27 _ rfl).keep (below_alloc _ _)).keep b1;have q1:BoxF w1 (w.heap.size+1) _ _ _ _ _:=(boxF_at _ _ _ _ _ _ 27 _ (by simp)).keep b1;obtain ⟨⟨x0,x1,x2,x3,x4⟩,f0,f1,f2,f3,f4⟩:=id p1
    go_wp2_with fail
    have bb1:Below w.heap.size w (w1.setCell ⟨w.heap.size,2,none⟩ (.string t)):=below_set (bthen (bthen (below_alloc w _) (below_alloc _ _)) b1) (Nat.le_refl _) _;have s1:w.heap.size+2≤(w1.setCell ⟨w.heap.size,2,none⟩ (.string t)).heap.size:=by rw [size_set];have:=b1.size;simp at this;omega
    have p2:=p1.set2 (.string t);have q2:=q1.other (g':=w.heap.size) (o':=2) (by omega) (.string t);clear x0 x1 x2 x3 x4 f0 f1 f2 f3 f4 p1 q1 b1;generalize w1.setCell ⟨w.heap.size,2,none⟩ (.string t)=W1 at *;refine (turnedSSF_any (h2.below bb1) (by have:=HW.out;omega)).mono ?_;rintro e w2 ⟨v2,rfl,hst,b2⟩;obtain ⟨a3,c3,rfl,_⟩:=id hst;have p3:=p2.keep b2;have q3:=q2.keep b2;obtain ⟨⟨x0,x1,x2,x3,x4⟩,f0,f1,f2,f3,f4⟩:=id p3;have hr2:(w2.setCell ⟨w.heap.size,3,none⟩ (.slice a3 ks.length c3)).cell? ⟨r,0,none⟩=_:=box_other (cell_keep (cell_keep hr bb1) b2) (.inl (Nat.ne_of_lt (cell_size hr)));have p4:=p3.set3 (.slice a3 ks.length c3);obtain ⟨⟨_,_,_,_,y4⟩,_⟩:=id p4
    go_wp2_with fail
    have q4:=q3.other (g':=w.heap.size) (o':=3) (by omega) (.slice a3 ks.length c3);have bb2:Below w.heap.size w (w2.setCell ⟨w.heap.size,3,none⟩ (.slice a3 ks.length c3)):=below_set (bthen bb1 b2) (Nat.le_refl _) _;have s2:W1.heap.size≤(w2.setCell ⟨w.heap.size,3,none⟩ (.slice a3 ks.length c3)).heap.size:=by rw [size_set];exact b2.size
    have hst2:=hst.ownTo (B':=w.heap.size+2) (keeps_set (w:=w2) (g:=w.heap.size) (o:=3) (.slice a3 ks.length c3) (by omega)) (fun b _ hf=>hf.set _ _) s1;clear x0 x1 x2 x3 x4 f0 f1 f2 f3 f4 p3 q3 hst b2 y4;generalize w2.setCell ⟨w.heap.size,3,none⟩ (.slice a3 ks.length c3)=W2 at *;refine (turnedVV_any d ih a cap c l _ S r (h6.keep (Keeps.of_below bb2)) (fun i hi=>(h7 i hi).keep (Keeps.of_below bb2)) (Nat.le_trans (by omega) HW.out) hr2).mono ?_;rintro e w3 ⟨a5,n5,c5,rfl,hli,b3⟩;have p5:=p4.keep b3;have q5:=q4.keep b3;obtain ⟨⟨x0,x1,x2,x3,x4⟩,f0,f1,f2,f3,f4⟩:=id p5;obtain ⟨⟨y0,y1,y2,y3,y4⟩,g0,g1,g2,g3,g4⟩:=id (q5.other (g':=w.heap.size) (o':=4) (by omega) (.slice a5 n5 c5));obtain ⟨⟨z0,z1,z2,z3,z4⟩,_⟩:=id (p5.set4 (.slice a5 n5 c5))
    go_wp2_with fail
    obtain ⟨u0,u1,u2,u3,u4⟩:=Box5.all ⟨y0,y1,y2,y3,y4⟩ (.int .i64 k) (.int .i64 n) (.string t) (.slice a3 ks.length c3) (.slice a5 n5 c5);refine bodyPost_ret (v:=.agg #[.int .i64 k,.int .i64 n,.string t,.slice a3 ks.length c3,.slice a5 n5 c5]) (by simp [results,Tryz.results74,go_sem,u0,u1,u2,u3,u4]) rfl ?_;refine ⟨k,n,t,a3,ks.length,c3,a5,n5,c5,rfl,?_,?_⟩
    · have kp:=keeps6 w3 w.heap.size (.slice a5 n5 c5) (.int .i64 k) (.int .i64 n) (.string t) (.slice a3 ks.length c3) (.slice a5 n5 c5)
      refine Is.shut (x:=⟨k,n,t,ks,l⟩) ?_ ?_ h5
      · exact (hst2.ownTo (B':=w.heap.size+2) (Keeps.of_below b3) (fun _ hb hf=>hf.below hb b3) (Nat.le_refl _)).ownTo kp (fun b _ hf=>(((((hf.set _ _).set _ _).set _ _).set _ _).set _ _).set _ _) (by omega)
      · exact (hli.weak (S':=Own w3 (w.heap.size+2)) (fun b _ hb=>⟨Nat.le_trans s1 (Nat.le_trans s2 hb.1),hb.2⟩)).ownTo kp (fun b _ hf=>(((((hf.set _ _).set _ _).set _ _).set _ _).set _ _).set _ _) (by omega)
    · exact (((((below_set (bthen bb2 b3) (Nat.le_refl _) _).setCell (Nat.le_succ _) _).setCell (Nat.le_succ _) _).setCell (Nat.le_succ _) _).setCell (Nat.le_succ _) _).setCell (Nat.le_succ _) _
theorem copyF_any {v:Value} {x:V} {w:World} {S:Nat→Prop} (h:Is w S v x) (hwt:V.wt x≤4294967296) :
    Calls Tryz.prog 43 #[v] w fun e w'=>∃ k n t a1 n1 c1 a2 n2 c2,e=.returned (.agg #[.int .i64 k,.int .i64 n,.string t,.slice a1 n1 c1,.slice a2 n2 c2])∧Is w' (Own w' w.heap.size) (.agg #[.int .i64 k,.int .i64 n,.string t,.slice a1 n1 c1,.slice a2 n2 c2]) x∧Below w.heap.size w w':=by
  obtain ⟨d,h⟩:=h;have h':=h;cases d with
  | zero=>exact h.elim
  | succ d =>
  obtain ⟨kv,a,cap,c,rfl,⟨a1,c1,rfl,_⟩,_⟩:=h';go_enter Tryz.func43,Tryz.ntmps43
  go_wp2_with fail
  refine (copy1_any _ _ _ _ _ S (h.keep (Keeps.of_below (bthen (below_alloc w _) (bthen (below_alloc _ _) (below_alloc _ _))))) hwt (cell_new _ _ _ _ (by simp))).mono ?_;rintro e w1 ⟨k,n,t,a2,n2,c2,a3,n3,c3,rfl,his,b1⟩;have q:BoxF w1 (w.heap.size+1) _ _ _ _ _:=((boxF_at _ _ _ _ _ _ 27 _ (by simp)).keep (below_alloc _ _)).keep b1;obtain ⟨⟨y0,y1,y2,y3,y4⟩,g0,g1,g2,g3,g4⟩:=id q;have s1:=b1.size;have S1:Hid _:=s1;clear s1
  go_wp2_with fail
  obtain ⟨u0,u1,u2,u3,u4⟩:=Box5.all q.1 (.int .i64 k) (.int .i64 n) (.string t) (.slice a2 n2 c2) (.slice a3 n3 c3);refine bodyPost_ret (v:=.agg #[.int .i64 k,.int .i64 n,.string t,.slice a2 n2 c2,.slice a3 n3 c3]) (by simp [results,Tryz.results43,go_sem,u0,u1,u2,u3,u4]) rfl ?_;refine ⟨k,n,t,a2,n2,c2,a3,n3,c3,rfl,?_,?_⟩
  · have kp:=keeps5 w1 w.heap.size (.int .i64 k) (.int .i64 n) (.string t) (.slice a2 n2 c2) (.slice a3 n3 c3)
    exact (his.weak (S':=Own w1 (w.heap.size+2)) (fun b _ hb=>⟨by have:=hb.1;simp at this;omega,hb.2⟩)).ownTo kp (fun b _ hf=>((((hf.set _ _).set _ _).set _ _).set _ _).set _ _) (by omega)
  · exact (((((bthen (bthen (below_alloc w _) (bthen (below_alloc _ _) (below_alloc _ _))) b1).setCell (Nat.le_succ _) _).setCell (Nat.le_succ _) _).setCell (Nat.le_succ _) _).setCell (Nat.le_succ _) _).setCell (Nat.le_succ _) _
theorem copy_any {v:Value} {x:V} {w:World} {S:Nat→Prop} (h:Is w S v x) (hwt:V.wt x≤4294967296) :
    Calls Tryz.prog 43 #[v] w fun e w'=>∃ k n t a1 n1 c1 a2 n2 c2,e=.returned (.agg #[.int .i64 k,.int .i64 n,.string t,.slice a1 n1 c1,.slice a2 n2 c2])∧Is w' (fun b=>w.heap.size≤b) (.agg #[.int .i64 k,.int .i64 n,.string t,.slice a1 n1 c1,.slice a2 n2 c2]) x∧Below w.heap.size w w':=by
  refine (copyF_any h hwt).mono ?_;rintro e w' ⟨k,n,t,a1,n1,c1,a2,n2,c2,rfl,his,b⟩;exact ⟨k,n,t,a1,n1,c1,a2,n2,c2,rfl,his.weak (fun b _ hb=>hb.1),b⟩
end Go.Proofs.YtapcmbbhhclepaaGreatDoor
namespace Go.Proofs.YtapcmbbhhclepaaGreatDoor
namespace V
theorem wtL_list (x:V):wtL x.list < wt x:=by cases x;rw [wt_mk];simp only;omega
theorem wtK_keys (x:V):wtK x.keys < wt x:=by cases x;rw [wt_mk];simp only;omega
theorem text_wt (x:V):x.text.size < wt x:=by cases x;rw [wt_mk];simp only;omega
theorem wt_get (x:V) (p:Nat) (h:p < x.list.length):wt x.list[p] < wt x:=Nat.lt_of_le_of_lt (wtL_mem (List.getElem_mem h)) (wtL_list x)
theorem len_wt (x:V):x.list.length < wt x:=Nat.lt_of_le_of_lt (wtL_len _) (wtL_list x)
theorem klen_wt (x:V):x.keys.length < wt x:=Nat.lt_of_le_of_lt (wtK_len _) (wtK_keys x)
theorem room_hit (ks:List ByteArray) (key:ByteArray) (j:Nat) (h:j < ks.length) (h1:less (ks.getD j ByteArray.empty) key=false) (h2:∀ i,i < j→less (ks.getD i ByteArray.empty) key=true):room ks key=j:=by
  unfold room;rw [List.findIdx_eq h];have e:∀ i (hi:i < ks.length),ks.getD i ByteArray.empty=ks[i]:=fun i hi=>by simp [List.getD,hi]
  constructor
  · rw [← e j h,h1];rfl
  · intro i hi
    rw [← e i (by omega),h2 i hi];rfl
theorem room_miss (ks:List ByteArray) (key:ByteArray) (h2:∀ i,i < ks.length→less (ks.getD i ByteArray.empty) key=true):room ks key=ks.length:=by
  unfold room;rw [List.findIdx_eq_length];intro x hx;obtain ⟨i,hi,rfl⟩:=List.getElem_of_mem hx;have e:ks.getD i ByteArray.empty=ks[i]:=by simp [List.getD,hi]
  rw [← e,h2 i hi];rfl
theorem room_le (ks:List ByteArray) (key:ByteArray):room ks key≤ks.length:=List.findIdx_le_length
theorem getD_take (ks:List ByteArray) (m i:Nat) (h:i < m):(ks.take m).getD i ByteArray.empty=ks.getD i ByteArray.empty:=by
  simp only [List.getD,List.getElem?_take_of_lt h]
theorem idx_lt (ks:List ByteArray) (key:ByteArray) (h:0≤Lib.idxOfS ks key):(Lib.idxOfS ks key).toNat < ks.length:=by
  have hm:=(Lib.idxOfS_nonneg_iff ks key).1 h
  have hx:∃ k,k < ks.length∧ks.getD k ByteArray.empty=key∧∀ j,j < k→ks.getD j ByteArray.empty≠key:=by
    clear h
    induction ks with
    | nil=>cases hm
    | cons a ks ih =>
      by_cases e:a=key
      · exact ⟨0,by simp,by simpa using e,fun j hj=>absurd hj (Nat.not_lt_zero _)⟩
      · have hm':key ∈ ks:=by
          rcases List.mem_cons.1 hm with h | h
          · exact absurd h.symm e
          · exact h
        obtain ⟨k,h1,h2,h3⟩:=ih hm';refine ⟨k+1,by simpa using h1,by simpa using h2,fun j hj=>?_⟩;cases j with
        | zero=>simpa using e
        | succ j=>simpa using h3 j (by omega)
  obtain ⟨k,h1,h2,h3⟩:=hx;have:=Lib.idxOfS_hit ks ks.length k key h1 (Nat.le_refl _) h2 h3
  rw [List.take_length] at this;omega
theorem place_lt (x:V) (key:ByteArray) (h:0≤place x key):x.kind=5∧(place x key).toNat < min x.keys.length x.list.length:=by
  obtain ⟨k,n,t,ks,l⟩:=x;simp only [place] at *
  by_cases hk:k=5
  · rw [if_pos hk] at *
    have:=idx_lt _ _ h
    rw [List.length_take] at this;exact ⟨hk,by omega⟩
  · rw [if_neg hk] at h;omega
theorem wt_laid (x:V) (a b:Nat) (mk':List ByteArray) (ml:List V):wt (laid x a b mk' ml)≤2 * wt x+wtK mk'+wtL ml:=by
  obtain ⟨k,n,t,ks,l⟩:=x;simp only [laid,wt_mk,splice,wtK_append,wtL_append];have h1:=wtK_take (ks.take (min ks.length l.length)) a;have h2:=wtK_take ks (min ks.length l.length);have h3:=wtK_drop (ks.take (min ks.length l.length)) b;have h4:=wtL_take (l.take (min ks.length l.length)) a;have h5:=wtL_take l (min ks.length l.length);have h6:=wtL_drop (l.take (min ks.length l.length)) b;omega
theorem wt_withV (x:V) (key:ByteArray) (y:V):wt (withV x key y)≤2 * wt x+key.size+wt y+5:=by
  have e1:wtK [key]=1+key.size:=by simp [wtK]
  have e2:wtL [y]=wt y:=by rw [wtL_cons,wtL_nil];omega
  have h5:∀ z:V,wt (with5 z key y)≤2 * wt z+(1+key.size)+wt y:=by
    intro z;unfold with5
    split
    · have:=wt_laid z (place z key).toNat ((place z key).toNat+1) [key] [y];omega
    · have:=wt_laid z (room (z.keys.take (min z.keys.length z.list.length)) key) (room (z.keys.take (min z.keys.length z.list.length)) key) [key] [y];omega
  unfold withV
  split
  · have:=h5 x;omega
  · have:=h5 none5
    have e3:wt none5=1:=by unfold none5;rw [wt_mk];rfl
    have:=wt_pos x
    omega
theorem wt_without (x:V) (key:ByteArray):wt (without x key)≤2 * wt x:=by
  unfold without
  split
  · have:=wt_laid x (place x key).toNat ((place x key).toNat+1) [] []
    simp [wtK,wtL_nil] at this;omega
  · have:=wt_pos x;omega
end V
end Go.Proofs.YtapcmbbhhclepaaGreatDoor
namespace Go.Proofs.YtapcmbbhhclepaaGreatDoor
open Go.RowKit
theorem map_add0 (a:Option Addr):a.map (fun x=>x.add 0)=a:=by cases a <;> simp [Addr.add]
theorem slice_front_str (a:Option Addr) (n cap m:Nat) (h:m≤cap) (W:World) :
    (Instr.slice 24 (.slice a n cap) none (some (.int .i64 (m:Int))) none).run Tryz.prog W=.ok (.slice a m cap) W:=by
  rw [run_slice_h (P:=Tryz.prog) W _ a n cap Tryz.underlying24 .i64 (m:Int) (by omega) (by omega)];simp [sliced,go_sem,map_add0]
theorem slice_front_val (a:Option Addr) (n cap m:Nat) (h:m≤cap) (W:World) :
    (Instr.slice 25 (.slice a n cap) none (some (.int .i64 (m:Int))) none).run Tryz.prog W=.ok (.slice a m cap) W:=by
  rw [run_slice_h (P:=Tryz.prog) W _ a n cap Tryz.underlying25 .i64 (m:Int) (by omega) (by omega)];simp [sliced,go_sem,map_add0]
theorem pairs_any (k n:Int) (t:ByteArray) (a1:Option Addr) (n1 c1:Nat) (a2:Option Addr) (n2 c2:Nat) (w:World) (h1:n1≤c1) (h2:n2≤c2) (m:Nat) (hm:min n1 n2=m) :
    Calls Tryz.prog 79 #[.agg #[.int .i64 k,.int .i64 n,.string t,.slice a1 n1 c1,.slice a2 n2 c2]] w fun e w'=>e=.returned (.tuple #[.slice a1 m c1,.slice a2 m c2])∧Below w.heap.size w w':=by
  have s1:=slice_front_str a1 n1 c1 m (by omega);have s2:=slice_front_val a2 n2 c2 m (by omega);have hm':min (n1:Int) (n2:Int)=(m:Int):=by omega
  go_enter Tryz.func79,Tryz.ntmps79
  go_wp2
  go_quiet (fail)
  go_wp2
  go_ret2
  exact ⟨rfl,below_drewN (below_alloc _ _) _⟩
theorem strsIndex_any {w:World} {S:Nat→Prop} {a:Option Addr} {n cap:Nat} {ks:List ByteArray} (hn:n≤ks.length) (hl:n≤9223372036854775807) (h:Cells w S a ks.length (fun i=>.string (ks.getD i ByteArray.empty))) (key:ByteArray) :
    Calls Tryz.prog 72 #[.slice a n cap,.string key] w fun e w'=>e=.returned (.int .i64 (Lib.idxOfS (ks.take n) key))∧w'=w:=by
  by_cases h0:0 < n
  · obtain ⟨b,off,rfl,_,hc⟩:=h (by omega)
    exact Tryz.slices_Index_string b off n cap ks key w hn hl hc
  · have:n=0:=by omega
    subst this;exact Tryz.slices_Index_string_empty a cap key w
set_option maxHeartbeats 2000000 in
theorem placeOf_any {v:Value} {x:V} {w:World} {S:Nat→Prop} (h:Is w S v x) (key:ByteArray) (p:Int) (hp:V.place x key=p) :
    Calls Tryz.prog 73 #[v,.string key] w fun e w'=>e=.returned (.int .i64 p)∧Below w.heap.size w w':=by
  obtain ⟨kv,lv,rfl,h2,h8,_⟩:=h.open;obtain ⟨k,n,t,ks,l⟩:=x;simp only at *;obtain ⟨a1,c1,rfl,h3,h4,_,h5⟩:=id h2;obtain ⟨a,cap,c,rfl,h6,h7,_⟩:=id h8;simp only [V.place] at hp;clear h h2 h8
  by_cases hk:k=5
  · subst hk
    rw [if_pos rfl] at hp;subst hp;obtain ⟨m,hm⟩:∃ m,min ks.length l.length=m:=⟨_,rfl⟩;rw [hm];have HM:Hid _:=hm;have H5:Hid _:=h5;have H4:Hid _:=h4;clear hm h5 h4;go_enter Tryz.func73,Tryz.ntmps73
    go_wp2_with fail
    refine (pairs_any _ _ _ _ _ _ _ _ _ _ h3 h6 m HM.out).mono ?_;rintro e w1 ⟨rfl,b1⟩
    go_wp2_with fail
    have hml:m≤ks.length:=by have:=HM.out;omega
    refine (strsIndex_any hml (Nat.le_trans hml (Nat.le_trans h3 H4.out)) (Cells.keep H5.out (Keeps.of_below (bthen (below_alloc _ _) b1))) key).mono ?_;rintro e w1 ⟨rfl,rfl⟩
    go_wp2
    go_ret
    exact ⟨rfl,bthen (below_alloc _ _) b1⟩
  · rw [if_neg hk] at hp
    subst hp;go_enter Tryz.func73,Tryz.ntmps73
    go_wp2
    go_ret
    exact ⟨rfl,below_alloc _ _⟩
theorem get_none {v:Value} {x:V} {w:World} {S:Nat→Prop} (h:Is w S v x) (key:ByteArray) (hp:V.place x key < 0) :
    Calls Tryz.prog 42 #[v,.string key] w fun e w'=>e=.returned (.tuple #[.agg #[.int .i64 0,.int .i64 0,.string ⟨#[]⟩,.slice none 0 0,.slice none 0 0],.bool false])∧Below w.heap.size w w':=by
  obtain ⟨kv,lv,rfl,h2,h8,_⟩:=id h.open;obtain ⟨a1,c1,rfl,h3,h4,_,h5⟩:=id h2;obtain ⟨a,cap,c,rfl,h6,h7,_⟩:=id h8;obtain ⟨p,hp'⟩:∃ p,V.place x key=p:=⟨_,rfl⟩;rw [hp'] at hp;have HP:Hid _:=hp';clear hp' h5 h4 h7;go_enter Tryz.func42,Tryz.ntmps42
  go_wp2_with fail
  refine (placeOf_any (h.below (bthen (below_alloc _ _) (below_alloc _ _))) key p HP.out).mono ?_;rintro e w1 ⟨rfl,b1⟩;have q:BoxF w1 (w.heap.size+1) _ _ _ _ _:=(boxF_at _ _ _ _ _ _ 27 _ (by simp)).keep b1;obtain ⟨⟨y0,y1,y2,y3,y4⟩,g0,g1,g2,g3,g4⟩:=id q
  go_wp2_with fail
  obtain ⟨u0,u1,u2,u3,u4⟩:=Box5.all q.1 (.int .i64 0) (.int .i64 0) (.string ⟨#[]⟩) (.slice none 0 0) (.slice none 0 0);refine bodyPost_ret (v:=.tuple #[.agg #[.int .i64 0,.int .i64 0,.string ⟨#[]⟩,.slice none 0 0,.slice none 0 0],.bool false]) (by simp [results,Tryz.results42,go_sem,u0,u1,u2,u3,u4]) rfl ?_;refine ⟨rfl,?_⟩;exact (((((bthen (bthen (below_alloc w _) (below_alloc _ _)) b1).setCell (Nat.le_succ _) _).setCell (Nat.le_succ _) _).setCell (Nat.le_succ _) _).setCell (Nat.le_succ _) _).setCell (Nat.le_succ _) _
set_option maxHeartbeats 2000000 in
theorem getF_some {v:Value} {x:V} {w:World} {S:Nat→Prop} (h:Is w S v x) (key:ByteArray) (p:Nat) (hp:V.place x key=p) (hpl:p < x.list.length) (hwt:V.wt x≤4294967296) :
    Calls Tryz.prog 42 #[v,.string key] w fun e w'=>∃ k n t a1 n1 c1 a2 n2 c2,e=.returned (.tuple #[.agg #[.int .i64 k,.int .i64 n,.string t,.slice a1 n1 c1,.slice a2 n2 c2],.bool true])∧Is w' (Own w' w.heap.size) (.agg #[.int .i64 k,.int .i64 n,.string t,.slice a1 n1 c1,.slice a2 n2 c2]) x.list[p]∧Below w.heap.size w w':=by
  obtain ⟨kv,lv,rfl,h2,h8,_⟩:=id h.open;obtain ⟨a1,c1,rfl,h3,h4,_,h5⟩:=id h2;obtain ⟨a,cap,c,rfl,h6,h7,_⟩:=id h8;have HP:Hid _:=hp;have hlen:x.list.length≤4294967296:=by have:=V.len_wt x;omega
  have hwp:V.wt x.list[p]≤4294967296:=by have:=V.wt_get x p hpl;omega
  clear hp h5 h4 h7;go_enter Tryz.func42,Tryz.ntmps42
  go_wp2_with fail
  refine (placeOf_any (h.below (bthen (below_alloc _ _) (below_alloc _ _))) key p HP.out).mono ?_;rintro e w1 ⟨rfl,b1⟩;have bb:=bthen (bthen (below_alloc w _) (below_alloc _ _)) b1;obtain ⟨b,off,k',n',t',a1',n1',c1',a2',n2',c2',rfl,hel,e0,e1,e2,e3,e4⟩:=isL_open h8 bb hpl;obtain ⟨x0,x1,x2,x3,x4⟩:Box5 w1 w.heap.size _ _ _ _ _:=((box5_new w _ _ _ _ _ 27).keep (below_alloc _ _)).keep b1
  go_wp2_with fail
  refine (copyF_any hel hwp).mono ?_;rintro e w2 ⟨k2,n2,t2,a3,m3,c3,a4,m4,c4,rfl,his,b2⟩;have q:BoxF w2 (w.heap.size+1) _ _ _ _ _:=((boxF_at _ _ _ _ _ _ 27 _ (by simp)).keep b1).keep b2;obtain ⟨⟨y0,y1,y2,y3,y4⟩,g0,g1,g2,g3,g4⟩:=id q
  go_wp2_with fail
  obtain ⟨u0,u1,u2,u3,u4⟩:=Box5.all q.1 (.int .i64 k2) (.int .i64 n2) (.string t2) (.slice a3 m3 c3) (.slice a4 m4 c4);refine bodyPost_ret (v:=.tuple #[.agg #[.int .i64 k2,.int .i64 n2,.string t2,.slice a3 m3 c3,.slice a4 m4 c4],.bool true]) (by simp [results,Tryz.results42,go_sem,u0,u1,u2,u3,u4]) rfl ?_;refine ⟨k2,n2,t2,a3,m3,c3,a4,m4,c4,rfl,?_,?_⟩
  · have kp:=keeps5 w2 w.heap.size (.int .i64 k2) (.int .i64 n2) (.string t2) (.slice a3 m3 c3) (.slice a4 m4 c4)
    have s1:=b1.size;exact (his.weak (S':=Own w2 (w.heap.size+2)) (fun b _ hb=>⟨by have:=hb.1;simp at s1;omega,hb.2⟩)).ownTo kp (fun b _ hf=>((((hf.set _ _).set _ _).set _ _).set _ _).set _ _) (by omega)
  · exact (((((bthen bb b2).setCell (Nat.le_succ _) _).setCell (Nat.le_succ _) _).setCell (Nat.le_succ _) _).setCell (Nat.le_succ _) _).setCell (Nat.le_succ _) _
theorem get_some {v:Value} {x:V} {w:World} {S:Nat→Prop} (h:Is w S v x) (key:ByteArray) (p:Nat) (hp:V.place x key=p) (hpl:p < x.list.length) (hwt:V.wt x≤4294967296) :
    Calls Tryz.prog 42 #[v,.string key] w fun e w'=>∃ k n t a1 n1 c1 a2 n2 c2,e=.returned (.tuple #[.agg #[.int .i64 k,.int .i64 n,.string t,.slice a1 n1 c1,.slice a2 n2 c2],.bool true])∧Is w' (fun b=>w.heap.size≤b) (.agg #[.int .i64 k,.int .i64 n,.string t,.slice a1 n1 c1,.slice a2 n2 c2]) x.list[p]∧Below w.heap.size w w':=by
  refine (getF_some h key p hp hpl hwt).mono ?_;rintro e w' ⟨k,n,t,a1,n1,c1,a2,n2,c2,rfl,his,b⟩;exact ⟨k,n,t,a1,n1,c1,a2,n2,c2,rfl,his.weak (fun b _ hb=>hb.1),b⟩
theorem str_any (s:ByteArray) (w:World) (hs:s.size≤281474976710656) :
    Calls Tryz.prog 54 #[.string s] w fun e w'=>e=.returned (.agg #[.int .i64 3,.int .i64 0,.string s,.slice none 0 0,.slice none 0 0])∧Below w.heap.size w w':=by
  go_enter Tryz.func54,Tryz.ntmps54
  go_wp2_with fail
  refine (clone_any s _ hs).mono ?_;rintro e w1 ⟨rfl,b1⟩;have q:BoxF w1 w.heap.size _ _ _ _ _:=(boxF_at _ _ _ _ _ _ 27 _ rfl).keep b1;obtain ⟨⟨y0,y1,y2,y3,y4⟩,g0,g1,g2,g3,g4⟩:=id q
  go_wp2_with fail
  obtain ⟨u0,u1,u2,u3,u4⟩:=Box5.all q.1 (.int .i64 3) (.int .i64 0) (.string s) (.slice none 0 0) (.slice none 0 0);refine bodyPost_ret (v:=.agg #[.int .i64 3,.int .i64 0,.string s,.slice none 0 0,.slice none 0 0]) (by simp [results,Tryz.results54,go_sem,u0,u1,u2,u3,u4]) rfl ?_;exact ⟨rfl,(((((bthen (below_alloc w _) b1).setCell (Nat.le_refl _) _).setCell (Nat.le_refl _) _).setCell (Nat.le_refl _) _).setCell (Nat.le_refl _) _).setCell (Nat.le_refl _) _⟩
theorem is_plain (w:World) (S:Nat→Prop) (k n:Int) (t:ByteArray) (ht:t.size≤maxLen):Is w S (.agg #[.int .i64 k,.int .i64 n,.string t,.slice none 0 0,.slice none 0 0]) ⟨k,n,t,[],[]⟩ :=
  Is.shut (x:=⟨k,n,t,[],[]⟩) (strs_nil _ _) (isL_nil _ _) ht
end Go.Proofs.YtapcmbbhhclepaaGreatDoor
namespace Go.Proofs.YtapcmbbhhclepaaGreatDoor
open Go.RowKit
theorem hide {p:Prop} (h:p):Hid p:=h
def Raw (w:World) (S:Nat→Prop) (v:Value) (sz m:Nat) (cs:List Value):Prop :=
  ∃ a cap,v=.slice a m cap∧m≤cap∧cap≤maxLen∧cs.length=m * sz∧(∀ u ∈ cs,u.oneCell'=true)∧Cells w S a (m * sz) (fun i=>cs.getD i undef)
theorem Raw.keep {w w':World} {S:Nat→Prop} {v:Value} {sz m:Nat} {cs:List Value} (h:Raw w S v sz m cs) (k:Keeps S w w'):Raw w' S v sz m cs:=by
  obtain ⟨a,cap,h1,h2,h3,h4,h5,h6⟩:=h;exact ⟨a,cap,h1,h2,h3,h4,h5,h6.keep k⟩
theorem Raw.below {w w':World} {S:Nat→Prop} {v:Value} {sz m:Nat} {cs:List Value} (h:Raw w S v sz m cs) (k:Below w.heap.size w w'):Raw w' S v sz m cs:=h.keep (Keeps.of_below k)
theorem Raw.of_own {w:World} {base:Nat} {e:TypeId} {sz:Nat} {v:Value} {n:Nat} {xs:List Value} (h:w.ownsRow base e sz v n xs) (h1:∀ u ∈ xs,u.oneCell'=true):Raw w (fun b=>base≤b) v sz n xs:=by
  have hl:=h.1;rcases id h.2 with ⟨rfl,rfl⟩ | ⟨g,cap,cur,rfl,hb,hg,hnc,hcm,hcs,ht⟩
  · exact ⟨none,0,rfl,Nat.le_refl _,by decide,hl,h1,fun hh=>absurd hh (by simp)⟩
  · refine ⟨_,cap,rfl,hnc,hcm,hl,h1,fun _=>⟨g,0,rfl,hb,fun i hi=>?_⟩⟩
    have hx:xs[i]? = some (xs.getD i undef):=by
      rw [List.getElem?_eq_getElem (by omega)];simp [List.getD,List.getElem?_eq_getElem (show i < xs.length by omega)]
    have:=h.cells (g:=g) rfl i _ hx
    rw [← this]
    congr 1
    unfold Addr.add
    split <;> simp_all
theorem append_zero {P:Program} {w:World} (t ty e:TypeId) (i:TypeInfo) (ht:P.underlying t=some (.slice e)) (hi:P.info? e=some i) (base size:Nat)
    (v:Value) (n:Nat) (xs:List Value) (hown:w.ownsRow base e size v n xs) (a:Option Addr) (c:Nat) :
    (Builtin.append_ #[t,t] ty #[v,.slice a 0 c]).run P w=.ok v w:=by
  rcases hown.2 with ⟨rfl,rfl⟩ | ⟨g,cap,cur,rfl,_,_,hnc,_⟩
  · cases a <;> simp [Builtin.append_,run_underlying ht,sizeOf,typeInfo,hi,Builtin.lenOf,Builtin.firstCells,loadCells,loadCellsFrom]
  · cases a <;> simp [Builtin.append_,run_underlying ht,sizeOf,typeInfo,hi,Builtin.lenOf,Builtin.firstCells,hnc,storeCells,loadCells,loadCellsFrom]
theorem own_shape {w:World} {base:Nat} {e:TypeId} {sz:Nat} {v:Value} {n:Nat} {xs:List Value} (h:w.ownsRow base e sz v n xs):∃ a c,v=.slice a n c:=by
  rcases h.2 with ⟨rfl,rfl⟩ | ⟨g,cap,cur,rfl,_⟩
  · exact ⟨_,_,rfl⟩
  · exact ⟨_,_,rfl⟩
theorem own_block {w:World} {base:Nat} {e:TypeId} {sz:Nat} {v:Value} {n:Nat} {xs:List Value} (h:w.ownsRow base e sz v n xs):∀ k,v.ownBlock=some k→base≤k:=fun k hk=>(h.lt k hk).1
def total (ms:List (Nat×List Value)):Nat:=(ms.map (·.1)).sum
def flat (ms:List (Nat×List Value)):List Value:=ms.flatMap (·.2)
theorem total_take (ms:List (Nat×List Value)) (j:Nat) (h:j < ms.length):total (ms.take (j+1))=total (ms.take j)+ms[j].1:=by
  unfold total;rw [List.take_succ_eq_append_getElem h,List.map_append,List.map_cons,List.map_nil,List.sum_append,List.sum_cons,List.sum_nil,Nat.add_zero]
theorem flat_take (ms:List (Nat×List Value)) (j:Nat) (h:j < ms.length):flat (ms.take (j+1))=flat (ms.take j) ++ ms[j].2:=by
  unfold flat;rw [List.take_succ_eq_append_getElem h,List.flatMap_append,List.flatMap_cons,List.flatMap_nil,List.append_nil]
theorem total_le (ms:List (Nat×List Value)) (j:Nat):total (ms.take j)≤total ms:=by
  have:total ms=total (ms.take j)+total (ms.drop j):=by
    unfold total;rw [← List.sum_append,← List.map_append,List.take_append_drop]
  omega
theorem append_part {P:Program} {w:World} (t ty e:TypeId) (z:Value) (size bytes:Nat) (ht:P.underlying t=some (.slice e)) (hinfo:(P.info? e).map (fun i=>(i.zero,i.size,i.bytes))=some (some z,size,bytes)) (hzs:z.cells.size=size) (hsz:0 < size)
    (base:Nat) (v:Value) (n:Nat) (xs:List Value) (hown:w.ownsRow base e size v n xs) {S:Nat→Prop} {x:Value} {m:Nat} {cs:List Value} (hx:Raw w S x size m cs)
    (h63:n+m≤maxLen) (hbytes:(n+m) * bytes≤140737488355328) (hbase:base≤w.heap.size) :
    ∃ v' w',(Builtin.append_ #[t,t] ty #[v,x]).run P w=.ok v' w'∧w'.ownsRow base e size v' (n+m) (xs ++ cs)∧w.grownBy w' v.ownBlock:=by
  obtain ⟨i0,hi,hz0,hz1,hz2⟩:=info_parts hinfo;obtain ⟨a,cap,rfl,h1,h2,h3,h4,h5⟩:=hx
  by_cases hm:m=0
  · subst hm
    have:cs=[]:=List.eq_nil_of_length_eq_zero (by omega)
    subst this;refine ⟨v,w,append_zero t ty e i0 ht hi base size v n xs hown a cap,?_,⟨rfl,rfl,rfl,Nat.le_refl _,fun _ _ _=>rfl⟩⟩;rw [List.append_nil];exact hown
  · obtain ⟨b,off,rfl,_,hc⟩:=h5 (Nat.mul_pos (by omega) hsz)
    obtain ⟨v',w',q1,q2,q3,_⟩:=run_append_own w base t ty e i0 z size bytes ht hi hz0 hz1 hz2 hzs hsz v n xs hown ⟨b,off,none⟩ m cap cs h3 (fun j u hu=>by
      obtain ⟨hj,hju⟩:=List.getElem?_eq_some_iff.1 hu;have e1:(⟨b,off,none⟩:Addr).add j=⟨b,off+j,none⟩:=by unfold Addr.add;split <;> simp_all
      rw [e1,hc j (by omega)]
      simp [List.getD,hu]) h4 h63 hbytes hbase
    exact ⟨v',w',q1,q2,q3⟩
theorem growS_any (n:Nat) (w:World) (hn:n≤17179869184) :
    Calls Tryz.prog 130 #[.slice none 0 0,.int .i64 n] w fun e w'=>∃ a m c,e=.returned (.slice a m c)∧w'.ownsRow w.heap.size 9 1 (.slice a m c) 0 []∧Below w.heap.size w w':=by
  by_cases h0:n=0
  · subst h0
    go_enter Tryz.func130,Tryz.ntmps130
    go_wp2
    go_ret
    exact ⟨_,_,_,rfl,World.ownsRow_nil _ _ _ _,Below.refl _ _⟩
  · obtain ⟨i0,hi,hz0,hz1,hz2⟩:=info_parts info_str
    have hr:=Lib.run_append_nil_zeros (P:=Tryz.prog) w 24 3 24 9 i0 _ .i64 .i64 Tryz.underlying24 Tryz.underlying3 hi hz0 n (by omega) (by omega) (by omega) (by rw [hz2];omega);have hc:=grownCap_ge w n 0 9;have hm:=grownCap_le_maxLen w n 0 9 (Nat.le_trans hn (by decide));obtain ⟨cap,hcap⟩:∃ c,grownCap w n 0 9=c:=⟨_,rfl⟩;rw [hcap] at hr hc hm;obtain ⟨cur,hcur⟩:∃ c,Builtin.zeroCells (Value.string ⟨#[]⟩).cells n ++ Builtin.zeroCells (Value.string ⟨#[]⟩).cells (cap - n)=c:=⟨_,rfl⟩
    have hcs:cur.size=cap * 1:=by
      rw [← hcur,Array.size_append,size_zeroCells,size_zeroCells,← Nat.add_mul];have e1:(Value.string ⟨#[]⟩).cells.size=1:=rfl;rw [e1];congr 1;omega
    rw [hcur] at hr;have HR:Hid _:=hr;clear hr hcur hcap;have hpos:0 < n:=by omega
    have s0:=slice_front_str none 0 0 0 (Nat.le_refl _);have s1:=slice_front_str (some ⟨w.heap.size,0,none⟩) n cap 0 (Nat.zero_le _);go_enter Tryz.func130,Tryz.ntmps130
    go_wp2_with (at_builtin;refine Lib.wpList_append_run _ rfl (.tmp 20) (.tmp 21) 24 3 rfl _ _ (by simp [Act.eval,Act.put]) (by simp [Act.eval,Act.put]) _ _ HR.out ?_)
    go_ret
    refine ⟨_,_,_,rfl,?_,?_⟩
    · exact World.ownsRow_made w.drew cur cap (Nat.le_refl _) hm hcs
    · exact ((Below.refl _ _).drew).alloc (Nat.le_refl _) _
set_option maxHeartbeats 4000000 in
theorem concatS_any (a:Option Addr) (cap:Nat) (vs:Nat→Value) (ms:List (Nat×List Value)) (w:World) (S:Nat→Prop)
    (hc:Cells w S a ms.length vs) (hp:∀ i (h:i < ms.length),Raw w S (vs i) 1 ms[i].1 ms[i].2) (hlen:ms.length≤4294967296) (hsum:total ms≤17179869184) :
    Calls Tryz.prog 107 #[.slice a ms.length cap] w fun e w'=>∃ a' m' c',e=.returned (.slice a' m' c')∧Raw w' (fun b=>w.heap.size≤b) (.slice a' m' c') 1 (total ms) (flat ms)∧Below w.heap.size w w':=by
  have HC:=hide hc;have HP:=hide hp;clear hc hp;go_enter Tryz.func107,Tryz.ntmps107
  go_wp2_with fail
  go_loopg [3,11] ms.length (fun g s i wr=>∃ j:Nat,j+g=ms.length∧i=.int .i64 j∧s=.int .i64 (total (ms.take j):Nat)∧w=wr)
  case atStart=>exact ⟨0,by omega,rfl,rfl,rfl⟩
  case round =>
    obtain ⟨j,hj,rfl,rfl,rfl⟩:=hrel
    by_cases hlt:j < ms.length
    · obtain ⟨b,off,rfl,_,hcell⟩:=HC.out (by omega)
      obtain ⟨aj,cj,hvs,hm1,hm2,_⟩:=HP.out j hlt;have ej:=hcell j hlt;rw [hvs] at ej;have ht1:=total_take ms j hlt;have ht2:=total_le ms (j+1);obtain ⟨mj,hmj⟩:∃ m,ms[j].1=m:=⟨_,rfl⟩;rw [hmj] at ej ht1 hm1;obtain ⟨T,hT⟩:∃ T,total (ms.take j)=T:=⟨_,rfl⟩;rw [hT] at ht1;have hTm:T+mj≤17179869184:=by omega
      have H1:Hid _:=ht1;have H2:Hid _:=ht2;clear hcell hvs hm2 hmj ht1 ht2;rw [hT];clear hT
      go_wp2_with fail
      go_roundg (gk - 1)
      case measure=>omega
      case rel =>
        refine ⟨j+1,by omega,rfl,?_,rfl⟩;rw [H1.out];rfl
    · have hje:j=ms.length:=by omega
      subst hje;rw [List.take_length];clear hj hlt
      go_wp2_with fail
      refine (growS_any _ _ hsum).mono ?_;rintro e w1 ⟨ga,gm,gc,rfl,hown,b1⟩;have HO:=hide hown;clear hown
      go_wp2_with fail
      go_loopg [6,27] ms.length (fun g nv i wr=>∃ (j:Nat) (na:Option Addr) (nm nc:Nat),j+g=ms.length∧i=.int .i64 j∧nv=.slice na nm nc∧Hid (wr.ownsRow w.heap.size 9 1 (.slice na nm nc) (total (ms.take j)) (flat (ms.take j)))∧Below w.heap.size w wr)
      case atStart =>
        refine ⟨0,ga,gm,gc,by omega,rfl,rfl,?_,b1⟩;unfold Hid;simp only [List.take_zero,total,flat,List.map_nil,List.sum_nil,List.flatMap_nil];exact HO.out
      case round =>
        obtain ⟨j,na,nm,nc,hj,rfl,rfl,HN,bj⟩:=hrel
        by_cases hlt:j < ms.length
        · obtain ⟨b,off,rfl,_,hcell⟩:=Cells.keep HC.out (Keeps.of_below bj) (by omega)
          have hpj:=(HP.out j hlt).below bj;obtain ⟨aj,cj,hvs,_⟩:=id hpj;have ej:=hcell j hlt;rw [hvs] at ej hpj;have ht1:=total_take ms j hlt;have ht2:=total_le ms (j+1);obtain ⟨v',w',hr,hown',hg⟩:=append_part 24 24 9 _ 1 16 Tryz.underlying24 info_str rfl (by decide) w.heap.size _ _ _ HN.out hpj (by unfold maxLen;omega) (by omega) bj.size;obtain ⟨na',nc',rfl⟩:=own_shape hown';have HR:=hide hr;have HO':=hide hown';have HG:=hide hg;have H1:Hid _:=ht1;have H2:Hid _:=ht2;clear hr hown' hg ht1 ht2 hcell hvs hpj
          go_wp2_with (at_builtin;refine Lib.wpList_append_run _ rfl (.tmp 31) (.tmp 32) 24 24 rfl _ _ (by simp [Act.eval,Act.put]) (by simp [Act.eval,Act.put]) _ _ HR.out ?_)
          go_roundg (gk - 1)
          case measure=>omega
          case rel =>
            refine ⟨j+1,_,_,_,by omega,rfl,rfl,?_,bj.grown HG.out bj.size (own_block HN.out)⟩;unfold Hid;rw [H1.out,flat_take ms j hlt];exact HO'.out
        · have hje:j=ms.length:=by omega
          subst hje;rw [List.take_length] at HN
          go_wp2
          go_ret
          refine ⟨_,_,_,rfl,Raw.of_own HN.out ?_,bj⟩;intro u hu;obtain ⟨p,hp1,hp2⟩:=List.mem_flatMap.1 hu;obtain ⟨i,hi,rfl⟩:=List.getElem_of_mem hp1;obtain ⟨_,_,_,_,_,_,h1,_⟩:=HP.out i hi;exact h1 u hp2
theorem growV_any (n:Nat) (w:World) (hn:n≤17179869184) :
    Calls Tryz.prog 131 #[.slice none 0 0,.int .i64 n] w fun e w'=>∃ a m c,e=.returned (.slice a m c)∧w'.ownsRow w.heap.size 27 5 (.slice a m c) 0 []∧Below w.heap.size w w':=by
  by_cases h0:n=0
  · subst h0
    go_enter Tryz.func131,Tryz.ntmps131
    go_wp2
    go_ret
    exact ⟨_,_,_,rfl,World.ownsRow_nil _ _ _ _,Below.refl _ _⟩
  · obtain ⟨i0,hi,hz0,hz1,hz2⟩:=info_parts info_val
    have hr:=Lib.run_append_nil_zeros (P:=Tryz.prog) w 25 3 25 27 i0 _ .i64 .i64 Tryz.underlying25 Tryz.underlying3 hi hz0 n (by omega) (by omega) (by omega) (by rw [hz2];omega);have hc:=grownCap_ge w n 0 27;have hm:=grownCap_le_maxLen w n 0 27 (Nat.le_trans hn (by decide));obtain ⟨cap,hcap⟩:∃ c,grownCap w n 0 27=c:=⟨_,rfl⟩;rw [hcap] at hr hc hm;obtain ⟨cur,hcur⟩:∃ c,Builtin.zeroCells (Value.agg #[.int .i64 0,.int .i64 0,.string ⟨#[]⟩,.slice none 0 0,.slice none 0 0]).cells n ++ Builtin.zeroCells (Value.agg #[.int .i64 0,.int .i64 0,.string ⟨#[]⟩,.slice none 0 0,.slice none 0 0]).cells (cap - n)=c:=⟨_,rfl⟩
    have hcs:cur.size=cap * 5:=by
      rw [← hcur,Array.size_append,size_zeroCells,size_zeroCells,← Nat.add_mul];have e1:(Value.agg #[.int .i64 0,.int .i64 0,.string ⟨#[]⟩,.slice none 0 0,.slice none 0 0]).cells.size=5:=rfl;rw [e1];congr 1;omega
    rw [hcur] at hr;have HR:Hid _:=hr;clear hr hcur hcap;have hpos:0 < n:=by omega
    have s0:=slice_front_val none 0 0 0 (Nat.le_refl _);have s1:=slice_front_val (some ⟨w.heap.size,0,none⟩) n cap 0 (Nat.zero_le _);go_enter Tryz.func131,Tryz.ntmps131
    go_wp2_with (at_builtin;refine Lib.wpList_append_run _ rfl (.tmp 20) (.tmp 21) 25 3 rfl _ _ (by simp [Act.eval,Act.put]) (by simp [Act.eval,Act.put]) _ _ HR.out ?_)
    go_ret
    refine ⟨_,_,_,rfl,?_,?_⟩
    · exact World.ownsRow_made w.drew cur cap (Nat.le_refl _) hm hcs
    · exact ((Below.refl _ _).drew).alloc (Nat.le_refl _) _
set_option maxHeartbeats 4000000 in
theorem concatV_any (a:Option Addr) (cap:Nat) (vs:Nat→Value) (ms:List (Nat×List Value)) (w:World) (S:Nat→Prop)
    (hc:Cells w S a ms.length vs) (hp:∀ i (h:i < ms.length),Raw w S (vs i) 5 ms[i].1 ms[i].2) (hlen:ms.length≤4294967296) (hsum:total ms≤17179869184) :
    Calls Tryz.prog 108 #[.slice a ms.length cap] w fun e w'=>∃ a' m' c',e=.returned (.slice a' m' c')∧Raw w' (fun b=>w.heap.size≤b) (.slice a' m' c') 5 (total ms) (flat ms)∧Below w.heap.size w w':=by
  have HC:=hide hc;have HP:=hide hp;clear hc hp;go_enter Tryz.func108,Tryz.ntmps108
  go_wp2_with fail
  go_loopg [3,11] ms.length (fun g s i wr=>∃ j:Nat,j+g=ms.length∧i=.int .i64 j∧s=.int .i64 (total (ms.take j):Nat)∧w=wr)
  case atStart=>exact ⟨0,by omega,rfl,rfl,rfl⟩
  case round =>
    obtain ⟨j,hj,rfl,rfl,rfl⟩:=hrel
    by_cases hlt:j < ms.length
    · obtain ⟨b,off,rfl,_,hcell⟩:=HC.out (by omega)
      obtain ⟨aj,cj,hvs,hm1,hm2,_⟩:=HP.out j hlt;have ej:=hcell j hlt;rw [hvs] at ej;have ht1:=total_take ms j hlt;have ht2:=total_le ms (j+1);obtain ⟨mj,hmj⟩:∃ m,ms[j].1=m:=⟨_,rfl⟩;rw [hmj] at ej ht1 hm1;obtain ⟨T,hT⟩:∃ T,total (ms.take j)=T:=⟨_,rfl⟩;rw [hT] at ht1;have hTm:T+mj≤17179869184:=by omega
      have H1:Hid _:=ht1;have H2:Hid _:=ht2;clear hcell hvs hm2 hmj ht1 ht2;rw [hT];clear hT
      go_wp2_with fail
      go_roundg (gk - 1)
      case measure=>omega
      case rel =>
        refine ⟨j+1,by omega,rfl,?_,rfl⟩;rw [H1.out];rfl
    · have hje:j=ms.length:=by omega
      subst hje;rw [List.take_length];clear hj hlt
      go_wp2_with fail
      refine (growV_any _ _ hsum).mono ?_;rintro e w1 ⟨ga,gm,gc,rfl,hown,b1⟩;have HO:=hide hown;clear hown
      go_wp2_with fail
      go_loopg [6,27] ms.length (fun g nv i wr=>∃ (j:Nat) (na:Option Addr) (nm nc:Nat),j+g=ms.length∧i=.int .i64 j∧nv=.slice na nm nc∧Hid (wr.ownsRow w.heap.size 27 5 (.slice na nm nc) (total (ms.take j)) (flat (ms.take j)))∧Below w.heap.size w wr)
      case atStart =>
        refine ⟨0,ga,gm,gc,by omega,rfl,rfl,?_,b1⟩;unfold Hid;simp only [List.take_zero,total,flat,List.map_nil,List.sum_nil,List.flatMap_nil];exact HO.out
      case round =>
        obtain ⟨j,na,nm,nc,hj,rfl,rfl,HN,bj⟩:=hrel
        by_cases hlt:j < ms.length
        · obtain ⟨b,off,rfl,_,hcell⟩:=Cells.keep HC.out (Keeps.of_below bj) (by omega)
          have hpj:=(HP.out j hlt).below bj;obtain ⟨aj,cj,hvs,_⟩:=id hpj;have ej:=hcell j hlt;rw [hvs] at ej hpj;have ht1:=total_take ms j hlt;have ht2:=total_le ms (j+1);obtain ⟨v',w',hr,hown',hg⟩:=append_part 25 25 27 _ 5 80 Tryz.underlying25 info_val rfl (by decide) w.heap.size _ _ _ HN.out hpj (by unfold maxLen;omega) (by omega) bj.size;obtain ⟨na',nc',rfl⟩:=own_shape hown';have HR:=hide hr;have HO':=hide hown';have HG:=hide hg;have H1:Hid _:=ht1;have H2:Hid _:=ht2;clear hr hown' hg ht1 ht2 hcell hvs hpj
          go_wp2_with (at_builtin;refine Lib.wpList_append_run _ rfl (.tmp 31) (.tmp 32) 25 25 rfl _ _ (by simp [Act.eval,Act.put]) (by simp [Act.eval,Act.put]) _ _ HR.out ?_)
          go_roundg (gk - 1)
          case measure=>omega
          case rel =>
            refine ⟨j+1,_,_,_,by omega,rfl,rfl,?_,bj.grown HG.out bj.size (own_block HN.out)⟩;unfold Hid;rw [H1.out,flat_take ms j hlt];exact HO'.out
        · have hje:j=ms.length:=by omega
          subst hje;rw [List.take_length] at HN
          go_wp2
          go_ret
          refine ⟨_,_,_,rfl,Raw.of_own HN.out ?_,bj⟩;intro u hu;obtain ⟨p,hp1,hp2⟩:=List.mem_flatMap.1 hu;obtain ⟨i,hi,rfl⟩:=List.getElem_of_mem hp1;obtain ⟨_,_,_,_,_,_,h1,_⟩:=HP.out i hi;exact h1 u hp2
end Go.Proofs.YtapcmbbhhclepaaGreatDoor
