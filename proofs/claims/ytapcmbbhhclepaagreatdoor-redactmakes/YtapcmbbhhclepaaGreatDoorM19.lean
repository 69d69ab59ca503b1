/-
  What this claim takes of the earlier layers' texts: CBuild CPrint CPrintB CPrintC CPrintD CPrintE CPrintF CPrintG.
-/
import Derived.Test.YtapcmbbhhclepaaGreatDoorM18
import Derived.Shelf.Strings.Builder1
import Derived.Lib.Builder
import Derived.Lib.AppendStr
import Derived.Lib.AppendZeros
import Derived.OwnWalk
import Derived.BigRegion
import Derived.Test.YtapcmbbhhclepaaGreatDoorChecked
import Derived.Lib.AppendIntMem
set_option linter.unusedVariables false
set_option linter.unusedSimpArgs false
set_option maxRecDepth 100000
namespace Go.Proofs.YtapcmbbhhclepaaGreatDoor
open Go.RowKit
abbrev Pr (B b:Nat) (l:List UInt8) (W:World):Prop:=Lib.IsBuilder 84 5 B b (Lib.byteCells l) W
theorem pr_info:(Tryz.prog.info? 5).map (fun i=>(i.zero,i.size,i.bytes))=some (some (.int .u8 0),1,1):=by kernel_rfl
theorem pr_size:(Tryz.prog.info? 82).map (·.size)=some 2:=by kernel_rfl
theorem pr_lies:liesAt Tryz.prog Tryz.prog.depth 84 (2 / Tryz.prog.cellsOf 84) 0 82 1=true:=by kernel_rfl
theorem pr_ne:(84:TypeId)≠5:=by decide
def Oth (b:Nat) (w w':World):Prop:=∀ k cs T fr,w.heap[k]? = some (.cells cs T fr)→T≠5→k≠b→w'.heap[k]? = w.heap[k]?
def Pw (B b:Nat) (w w':World):Prop:=Below B w w'∧Oth b w w'
theorem Oth.refl (b:Nat) (w:World):Oth b w w:=fun _ _ _ _ _ _ _=>rfl
theorem Oth.trans {b:Nat} {w w1 w2:World} (h:Oth b w w1) (k:Oth b w1 w2):Oth b w w2:=fun i cs T fr hi hT hb=>by
  have e:=h i cs T fr hi hT hb;rw [k i cs T fr (by rw [e];exact hi) hT hb,e]
theorem Oth.of_below {b:Nat} {w w':World} (h:Below w.heap.size w w'):Oth b w w':=fun i cs T fr hi _ _=>h.block i (Array.getElem?_eq_some_iff.1 hi).1
theorem Oth.grown {b B:Nat} {w w':World} {v:Value} {n:Nat} {xs:List Value} (hown:w.ownsRow B 5 1 v n xs) (h:w.grownBy w' v.ownBlock):Oth b w w':=fun i cs T fr hi hT _ =>
  h.block i (Array.getElem?_eq_some_iff.1 hi).1 (fun e=>Lib.ownBlock_ne hown hi hT e.symm)
theorem Oth.set {b:Nat} (w:World) (o:Nat) (v:Value):Oth b w (w.setCell ⟨b,o,none⟩ v):=fun i cs T fr hi hT hb=>by
  simp only [World.setCell];rw [Array.getElem?_modify,if_neg (fun e=>hb e.symm)]
theorem Pw.refl (B b:Nat) (w:World):Pw B b w w:=⟨Below.refl B w,Oth.refl b w⟩
theorem Pw.trans {B b:Nat} {w w1 w2:World} (h:Pw B b w w1) (k:Pw B b w1 w2):Pw B b w w2:=⟨h.1.trans k.1,h.2.trans k.2⟩
theorem Pw.of_below {B b:Nat} {w w':World} (h:Below w.heap.size w w') (hB:B≤w.heap.size):Pw B b w w':=⟨h.mono hB,Oth.of_below h⟩
set_option maxHeartbeats 1000000 in
set_option maxRecDepth 100000 in
theorem pCheck_used (b:Nat) (w:World) (h0:w.cell? ⟨b,0,none⟩=some (.pointer (some ⟨b,0,none⟩))) :
    Calls Tryz.prog 116 #[.pointer (some ⟨b,0,none⟩)] w fun e w'=>e=.returned (.tuple #[])∧w'=w:=by
  obtain ⟨j,hj,hjs⟩:=Option.map_eq_some_iff.1 pr_size;go_enter Tryz.func116,Tryz.ntmps116
  go_wp2
  rw [Lib.run_neq_ptr_same w _ Tryz.underlying80 hj]
  go_wp2
  go_end0
  exact ⟨rfl,rfl⟩
set_option maxHeartbeats 1000000 in
set_option maxRecDepth 100000 in
theorem pCheck_fresh (b:Nat) (w:World) (h0:w.cell? ⟨b,0,none⟩=some (.pointer none)) (hsh:w.shape? b=some (84,2)) (hfz:w.frozen? ⟨b,0,none⟩=false) :
    Calls Tryz.prog 116 #[.pointer (some ⟨b,0,none⟩)] w fun e w'=>e=.returned (.tuple #[])∧w'=w.setCell ⟨b,0,none⟩ (.pointer (some ⟨b,0,none⟩)):=by
  obtain ⟨j,hj,hjs⟩:=Option.map_eq_some_iff.1 pr_size;go_enter Tryz.func116,Tryz.ntmps116
  go_wp2
  rw [Lib.run_to_unsafe w ⟨b,0,none⟩ Tryz.underlying80 Tryz.underlying143 hj (by rw [hjs];decide) hsh (Nat.zero_lt_succ 1)];simp only [Result.andThen];rw [Oper.upon_value]
  go_wp2
  rw [run_callFunc_extern Tryz.func136 (by kernel_rfl) (by kernel_rfl) (by kernel_rfl) (e:=Extern.AbiNoEscape.same) (by kernel_rfl)];rw [Lib.run_noEscape];simp only [Result.andThen];rw [Oper.upon_value]
  go_wp2
  rw [Lib.run_from_unsafe w ⟨b,0,none⟩ Tryz.underlying143 Tryz.underlying80 hj hsh pr_lies];simp only [Result.andThen];rw [Oper.upon_value]
  go_wp2
  go_end0
  exact ⟨rfl,rfl⟩
theorem pCheck (B b:Nat) (bs:List Value) (w:World) (h:Lib.IsBuilder 84 5 B b bs w) :
    Calls Tryz.prog 116 #[.pointer (some ⟨b,0,none⟩)] w fun e w'=>e=.returned (.tuple #[])∧Lib.BuilderAt 84 5 B b (.pointer (some ⟨b,0,none⟩)) bs w'∧Pw B b w w':=by
  rcases h with h | h
  · refine (pCheck_fresh b w h.cell0 h.shape h.frozen0).mono ?_
    rintro e w' ⟨rfl,rfl⟩;exact ⟨rfl,h.used _,(Below.refl B w).setCell (p:=⟨b,0,none⟩) h.1 _,Oth.set w 0 _⟩
  · refine (pCheck_used b w h.cell0).mono ?_
    rintro e w ⟨rfl,rfl⟩;exact ⟨rfl,h,Pw.refl B b _⟩
theorem snoc_cells (l:List UInt8) (c:UInt8):Lib.byteCells l ++ [.int .u8 (c.toNat:Int)]=Lib.byteCells (l ++ [c]):=by simp [Lib.byteCells]
set_option maxHeartbeats 2000000 in
set_option maxRecDepth 100000 in
theorem pByte (B b:Nat) (l:List UInt8) (c:UInt8) (w:World) (h:Pr B b l w) (hlen:l.length+1≤140737488355328) (hBw:B≤w.heap.size) :
    Calls Tryz.prog 89 #[.pointer (some ⟨b,0,none⟩),.int .u8 (c.toNat:Int)] w fun e w'=>e=.returned .nilIface∧Pr B b (l ++ [c]) w'∧Pw B b w w':=by
  obtain ⟨i0,hi,hz0,hz1,hz2⟩:=info_parts pr_info;go_enter Tryz.func89,Tryz.ntmps89
  go_wp2_with fail
  refine (pCheck B b _ _ h).mono ?_;rintro e w1 ⟨rfl,h1,hb1,ho1⟩;obtain ⟨hB,v,hbk,hown,hne⟩:=h1;have c0:w1.cell? ⟨b,0,none⟩=some (.pointer (some ⟨b,0,none⟩)):=by rw [Lib.cell_of_heap hbk];rfl
  have c1:w1.cell? ⟨b,1,none⟩=some v:=by rw [Lib.cell_of_heap hbk];rfl
  have hz1s:=hb1.size
  obtain ⟨v',w2,hrun,hown',hgrow,_⟩:=run_append_own (P:=Tryz.prog) (w1.alloc (.cells #[.int .u8 (c.toNat:Int)] 5)) B 22 22 5 i0 (.int .u8 0) 1 1 Tryz.underlying22 hi hz0 hz1 hz2 rfl (by decide) v _ _ (hown.alloc _) ⟨w1.heap.size,0,none⟩ 1 1 [.int .u8 (c.toNat:Int)] rfl (fun j u hj=>by
      match j,hj with
      | 0,hj=>simp at hj;subst hj;simp [Addr.add]) (by intro u hu;simp at hu;subst hu;rfl) (by unfold maxLen;rw [Lib.byteCells_length];omega) (by rw [Lib.byteCells_length];omega) (by simp;omega)
  have hlt:b < w1.heap.size:=(Array.getElem?_eq_some_iff.1 hbk).1
  have hb2:w2.heap[b]? = some (.cells #[.pointer (some ⟨b,0,none⟩),v] 84 (0,0)):=by
    rw [hgrow.block b (by simp;omega) (fun e=>hne e.symm),Lib.alloc_old w1 _ b hlt];exact hbk
  have d0:w2.cell? ⟨b,0,none⟩=some (.pointer (some ⟨b,0,none⟩)):=by rw [Lib.cell_of_heap hb2];rfl
  have d1:w2.cell? ⟨b,1,none⟩=some v:=by rw [Lib.cell_of_heap hb2];rfl
  have f1:w2.frozen? ⟨b,1,none⟩=false:=Lib.frozen_of_heap hb2 1
  obtain ⟨ao,n',cap,rfl⟩:∃ ao n' cap,v'=.slice ao n' cap:=by
    rcases hown'.2 with ⟨hv,_⟩ | ⟨g,cap,cur,hv,_⟩
    · exact ⟨_,_,_,hv⟩
    · exact ⟨_,_,_,hv⟩
  have HPut:Hid (Pr B b (l ++ [c]) (w2.setCell ⟨b,1,none⟩ (.slice ao n' cap))):=by
    show Lib.IsBuilder _ _ _ _ _ _
    rw [← snoc_cells];exact .inr (Lib.BuilderAt.put hB hb2 (by simpa using hown') pr_ne)
  have HBel:Hid (Pw B b w (w2.setCell ⟨b,1,none⟩ (.slice ao n' cap))):=⟨((hb1.alloc (by omega) _).grown hgrow (by simp;omega) (fun k hk=>(hown.lt k hk).1)).setCell (p:=⟨b,1,none⟩) hB _,
    ((ho1.trans (Oth.of_below ((Below.refl _ _).alloc (Nat.le_refl _) _))).trans (Oth.grown (hown.alloc _) hgrow)).trans (Oth.set w2 1 _)⟩
  clear hown hown' hgrow hbk hb2
  go_wp2_with (at_builtin;refine Lib.wpList_append_run _ rfl _ _ _ _ rfl _ _ rfl rfl _ _ hrun ?_)
  go_ret
  exact ⟨rfl,HPut.out,HBel.out⟩
theorem str_cells (l:List UInt8) (s:ByteArray):Lib.byteCells l ++ Lib.strCells s=Lib.byteCells (l ++ s.data.toList):=by
  simp [Lib.byteCells,Lib.strCells]
set_option maxHeartbeats 2000000 in
set_option maxRecDepth 100000 in
theorem pString (B b:Nat) (l:List UInt8) (s:ByteArray) (w:World) (h:Pr B b l w) (hlen:l.length+s.size≤140737488355328) (hBw:B≤w.heap.size) :
    Calls Tryz.prog 109 #[.pointer (some ⟨b,0,none⟩),.string s] w fun e w'=>e=.returned (.tuple #[.int .i64 s.size,.nilIface])∧Pr B b (l ++ s.data.toList) w'∧Pw B b w w':=by
  obtain ⟨i0,hi,hz0,hz1,hz2⟩:=info_parts pr_info;go_enter Tryz.func109,Tryz.ntmps109
  go_wp2_with fail
  refine (pCheck B b _ _ h).mono ?_;rintro e w1 ⟨rfl,h1,hb1,ho1⟩;obtain ⟨hB,v,hbk,hown,hne⟩:=h1;have c0:w1.cell? ⟨b,0,none⟩=some (.pointer (some ⟨b,0,none⟩)):=by rw [Lib.cell_of_heap hbk];rfl
  have c1:w1.cell? ⟨b,1,none⟩=some v:=by rw [Lib.cell_of_heap hbk];rfl
  have hz1s:=hb1.size
  go_wp2_with (at_builtin;refine Lib.wpList_append_own_string _ rfl _ _ 22 9 rfl B 5 i0 Tryz.underlying22 Tryz.underlying9 hi hz0 hz1 hz2 _ _ _ rfl hown s rfl ?c3 ?c4 ?c5 ?_)
  case c3=>unfold maxLen;rw [Lib.byteCells_length];omega
  case c4=>rw [Lib.byteCells_length];omega
  case c5=>omega
  intro v' w2 hown' hgrow _;have hlt:b < w1.heap.size:=(Array.getElem?_eq_some_iff.1 hbk).1
  have hb2:w2.heap[b]? = some (.cells #[.pointer (some ⟨b,0,none⟩),v] 84 (0,0)):=by
    rw [hgrow.block b hlt (fun e=>hne e.symm)];exact hbk
  have d0:w2.cell? ⟨b,0,none⟩=some (.pointer (some ⟨b,0,none⟩)):=by rw [Lib.cell_of_heap hb2];rfl
  have d1:w2.cell? ⟨b,1,none⟩=some v:=by rw [Lib.cell_of_heap hb2];rfl
  have f1:w2.frozen? ⟨b,1,none⟩=false:=Lib.frozen_of_heap hb2 1
  obtain ⟨ao,n',cap,rfl⟩:∃ ao n' cap,v'=.slice ao n' cap:=by
    rcases hown'.2 with ⟨hv,_⟩ | ⟨g,cap,cur,hv,_⟩
    · exact ⟨_,_,_,hv⟩
    · exact ⟨_,_,_,hv⟩
  have HPut:Hid (Pr B b (l ++ s.data.toList) (w2.setCell ⟨b,1,none⟩ (.slice ao n' cap))):=by
    show Lib.IsBuilder _ _ _ _ _ _
    rw [← str_cells];exact .inr (Lib.BuilderAt.put hB hb2 (by simpa [Lib.strCells_length] using hown') pr_ne)
  have HBel:Hid (Pw B b w (w2.setCell ⟨b,1,none⟩ (.slice ao n' cap))):=⟨(hb1.grown hgrow (by omega) (fun k hk=>(hown.lt k hk).1)).setCell (p:=⟨b,1,none⟩) hB _,
    (ho1.trans (Oth.grown hown hgrow)).trans (Oth.set w2 1 _)⟩
  clear hown hown' hgrow hbk hb2
  go_wp2
  go_ret2
  exact ⟨rfl,HPut.out,HBel.out⟩
set_option maxHeartbeats 2000000 in
set_option maxRecDepth 100000 in
theorem pStr (B b:Nat) (l:List UInt8) (w:World) (h:Pr B b l w) (h0:l≠[]) :
    Calls Tryz.prog 83 #[.pointer (some ⟨b,0,none⟩)] w fun e w'=>e=.returned (.string ⟨l.toArray⟩)∧Below B w w':=by
  obtain ⟨p,hB,v,hbk,hown,hne⟩:∃ p,Lib.BuilderAt 84 5 B b p (Lib.byteCells l) w:=by
    rcases h with h | h
    · exact ⟨_,h⟩
    · exact ⟨_,h⟩
  have hl0:l.length≠0:=by simpa using h0
  rw [Lib.byteCells_length] at hown;rcases hown.2 with ⟨_,hz⟩ | ⟨g,cap,cur,rfl,hbg,hg,hnc,hcm,hcs,htake⟩
  · exact absurd hz hl0
  have c1:w.drew.cell? ⟨b,1,none⟩=some (.slice (some ⟨g,0,none⟩) l.length cap):=by
    have h1:w.drew.heap[b]? = some (.cells #[p,.slice (some ⟨g,0,none⟩) l.length cap] 84 (0,0)):=hbk;rw [Lib.cell_of_heap h1];rfl
  have hSD:(Builtin.unsafeSliceData_ #[22] 120 #[.slice (some ⟨g,0,none⟩) l.length cap]).run Tryz.prog w.drew=.ok (.pointer (some ⟨g,0,none⟩)) w.drew :=
    Lib.run_unsafeSliceData_row _ _ _ _ _ _ (by omega)
  have hUS:(Builtin.unsafeString_ #[120,3] 9 #[.pointer (some ⟨g,0,none⟩),.int .i64 l.length]).run Tryz.prog w.drew=.ok (.string ⟨l.toArray⟩) (w.drew.freeze ⟨g,0,none⟩ l.length):=by
    refine Lib.run_unsafeString_row w.drew 120 3 9 5 Tryz.underlying120 (by kernel_rfl) g cur.size (by have hg':w.drew.heap[g]? = some (.cells cur 5 (0,0)):=hg;simp [World.shape?,hg']) l h0 (by omega) (by unfold maxLen at hcm;omega) ?_;intro j x hx;exact hown.cells (g:=g) rfl j (.int .u8 x.toNat) (by simp [Lib.byteCells,hx])
  go_enter Tryz.func83,Tryz.ntmps83
  go_wp2
  go_region
  all_goals (go_wp2;go_ret;exact ⟨rfl,Lib.below_freeze (Below.drew (Below.refl B w)) (p:=⟨g,0,none⟩) hbg _⟩)
end Go.Proofs.YtapcmbbhhclepaaGreatDoor
namespace Go.Proofs.YtapcmbbhhclepaaGreatDoor
open Go.RowKit
theorem p_own_below {w w':World} {base:Nat} {e:TypeId} {sz:Nat} {v:Value} {n:Nat} {xs:List Value} (h:w.ownsRow base e sz v n xs) (b:Below w.heap.size w w'):w'.ownsRow base e sz v n xs:=by
  refine ⟨h.1,?_⟩;rcases h.2 with h0 | ⟨g,cap,cur,h1,h2,h3,h4⟩
  · exact .inl h0
  · refine .inr ⟨g,cap,cur,h1,h2,?_,h4⟩
    rw [b.block g (Array.getElem?_eq_some_iff.1 h3).1];exact h3
theorem prAt_later {B b:Nat} {p:Value} {bs:List Value} {w w':World} (h:Lib.BuilderAt 84 5 B b p bs w) (k:Below w.heap.size w w'):Lib.BuilderAt 84 5 B b p bs w':=by
  obtain ⟨hB,v,hbk,hown,hne⟩:=h;refine ⟨hB,v,?_,p_own_below hown k,hne⟩;rw [k.block b (Array.getElem?_eq_some_iff.1 hbk).1];exact hbk
theorem pr_later {B b:Nat} {l:List UInt8} {w w':World} (h:Pr B b l w) (k:Below w.heap.size w w'):Pr B b l w':=by
  rcases h with h | h
  · exact .inl (prAt_later h k)
  · exact .inr (prAt_later h k)
theorem keeps_lt {B:Nat} {w w':World} (k:Below B w w'):Keeps (· < B) w w':=fun b hb _=>k.block b hb
def Box (w:World) (g:Nat) (c0 c1 c2 c3 c4:Value):Prop:=w.heap[g]? = some (.cells #[c0,c1,c2,c3,c4] 27 (0,0))
theorem Box.to5 {w:World} {g:Nat} {c0 c1 c2 c3 c4:Value} (h:Box w g c0 c1 c2 c3 c4):Box5 w g c0 c1 c2 c3 c4:=by
  refine ⟨?_,?_,?_,?_,?_⟩ <;> (rw [Lib.cell_of_heap h];rfl)
theorem box_new (w:World) (c0 c1 c2 c3 c4:Value) (g:Nat) (hg:g=w.heap.size):Box (w.alloc (.cells #[c0,c1,c2,c3,c4] 27)) g c0 c1 c2 c3 c4:=by
  subst hg;simp only [Box,World.alloc,Array.getElem?_push_size]
theorem box_ty:(27:TypeId)≠5:=by decide
theorem Box.pw {B b:Nat} {w w':World} {g:Nat} {c0 c1 c2 c3 c4:Value} (h:Box w g c0 c1 c2 c3 c4) (k:Pw B b w w') (hb:g≠b):Box w' g c0 c1 c2 c3 c4:=by
  unfold Box;rw [k.2 g _ _ _ h box_ty hb];exact h
theorem pr_lt {B b:Nat} {l:List UInt8} {w:World} (h:Pr B b l w):b < w.heap.size:=by
  rcases h with h | h <;> exact h.lt
theorem elem_openK {w w':World} {S:Nat→Prop} {a:Option Addr} {n d:Nat} {c:Nat→Value} {x:V} (h:Cells w S a (n * 5) c) (k:Keeps S w w') {i:Nat} (hi:i < n) (hx:IsD w S d (elemV c i) x) :
    ∃ b off k n t a1 n1 c1 a2 n2 c2,a=some ⟨b,off,none⟩∧IsD w' S d (.agg #[.int .i64 k,.int .i64 n,.string t,.slice a1 n1 c1,.slice a2 n2 c2]) x∧w'.cell? ⟨b,off+i * 5,none⟩=some (.int .i64 k)∧w'.cell? ⟨b,off+i * 5+1,none⟩=some (.int .i64 n)∧w'.cell? ⟨b,off+i * 5+2,none⟩=some (.string t)∧w'.cell? ⟨b,off+i * 5+3,none⟩=some (.slice a1 n1 c1)∧w'.cell? ⟨b,off+i * 5+4,none⟩=some (.slice a2 n2 c2):=by
  obtain ⟨b,off,ha,hb,e0,e1,e2,e3,e4⟩:=elem_cells (h.keep k) hi;have hx':=hx.keep k;cases d with
  | zero=>exact hx.elim
  | succ d =>
    obtain ⟨kv,a2,c2,cc,q,⟨a1,c1,rfl,_⟩,_⟩:=hx;have hq:=q;unfold elemV at hq hx';simp only [Value.agg.injEq,Array.mk.injEq,List.cons.injEq,and_true] at hq;obtain ⟨q0,q1,q2,q3,q4⟩:=hq;rw [q0] at e0;rw [q1] at e1;rw [q2] at e2;rw [q3] at e3;rw [q4] at e4;rw [q0,q1,q2,q3,q4] at hx';exact ⟨b,off,_,_,_,_,_,_,_,_,_,ha,hx',e0,e1,e2,e3,e4⟩
def comOf (i:Nat):List UInt8:=if i=0 then [] else [44]
set_option maxHeartbeats 1000000 in
set_option maxRecDepth 100000 in
theorem comma_any (B b:Nat) (l:List UInt8) (i:Nat) (w:World) (h:Pr B b l w) (hi:i≤4294967296) (hlen:l.length+1≤140737488355328) (hBw:B≤w.heap.size) (l':List UInt8) (hl':l'=l ++ comOf i) :
    Calls Tryz.prog 135 #[.pointer (some ⟨b,0,none⟩),.int .i64 (i:Nat)] w fun e w'=>e=.returned (.tuple #[])∧Pr B b l' w'∧Pw B b w w':=by
  subst hl'
  by_cases h0:i=0
  · subst h0
    have e:l ++ comOf 0=l:=by simp [comOf]
    rw [e];go_enter Tryz.func135,Tryz.ntmps135
    go_wp2
    go_end0
    exact ⟨rfl,h,Pw.refl _ _ _⟩
  · have e:l ++ comOf i=l ++ [44]:=by simp [comOf,h0]
    rw [e];have hp:0 < i:=by omega
    go_enter Tryz.func135,Tryz.ntmps135
    go_wp2_with fail
    refine (pByte B b l 44 _ h hlen hBw).mono ?_;rintro e w1 ⟨rfl,h1,b1⟩
    go_wp2
    go_end0
    exact ⟨rfl,h1,b1⟩
def com (rows:Nat→List UInt8):Nat→List UInt8
  | 0=>[]
  | j+1=>com rows j ++ comOf j ++ rows j
theorem com_le (rows:Nat→List UInt8) (j:Nat):∀ n,j≤n→(com rows j).length≤(com rows n).length:=by
  intro n hn
  induction n with
  | zero => have:j=0:=by omega
            subst this;exact Nat.le_refl _
  | succ n ih =>
    rcases Nat.lt_or_ge n j with h | h
    · have:j=n+1:=by omega
      subst this;exact Nat.le_refl _
    · have:=ih h
      simp only [com,List.length_append];omega
def Tab (B : Nat) (w : World) : Prop := ∀ w', Below B w w' → Lib.TabIs Tryz.prog w' "internal/strconv.uint64pow10" .u64 Lib.pow10Tab
theorem Tab.keep {B:Nat} {w w':World} (h:Tab B w) (k:Below B w w'):Tab B w':=fun w2 k2=>h w2 (k.trans k2)
def PrintsAt (B b d:Nat) (pf:V→List UInt8):Prop :=
  ∀ (v:Value) (x:V) (w:World) (l:List UInt8),IsD w (· < B) d v x→V.right x=true→V.wt x≤4294967296→Pr B b l w→Tab B w→B≤w.heap.size→l.length+(pf x).length≤70368744177664 →
    Calls Tryz.prog 82 #[.pointer (some ⟨b,0,none⟩),v] w fun e w'=>e=.returned (.tuple #[])∧Pr B b (l ++ pf x) w'∧Pw B b w w'
set_option maxHeartbeats 2000000 in
set_option maxRecDepth 100000 in
theorem list_of (B b d:Nat) (pf:V→List UInt8) (ih:PrintsAt B b d pf) (k n:Int) (t:ByteArray) (kv:Value) (a:Option Addr) (cap:Nat) (c:Nat→Value) (ls:List V) (w:World) (l:List UInt8)
    (hls:V.wtL ls≤4294967296) (hok:Hid (∀ x ∈ ls,V.right x=true)) (hc:ls.length≤cap) (hm:cap≤maxLen) (hcells:Cells w (· < B) a (ls.length * 5) c) (hel:∀ i (h:i < ls.length),IsD w (· < B) d (elemV c i) ls[i])
    (h:Pr B b l w) (hT:Hid (Tab B w)) (hBw:B≤w.heap.size) (rows:Nat→List UInt8) (hrows:∀ i (h:i < ls.length),rows i=pf ls[i]) (hlen:l.length+(com rows ls.length).length+2≤70368744177664) :
    Calls Tryz.prog 113 #[.pointer (some ⟨b,0,none⟩),.agg #[.int .i64 k,.int .i64 n,.string t,kv,.slice a ls.length cap]] w fun e w'=>e=.returned (.tuple #[])∧Pr B b (l ++ 91 :: (com rows ls.length ++ [93])) w'∧Pw B b w w':=by
  have hlsl:ls.length≤4294967296:=Nat.le_trans (V.wtL_len ls) hls;go_enter Tryz.func113,Tryz.ntmps113
  go_wp2_with fail
  have hbs:=pr_lt h;have hal:=below_alloc w (.cells #[.int .i64 k,.int .i64 n,.string t,kv,.slice a ls.length cap] 27);refine (pByte B b l 91 _ (pr_later h hal) (by omega) (by have:=hal.size;omega)).mono ?_;rintro e w1 ⟨rfl,h1,p1⟩;obtain ⟨x0,x1,x2,x3,x4⟩:=((box_new w (.int .i64 k) (.int .i64 n) (.string t) kv (.slice a ls.length cap) w.heap.size rfl).pw p1 (by omega)).to5;have pw1:Pw B b w w1:=(Pw.of_below hal hBw).trans p1;have P1:Hid (Pw B b w w1):=pw1;have H1:Hid (Pr B b (l ++ [91]) w1):=h1;clear h1 pw1 p1 hal
  go_wp2_with fail
  go_loopg [13] ls.length (fun g i wr=>∃ j:Nat,j+g=ls.length∧i=.int .i64 j∧Pr B b (l ++ [91] ++ com rows j) wr∧Pw B b w wr)
  case atStart=>exact ⟨0,by omega,rfl,by simpa [com] using H1.out,P1.out⟩
  case round =>
    obtain ⟨j,hj,rfl,hpr,hpw⟩:=hrel
    by_cases hlt:j < ls.length
    · obtain ⟨b',off,k',n',t',a1,n1,c1,a2,n2,c2,rfl,helj,e0,e1,e2,e3,e4⟩:=elem_openK hcells (keeps_lt hpw.1) hlt (hel j hlt)
      have hbj:=pr_lt hpr;have hsz:=hpw.1.size;have hwx:=V.wtL_mem (List.getElem_mem hlt);have hcom:=com_le rows (j+1) ls.length (by omega);have hrj:=hrows j hlt;simp only [com,List.length_append] at hcom;rw [hrj] at hcom;have HC:Hid _:=hcom;have HR:Hid _:=hrj;have HW:Hid _:=hwx;have HP:Hid _:=hpr;have HPW:Hid _:=hpw;have HE:Hid _:=helj;clear hcom hrj hwx hpr hpw helj
      go_wp2_with fail
      have hal:=below_alloc wr (.cells #[.int .i64 k',.int .i64 n',.string t',.slice a1 n1 c1,.slice a2 n2 c2] 27);have hals:=hal.size;refine (comma_any B b (l ++ [91] ++ com rows j) j _ (pr_later HP.out hal) (by omega) (by have:=HC.out;simp only [List.length_append,List.length_cons,List.length_nil];omega) (by omega) _ rfl).mono ?_;rintro e w2 ⟨rfl,h2,p2⟩;obtain ⟨y0,y1,y2,y3,y4⟩:=((box_new wr (.int .i64 k') (.int .i64 n') (.string t') (.slice a1 n1 c1) (.slice a2 n2 c2) wr.heap.size rfl).pw p2 (by omega)).to5;have P2:Hid (Pw B b wr w2):=(Pw.of_below hal (by omega)).trans p2;have H2:Hid _:=h2;have hs2:=p2.1.size;clear hal p2 h2
      go_wp2_with fail
      refine (ih _ _ _ _ (HE.out.keep (keeps_lt P2.out.1)) (hok.out _ (List.getElem_mem hlt)) (Nat.le_trans HW.out hls) H2.out (hT.out.keep (Pw.trans HPW.out P2.out).1) (by omega) (by have:=HC.out;simp only [List.length_append,List.length_cons,List.length_nil];omega)).mono ?_;rintro e w3 ⟨rfl,h3,p3⟩;have P3:Hid (Pw B b w w3):=Pw.trans (Pw.trans HPW.out P2.out) p3
      have H3:Hid (Pr B b (l ++ [91] ++ com rows (j+1)) w3):=by
        show Pr B b _ _
        simp only [com];rw [HR.out]
        simpa [List.append_assoc] using h3
      clear h3 p3
      go_wp2
      go_roundg (gk - 1)
      case measure=>omega
      case rel=>exact ⟨j+1,by omega,rfl,H3.out,P3.out⟩
    · have hje:j=ls.length:=by omega
      subst hje
      go_wp2_with fail
      have hsz:=hpw.1.size;refine (pByte B b _ 93 _ hpr (by simp only [List.length_append,List.length_cons,List.length_nil];omega) (by omega)).mono ?_;rintro e w2 ⟨rfl,h2,p2⟩;have P2:Hid (Pw B b w w2):=hpw.trans p2
      have H2:Hid (Pr B b (l ++ 91 :: (com rows ls.length ++ [93])) w2):=by
        show Pr B b _ _
        simpa [List.append_assoc] using h2
      clear h2 p2
      go_wp2
      go_end0
      exact ⟨rfl,H2.out,P2.out⟩
end Go.Proofs.YtapcmbbhhclepaaGreatDoor
namespace Go.Proofs.YtapcmbbhhclepaaGreatDoor
open Go.RowKit
set_option maxHeartbeats 2000000 in
set_option maxRecDepth 100000 in
theorem object_of (B b d:Nat) (pf:V→List UInt8) (ih:PrintsAt B b d pf) (k n:Int) (t:ByteArray) (a1:Option Addr) (cap1:Nat) (ks:List ByteArray) (a:Option Addr) (cap:Nat) (c:Nat→Value) (ls:List V) (w:World) (l:List UInt8) (N:Nat)
    (hls:V.wtL ls≤4294967296) (hok:Hid (∀ x ∈ ls,V.right x=true)) (hwk:V.wtK ks≤4294967296) (hkl:Hid (ks.length=N)) (hll:Hid (ls.length=N)) (hc1:N≤cap1) (hm1:cap1≤maxLen) (hkc:Cells w (· < B) a1 N (fun i=>.string (ks.getD i ByteArray.empty)))
    (hc:N≤cap) (hm:cap≤maxLen) (hcells:Cells w (· < B) a (N * 5) c) (hel:∀ i (h:i < ls.length),IsD w (· < B) d (elemV c i) ls[i])
    (h:Pr B b l w) (hT:Hid (Tab B w)) (hBw:B≤w.heap.size) (rows:Nat→List UInt8) (hrows:∀ i (h:i < ls.length),rows i=Gm.quote (ks.getD i ByteArray.empty).data.toList ++ 58 :: pf ls[i]) (hlen:l.length+(com rows N).length+2≤70368744177664) :
    Calls Tryz.prog 114 #[.pointer (some ⟨b,0,none⟩),.agg #[.int .i64 k,.int .i64 n,.string t,.slice a1 N cap1,.slice a N cap]] w fun e w'=>e=.returned (.tuple #[])∧Pr B b (l ++ 123 :: (com rows N ++ [125])) w'∧Pw B b w w':=by
  have hlsl:N≤4294967296:=by rw [← hll.out];exact Nat.le_trans (V.wtL_len ls) hls
  go_enter Tryz.func114,Tryz.ntmps114
  go_wp2_with fail
  have hbs:=pr_lt h;have hal:=below_alloc w (.cells #[.int .i64 k,.int .i64 n,.string t,.slice a1 N cap1,.slice a N cap] 27);refine (pByte B b l 123 _ (pr_later h hal) (by omega) (by have:=hal.size;omega)).mono ?_;rintro e w1 ⟨rfl,h1,p1⟩;have hbx:=(box_new w (.int .i64 k) (.int .i64 n) (.string t) (.slice a1 N cap1) (.slice a N cap) w.heap.size rfl).pw p1 (by omega);obtain ⟨x0,x1,x2,x3,x4⟩:=hbx.to5;have P1:Hid (Pw B b w w1):=(Pw.of_below hal hBw).trans p1;have H1:Hid (Pr B b (l ++ [123]) w1):=h1;have BX:Hid _:=hbx;clear h1 p1 hal hbx
  go_wp2_with fail
  go_loopg [16] N (fun g i wr=>∃ j:Nat,j+g=N∧i=.int .i64 j∧Pr B b (l ++ [123] ++ com rows j) wr∧Pw B b w wr∧Box wr w.heap.size (.int .i64 k) (.int .i64 n) (.string t) (.slice a1 N cap1) (.slice a N cap))
  case atStart=>exact ⟨0,by omega,rfl,by simpa [com] using H1.out,P1.out,BX.out⟩
  case round =>
    obtain ⟨j,hj,rfl,hpr,hpw,hbj⟩:=hrel;have hsz:=hpw.1.size
    by_cases hlt:j < N
    · have hjl:j < ls.length:=by rw [hll.out];exact hlt
      have hjk:j < ks.length:=by rw [hkl.out];exact hlt
      have hwx:=V.wtL_mem (List.getElem_mem hjl);have hex:=hel j hjl;have hrx:=hok.out _ (List.getElem_mem hjl);have hwy:=getD_wt hwk hjk;have hcom:=com_le rows (j+1) N (by omega);have hrj:=hrows j hjl;generalize ls[j]=X at hwx hex hrj hrx;simp only [com,List.length_append] at hcom;rw [hrj] at hcom;simp only [List.length_append,List.length_cons] at hcom;have HC:Hid _:=hcom;have HR:Hid _:=hrj;have HW:Hid _:=hwx;have HP:Hid _:=hpr;have HPW:Hid (Pw B b w wr):=hpw;have HB:Hid (Box wr w.heap.size (.int .i64 k) (.int .i64 n) (.string t) (.slice a1 N cap1) (.slice a N cap)):=hbj;have HRX:Hid (V.right X=true):=hrx;have HEX:Hid (IsD w (· < B) d (elemV c j) X):=hex;clear hcom hrj hwx hpr hpw hbj hjl hjk hex hrx
      go_wp2_with fail
      refine (comma_any B b (l ++ [123] ++ com rows j) j _ HP.out (by omega) (by have:=HC.out;simp only [List.length_append,List.length_cons,List.length_nil];omega) (by omega) _ rfl).mono ?_;rintro e w2 ⟨rfl,h2,p2⟩;have hs2:=p2.1.size;have P2:Hid (Pw B b w w2):=Pw.trans HPW.out p2;have H2:Hid (Pr B b (l ++ [123] ++ com rows j ++ comOf j) w2):=h2;have BX2:Hid (Box w2 w.heap.size (.int .i64 k) (.int .i64 n) (.string t) (.slice a1 N cap1) (.slice a N cap)):=Box.pw HB.out p2 (by omega);obtain ⟨kb,ko,ha1,_,hkk⟩:=hkc.keep (keeps_lt P2.out.1) (by omega);have hkj:w2.cell? ⟨kb,ko+j,none⟩=some (.string (ks.getD j ByteArray.empty)):=hkk j hlt;clear hkk;obtain ⟨KK,hKK⟩:∃ KK,KK=ks.getD j ByteArray.empty:=⟨_,rfl⟩;rw [← hKK] at hkj hwy;have HKK:Hid (KK=ks.getD j ByteArray.empty):=hKK;have hk2:Hid (w2.cell? ⟨kb,ko+j,none⟩=some (.string KK)):=hkj;have HKS:Hid (KK.size≤17592186044416):=by show KK.size≤_;omega
      obtain ⟨QK,hQK⟩:∃ QK:ByteArray,QK=⟨(Gm.quote KK.data.toList).toArray⟩:=⟨_,rfl⟩;have HQ:Hid (QK=⟨(Gm.quote KK.data.toList).toArray⟩):=hQK;have HQL:Hid (QK.data.toList=Gm.quote KK.data.toList):=by show _=_;rw [hQK]
      have HQS:Hid (QK.size=(Gm.quote (ks.getD j ByteArray.empty).data.toList).length):=by show _=_;rw [hQK,hKK];rfl
      clear hKK hQK hkj h2 p2 hwy;subst ha1
      go_wp2_with fail
      refine' wp_region_facts [(fun _ _ v _=>v=.pointer (some ⟨b,0,none⟩)),(fun _ _ v _=>v=.pointer (some ⟨b,0,none⟩)),(fun _ _ v _=>v=.pointer (some ⟨b,0,none⟩)),(fun _ _ v _=>v=.pointer (some ⟨w.heap.size,3,none⟩)),(fun _ _ v _=>v=.slice (some ⟨kb,ko,none⟩) N cap1),(fun _ _ v _=>v=.int .i64 (j:Int)),(fun _ _ v _=>v=.pointer (some ⟨kb,ko+j,none⟩)),(fun _ _ v _=>v=.string KK),(fun _ _ v _=>v=.string QK)] (by kernel_rfl) rfl ?hA (by kernel_rfl) (by kernel_rfl) (by kernel_rfl) rfl ?mono ?steps ?last
      case hA =>
        intro vs;simp only [puts,Act.put,List.setIfInBounds_toArray,List.set_cons_zero,List.set_cons_succ,Nat.zero_add,Nat.reduceAdd];rfl
      case mono=>exact ⟨mono_eq _,mono_eq _,mono_eq _,mono_eq _,mono_eq _,mono_eq _,mono_eq _,mono_eq _,mono_eq _,trivial⟩
      case steps =>
        intro Q';refine And.intro ?_ <| And.intro ?_ <| And.intro ?_ <| And.intro ?_ <| And.intro ?_ <| And.intro ?_ <| And.intro ?_ <| And.intro ?_ <| And.intro ?_ <| trivial
        all_goals
          intro vs lo hi w' hM hd K' hK;dsimp only at hK ⊢;simp only [Act.put,List.setIfInBounds_toArray,List.set_cons_zero,List.set_cons_succ] at hK
        · go_simp
          exact hK.out _ _ rfl (Below.refl _ _)
        · have e0:vs 0=.pointer (some ⟨b,0,none⟩):=hd 0 (by kernel_rfl)
          simp only [e0] at hK ⊢;clear e0;go_simp;exact hK.out _ _ rfl (Below.refl _ _)
        · have e1:vs 1=.pointer (some ⟨b,0,none⟩):=hd 1 (by kernel_rfl)
          simp only [e1] at hK ⊢;clear e1;go_simp;exact hK.out _ _ rfl (Below.refl _ _)
        · go_simp
          exact hK.out _ _ rfl (Below.refl _ _)
        · have e3:vs 3=.pointer (some ⟨w.heap.size,3,none⟩):=hd 3 (by kernel_rfl)
          simp only [e3] at hK ⊢;clear e3;obtain ⟨y0,y1,y2,y3,y4⟩:=BX2.out.to5.keep hM;go_simp;exact hK.out _ _ rfl (Below.refl _ _)
        · go_simp
          exact hK.out _ _ rfl (Below.refl _ _)
        · have e4:vs 4=.slice (some ⟨kb,ko,none⟩) N cap1:=hd 4 (by kernel_rfl)
          have e5:vs 5=.int .i64 (j:Int):=hd 5 (by kernel_rfl);simp only [e4,e5] at hK ⊢;clear e4 e5;go_simp;exact hK.out _ _ rfl (Below.refl _ _)
        · have e6:vs 6=.pointer (some ⟨kb,ko+j,none⟩):=hd 6 (by kernel_rfl)
          simp only [e6] at hK ⊢;clear e6;have hkey:=cell_keep hk2.out hM;go_simp;exact hK.out _ _ rfl (Below.refl _ _)
        · have e7:vs 7=.string KK:=hd 7 (by kernel_rfl)
          simp only [e7] at hK ⊢;clear e7;go_simp;refine (quote_any KK w' HKS.out).mono ?_;rintro e w7 ⟨rfl,b7⟩;rw [← HQ.out];exact hK.out _ _ rfl b7
      case last =>
        intro vs lo hi w' hM hlo hap hall K' Q' hK;have e2:vs 2=.pointer (some ⟨b,0,none⟩):=hall.2.2.1;have e8:vs 8=.string QK:=hall.2.2.2.2.2.2.2.2.1;dsimp only;simp only [e2,e8];clear e2 e8 hall hap hlo;go_simp;have hsM:=hM.size;refine (pString B b _ QK _ (pr_later H2.out hM) (by have:=HC.out;have:=HQS.out;simp only [List.length_append,List.length_cons,List.length_nil];omega) (by omega)).mono ?_;rintro e w3 ⟨rfl,h3,p3⟩;refine hK.out _ _ ?_;clear hK;have hs3:=p3.1.size;have P3:Hid (Pw B b w w3):=Pw.trans (Pw.trans P2.out (Pw.of_below hM (by omega))) p3
        have H3:Hid (Pr B b (l ++ [123] ++ com rows j ++ comOf j ++ Gm.quote (ks.getD j ByteArray.empty).data.toList) w3):=by
          show Pr B b _ _
          rw [← HKK.out,← HQL.out];exact h3
        have BX3:Hid (Box w3 w.heap.size (.int .i64 k) (.int .i64 n) (.string t) (.slice (some ⟨kb,ko,none⟩) N cap1) (.slice a N cap)):=Box.pw (Box.pw BX2.out (Pw.of_below (B:=B) (b:=b) hM (by omega)) (by omega)) p3 (by omega);clear h3 p3 hM
        go_wp2_with fail
        refine (pByte B b _ 58 _ H3.out (by have:=HC.out;simp only [List.length_append,List.length_cons,List.length_nil];omega) (by omega)).mono ?_;rintro e w4 ⟨rfl,h4,p4⟩;have hs4:=p4.1.size;have P4:Hid (Pw B b w w4):=Pw.trans P3.out p4;have H4:Hid (Pr B b (l ++ [123] ++ com rows j ++ comOf j ++ Gm.quote (ks.getD j ByteArray.empty).data.toList ++ [58]) w4):=h4;have hbx4:=Box.pw BX3.out p4 (by omega);have BX4:Hid (Box w4 w.heap.size (.int .i64 k) (.int .i64 n) (.string t) (.slice (some ⟨kb,ko,none⟩) N cap1) (.slice a N cap)):=hbx4;obtain ⟨z0,z1,z2,z3,z4⟩:=hbx4.to5;obtain ⟨b',off,k',n',t',a1',n1,c1,a2,n2,c2,ha,helj,e0,e1,e2,e3,e4⟩:=elem_openK hcells (keeps_lt P4.out.1) hlt HEX.out;subst ha;have HE:Hid _:=helj;clear h4 p4 hbx4 helj
        go_wp2_with fail
        refine (ih _ _ _ _ HE.out HRX.out (Nat.le_trans HW.out hls) H4.out (hT.out.keep P4.out.1) (by omega) (by have:=HC.out;simp only [List.length_append,List.length_cons,List.length_nil];omega)).mono ?_;rintro e w5 ⟨rfl,h5,p5⟩;have P5:Hid (Pw B b w w5):=Pw.trans P4.out p5
        have H5:Hid (Pr B b (l ++ [123] ++ com rows (j+1)) w5):=by
          show Pr B b _ _
          simp only [com];rw [HR.out]
          simpa [List.append_assoc] using h5
        have BX5:Hid (Box w5 w.heap.size (.int .i64 k) (.int .i64 n) (.string t) (.slice (some ⟨kb,ko,none⟩) N cap1) (.slice (some ⟨b',off,none⟩) N cap)):=Box.pw BX4.out p5 (by omega);clear h5 p5
        go_wp2
        go_roundg (gk - 1)
        case measure=>omega
        case rel=>exact ⟨j+1,by omega,rfl,H5.out,P5.out,BX5.out⟩
    · have hje:j=N:=by omega
      subst hje
      go_wp2_with fail
      refine (pByte B b _ 125 _ hpr (by simp only [List.length_append,List.length_cons,List.length_nil];omega) (by omega)).mono ?_;rintro e w2 ⟨rfl,h2,p2⟩;have P2:Hid (Pw B b w w2):=hpw.trans p2
      have H2:Hid (Pr B b (l ++ 123 :: (com rows j ++ [125])) w2):=by
        show Pr B b _ _
        simpa [List.append_assoc] using h2
      clear h2 p2
      go_wp2
      go_end0
      exact ⟨rfl,H2.out,P2.out⟩
end Go.Proofs.YtapcmbbhhclepaaGreatDoor
namespace Go.Proofs.YtapcmbbhhclepaaGreatDoor
open Go.RowKit
set_option maxHeartbeats 2000000 in
set_option maxRecDepth 100000 in
theorem value_nul (B b:Nat) (k n:Int) (t:ByteArray) (kv lv:Value) (w:World) (l:List UInt8) (q1:(k == 1)=false) (q2:(k == 2)=false) (q3:(k == 3)=false) (q4:(k == 4)=false) (q5:(k == 5)=false) (h:Pr B b l w) (hBw:B≤w.heap.size) (hlen:l.length+4≤70368744177664) :
    Calls Tryz.prog 82 #[.pointer (some ⟨b,0,none⟩),.agg #[.int .i64 k,.int .i64 n,.string t,kv,lv]] w fun e w'=>e=.returned (.tuple #[])∧Pr B b (l ++ Cn.nullW) w'∧Pw B b w w':=by
  have hal:=below_alloc w (.cells #[.int .i64 k,.int .i64 n,.string t,kv,lv] 27);have HA:Hid _:=hal;clear hal;go_enter Tryz.func82,Tryz.ntmps82
  go_wp2_with fail
  have hs:=HA.out.size;refine (pString B b l _ _ (pr_later h HA.out) (by show l.length+4≤_;omega) (by omega)).mono ?_;rintro e w1 ⟨rfl,h1,p1⟩;have P1:Hid (Pw B b w w1):=Pw.trans (Pw.of_below HA.out hBw) p1;have H1:Hid (Pr B b (l ++ Cn.nullW) w1):=h1;clear h1 p1
  go_wp2
  go_end0
  exact ⟨rfl,H1.out,P1.out⟩
set_option maxHeartbeats 2000000 in
set_option maxRecDepth 100000 in
theorem value_list (B b:Nat) (n:Int) (t:ByteArray) (kv:Value) (a2:Option Addr) (n2 c2:Nat) (w:World) (l l':List UInt8) (hBw:B≤w.heap.size)
    (hcall:∀ w',Below w.heap.size w w'→Calls Tryz.prog 113 #[.pointer (some ⟨b,0,none⟩),.agg #[.int .i64 4,.int .i64 n,.string t,kv,.slice a2 n2 c2]] w' fun e w''=>e=.returned (.tuple #[])∧Pr B b l' w''∧Pw B b w' w'') :
    Calls Tryz.prog 82 #[.pointer (some ⟨b,0,none⟩),.agg #[.int .i64 4,.int .i64 n,.string t,kv,.slice a2 n2 c2]] w fun e w'=>e=.returned (.tuple #[])∧Pr B b l' w'∧Pw B b w w':=by
  have hal:=below_alloc w (.cells #[.int .i64 4,.int .i64 n,.string t,kv,.slice a2 n2 c2] 27);have HA:Hid _:=hal;clear hal;go_enter Tryz.func82,Tryz.ntmps82
  go_wp2_with fail
  refine (hcall _ HA.out).mono ?_;rintro e w1 ⟨rfl,h1,p1⟩;have P1:Hid (Pw B b w w1):=Pw.trans (Pw.of_below HA.out hBw) p1;have H1:Hid (Pr B b l' w1):=h1;clear h1 p1
  go_wp2
  go_end0
  exact ⟨rfl,H1.out,P1.out⟩
set_option maxHeartbeats 2000000 in
set_option maxRecDepth 100000 in
theorem value_obj (B b:Nat) (n:Int) (t:ByteArray) (kv:Value) (a2:Option Addr) (n2 c2:Nat) (w:World) (l l':List UInt8) (hBw:B≤w.heap.size)
    (hcall:∀ w',Below w.heap.size w w'→Calls Tryz.prog 114 #[.pointer (some ⟨b,0,none⟩),.agg #[.int .i64 5,.int .i64 n,.string t,kv,.slice a2 n2 c2]] w' fun e w''=>e=.returned (.tuple #[])∧Pr B b l' w''∧Pw B b w' w'') :
    Calls Tryz.prog 82 #[.pointer (some ⟨b,0,none⟩),.agg #[.int .i64 5,.int .i64 n,.string t,kv,.slice a2 n2 c2]] w fun e w'=>e=.returned (.tuple #[])∧Pr B b l' w'∧Pw B b w w':=by
  have hal:=below_alloc w (.cells #[.int .i64 5,.int .i64 n,.string t,kv,.slice a2 n2 c2] 27);have HA:Hid _:=hal;clear hal;go_enter Tryz.func82,Tryz.ntmps82
  go_wp2_with fail
  refine (hcall _ HA.out).mono ?_;rintro e w1 ⟨rfl,h1,p1⟩;have P1:Hid (Pw B b w w1):=Pw.trans (Pw.of_below HA.out hBw) p1;have H1:Hid (Pr B b l' w1):=h1;clear h1 p1
  go_wp2
  go_end0
  exact ⟨rfl,H1.out,P1.out⟩
set_option maxHeartbeats 2000000 in
set_option maxRecDepth 100000 in
theorem value_text (B b:Nat) (n:Int) (t:ByteArray) (kv lv:Value) (w:World) (l:List UInt8) (h:Pr B b l w) (hBw:B≤w.heap.size) (hts:t.size≤4294967296) (hlen:l.length+(Gm.quote t.data.toList).length≤70368744177664) :
    Calls Tryz.prog 82 #[.pointer (some ⟨b,0,none⟩),.agg #[.int .i64 3,.int .i64 n,.string t,kv,lv]] w fun e w'=>e=.returned (.tuple #[])∧Pr B b (l ++ Gm.quote t.data.toList) w'∧Pw B b w w':=by
  have HA:Hid (Below w.heap.size w (w.alloc (.cells #[.int .i64 3,.int .i64 n,.string t,kv,lv] 27))):=below_alloc w _;have BX:Hid (Box5 (w.alloc (.cells #[.int .i64 3,.int .i64 n,.string t,kv,lv] 27)) w.heap.size (.int .i64 3) (.int .i64 n) (.string t) kv lv):=box5_new w _ _ _ _ _ _;obtain ⟨QK,hQK⟩:∃ QK:ByteArray,QK=⟨(Gm.quote t.data.toList).toArray⟩:=⟨_,rfl⟩;have HQ:Hid (QK=⟨(Gm.quote t.data.toList).toArray⟩):=hQK;have HQL:Hid (QK.data.toList=Gm.quote t.data.toList):=by show _=_;rw [hQK]
  have HQS:Hid (QK.size=(Gm.quote t.data.toList).length):=by show _=_;rw [hQK];rfl
  have HTS:Hid (t.size≤17592186044416):=by show t.size≤_;omega
  clear hQK hts;go_enter Tryz.func82,Tryz.ntmps82
  go_wp2_with fail
  refine' wp_region_facts [(fun _ _ v _=>v=.pointer (some ⟨b,0,none⟩)),(fun _ _ v _=>v=.pointer (some ⟨b,0,none⟩)),(fun _ _ v _=>v=.pointer (some ⟨b,0,none⟩)),(fun _ _ v _=>v=.pointer (some ⟨w.heap.size,2,none⟩)),(fun _ _ v _=>v=.string t),(fun _ _ v _=>v=.string QK)] (by kernel_rfl) rfl ?hA (by kernel_rfl) (by kernel_rfl) (by kernel_rfl) rfl ?mono ?steps ?last
  case hA =>
    intro vs;simp only [puts,Act.put,List.setIfInBounds_toArray,List.set_cons_zero,List.set_cons_succ,Nat.zero_add,Nat.reduceAdd];rfl
  case mono=>exact ⟨mono_eq _,mono_eq _,mono_eq _,mono_eq _,mono_eq _,mono_eq _,trivial⟩
  case steps =>
    intro Q';refine And.intro ?_ <| And.intro ?_ <| And.intro ?_ <| And.intro ?_ <| And.intro ?_ <| And.intro ?_ <| trivial
    all_goals
      intro vs lo hi w' hM hd K' hK;dsimp only at hK ⊢;simp only [Act.put,List.setIfInBounds_toArray,List.set_cons_zero,List.set_cons_succ] at hK
    · go_simp
      exact hK.out _ _ rfl (Below.refl _ _)
    · have e0:vs 0=.pointer (some ⟨b,0,none⟩):=hd 0 (by kernel_rfl)
      simp only [e0] at hK ⊢;clear e0;go_simp;exact hK.out _ _ rfl (Below.refl _ _)
    · have e1:vs 1=.pointer (some ⟨b,0,none⟩):=hd 1 (by kernel_rfl)
      simp only [e1] at hK ⊢;clear e1;go_simp;exact hK.out _ _ rfl (Below.refl _ _)
    · go_simp
      exact hK.out _ _ rfl (Below.refl _ _)
    · have e3:vs 3=.pointer (some ⟨w.heap.size,2,none⟩):=hd 3 (by kernel_rfl)
      simp only [e3] at hK ⊢;clear e3;obtain ⟨y0,y1,y2,y3,y4⟩:=BX.out.keep hM;go_simp;exact hK.out _ _ rfl (Below.refl _ _)
    · have e4:vs 4=.string t:=hd 4 (by kernel_rfl)
      simp only [e4] at hK ⊢;clear e4;go_simp;refine (quote_any t w' HTS.out).mono ?_;rintro e w7 ⟨rfl,b7⟩;rw [← HQ.out];exact hK.out _ _ rfl b7
  case last =>
    intro vs lo hi w' hM hlo hap hall K' Q' hK;have e2:vs 2=.pointer (some ⟨b,0,none⟩):=hall.2.2.1;have e9:vs 5=.string QK:=hall.2.2.2.2.2.1;dsimp only;simp only [e2,e9];clear e2 e9 hall hap hlo;go_simp;have hsM:=hM.size;have hsa:=HA.out.size;refine (pString B b _ QK _ (pr_later (pr_later h HA.out) hM) (by have:=HQS.out;omega) (by omega)).mono ?_;rintro e w3 ⟨rfl,h3,p3⟩;refine hK.out _ _ ?_;clear hK;have P3:Hid (Pw B b w w3):=Pw.trans (Pw.of_below (bthen HA.out hM) hBw) p3
    have H3:Hid (Pr B b (l ++ Gm.quote t.data.toList) w3):=by
      show Pr B b _ _
      rw [← HQL.out];exact h3
    clear h3 p3 hM
    go_wp2
    go_end0
    exact ⟨rfl,H3.out,P3.out⟩
end Go.Proofs.YtapcmbbhhclepaaGreatDoor
namespace Go.Proofs.YtapcmbbhhclepaaGreatDoor
open Go.RowKit
theorem dec_digitsN:∀ (f u:Nat),0 < f→u < 10 ^ f→Lib.decDigits u=Cn.digitsN f u:=by
  intro f
  induction f with
  | zero=>intro u h;omega
  | succ f ih =>
    intro u _ hu;rw [Lib.decDigits]
    by_cases h:u < 10
    · simp [Cn.digitsN,h]
    · have hf:0 < f:=by
        rcases Nat.eq_zero_or_pos f with h0 | h0
        · subst h0;simp at hu;omega
        · exact h0
      have hq:u / 10 < 10 ^ f:=by
        rw [Nat.pow_succ] at hu;exact Nat.div_lt_of_lt_mul (by omega)
      simp only [dif_neg h,Cn.digitsN,if_neg h];rw [ih (u / 10) hf hq]
theorem itoa_digits (n:Int) (h0:-9223372036854775808≤n) (h1:n≤9223372036854775807):Lib.itoa n=Cn.digits n:=by
  unfold Lib.itoa Cn.digits
  by_cases h:n < 0
  · rw [if_pos h,if_pos h,dec_digitsN 20 _ (by decide) (by omega)]
  · rw [if_neg h,if_neg h,dec_digitsN 20 _ (by decide) (by omega)]
    congr 1
    omega
set_option maxHeartbeats 1000000 in
theorem formatInt_any (n : Int) (h0 : -9223372036854775808 ≤ n) (h1 : n ≤ 9223372036854775807) (w : World) (htab : Lib.TabIs Tryz.prog w "internal/strconv.uint64pow10" .u64 Lib.pow10Tab) :
    Calls Tryz.prog 111 #[.int .i64 n,.int .i64 10] w fun e w'=>e=.returned (.string ⟨(Lib.itoa n).toArray⟩)∧Below w.heap.size w w':=by
  go_enter Tryz.func111,Tryz.ntmps111
  go_wp2_with fail
  refine (Tryz.internal_strconv_FormatInt_10 n h0 h1 w htab).mono ?_;rintro e w1 ⟨rfl,k,os,rfl⟩;have hb:=Lib.below_grow w.heap.size w (Nat.le_refl _) k os
  go_wp2
  go_ret
  exact ⟨rfl,hb⟩
set_option maxHeartbeats 2000000 in
set_option maxRecDepth 100000 in
theorem value_int (B b:Nat) (n:Int) (t:ByteArray) (kv lv:Value) (w:World) (l:List UInt8) (h:Pr B b l w) (hBw:B≤w.heap.size) (hT:Tab B w) (h0:-9223372036854775808≤n) (h1:n≤9223372036854775807) (hlen:l.length+(Cn.digits n).length≤70368744177664) :
    Calls Tryz.prog 82 #[.pointer (some ⟨b,0,none⟩),.agg #[.int .i64 2,.int .i64 n,.string t,kv,lv]] w fun e w'=>e=.returned (.tuple #[])∧Pr B b (l ++ Cn.digits n) w'∧Pw B b w w':=by
  have HA:Hid (Below w.heap.size w (w.alloc (.cells #[.int .i64 2,.int .i64 n,.string t,kv,lv] 27))):=below_alloc w _;have BX:Hid (Box5 (w.alloc (.cells #[.int .i64 2,.int .i64 n,.string t,kv,lv] 27)) w.heap.size (.int .i64 2) (.int .i64 n) (.string t) kv lv):=box5_new w _ _ _ _ _ _;obtain ⟨QK,hQK⟩:∃ QK:ByteArray,QK=⟨(Lib.itoa n).toArray⟩:=⟨_,rfl⟩;have HQ:Hid (QK=⟨(Lib.itoa n).toArray⟩):=hQK;have HQL:Hid (QK.data.toList=Cn.digits n):=by show _=_;rw [hQK,← itoa_digits n h0 h1]
  have HQS:Hid (QK.size=(Cn.digits n).length):=by show _=_;rw [hQK,← itoa_digits n h0 h1];rfl
  have HN0:Hid (-9223372036854775808≤n):=h0;have HN1:Hid (n≤9223372036854775807):=h1;have HT:Hid (Tab B w):=hT;clear hQK h0 h1 hT;go_enter Tryz.func82,Tryz.ntmps82
  go_wp2_with fail
  refine' wp_region_facts [(fun _ _ v _=>v=.pointer (some ⟨b,0,none⟩)),(fun _ _ v _=>v=.pointer (some ⟨b,0,none⟩)),(fun _ _ v _=>v=.pointer (some ⟨b,0,none⟩)),(fun _ _ v _=>v=.pointer (some ⟨w.heap.size,1,none⟩)),(fun _ _ v _=>v=.int .i64 n),(fun _ _ v _=>v=.string QK)] (by kernel_rfl) rfl ?hA (by kernel_rfl) (by kernel_rfl) (by kernel_rfl) rfl ?mono ?steps ?last
  case hA =>
    intro vs;simp only [puts,Act.put,List.setIfInBounds_toArray,List.set_cons_zero,List.set_cons_succ,Nat.zero_add,Nat.reduceAdd];rfl
  case mono=>exact ⟨mono_eq _,mono_eq _,mono_eq _,mono_eq _,mono_eq _,mono_eq _,trivial⟩
  case steps =>
    intro Q';refine And.intro ?_ <| And.intro ?_ <| And.intro ?_ <| And.intro ?_ <| And.intro ?_ <| And.intro ?_ <| trivial
    all_goals
      intro vs lo hi w' hM hd K' hK;dsimp only at hK ⊢;simp only [Act.put,List.setIfInBounds_toArray,List.set_cons_zero,List.set_cons_succ] at hK
    · go_simp
      exact hK.out _ _ rfl (Below.refl _ _)
    · have e0:vs 0=.pointer (some ⟨b,0,none⟩):=hd 0 (by kernel_rfl)
      simp only [e0] at hK ⊢;clear e0;go_simp;exact hK.out _ _ rfl (Below.refl _ _)
    · have e1:vs 1=.pointer (some ⟨b,0,none⟩):=hd 1 (by kernel_rfl)
      simp only [e1] at hK ⊢;clear e1;go_simp;exact hK.out _ _ rfl (Below.refl _ _)
    · go_simp
      exact hK.out _ _ rfl (Below.refl _ _)
    · have e3:vs 3=.pointer (some ⟨w.heap.size,1,none⟩):=hd 3 (by kernel_rfl)
      simp only [e3] at hK ⊢;clear e3;obtain ⟨y0,y1,y2,y3,y4⟩:=BX.out.keep hM;go_simp;exact hK.out _ _ rfl (Below.refl _ _)
    · have e4:vs 4=.int .i64 n:=hd 4 (by kernel_rfl)
      simp only [e4] at hK ⊢;clear e4;go_simp;refine (formatInt_any n HN0.out HN1.out w' (HT.out w' ((HA.out.mono hBw).trans (hM.mono (Nat.le_trans hBw HA.out.size))))).mono ?_;rintro e w7 ⟨rfl,b7⟩;rw [← HQ.out];exact hK.out _ _ rfl b7
  case last =>
    intro vs lo hi w' hM hlo hap hall K' Q' hK;have e2:vs 2=.pointer (some ⟨b,0,none⟩):=hall.2.2.1;have e9:vs 5=.string QK:=hall.2.2.2.2.2.1;dsimp only;simp only [e2,e9];clear e2 e9 hall hap hlo;go_simp;have hsM:=hM.size;have hsa:=HA.out.size;refine (pString B b _ QK _ (pr_later (pr_later h HA.out) hM) (by have:=HQS.out;omega) (by omega)).mono ?_;rintro e w3 ⟨rfl,h3,p3⟩;refine hK.out _ _ ?_;clear hK;have P3:Hid (Pw B b w w3):=Pw.trans (Pw.of_below (bthen HA.out hM) hBw) p3
    have H3:Hid (Pr B b (l ++ Cn.digits n) w3):=by
      show Pr B b _ _
      rw [← HQL.out];exact h3
    clear h3 p3 hM
    go_wp2
    go_end0
    exact ⟨rfl,H3.out,P3.out⟩
end Go.Proofs.YtapcmbbhhclepaaGreatDoor
namespace Go.Proofs.YtapcmbbhhclepaaGreatDoor
open Go.RowKit
set_option maxHeartbeats 2000000 in
set_option maxRecDepth 100000 in
theorem value_truth (B b:Nat) (n:Int) (t:ByteArray) (kv lv:Value) (w:World) (l:List UInt8) (h:Pr B b l w) (hBw:B≤w.heap.size) (R:List UInt8) (hR:R=if n=0 then Cn.falseW else Cn.trueW) (hlen:l.length+R.length≤70368744177664) :
    Calls Tryz.prog 82 #[.pointer (some ⟨b,0,none⟩),.agg #[.int .i64 1,.int .i64 n,.string t,kv,lv]] w fun e w'=>e=.returned (.tuple #[])∧Pr B b (l ++ R) w'∧Pw B b w w':=by
  have HA:Hid (Below w.heap.size w (w.alloc (.cells #[.int .i64 1,.int .i64 n,.string t,kv,lv] 27))):=below_alloc w _;have BX:Hid (Box5 (w.alloc (.cells #[.int .i64 1,.int .i64 n,.string t,kv,lv] 27)) w.heap.size (.int .i64 1) (.int .i64 n) (.string t) kv lv):=box5_new w _ _ _ _ _ _;obtain ⟨q,hq⟩:∃ q:Bool,(!(n == 0))=q:=⟨_,rfl⟩;obtain ⟨QK,hQK⟩:∃ QK:ByteArray,QK=⟨(Lib.formatBool q).toArray⟩:=⟨_,rfl⟩;have HN:Hid ((!(n == 0))=q):=hq
  have e0:Lib.formatBool q=if n=0 then Cn.falseW else Cn.trueW:=by
    subst hq
    by_cases h0:n=0
    · subst h0;rfl
    · rw [if_neg h0]
      have:(!(n == 0))=true:=by simp [h0]
      rw [this];rfl
  have HQ:Hid (QK=⟨(Lib.formatBool q).toArray⟩):=hQK;have HQL:Hid (QK.data.toList=R):=by show _=_;rw [hQK,hR,← e0]
  have HQS:Hid (QK.size=R.length):=by show _=_;rw [hQK,hR,← e0];rfl
  clear hQK hq e0 hR;go_enter Tryz.func82,Tryz.ntmps82
  go_wp2_with fail
  refine' wp_region_facts [(fun _ _ v _=>v=.pointer (some ⟨b,0,none⟩)),(fun _ _ v _=>v=.pointer (some ⟨b,0,none⟩)),(fun _ _ v _=>v=.pointer (some ⟨b,0,none⟩)),(fun _ _ v _=>v=.pointer (some ⟨w.heap.size,1,none⟩)),(fun _ _ v _=>v=.int .i64 n),(fun _ _ v _=>v=.bool q),(fun _ _ v _=>v=.string QK)] (by kernel_rfl) rfl ?hA (by kernel_rfl) (by kernel_rfl) (by kernel_rfl) rfl ?mono ?steps ?last
  case hA =>
    intro vs;simp only [puts,Act.put,List.setIfInBounds_toArray,List.set_cons_zero,List.set_cons_succ,Nat.zero_add,Nat.reduceAdd];rfl
  case mono=>exact ⟨mono_eq _,mono_eq _,mono_eq _,mono_eq _,mono_eq _,mono_eq _,mono_eq _,trivial⟩
  case steps =>
    intro Q';refine And.intro ?_ <| And.intro ?_ <| And.intro ?_ <| And.intro ?_ <| And.intro ?_ <| And.intro ?_ <| And.intro ?_ <| trivial
    all_goals
      intro vs lo hi w' hM hd K' hK;dsimp only at hK ⊢;simp only [Act.put,List.setIfInBounds_toArray,List.set_cons_zero,List.set_cons_succ] at hK
    · go_simp
      exact hK.out _ _ rfl (Below.refl _ _)
    · have e0:vs 0=.pointer (some ⟨b,0,none⟩):=hd 0 (by kernel_rfl)
      simp only [e0] at hK ⊢;clear e0;go_simp;exact hK.out _ _ rfl (Below.refl _ _)
    · have e1:vs 1=.pointer (some ⟨b,0,none⟩):=hd 1 (by kernel_rfl)
      simp only [e1] at hK ⊢;clear e1;go_simp;exact hK.out _ _ rfl (Below.refl _ _)
    · go_simp
      exact hK.out _ _ rfl (Below.refl _ _)
    · have e3:vs 3=.pointer (some ⟨w.heap.size,1,none⟩):=hd 3 (by kernel_rfl)
      simp only [e3] at hK ⊢;clear e3;obtain ⟨y0,y1,y2,y3,y4⟩:=BX.out.keep hM;go_simp;exact hK.out _ _ rfl (Below.refl _ _)
    · have e4:vs 4=.int .i64 n:=hd 4 (by kernel_rfl)
      simp only [e4] at hK ⊢;clear e4;go_simp;exact hK.out _ _ (by rw [← HN.out];try rfl) (Below.refl _ _)
    · have e5:vs 5=.bool q:=hd 5 (by kernel_rfl)
      simp only [e5] at hK ⊢;clear e5;go_simp;refine (Tryz.strconv_FormatBool q w').mono ?_;rintro e w7 ⟨rfl,rfl⟩;rw [← HQ.out];exact hK.out _ _ rfl (Below.refl _ _)
  case last =>
    intro vs lo hi w' hM hlo hap hall K' Q' hK;have e2:vs 2=.pointer (some ⟨b,0,none⟩):=hall.2.2.1;have e9:vs 6=.string QK:=hall.2.2.2.2.2.2.1;dsimp only;simp only [e2,e9];clear e2 e9 hall hap hlo;go_simp;have hsM:=hM.size;have hsa:=HA.out.size;refine (pString B b _ QK _ (pr_later (pr_later h HA.out) hM) (by have:=HQS.out;omega) (by omega)).mono ?_;rintro e w3 ⟨rfl,h3,p3⟩;refine hK.out _ _ ?_;clear hK;have P3:Hid (Pw B b w w3):=Pw.trans (Pw.of_below (bthen HA.out hM) hBw) p3
    have H3:Hid (Pr B b (l ++ R) w3):=by
      show Pr B b _ _
      rw [← HQL.out];exact h3
    clear h3 p3 hM
    go_wp2
    go_end0
    exact ⟨rfl,H3.out,P3.out⟩
end Go.Proofs.YtapcmbbhhclepaaGreatDoor
namespace Go.Proofs.YtapcmbbhhclepaaGreatDoor
open Go.RowKit
theorem joined_snoc (r:List UInt8):∀ rs:List (List UInt8),Cn.joined (rs ++ [r])=Cn.joined rs ++ comOf rs.length ++ r
  | []=>by simp [Cn.joined,comOf]
  | [a]=>by
    show Cn.joined [a,r]=_
    rw [Cn.joined_two,Cn.joined_one,Cn.joined_one];simp [comOf]
  | a :: b :: rs=>by
    show Cn.joined (a :: b :: (rs ++ [r]))=_
    rw [Cn.joined_two,Cn.joined_two];have:=joined_snoc r (b :: rs)
    rw [show b :: (rs ++ [r])=(b :: rs) ++ [r] from rfl,this];simp [comOf]
theorem com_joined (rs:List (List UInt8)):∀ j,j≤rs.length→com (fun i=>rs.getD i []) j=Cn.joined (rs.take j):=by
  intro j
  induction j with
  | zero=>intro _;simp [com,Cn.joined]
  | succ j ih =>
    intro hj;have hj':j < rs.length:=by omega
    rw [List.take_succ_eq_append_getElem hj',joined_snoc,← ih (by omega)];simp only [com,List.length_take];rw [show min j rs.length=j by omega];simp [List.getD,hj']
theorem com_all (rs:List (List UInt8)) (n:Nat) (h:n=rs.length):com (fun i=>rs.getD i []) n=Cn.joined rs:=by
  subst h;rw [com_joined rs _ (Nat.le_refl _),List.take_length]
theorem zip_row (ks:List ByteArray) (ls:List V) (i:Nat) (hi:i < ls.length) (hik:i < ks.length) :
    ((ks.zip (ls.map Cn.print)).map (fun p=>Gm.quote p.1.data.toList ++ 58 :: p.2)).getD i []=Gm.quote (ks.getD i ByteArray.empty).data.toList ++ 58 :: Cn.print ls[i]:=by
  have h:i < ((ks.zip (ls.map Cn.print)).map (fun p=>Gm.quote p.1.data.toList ++ 58 :: p.2)).length:=by simp;omega
  have e:ks.getD i ByteArray.empty=ks[i]:=by simp [List.getD,hik]
  rw [e,List.getD_eq_getElem?_getD,List.getElem?_eq_getElem h,Option.getD_some,List.getElem_map,List.getElem_zip];simp only [List.getElem_map]
theorem value_any (B b:Nat):∀ d,PrintsAt B b d Cn.print:=by
  intro d
  induction d with
  | zero=>intro v x w l h;exact h.elim
  | succ d ih =>
    intro v x w l h hr hwt hp hT hBw hlen;obtain ⟨kv,a,cap,c,rfl,hk,h3,h4,h5,h6,h7⟩:=h;rcases Cn.right_cases hr with rfl | ⟨q,rfl⟩ | ⟨n,rfl,hn0,hn1⟩ | ⟨s,rfl,_⟩ | ⟨ls,rfl,hall⟩ | ⟨ks,ls,rfl,_,hkl,hall⟩
    · rw [Cn.print_nul] at hlen ⊢
      exact value_nul B b 0 _ _ _ _ w l rfl rfl rfl rfl rfl hp hBw hlen
    · rw [Cn.print_truth] at hlen ⊢
      cases q with
      | true=>exact value_truth B b 1 _ _ _ w l hp hBw _ rfl hlen
      | false=>exact value_truth B b 0 _ _ _ w l hp hBw _ rfl hlen
    · rw [Cn.print_num] at hlen ⊢
      exact value_int B b n _ _ _ w l hp hBw hT (by omega) (by omega) hlen
    · rw [Cn.print_str] at hlen ⊢
      have hs:s.size≤4294967296:=by
        have:=hwt
        unfold V.str at this;rw [V.wt_mk] at this;omega
      exact value_text B b 0 s _ _ w l hp hBw hs hlen
    · rw [Cn.print_list] at hlen ⊢
      have hwl:V.wtL ls≤4294967296:=by
        have:=hwt
        unfold Cn.listV at this;rw [V.wt_mk] at this;omega
      have hcom:=com_all (ls.map Cn.print) ls.length (by simp);rw [← hcom] at hlen ⊢;refine value_list B b 0 _ _ _ _ _ w l _ hBw ?_;intro w' hw';have hkp:Keeps (· < B) w w':=Keeps.of_below hw';exact list_of B b d Cn.print ih 4 0 _ kv a cap c ls w' l hwl (fun x hx=>by simpa using (List.all_eq_true.1 hall) x hx) h3 h4 (h6.keep hkp) (fun i hi=>(h7 i hi).keep hkp) (pr_later hp hw') (hT.keep (hw'.mono hBw)) (Nat.le_trans hBw hw'.size) _ (fun i hi=>by simp [List.getD,hi]) (by simp only [List.length_cons,List.length_append,List.length_nil] at hlen;omega)
    · rw [Cn.print_obj] at hlen ⊢
      have hwl:V.wtL ls≤4294967296∧V.wtK ks≤4294967296:=by
        have:=hwt
        rw [V.wt_mk] at this;omega
      obtain ⟨a1,cap1,rfl,hk2,hk3,hk4,hk5⟩:=hk;have hcom:=com_all ((ks.zip (ls.map Cn.print)).map (fun p=>Gm.quote p.1.data.toList ++ 58 :: p.2)) ls.length (by simp;omega);rw [← hcom] at hlen ⊢;dsimp only at hk2 hk4 hk5 ⊢;rw [hkl] at hk2 hk5 ⊢;refine value_obj B b 0 _ _ _ _ _ w l _ hBw ?_;intro w' hw';have hkp:Keeps (· < B) w w':=Keeps.of_below hw';exact object_of B b d Cn.print ih 5 0 _ a1 cap1 ks a cap c ls w' l ls.length hwl.1 (fun x hx=>by simpa using (List.all_eq_true.1 hall) x hx) hwl.2 hkl rfl hk2 hk3 (hk5.keep hkp) h3 h4 (h6.keep hkp) (fun i hi=>(h7 i hi).keep hkp) (pr_later hp hw') (hT.keep (hw'.mono hBw)) (Nat.le_trans hBw hw'.size) _ (fun i hi=>zip_row ks ls i hi (by omega)) (by simp only [List.length_cons,List.length_append,List.length_nil] at hlen;omega)
end Go.Proofs.YtapcmbbhhclepaaGreatDoor
namespace Go.Proofs.YtapcmbbhhclepaaGreatDoor
open Go.RowKit
set_option maxHeartbeats 2000000 in
set_option maxRecDepth 100000 in
theorem print_any {v:Value} {x:V} {w:World} {S:Nat→Prop} (h:Is w S v x) (hr:V.right x=true) (hwt:V.wt x≤4294967296) (hlen:(Cn.print x).length≤70368744177664) (hT:Tab w.heap.size w) (R:ByteArray) (hR:R=⟨(Cn.print x).toArray⟩) :
    Calls Tryz.prog 50 #[v] w fun e w'=>e=.returned (.string R)∧Below w.heap.size w w':=by
  have h':Is w (· < w.heap.size) v x:=h.weak (fun b hb _=>hb);obtain ⟨d,hd⟩:=h';have hd':=hd;cases d with
  | zero=>exact hd.elim
  | succ d =>
  obtain ⟨kv,a,cap,c,rfl,⟨a1,c1,rfl,_⟩,_⟩:=hd';have HR:Hid _:=hR;clear hR;go_enter Tryz.func50,Tryz.ntmps50
  go_wp2_with fail
  obtain ⟨o1,ho1⟩:∃ o,o=Obj.cells #[Value.int IntKind.i64 x.kind,Value.int IntKind.i64 x.num,Value.string x.text,Value.slice a1 x.keys.length c1,Value.slice a x.list.length cap] 27:=⟨_,rfl⟩;have hz:(w.alloc o1).heap.size=w.heap.size+1:=by simp
  have hb1:=below_alloc w o1;have hb2:=below_alloc (w.alloc o1) (.cells #[.pointer none,.slice none 0 0] 84);have hb:=bthen hb1 hb2
  have hp0:Pr (w.heap.size+1) (w.heap.size+1) [] ((w.alloc o1).alloc (.cells #[.pointer none,.slice none 0 0] 84)):=by
    have:=Lib.fresh_isBuilder 84 5 (w.alloc o1)
    rw [hz] at this;exact this
  have hdx:IsD ((w.alloc o1).alloc (.cells #[.pointer none,.slice none 0 0] 84)) (· < w.heap.size+1) (d+1) _ x:=(hd.weak (S':=(· < w.heap.size+1)) (fun b hb _=>by omega)).keep (Keeps.of_below hb);have hT2:Tab (w.heap.size+1) ((w.alloc o1).alloc (.cells #[.pointer none,.slice none 0 0] 84)):=fun w' k=>hT.keep hb w' (k.mono (by omega))
  have hs:=hb2.size;rw [← ho1];refine (value_any (w.heap.size+1) (w.heap.size+1) (d+1) _ x _ [] hdx hr hwt hp0 hT2 (by omega) (by simp;omega)).mono ?_;rintro e w1 ⟨rfl,h1,p1⟩;have B1:Hid (Below w.heap.size w w1):=hb.trans (p1.1.mono (by omega))
  have H1:Hid (Pr (w.heap.size+1) (w.heap.size+1) (Cn.print x) w1):=by
    show Pr _ _ _ _
    simpa using h1
  clear h1 p1 hT2 hdx hp0 hb hb1 hb2 hs hd hT
  go_wp2_with fail
  refine (pStr _ _ _ _ H1.out (by obtain ⟨c,t,e,_⟩:=Cn.print_head hr;rw [e];simp)).mono ?_;rintro e w2 ⟨rfl,b2⟩;have B2:Hid (Below w.heap.size w w2):=Below.trans B1.out (b2.mono (by omega));clear b2;rw [← HR.out]
  go_wp2
  go_ret
  exact ⟨rfl,B2.out⟩
end Go.Proofs.YtapcmbbhhclepaaGreatDoor
