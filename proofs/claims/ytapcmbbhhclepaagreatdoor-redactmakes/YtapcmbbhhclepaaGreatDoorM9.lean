/-
  What this claim takes of the earlier layers' texts: XDefs XKept XTaken CRefA.
-/
import Derived.Test.YtapcmbbhhclepaaGreatDoorM8
import Derived.Maps.Own
import Derived.Maps.OwnOps
import Derived.Maps.Views
import Derived.Lib.Builder
set_option linter.unusedVariables false
set_option linter.unusedSimpArgs false
set_option maxRecDepth 100000
namespace Go.Proofs.YtapcmbbhhclepaaGreatDoor
def kMember:ByteArray:=⟨#[109,46,114,111,111,109,46,109,101,109,98,101,114]⟩
def kPower:ByteArray:=⟨#[109,46,114,111,111,109,46,112,111,119,101,114,95,108,101,118,101,108,115]⟩
def kJoin:ByteArray:=⟨#[109,46,114,111,111,109,46,106,111,105,110,95,114,117,108,101,115]⟩
def kAcl:ByteArray:=⟨#[109,46,114,111,111,109,46,115,101,114,118,101,114,95,97,99,108]⟩
def lMember:List ByteArray:=[⟨#[109,101,109,98,101,114,115,104,105,112]⟩]
def lPower:List ByteArray:=[⟨#[98,97,110]⟩,⟨#[101,118,101,110,116,115]⟩,⟨#[101,118,101,110,116,115,95,100,101,102,97,117,108,116]⟩,⟨#[105,110,118,105,116,101]⟩,⟨#[107,105,99,107]⟩,⟨#[115,116,97,116,101,95,100,101,102,97,117,108,116]⟩,⟨#[117,115,101,114,115]⟩,⟨#[117,115,101,114,115,95,100,101,102,97,117,108,116]⟩]
def lJoin:List ByteArray:=[⟨#[106,111,105,110,95,114,117,108,101]⟩]
def lAcl:List ByteArray:=[⟨#[97,108,108,111,119]⟩,⟨#[100,101,110,121]⟩]
def keptL (kind:ByteArray):List ByteArray:=if kind.data.toList=kMember.data.toList then lMember else if kind.data.toList=kPower.data.toList then lPower else if kind.data.toList=kJoin.data.toList then lJoin else if kind.data.toList=kAcl.data.toList then lAcl else []
def kCreate:ByteArray:=⟨#[109,46,114,111,111,109,46,99,114,101,97,116,101]⟩
def keptB (kind key:ByteArray):Bool:=(kind.toList == kCreate.toList) || Lib.containsS (keptL kind) key
namespace Xr
def stays (stay:List ByteArray) (ps:List (ByteArray×V)):List (ByteArray×V):=ps.filter (fun p=>Lib.containsS stay p.1)
def taken (x:V) (stay:List ByteArray):V:=⟨5,0,⟨#[]⟩,(stays stay (x.keys.zip x.list)).map (·.1),(stays stay (x.keys.zip x.list)).map (·.2)⟩
theorem stays_snoc (stay:List ByteArray) (ps:List (ByteArray×V)) (p:ByteArray×V):stays stay (ps ++ [p])=if Lib.containsS stay p.1 then stays stay ps ++ [p] else stays stay ps:=by
  unfold stays;rw [List.filter_append];cases h:Lib.containsS stay p.1 <;> simp [h]
end Xr
def kType:ByteArray:=⟨#[116,121,112,101]⟩
def kContent:ByteArray:=⟨#[99,111,110,116,101,110,116]⟩
def Xr.kindOf (x:V):ByteArray:=if ((V.get x kType).getD V.nul).kind=3 then ((V.get x kType).getD V.nul).text else ⟨#[]⟩
def lEvent:List ByteArray:=[⟨#[97,117,116,104,95,101,118,101,110,116,115]⟩,⟨#[99,111,110,116,101,110,116]⟩,⟨#[100,101,112,116,104]⟩,⟨#[104,97,115,104,101,115]⟩,⟨#[111,114,105,103,105,110,95,115,101,114,118,101,114,95,116,115]⟩,⟨#[112,114,101,118,95,101,118,101,110,116,115]⟩,⟨#[114,111,111,109,95,105,100]⟩,⟨#[115,101,110,100,101,114]⟩,⟨#[115,116,97,116,101,95,107,101,121]⟩,⟨#[116,121,112,101]⟩]
def Xr.ofContent (x:V) (kind:ByteArray):V:=if (kind.toList == kCreate.toList)=true then x else Xr.taken x (keptL kind)
end Go.Proofs.YtapcmbbhhclepaaGreatDoor
namespace Go.Proofs.YtapcmbbhhclepaaGreatDoor
open Go.RowKit Go.Maps
abbrev HR:Value→Option (DataW Value×List MemPlace):=fun v=>some (.held v,[])
abbrev keyL (s:ByteArray):Lit:=.string s.data.toList
theorem law9:Keyed Tryz.prog 9:=string_keyed Tryz.underlying9
theorem keyed (s:ByteArray) (h:s.size≤maxLen):keyOf Tryz.prog 9 (.string s)=some (keyL s):=WideMaps.keyOf_string_mk Tryz.underlying9 h
theorem upd (w:World) (b n:Nat) (D:DataW Value) (h:w.ownsMap Tryz.prog 9 HR b n D) (hn:n < 100) (key:ByteArray) (hk:key.size≤maxLen) (v:Value) :
    ∃ w',(Instr.mapUpdate 48 (.map (some b)) (.string key) v).run Tryz.prog w=.ok () w'∧w'.ownsMap Tryz.prog 9 HR b (n+1) (D.put (keyL key) (.held v))∧w.grownBy w' (some b) :=
  h.update law9 Tryz.underlying48 (by unfold maxLen;omega) (keyed key hk) rfl
theorem stay0 {W W':World} {b:Nat} {o:Obj} (g:(W.alloc o).grownBy W' (some b)) (hb:W.heap.size≠b):W'.heap[W.heap.size]? = some o:=by
  rw [g.block W.heap.size (by simp) (by simpa using hb)];show (W.alloc o).heap[W.heap.size]? = _
  simp only [World.alloc,Array.getElem?_push_size]
theorem stay {W W':World} {b k:Nat} {o x:Obj} (h:W.heap[k]? = some x) (g:(W.alloc o).grownBy W' (some b)) (hk:k≠b):W'.heap[k]? = some x:=by
  have hl:=(Array.getElem?_eq_some_iff.1 h).1;rw [g.block k (by simp;omega) (by simpa using hk),Below.heap_alloc _ _ _ hl];exact h
set_option maxHeartbeats 1000000 in
theorem kept_any (w:World) :
    Calls Tryz.prog 38 #[] w fun e w'=>∃ b1 b2 b3 b4,e=.returned (.map (some w.heap.size))∧w'.ownsMap Tryz.prog 9 HR w.heap.size 4 (((((DataW.map []).put (keyL kMember) (.held (.slice (some ⟨b1,0,none⟩) 1 1))).put (keyL kPower) (.held (.slice (some ⟨b2,0,none⟩) 8 8))).put (keyL kJoin) (.held (.slice (some ⟨b3,0,none⟩) 1 1))).put (keyL kAcl) (.held (.slice (some ⟨b4,0,none⟩) 2 2))) ∧
      w'.heap[b1]? = some (.cells (lMember.map Value.string).toArray 9)∧w'.heap[b2]? = some (.cells (lPower.map Value.string).toArray 9)∧w'.heap[b3]? = some (.cells (lJoin.map Value.string).toArray 9)∧w'.heap[b4]? = some (.cells (lAcl.map Value.string).toArray 9)∧w.heap.size≤w'.heap.size∧Below w.heap.size w w':=by
  have hmm:=@run_makeMap Tryz.prog;have o0:=World.ownsMap_made w Tryz.prog 9 HR;obtain ⟨w2,r1,o1,g1⟩:=upd _ _ _ _ (o0.alloc (.cells (lMember.map Value.string).toArray 9)) (by omega) kMember (by decide) (.slice (some ⟨w.heap.size+1,0,none⟩) 1 1);obtain ⟨w3,r2,o2,g2⟩:=upd _ _ _ _ (o1.alloc (.cells (lPower.map Value.string).toArray 9)) (by omega) kPower (by decide) (.slice (some ⟨w2.heap.size,0,none⟩) 8 8);obtain ⟨w4,r3,o3,g3⟩:=upd _ _ _ _ (o2.alloc (.cells (lJoin.map Value.string).toArray 9)) (by omega) kJoin (by decide) (.slice (some ⟨w3.heap.size,0,none⟩) 1 1);obtain ⟨w5,r4,o4,g4⟩:=upd _ _ _ _ (o3.alloc (.cells (lAcl.map Value.string).toArray 9)) (by omega) kAcl (by decide) (.slice (some ⟨w4.heap.size,0,none⟩) 2 2);simp only [lMember,lPower,lJoin,lAcl,List.map_cons,List.map_nil,kMember,kPower,kJoin,kAcl] at r1 r2 r3 r4;have O4:=hide o4;have G1:=hide g1;have G2:=hide g2;have G3:=hide g3;have G4:=hide g4;clear o0 o1 o2 o3 o4 g1 g2 g3 g4;go_enter Tryz.func38,Tryz.ntmps38
  go_wp2_with fail
  go_ret
  have s1:=G1.out.size;have s2:=G2.out.size;have s3:=G3.out.size;have s4:=G4.out.size;simp at s1 s2 s3 s4;have h1:=stay0 G1.out (by simp);rw [show (w.alloc (.map #[] 0)).heap.size=w.heap.size+1 by simp] at h1;have h2:=stay0 G2.out (by omega);have h3:=stay0 G3.out (by omega);have h4:=stay0 G4.out (by omega);have lt:∀ {W:World} {k:Nat} {o:Obj},W.heap[k]? = some o→k < W.heap.size:=fun h=>(Array.getElem?_eq_some_iff.1 h).1
  refine ⟨w.heap.size+1,w2.heap.size,w3.heap.size,w4.heap.size,rfl,O4.out,stay (stay (stay h1 G2.out (by omega)) G3.out (by omega)) G4.out (by omega),stay (stay h2 G3.out (by omega)) G4.out (by omega),stay h3 G4.out (by omega),h4,by omega,?_⟩;have bb:∀ {A W W':World} {o:Obj},Below w.heap.size A W→w.heap.size≤W.heap.size→(W.alloc o).grownBy W' (some w.heap.size)→Below w.heap.size A W':=fun h hl g=>(h.alloc hl _).grown g (by simp;omega) (fun k hk=>by cases hk;exact Nat.le_refl _)
  exact bb (bb (bb (bb (below_alloc w (.map #[] 0)) (by simp) G1.out) (by omega) G2.out) (by omega) G3.out) (by omega) G4.out
theorem strs_heap {w:World} {b n:Nat} {l:List ByteArray} (h:w.heap[b]? = some (.cells (l.map Value.string).toArray 9)) (hn:n=l.length) (hl:l.length≤100) (hs:∀ k ∈ l,k.size≤maxLen) (S:Nat→Prop) (hS:S b):Strs w S (.slice (some ⟨b,0,none⟩) n n) l:=by
  subst hn;refine ⟨_,_,rfl,Nat.le_refl _,by unfold maxLen;omega,hs,fun _=>⟨b,0,rfl,hS,fun i hi=>?_⟩⟩;rw [Lib.cell_of_heap h];simp [List.getD,hi]
theorem lookup_any (w:World) (b b1 b2 b3 b4 B:Nat) (h:w.ownsMap Tryz.prog 9 HR b 4 (((((DataW.map []).put (keyL kMember) (.held (.slice (some ⟨b1,0,none⟩) 1 1))).put (keyL kPower) (.held (.slice (some ⟨b2,0,none⟩) 8 8))).put (keyL kJoin) (.held (.slice (some ⟨b3,0,none⟩) 1 1))).put (keyL kAcl) (.held (.slice (some ⟨b4,0,none⟩) 2 2))))
    (h1:w.heap[b1]? = some (.cells (lMember.map Value.string).toArray 9)) (h2:w.heap[b2]? = some (.cells (lPower.map Value.string).toArray 9)) (h3:w.heap[b3]? = some (.cells (lJoin.map Value.string).toArray 9)) (h4:w.heap[b4]? = some (.cells (lAcl.map Value.string).toArray 9))
    (key:ByteArray) (hk:key.size≤maxLen) :
    ∃ a n c,(Instr.lookup 48 (.map (some b)) (.string key) false).run Tryz.prog w=.ok (.slice a n c) w∧Strs w (fun _=>True) (.slice a n c) (keptL key):=by
  obtain ⟨v,ps,hrun,hv⟩:=h.lookup law9 Tryz.underlying48 (z:=.slice none 0 0) (by kernel_rfl) rfl (keyed key hk);have hd:DataW.held v=_:=congrArg Prod.fst (Option.some.inj hv);have hkey:∀ {A:ByteArray},keyL key=keyL A ↔ key.data.toList=A.data.toList:=⟨fun e=>by injection e,fun e=>by unfold keyL;rw [e]⟩;have m0:IsMap (DataW.map []:DataW Value):=⟨[],rfl⟩;have hk0:∀ A:ByteArray,WideAt.IsKeyLit (keyL A):=fun _=>trivial
  have mp:∀ {D:DataW Value} (A:ByteArray) (x:DataW Value),IsMap D→IsMap (D.put (keyL A) x):=fun A x ⟨es,e⟩=>by subst e;exact ⟨_,rfl⟩
  have m1:=mp kMember (.held (.slice (some ⟨b1,0,none⟩) 1 1)) m0;have m2:=mp kPower (.held (.slice (some ⟨b2,0,none⟩) 8 8)) m1;have m3:=mp kJoin (.held (.slice (some ⟨b3,0,none⟩) 1 1)) m2
  have end_:∀ {a:Option Addr} {n c:Nat} {L:List ByteArray},v=.slice a n c→Strs w (fun _=>True) (.slice a n c) L→keptL key=L→∃ a n c,(Instr.lookup 48 (.map (some b)) (.string key) false).run Tryz.prog w=.ok (.slice a n c) w∧Strs w (fun _=>True) (.slice a n c) (keptL key):=fun e hs hL=>by
    subst e;exact ⟨_,_,_,hrun,by rw [hL];exact hs⟩
  by_cases e4:key.data.toList=kAcl.data.toList
  · rw [hkey.2 e4,atKey_put_same m3 (hk0 _)] at hd
    exact end_ (DataW.held.inj hd) (strs_heap h4 rfl (by decide) (by decide) _ trivial) (by
      unfold keptL
      rw [e4,if_neg (by decide),if_neg (by decide),if_neg (by decide),if_pos rfl])
  rw [atKey_put_other (fun e=>e4 (hkey.1 e))] at hd
  by_cases e3:key.data.toList=kJoin.data.toList
  · rw [hkey.2 e3,atKey_put_same m2 (hk0 _)] at hd
    exact end_ (DataW.held.inj hd) (strs_heap h3 rfl (by decide) (by decide) _ trivial) (by
      unfold keptL
      rw [e3,if_neg (by decide),if_neg (by decide),if_pos rfl])
  rw [atKey_put_other (fun e=>e3 (hkey.1 e))] at hd
  by_cases e2:key.data.toList=kPower.data.toList
  · rw [hkey.2 e2,atKey_put_same m1 (hk0 _)] at hd
    exact end_ (DataW.held.inj hd) (strs_heap h2 rfl (by decide) (by decide) _ trivial) (by
      unfold keptL
      rw [e2,if_neg (by decide),if_pos rfl])
  rw [atKey_put_other (fun e=>e2 (hkey.1 e))] at hd
  by_cases e1:key.data.toList=kMember.data.toList
  · rw [hkey.2 e1,atKey_put_same m0 (hk0 _)] at hd
    exact end_ (DataW.held.inj hd) (strs_heap h1 rfl (by decide) (by decide) _ trivial) (by
      unfold keptL
      rw [if_pos e1])
  rw [atKey_put_other (fun e=>e1 (hkey.1 e))] at hd
  exact end_ (DataW.held.inj hd) (strs_nil w _) (by
    unfold keptL
    rw [if_neg e1,if_neg e2,if_neg e3,if_neg e4])
end Go.Proofs.YtapcmbbhhclepaaGreatDoor
namespace Go.Proofs.YtapcmbbhhclepaaGreatDoor
open Go.RowKit
theorem contains_any {w:World} {S:Nat→Prop} {a:Option Addr} {n c:Nat} {l:List ByteArray} (h:Strs w S (.slice a n c) l) (x:ByteArray) :
    Calls Tryz.prog 37 #[.slice a n c,.string x] w fun e w'=>e=.returned (.bool (Lib.containsS l x))∧w'=w:=by
  obtain ⟨rfl,h2,h3,_,hc⟩:=h.out
  by_cases hl:0 < l.length
  · obtain ⟨b,off,rfl,_,hcell⟩:=hc hl
    refine (Tryz.slices_Contains_string b off l.length c l x w (Nat.le_refl _) (by unfold maxLen at h3;omega) hcell).mono ?_;rintro e w' ⟨he,hw⟩;rw [List.take_length] at he;exact ⟨he,hw⟩
  · have h0:l=[]:=List.length_eq_zero_iff.1 (by omega)
    subst h0;exact Tryz.slices_Contains_string_empty a c x w
set_option maxHeartbeats 1000000 in
theorem Kept_any (kind key:ByteArray) (w:World) (hk:kind.size≤maxLen) :
    Calls Tryz.prog 15 #[.string kind,.string key] w fun e w'=>e=.returned (.bool (keptB kind key))∧Below w.heap.size w w':=by
  obtain ⟨q,hq⟩:∃ q,(kind.toList == kCreate.toList)=q:=⟨_,rfl⟩;unfold keptB;rw [hq];have e:kCreate.toList=[109,46,114,111,111,109,46,99,114,101,97,116,101]:=by kernel_rfl
  rw [e] at hq;clear e;cases q with
  | true =>
    go_enter Tryz.func15,Tryz.ntmps15
    go_wp2_with fail
    go_ret
    exact ⟨rfl,Below.refl _ _⟩
  | false =>
    go_enter Tryz.func15,Tryz.ntmps15
    go_wp2_with fail
    refine (kept_any w).mono ?_;rintro e w1 ⟨b1,b2,b3,b4,rfl,hown,h1,h2,h3,h4,_,hb⟩;obtain ⟨a,n,c,hrun,hs⟩:=lookup_any w1 _ b1 b2 b3 b4 0 hown h1 h2 h3 h4 kind hk;have HS:=hide hs;have HB:=hide hb;clear hown h1 h2 h3 h4 hs hb
    go_wp2_with fail
    refine (contains_any HS.out key).mono ?_;rintro e w2 ⟨rfl,rfl⟩
    go_wp2_with fail
    go_ret
    exact ⟨rfl,HB.out⟩
end Go.Proofs.YtapcmbbhhclepaaGreatDoor
namespace Go.Proofs.YtapcmbbhhclepaaGreatDoor
open Go.RowKit
abbrev St (s:ByteArray) (a:Nat) (e:Int) (d:Nat):Value:=.agg #[.string s,.int .i64 (a:Int),.int .i64 e,.int .i64 (d:Int)]
def B4 (w:World) (g:Nat) (c0 c1 c2 c3:Value):Prop:=w.heap[g]? = some (.cells #[c0,c1,c2,c3] 65 (0,0))
theorem B4.cells {w:World} {g:Nat} {c0 c1 c2 c3:Value} (h:B4 w g c0 c1 c2 c3):w.cell? ⟨g,0,none⟩=some c0∧w.cell? ⟨g,1,none⟩=some c1∧w.cell? ⟨g,2,none⟩=some c2∧w.cell? ⟨g,3,none⟩=some c3:=by
  refine ⟨?_,?_,?_,?_⟩ <;> (rw [Lib.cell_of_heap h];rfl)
theorem B4.free {w:World} {g:Nat} {c0 c1 c2 c3:Value} (h:B4 w g c0 c1 c2 c3) (o:Nat):w.frozen? ⟨g,o,none⟩=false:=Lib.frozen_of_heap h o
theorem b4_new (w:World) (c0 c1 c2 c3:Value) (g:Nat) (hg:g=w.heap.size):B4 (w.alloc (.cells #[c0,c1,c2,c3] 65)) g c0 c1 c2 c3:=by
  subst hg;show (w.alloc _).heap[w.heap.size]? = _
  simp only [World.alloc,Array.getElem?_push_size]
theorem B4.keep {w w':World} {g:Nat} {c0 c1 c2 c3:Value} (h:B4 w g c0 c1 c2 c3) (k:Below w.heap.size w w'):B4 w' g c0 c1 c2 c3:=by
  unfold B4;rw [k.block g (Array.getElem?_eq_some_iff.1 h).1];exact h
theorem B4.other {w:World} {g g' o:Nat} {c0 c1 c2 c3:Value} (h:B4 w g c0 c1 c2 c3) (v:Value) (hg:g≠g'):B4 (w.setCell ⟨g',o,none⟩ v) g c0 c1 c2 c3:=by
  unfold B4;simp only [World.setCell];rw [Array.getElem?_modify,if_neg (fun e=>hg e.symm)];exact h
theorem B4.set0 {w:World} {g:Nat} {c0 c1 c2 c3:Value} (h:B4 w g c0 c1 c2 c3) (v:Value):B4 (w.setCell ⟨g,0,none⟩ v) g v c1 c2 c3:=by
  unfold B4 at h ⊢;simp [World.setCell,Array.getElem?_modify,h]
theorem B4.set1 {w:World} {g:Nat} {c0 c1 c2 c3:Value} (h:B4 w g c0 c1 c2 c3) (v:Value):B4 (w.setCell ⟨g,1,none⟩ v) g c0 v c2 c3:=by
  unfold B4 at h ⊢;simp [World.setCell,Array.getElem?_modify,h]
theorem B4.set2 {w:World} {g:Nat} {c0 c1 c2 c3:Value} (h:B4 w g c0 c1 c2 c3) (v:Value):B4 (w.setCell ⟨g,2,none⟩ v) g c0 c1 v c3:=by
  unfold B4 at h ⊢;simp [World.setCell,Array.getElem?_modify,h]
theorem B4.set3 {w:World} {g:Nat} {c0 c1 c2 c3:Value} (h:B4 w g c0 c1 c2 c3) (v:Value):B4 (w.setCell ⟨g,3,none⟩ v) g c0 c1 c2 v:=by
  unfold B4 at h ⊢;simp [World.setCell,Array.getElem?_modify,h]
def At (s:ByteArray) (a:Nat) (u:List UInt8):Prop:=(a≤s.size∧∀ p,Gm.nth u p≠92)∧s.data.toList.drop a=u
theorem At.len {s:ByteArray} {a:Nat} {u:List UInt8} (h:At s a u):a+u.length=s.size:=by
  have h1:=h.1.1;have h2:s.data.toList.length=s.size:=by simp
  rw [← h.2,List.length_drop];omega
theorem At.byte {s:ByteArray} {a:Nat} {b:UInt8} {t:List UInt8} (h:At s a (b :: t)):∃ hl:a < s.size,s[a]'hl=b:=by
  have hl:=h.len;rw [List.length_cons] at hl;have hl2:a < s.size:=by omega
  refine ⟨hl2,?_⟩
  have h3:s.data.toList[a]? = some b:=by
    have:=congrArg (fun l=>l[0]?) h.2
    simpa [List.getElem?_drop] using this
  rw [Array.getElem?_toList] at h3;obtain ⟨h4,h5⟩:=Array.getElem?_eq_some_iff.1 h3;exact h5
theorem At.next {s:ByteArray} {a:Nat} {b:UInt8} {t:List UInt8} (h:At s a (b :: t)):At s (a+1) t:=by
  have hl:=h.len;rw [List.length_cons] at hl;refine ⟨⟨by omega,fun p=>by have h9:=h.1.2 (1+p);rw [← Gm.nth_drop] at h9;exact h9⟩,?_⟩;rw [← List.drop_drop,h.2];rfl
theorem At.of_drop {s:ByteArray} {a:Nat} {u:List UInt8} (h:At s a u) (n:Nat) (hn:n≤u.length):At s (a+n) (u.drop n):=by
  have hl:=h.len;refine ⟨⟨by omega,fun p=>by rw [Gm.nth_drop];exact h.1.2 _⟩,?_⟩;rw [← List.drop_drop,h.2]
set_option maxHeartbeats 1000000 in
theorem fail_any (s:ByteArray) (a:Nat) (e n:Int) (d:Nat) (w:World) :
    Calls Tryz.prog 63 #[St s a e d,.int .i64 n] w fun e' w'=>e'=.returned (St s a n d)∧Below w.heap.size w w':=by
  go_enter Tryz.func63,Tryz.ntmps63
  go_wp2_with fail
  obtain ⟨c0,c1,c2,c3⟩:=(b4_new (w.alloc (.cells #[.string s,.int .i64 (a:Int),.int .i64 n,.int .i64 (d:Int)] 65)) (.string s) (.int .i64 (a:Int)) (.int .i64 n) (.int .i64 (d:Int)) (w.heap.size+1) (by simp)).cells;exact bodyPost_ret (v:=St s a n d) (by simp [results,Tryz.results63,go_sem,c0,c1,c2,c3]) rfl ⟨rfl,bthen (below_alloc _ _) (below_alloc _ _)⟩
theorem byte_eq (b c:UInt8):((b.toNat:Int) == (c.toNat:Int))=(b == c):=by
  rw [Bool.eq_iff_iff,beq_iff_eq,beq_iff_eq];constructor
  · intro h
    exact UInt8.toNat_inj.1 (by omega)
  · rintro rfl
    rfl
set_option maxHeartbeats 1000000 in
theorem is_any (s:ByteArray) (a:Nat) (d:Nat) (c:UInt8) (u:List UInt8) (w:World) (h:At s a u) (hs:s.size≤4294967296) (q:Bool) (hq:(u.head? == some c)=q) :
    Calls Tryz.prog 94 #[St s a 0 d,.int .u8 (c.toNat:Int)] w fun e' w'=>e'=.returned (.bool q)∧Below w.heap.size w w':=by
  cases u with
  | nil =>
    have hl:=h.len;rw [List.length_nil] at hl;have h1:¬ a < s.size:=by omega
    have h2:q=false:=by rw [← hq];rfl
    subst h2;clear hq h hl;go_enter Tryz.func94,Tryz.ntmps94
    go_wp2_with fail
    go_ret
    exact ⟨rfl,below_alloc _ _⟩
  | cons b t =>
    obtain ⟨hl,hb⟩:=h.byte
    have h2:(((s[a]'hl).toNat:Int) == (c.toNat:Int))=q:=by
      rw [byte_eq,hb,← hq];rfl
    have H2:Hid _:=h2;clear hq h hb h2;go_enter Tryz.func94,Tryz.ntmps94
    go_wp2_with fail
    rw [H2.out];go_ret
    exact ⟨rfl,below_alloc _ _⟩
end Go.Proofs.YtapcmbbhhclepaaGreatDoor
