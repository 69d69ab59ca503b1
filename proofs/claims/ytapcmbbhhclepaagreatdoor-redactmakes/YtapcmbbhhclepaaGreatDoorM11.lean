/-
  What this claim takes of the earlier layers' texts: CMath VPut VWith VWithB VWithC VWithE.
-/
import Derived.Test.YtapcmbbhhclepaaGreatDoorM10
import Derived.Deep.RegionWith
set_option linter.unusedVariables false
set_option linter.unusedSimpArgs false
set_option maxRecDepth 100000
namespace Go.Proofs.YtapcmbbhhclepaaGreatDoor
namespace Cn
abbrev Er:=Int×List UInt8
def blank (c:UInt8):Bool:=c == 32 || c == 9 || c == 10 || c == 13
def skip (r:List UInt8):List UInt8:=r.dropWhile blank
def digit (c:UInt8):Bool:=decide (48≤c.toNat) && decide (c.toNat≤57)
def numOf (ds:List UInt8):Nat:=ds.foldl (fun n c=>10 * n+(c.toNat - 48)) 0
def most:Nat:=9007199254740991
def badDigits (neg:Bool) (ds:List UInt8):Bool:=ds.isEmpty || (ds.head? == some 48 && (neg || decide (1 < ds.length)))
def frac (r:List UInt8):Bool:=match r with | c :: _=>c == 46 || c == 101 || c == 69 | []=>false
def neg (r:List UInt8):Bool:=r.head? == some 45
def unsigned (r:List UInt8):List UInt8:=if neg r then r.tail else r
def pnum (r:List UInt8):Except Er (V×List UInt8) :=
  let ds:=(unsigned r).takeWhile digit
  let rest:=(unsigned r).dropWhile digit
  if badDigits (neg r) ds then .error (11,r)
  else if most < numOf ds || frac rest then .error (13,r)
  else .ok (V.numV (if neg r then -(numOf ds:Int) else (numOf ds:Int)),rest)
def pstr (r:List UInt8):Except Er (ByteArray×List UInt8) :=
  match Gm.unquote r with
  | some x=>.ok (⟨x.1.toArray⟩,r.drop x.2)
  | none=>.error (11,r)
def nullW:List UInt8:=[110,117,108,108]
def trueW:List UInt8:=[116,114,117,101]
def falseW:List UInt8:=[102,97,108,115,101]
def truth (b:Bool):V:=.mk 1 (if b then 1 else 0) ⟨#[]⟩ [] []
def pword (r:List UInt8):Except Er (V×List UInt8) :=
  if nullW.isPrefixOf r then .ok (V.nul,r.drop 4)
  else if trueW.isPrefixOf r then .ok (truth true,r.drop 4)
  else if falseW.isPrefixOf r then .ok (truth false,r.drop 5)
  else .error (11,r)
def after {α:Type} (last:UInt8) (r:List UInt8) (done:List UInt8→Except Er α) (more:List UInt8→Except Er α):Except Er α :=
  match skip r with
  | c :: t=>if c == last then done t else if c == 44 then more (skip t) else .error (11,c :: t)
  | []=>.error (11,[])
def serL (P:List UInt8→Except Er (V×List UInt8)):Nat→List UInt8→List V→Except Er (List V×List UInt8)
  | 0,r,_=>.error (0,r)
  | n+1,r,acc =>
    match P r with
    | .error e=>.error e
    | .ok x=>after 93 x.2 (fun t=>.ok (acc ++ [x.1],t)) (fun t=>serL P n t (acc ++ [x.1]))
def hasKey (keys:List ByteArray) (k:ByteArray):Bool:=keys.any (fun a=>a.data.toList == k.data.toList)
theorem hasKey_iff (keys:List ByteArray) (k:ByteArray):hasKey keys k=true ↔ k ∈ keys:=by
  unfold hasKey;rw [List.any_eq_true];constructor
  · rintro ⟨a,ha,h⟩
    have:a=k:=ByteArray.ext (Array.ext' (by simpa using h))
    rw [← this];exact ha
  · intro h
    exact ⟨k,h,by simp⟩
def ppair (P:List UInt8→Except Er (V×List UInt8)) (keys:List ByteArray) (r:List UInt8):Except Er ((ByteArray×V)×List UInt8) :=
  match pstr r with
  | .error e=>.error e
  | .ok k =>
    if hasKey keys k.1 then .error (14,r)
    else match skip k.2 with
      | c :: t=>if c == 58 then (match P (skip t) with | .error e=>.error e | .ok x=>.ok ((k.1,x.1),x.2)) else .error (11,c :: t)
      | []=>.error (11,[])
def serO (P:List UInt8→Except Er (V×List UInt8)):Nat→List UInt8→List (ByteArray×V)→Except Er (List (ByteArray×V)×List UInt8)
  | 0,r,_=>.error (0,r)
  | n+1,r,acc =>
    match ppair P (acc.map (·.1)) r with
    | .error e=>.error e
    | .ok x=>after 125 x.2 (fun t=>.ok (acc ++ [x.1],t)) (fun t=>serO P n t (acc ++ [x.1]))
def listV (l:List V):V:=.mk 4 0 ⟨#[]⟩ [] l
def objV (ps:List (ByteArray×V)):V:=ps.foldl (fun v p=>V.withV v p.1 p.2) V.none5
def pval:Nat→List UInt8→Except Er (V×List UInt8)
  | 0,r=>.error (0,r)
  | f+1,[]=>.error (11,[])
  | f+1,c :: t =>
    if c == 91 then
      (if f=0 then .error (12,c :: t)
       else match skip t with
         | 93 :: u=>.ok (listV [],u)
         | u=>match serL (pval f) (u.length+1) u [] with | .error e=>.error e | .ok x=>.ok (listV x.1,x.2))
    else if c == 123 then
      (if f=0 then .error (12,c :: t)
       else match skip t with
         | 125 :: u=>.ok (V.none5,u)
         | u=>match serO (pval f) (u.length+1) u [] with | .error e=>.error e | .ok x=>.ok (objV x.1,x.2))
    else if c == 34 then (match pstr (c :: t) with | .error e=>.error e | .ok x=>.ok (V.str x.1,x.2))
    else if c == 45 || digit c then pnum (c :: t)
    else pword (c :: t)
def digitsN:Nat→Nat→List UInt8
  | 0,_=>[]
  | f+1,n=>if n < 10 then [UInt8.ofNat (48+n)] else digitsN f (n / 10) ++ [UInt8.ofNat (48+n % 10)]
def digits (n:Int):List UInt8:=if n < 0 then 45 :: digitsN 20 n.natAbs else digitsN 20 n.natAbs
def joined (ls:List (List UInt8)):List UInt8:=(ls.intersperse [44]).flatten
def print:V→List UInt8
  | ⟨k,n,t,ks,l⟩ =>
    if k=1 then (if n=0 then falseW else trueW)
    else if k=2 then digits n
    else if k=3 then Gm.quote t.data.toList
    else if k=4 then 91 :: (joined (l.map (fun x=>print x)) ++ [93])
    else if k=5 then 123 :: (joined ((ks.zip (l.map (fun x=>print x))).map (fun p=>Gm.quote p.1.data.toList ++ 58 :: p.2)) ++ [125])
    else nullW
theorem skip_none {c:UInt8} {t:List UInt8} (h:blank c=false):skip (c :: t)=c :: t:=by
  unfold skip;rw [List.dropWhile_cons,h];rfl
theorem numOf_snoc (ds:List UInt8) (c:UInt8):numOf (ds ++ [c])=10 * numOf ds+(c.toNat - 48):=by
  unfold numOf;rw [List.foldl_append];rfl
theorem digitsN_spec:∀ f n,n < 10 ^ f→0 < f→(digitsN f n).all digit=true∧numOf (digitsN f n)=n∧digitsN f n≠[]∧(0 < n→(digitsN f n).head? ≠ some 48)∧(n=0→digitsN f n=[48])
  | 0,n,h,hf=>by omega
  | f+1,n,h,hf=>by
    have hd:∀ m,m < 10→digit (UInt8.ofNat (48+m))=true∧(UInt8.ofNat (48+m)).toNat=48+m:=fun m hm=>by
      have:(UInt8.ofNat (48+m)).toNat=48+m:=by simp;omega
      refine ⟨?_,this⟩;unfold digit;rw [this];simp;omega
    unfold digitsN
    by_cases h10:n < 10
    · rw [if_pos h10]
      obtain ⟨h1,h2⟩:=hd n h10;refine ⟨by rw [List.all_cons,h1];rfl,?_,by simp,?_,?_⟩
      · show 10 * 0+((UInt8.ofNat (48+n)).toNat - 48)=n
        rw [h2];omega
      · intro hn hh
        simp only [List.head?_cons,Option.some.injEq] at hh;have:=congrArg UInt8.toNat hh
        rw [h2] at this;have h48:(48:UInt8).toNat=48:=rfl;omega
      · intro hn
        subst hn;rfl
    · rw [if_neg h10]
      have hf2:0 < f:=by
        rcases Nat.eq_zero_or_pos f with e | e
        · subst e
          simp at h;omega
        · exact e
      have hlt:n / 10 < 10 ^ f:=by
        rw [Nat.pow_succ] at h;omega
      obtain ⟨a1,a2,a3,a4,a5⟩:=digitsN_spec f (n / 10) hlt hf2;obtain ⟨h1,h2⟩:=hd (n % 10) (by omega);refine ⟨by rw [List.all_append,a1,List.all_cons,h1];rfl,?_,by simp,?_,by omega⟩
      · rw [numOf_snoc,a2,h2]
        omega
      · intro _
        have:=a4 (by omega)
        cases hds:digitsN f (n / 10) with
        | nil=>exact absurd hds a3
        | cons x xs =>
          rw [hds] at this
          simpa using this
end Cn
end Go.Proofs.YtapcmbbhhclepaaGreatDoor
namespace Go.Proofs.YtapcmbbhhclepaaGreatDoor
open Go.RowKit
theorem Raw.weak {w:World} {S S':Nat→Prop} {v:Value} {sz m:Nat} {cs:List Value} (h:Raw w S v sz m cs) (k:∀ b,b < w.heap.size→S b→S' b):Raw w S' v sz m cs:=by
  obtain ⟨a,cap,h1,h2,h3,h4,h5,h6⟩:=h;exact ⟨a,cap,h1,h2,h3,h4,h5,h6.weak k⟩
theorem Raw.front {w:World} {S:Nat→Prop} {a:Option Addr} {m0 cap sz m:Nat} {cs:List Value} (h:Raw w S (.slice a m0 cap) sz m cs) {n:Nat} (hn:n≤m):Raw w S (.slice a n cap) sz n (cs.take (n * sz)):=by
  obtain ⟨a',cap',h1,h2,h3,h4,h5,h6⟩:=h;simp only [Value.slice.injEq] at h1;obtain ⟨rfl,rfl,rfl⟩:=h1;have hle:n * sz≤m0 * sz:=Nat.mul_le_mul_right _ hn;refine ⟨a,cap,rfl,by omega,h3,by rw [List.length_take];omega,fun u hu=>h5 u (List.mem_of_mem_take hu),(h6.front hle).congr (fun i hi=>?_)⟩;simp only [List.getD,List.getElem?_take_of_lt hi]
def tailAddr (a:Option Addr) (cap n sz:Nat):Option Addr:=if cap=n then a else a.map (·.add (n * sz))
theorem Raw.tail {w:World} {S:Nat→Prop} {a:Option Addr} {m0 cap sz m:Nat} {cs:List Value} (h:Raw w S (.slice a m0 cap) sz m cs) {n:Nat} (hn:n≤m):Raw w S (.slice (tailAddr a cap n sz) (m - n) (cap - n)) sz (m - n) (cs.drop (n * sz)):=by
  obtain ⟨a',cap',h1,h2,h3,h4,h5,h6⟩:=h;simp only [Value.slice.injEq] at h1;obtain ⟨rfl,rfl,rfl⟩:=h1;refine ⟨_,_,rfl,by omega,by omega,by rw [List.length_drop,h4,Nat.sub_mul],fun u hu=>h5 u (List.mem_of_mem_drop hu),?_⟩;intro hpos;have hlt:0 < m0 - n:=Nat.pos_of_ne_zero (fun e=>by rw [e,Nat.zero_mul] at hpos;exact absurd hpos (Nat.lt_irrefl _));have hsz:(m0 - n) * sz=m0 * sz - n * sz:=Nat.sub_mul _ _ _;obtain ⟨b,off,rfl,hb,hc⟩:=h6 (by omega);have e1:(⟨b,off,none⟩:Addr).add (n * sz)=⟨b,off+n * sz,none⟩:=by unfold Addr.add;split <;> simp_all
  refine ⟨b,off+n * sz,?_,hb,fun i hi=>?_⟩
  · unfold tailAddr
    rw [if_neg (by omega)];simp only [Option.map_some,e1]
  · rw [Nat.add_assoc,hc _ (by omega)]
    simp only [List.getD,List.getElem?_drop]
theorem slice_tail_str (a:Option Addr) (n cap m:Nat) (h:m≤n) (W:World) :
    (Instr.slice 24 (.slice a n cap) (some (.int .i64 (m:Int))) none none).run Tryz.prog W=.ok (.slice (tailAddr a cap m 1) (n - m) (cap - m)) W:=by
  rw [run_slice_l (P:=Tryz.prog) W _ a n cap Tryz.underlying24 .i64 (m:Int) (by omega) (by omega)];simp [sliced,go_sem,tailAddr]
theorem slice_tail_val (a:Option Addr) (n cap m:Nat) (h:m≤n) (W:World) :
    (Instr.slice 25 (.slice a n cap) (some (.int .i64 (m:Int))) none none).run Tryz.prog W=.ok (.slice (tailAddr a cap m 5) (n - m) (cap - m)) W:=by
  rw [run_slice_l (P:=Tryz.prog) W _ a n cap Tryz.underlying25 .i64 (m:Int) (by omega) (by omega)];simp [sliced,go_sem,tailAddr]
theorem concat3S_any (W:World) (S:Nat→Prop) (x1 x2 x3:Value) (m1 m2 m3:Nat) (c1 c2 c3:List Value) (h1:Raw W S x1 1 m1 c1) (h2:Raw W S x2 1 m2 c2) (h3:Raw W S x3 1 m3 c3) (hs:m1+m2+m3≤17179869184) (g:Nat) (hg:g=W.heap.size) :
    Calls Tryz.prog 107 #[.slice (some ⟨g,0,none⟩) 3 3] (W.alloc (.cells #[x1,x2,x3] 24)) fun e w'=>∃ a' m' c',e=.returned (.slice a' m' c')∧Raw w' (fun b=>W.heap.size < b) (.slice a' m' c') 1 (m1+m2+m3) (c1 ++ c2 ++ c3)∧Below W.heap.size W w':=by
  subst hg;have hb:=below_alloc W (.cells #[x1,x2,x3] 24);have hrow:=row_new W #[x1,x2,x3] 24 _ rfl;refine (concatS_any (some ⟨W.heap.size,0,none⟩) 3 (fun i=>#[x1,x2,x3].getD i undef) [(m1,c1),(m2,c2),(m3,c3)] (W.alloc (.cells #[x1,x2,x3] 24)) (fun _=>True) (hrow.cells trivial (Nat.le_refl _)) ?_ (by simp) (by simp [total];omega)).mono ?_
  · intro i hi
    have:i=0∨i=1∨i=2:=by simp at hi;omega
    rcases this with rfl | rfl | rfl
    · exact (h1.weak (fun _ _ _=>trivial)).below hb
    · exact (h2.weak (fun _ _ _=>trivial)).below hb
    · exact (h3.weak (fun _ _ _=>trivial)).below hb
  · rintro e w' ⟨a',m',c',rfl,hr,b⟩
    refine ⟨a',m',c',rfl,?_,bthen hb b⟩;have e1:total [(m1,c1),(m2,c2),(m3,c3)]=m1+m2+m3:=by simp [total];omega
    have e2:flat [(m1,c1),(m2,c2),(m3,c3)]=c1 ++ c2 ++ c3:=by simp [flat]
    rw [e1,e2] at hr;exact hr.weak (fun b _ hb=>by simp at hb;omega)
set_option maxHeartbeats 4000000 in
theorem putS_any (a:Option Addr) (m cap:Nat) (cs:List Value) (p q:Nat) (y:Value) (my:Nat) (cy:List Value) (w:World) (S:Nat→Prop) (hl:Raw w S (.slice a m cap) 1 m cs) (hy:Raw w S y 1 my cy) (hpq:p≤q) (hq:q≤m) (hm:m≤4294967296) (hmy:my≤4294967296) :
    Calls Tryz.prog 80 #[.slice a m cap,.int .i64 p,.int .i64 q,y] w fun e w'=>∃ a' m' c',e=.returned (.slice a' m' c')∧Raw w' (fun b=>w.heap.size≤b) (.slice a' m' c') 1 (p+my+(m - q)) (cs.take (p * 1) ++ cy ++ cs.drop (q * 1))∧Below w.heap.size w w':=by
  have hcap:m≤cap:=by obtain ⟨_,_,h1,h2,_⟩:=hl;simp only [Value.slice.injEq] at h1;obtain ⟨_,_,rfl⟩:=h1;exact h2
  obtain ⟨ya,yc,rfl,_⟩:=id hy;have s1:=slice_front_str a m cap p (by omega);have s2:=slice_tail_str a m cap q hq;have HL:=hide hl;have HY:=hide hy;clear hl hy;obtain ⟨ta,hta⟩:∃ t,tailAddr a cap q 1=t:=⟨_,rfl⟩;rw [hta] at s2;have HT:=hide hta;clear hta;go_enter Tryz.func80,Tryz.ntmps80
  go_wp2_with fail
  go_region_with (go_at_call 107;refine (concat3S_any w.drew S _ _ _ p my (m - q) (cs.take (p * 1)) cy (cs.drop (q * 1)) (HL.out.front (by omega)) HY.out (by have:=HL.out.tail hq;rw [HT.out] at this;exact this) (by omega) _ rfl).mono ?_;rintro e w1 ⟨a',m',c',rfl,hr,b1⟩)
  all_goals go_wp2
  all_goals go_ret
  all_goals exact ⟨_,_,_,rfl,hr.weak (fun b _ hb=>Nat.le_of_lt hb),((Below.refl w.heap.size w).drew).trans b1⟩
theorem concat3V_any (W:World) (S:Nat→Prop) (x1 x2 x3:Value) (m1 m2 m3:Nat) (c1 c2 c3:List Value) (h1:Raw W S x1 5 m1 c1) (h2:Raw W S x2 5 m2 c2) (h3:Raw W S x3 5 m3 c3) (hs:m1+m2+m3≤17179869184) (g:Nat) (hg:g=W.heap.size) :
    Calls Tryz.prog 108 #[.slice (some ⟨g,0,none⟩) 3 3] (W.alloc (.cells #[x1,x2,x3] 25)) fun e w'=>∃ a' m' c',e=.returned (.slice a' m' c')∧Raw w' (fun b=>W.heap.size < b) (.slice a' m' c') 5 (m1+m2+m3) (c1 ++ c2 ++ c3)∧Below W.heap.size W w':=by
  subst hg;have hb:=below_alloc W (.cells #[x1,x2,x3] 25);have hrow:=row_new W #[x1,x2,x3] 25 _ rfl;refine (concatV_any (some ⟨W.heap.size,0,none⟩) 3 (fun i=>#[x1,x2,x3].getD i undef) [(m1,c1),(m2,c2),(m3,c3)] (W.alloc (.cells #[x1,x2,x3] 25)) (fun _=>True) (hrow.cells trivial (Nat.le_refl _)) ?_ (by simp) (by simp [total];omega)).mono ?_
  · intro i hi
    have:i=0∨i=1∨i=2:=by simp at hi;omega
    rcases this with rfl | rfl | rfl
    · exact (h1.weak (fun _ _ _=>trivial)).below hb
    · exact (h2.weak (fun _ _ _=>trivial)).below hb
    · exact (h3.weak (fun _ _ _=>trivial)).below hb
  · rintro e w' ⟨a',m',c',rfl,hr,b⟩
    refine ⟨a',m',c',rfl,?_,bthen hb b⟩;have e1:total [(m1,c1),(m2,c2),(m3,c3)]=m1+m2+m3:=by simp [total];omega
    have e2:flat [(m1,c1),(m2,c2),(m3,c3)]=c1 ++ c2 ++ c3:=by simp [flat]
    rw [e1,e2] at hr;exact hr.weak (fun b _ hb=>by simp at hb;omega)
set_option maxHeartbeats 4000000 in
theorem putV_any (a:Option Addr) (m cap:Nat) (cs:List Value) (p q:Nat) (y:Value) (my:Nat) (cy:List Value) (w:World) (S:Nat→Prop) (hl:Raw w S (.slice a m cap) 5 m cs) (hy:Raw w S y 5 my cy) (hpq:p≤q) (hq:q≤m) (hm:m≤4294967296) (hmy:my≤4294967296) :
    Calls Tryz.prog 81 #[.slice a m cap,.int .i64 p,.int .i64 q,y] w fun e w'=>∃ a' m' c',e=.returned (.slice a' m' c')∧Raw w' (fun b=>w.heap.size≤b) (.slice a' m' c') 5 (p+my+(m - q)) (cs.take (p * 5) ++ cy ++ cs.drop (q * 5))∧Below w.heap.size w w':=by
  have hcap:m≤cap:=by obtain ⟨_,_,h1,h2,_⟩:=hl;simp only [Value.slice.injEq] at h1;obtain ⟨_,_,rfl⟩:=h1;exact h2
  obtain ⟨ya,yc,rfl,_⟩:=id hy;have s1:=slice_front_val a m cap p (by omega);have s2:=slice_tail_val a m cap q hq;have HL:=hide hl;have HY:=hide hy;clear hl hy;obtain ⟨ta,hta⟩:∃ t,tailAddr a cap q 5=t:=⟨_,rfl⟩;rw [hta] at s2;have HT:=hide hta;clear hta;go_enter Tryz.func81,Tryz.ntmps81
  go_wp2_with fail
  go_region_with (go_at_call 108;refine (concat3V_any w.drew S _ _ _ p my (m - q) (cs.take (p * 5)) cy (cs.drop (q * 5)) (HL.out.front (by omega)) HY.out (by have:=HL.out.tail hq;rw [HT.out] at this;exact this) (by omega) _ rfl).mono ?_;rintro e w1 ⟨a',m',c',rfl,hr,b1⟩)
  all_goals go_wp2
  all_goals go_ret
  all_goals exact ⟨_,_,_,rfl,hr.weak (fun b _ hb=>Nat.le_of_lt hb),((Below.refl w.heap.size w).drew).trans b1⟩
end Go.Proofs.YtapcmbbhhclepaaGreatDoor
namespace Go.Proofs.YtapcmbbhhclepaaGreatDoor
open Go.RowKit
theorem raw_of_strs {w:World} {S:Nat→Prop} {v:Value} {ks:List ByteArray} (h:Strs w S v ks):Raw w S v 1 ks.length (ks.map .string):=by
  obtain ⟨a,cap,rfl,h1,h2,h3,h4⟩:=h;refine ⟨a,cap,rfl,h1,h2,by simp,?_,?_⟩
  · intro u hu
    obtain ⟨k,_,rfl⟩:=List.mem_map.1 hu;rfl
  · rw [Nat.mul_one]
    refine h4.congr (fun i hi=>?_);simp [List.getD,hi]
theorem strs_of_raw {w:World} {S:Nat→Prop} {v:Value} {m:Nat} {ks:List ByteArray} (h:Raw w S v 1 m (ks.map .string)) (hs:∀ k ∈ ks,k.size≤maxLen):Strs w S v ks:=by
  obtain ⟨a,cap,rfl,h1,h2,h3,h4,h5⟩:=h;rw [List.length_map,Nat.mul_one] at h3;subst h3;refine ⟨a,cap,rfl,h1,h2,hs,?_⟩;rw [Nat.mul_one] at h5;refine h5.congr (fun i hi=>?_);simp [List.getD,hi]
def five (q:Value×Value×Value×Value×Value):List Value:=[q.1,q.2.1,q.2.2.1,q.2.2.2.1,q.2.2.2.2]
def aggQ (q:Value×Value×Value×Value×Value):Value:=.agg #[q.1,q.2.1,q.2.2.1,q.2.2.2.1,q.2.2.2.2]
def cellsQ (es:List (Value×Value×Value×Value×Value)):List Value:=es.flatMap five
theorem cellsQ_len (es:List (Value×Value×Value×Value×Value)):(cellsQ es).length=es.length * 5:=by
  induction es with
  | nil=>rfl
  | cons e es ih=>unfold cellsQ at *;rw [List.flatMap_cons,List.length_append,ih,List.length_cons];simp [five];omega
theorem cellsQ_append (a b:List (Value×Value×Value×Value×Value)):cellsQ (a ++ b)=cellsQ a ++ cellsQ b:=by unfold cellsQ;rw [List.flatMap_append]
theorem cellsQ_take (es:List (Value×Value×Value×Value×Value)) (p:Nat) (hp:p≤es.length):(cellsQ es).take (p * 5)=cellsQ (es.take p):=by
  have h:=cellsQ_append (es.take p) (es.drop p);rw [List.take_append_drop] at h;rw [h,List.take_append_of_le_length (by rw [cellsQ_len,List.length_take];omega),List.take_of_length_le (by rw [cellsQ_len,List.length_take];omega)]
theorem cellsQ_drop (es:List (Value×Value×Value×Value×Value)) (p:Nat) (hp:p≤es.length):(cellsQ es).drop (p * 5)=cellsQ (es.drop p):=by
  have h:=cellsQ_append (es.take p) (es.drop p);rw [List.take_append_drop] at h;have e:p * 5=(cellsQ (es.take p)).length:=by rw [cellsQ_len,List.length_take];omega
  rw [h,e,List.drop_left]
theorem cellsQ_get (es:List (Value×Value×Value×Value×Value)):∀ (i:Nat) (h:i < es.length),elemV (fun j=>(cellsQ es).getD j undef) i=aggQ es[i]:=by
  induction es with
  | nil=>intro i h;simp at h
  | cons e es ih =>
    intro i h;cases i with
    | zero=>rfl
    | succ i =>
      have h':i < es.length:=by simpa using h
      rw [List.getElem_cons_succ,← ih i h'];have g:∀ j,(cellsQ (e :: es)).getD (j+5) undef=(cellsQ es).getD j undef:=fun j=>rfl
      unfold elemV;simp only [Nat.succ_mul];rw [g,show i * 5+5+1=(i * 5+1)+5 by omega,show i * 5+5+2=(i * 5+2)+5 by omega,show i * 5+5+3=(i * 5+3)+5 by omega,show i * 5+5+4=(i * 5+4)+5 by omega,g,g,g,g]
def Els (w:World) (S:Nat→Prop) (es:List (Value×Value×Value×Value×Value)) (l:List V):Prop :=
  es.length=l.length∧∀ i (h:i < es.length) (h':i < l.length),Is w S (aggQ es[i]) l[i]
theorem Els.keep {w w':World} {S:Nat→Prop} {es:List (Value×Value×Value×Value×Value)} {l:List V} (h:Els w S es l) (k:Keeps S w w'):Els w' S es l:=⟨h.1,fun i h1 h2=>(h.2 i h1 h2).keep k⟩
theorem Els.weak {w:World} {S S':Nat→Prop} {es:List (Value×Value×Value×Value×Value)} {l:List V} (h:Els w S es l) (k:∀ b,b < w.heap.size→S b→S' b):Els w S' es l:=⟨h.1,fun i h1 h2=>(h.2 i h1 h2).weak k⟩
theorem Els.nil (w:World) (S:Nat→Prop):Els w S [] []:=⟨rfl,fun i h=>absurd h (by simp)⟩
theorem Els.one {w:World} {S:Nat→Prop} {e:Value×Value×Value×Value×Value} {x:V} (h:Is w S (aggQ e) x):Els w S [e] [x]:=⟨rfl,fun i h1 h2=>by
  have:i=0:=by simpa using h1
  subst this;exact h⟩
theorem Els.append {w:World} {S:Nat→Prop} {a b:List (Value×Value×Value×Value×Value)} {l m:List V} (h:Els w S a l) (k:Els w S b m):Els w S (a ++ b) (l ++ m):=by
  refine ⟨by rw [List.length_append,List.length_append,h.1,k.1],fun i h1 h2=>?_⟩
  by_cases hi:i < a.length
  · have hi':i < l.length:=by rw [← h.1];exact hi
    rw [List.getElem_append_left hi,List.getElem_append_left hi'];exact h.2 i hi hi'
  · have hi':¬ i < l.length:=by rw [← h.1];exact hi
    rw [List.getElem_append_right (by omega),List.getElem_append_right (by omega)];have e:=h.1;simp only [e];exact k.2 _ _ _
theorem Els.take {w:World} {S:Nat→Prop} {a:List (Value×Value×Value×Value×Value)} {l:List V} (h:Els w S a l) (n:Nat):Els w S (a.take n) (l.take n):=by
  refine ⟨by rw [List.length_take,List.length_take,h.1],fun i h1 h2=>?_⟩;rw [List.getElem_take,List.getElem_take];exact h.2 _ _ _
theorem Els.drop {w:World} {S:Nat→Prop} {a:List (Value×Value×Value×Value×Value)} {l:List V} (h:Els w S a l) (n:Nat):Els w S (a.drop n) (l.drop n):=by
  refine ⟨by rw [List.length_drop,List.length_drop,h.1],fun i h1 h2=>?_⟩;rw [List.getElem_drop,List.getElem_drop];exact h.2 _ _ _
theorem isL_of_raw {w:World} {S:Nat→Prop} {v:Value} {m:Nat} {es:List (Value×Value×Value×Value×Value)} {l:List V} (h:Raw w S v 5 m (cellsQ es)) (k:Els w S es l):IsL w S v l:=by
  obtain ⟨a,cap,rfl,h1,h2,h3,h4,h5⟩:=h;rw [cellsQ_len,k.1] at h3;have:m=l.length:=by omega
  subst this;refine ⟨a,cap,_,rfl,h1,h2,h5,fun i hi=>?_⟩;rw [cellsQ_get es i (by rw [k.1];exact hi)];exact k.2 i _ hi
theorem raw_of_isL {w:World} {S:Nat→Prop} {v:Value} {l:List V} (h:IsL w S v l):∃ es,Raw w S v 5 l.length (cellsQ es)∧Els w S es l:=by
  obtain ⟨a,cap,c,rfl,h1,h2,h3,h4⟩:=h;refine ⟨(List.range l.length).map (fun i=>(c (i * 5),c (i * 5+1),c (i * 5+2),c (i * 5+3),c (i * 5+4))),?_,?_⟩
  · have hg:∀ i,i < l.length * 5→(cellsQ ((List.range l.length).map (fun i=>(c (i * 5),c (i * 5+1),c (i * 5+2),c (i * 5+3),c (i * 5+4))))).getD i undef=c i:=by
      intro i hi;generalize l.length=n at hi
      induction n with
      | zero=>omega
      | succ n ih =>
        rw [List.range_succ,List.map_append,cellsQ_append];have hl:(cellsQ ((List.range n).map (fun i=>(c (i * 5),c (i * 5+1),c (i * 5+2),c (i * 5+3),c (i * 5+4))))).length=n * 5:=by rw [cellsQ_len];simp
        by_cases hlt:i < n * 5
        · rw [← ih hlt]
          simp only [List.getD];rw [List.getElem?_append_left (by omega)]
        · simp only [List.getD]
          rw [List.getElem?_append_right (by omega),hl];have:i=n * 5∨i=n * 5+1∨i=n * 5+2∨i=n * 5+3∨i=n * 5+4:=by omega
          rcases this with rfl | rfl | rfl | rfl | rfl <;> simp [cellsQ,five]
    have hlen:(cellsQ ((List.range l.length).map (fun i=>(c (i * 5),c (i * 5+1),c (i * 5+2),c (i * 5+3),c (i * 5+4))))).length=l.length * 5:=by rw [cellsQ_len];simp
    refine ⟨a,cap,rfl,h1,h2,hlen,?_,h3.congr (fun i hi=>(hg i hi).symm)⟩;intro u hu;obtain ⟨e,he,hue⟩:=List.mem_flatMap.1 hu;obtain ⟨i,hi,rfl⟩:=List.mem_map.1 he;rw [List.mem_range] at hi;obtain ⟨kv,lv,q,⟨_,_,rfl,_⟩,⟨_,_,_,rfl,_⟩,_⟩:=(h4 i hi).open;unfold elemV at q;simp only [Value.agg.injEq,Array.mk.injEq,List.cons.injEq,and_true] at q;obtain ⟨q0,q1,q2,q3,q4⟩:=q;simp only [five,q0,q1,q2,q3,q4,List.mem_cons,List.not_mem_nil,or_false] at hue;rcases hue with rfl | rfl | rfl | rfl | rfl <;> rfl
  · refine ⟨by simp,fun i hi hi'=>?_⟩
    simp only [List.getElem_map,List.getElem_range];exact h4 i hi'
end Go.Proofs.YtapcmbbhhclepaaGreatDoor
namespace Go.Proofs.YtapcmbbhhclepaaGreatDoor
open Go.RowKit
theorem room1_any (K key:ByteArray) (r:Nat) (w:World) (q:Bool) (hq:V.less K key=q) (hr:w.cell? ⟨r,0,none⟩=some (.string key)) :
    Calls Tryz.prog 105 #[.string K,.pointer (some ⟨r,0,none⟩)] w fun e w'=>e=.returned (.bool (!q))∧w'=w:=by
  go_enter Tryz.func105,Tryz.ntmps105
  go_wp2_with fail
  refine (less_is _ _ q _ hq).mono ?_;rintro e w ⟨rfl,rfl⟩
  go_wp2
  go_ret
  exact ⟨rfl,rfl⟩
set_option maxHeartbeats 2000000 in
theorem indexFunc_any {w:World} {S:Nat→Prop} {a:Option Addr} {n cap:Nat} {ks:List ByteArray} (hn:n≤ks.length) (hl:n≤4294967296) (h:Cells w S a ks.length (fun i=>.string (ks.getD i ByteArray.empty))) (key:ByteArray) (r:Nat) (hr:w.cell? ⟨r,0,none⟩=some (.string key)) (z:Int)
    (hz:z=if V.room (ks.take n) key < n then (V.room (ks.take n) key:Int) else -1) :
    Calls Tryz.prog 104 #[.slice a n cap,.func (.func 105) #[] #[.pointer (some ⟨r,0,none⟩)]] w fun e w'=>e=.returned (.int .i64 z)∧w'=w:=by
  have HC:=hide h;have HZ:=hide hz;clear h hz;go_enter Tryz.func104,Tryz.ntmps104
  go_wp2_with fail
  go_loopg [8] n (fun g i wr=>∃ j:Nat,j+g=n∧i=.int .i64 j∧Hid (∀ i,i < j→V.less (ks.getD i ByteArray.empty) key=true)∧w=wr)
  case atStart=>exact ⟨0,by omega,rfl,fun i hi=>absurd hi (Nat.not_lt_zero _),rfl⟩
  case round =>
    obtain ⟨j,hj,rfl,HA,rfl⟩:=hrel
    by_cases hlt:j < n
    · obtain ⟨b,off,K,rfl,hK,ej⟩:=str_at' HC.out (Below.refl _ _) (Nat.lt_of_lt_of_le hlt hn)
      cases hle:V.less K key with
      | true =>
        have HL:=hide hle;clear hle
        go_wp2_with fail
        refine (room1_any K key r w true HL.out hr).mono ?_;rintro e w ⟨rfl,rfl⟩
        go_wp2
        go_roundg (gk - 1)
        case measure=>omega
        case rel =>
          refine ⟨j+1,by omega,rfl,?_,rfl⟩;intro i hi
          by_cases e:i=j
          · subst e;rw [← hK.out];exact HL.out
          · exact HA.out i (by omega)
      | false =>
        have HL:=hide hle;clear hle
        go_wp2_with fail
        refine (room1_any K key r w false HL.out hr).mono ?_;rintro e w ⟨rfl,rfl⟩
        go_wp2
        go_ret
        refine ⟨ret_int ?_,rfl⟩;have e:=V.room_hit (ks.take n) key j (by rw [List.length_take];omega) (by rw [V.getD_take _ _ _ hlt,← hK.out];exact HL.out) (fun i hi=>by rw [V.getD_take _ _ _ (by omega)];exact HA.out i hi);rw [HZ.out,e,if_pos hlt]
    · have hje:j=n:=by omega
      subst hje
      go_wp2
      go_ret
      refine ⟨ret_int ?_,rfl⟩;have hlen:(ks.take j).length=j:=by rw [List.length_take];omega
      have e:=V.room_miss (ks.take j) key (fun i hi=>by rw [hlen] at hi;rw [V.getD_take _ _ _ hi];exact HA.out i hi);rw [HZ.out,e,hlen,if_neg (Nat.lt_irrefl _)]
set_option maxHeartbeats 2000000 in
theorem roomFor_any {v:Value} {x:V} {w:World} {S:Nat→Prop} (h:Is w S v x) (hwt:V.wt x≤4294967296) (key:ByteArray) (p:Nat) (hp:V.room (x.keys.take (min x.keys.length x.list.length)) key=p) :
    Calls Tryz.prog 78 #[v,.string key] w fun e w'=>e=.returned (.int .i64 p)∧Below w.heap.size w w':=by
  obtain ⟨kv,lv,rfl,h2,h8,_⟩:=h.open;have hk:=V.klen_wt x;have hl:=V.len_wt x;obtain ⟨k,n,t,ks,l⟩:=x;simp only at *;obtain ⟨a1,c1,rfl,h3,h4,_,h5⟩:=id h2;obtain ⟨a,cap,c,rfl,h6,h7,_⟩:=id h8;obtain ⟨m,hm⟩:∃ m,min ks.length l.length=m:=⟨_,rfl⟩;rw [hm] at hp;have hml:m≤ks.length:=by omega
  have hm32:m≤4294967296:=by omega
  have hpl:=V.room_le (ks.take m) key;rw [List.length_take] at hpl;have HM:=hide hm;have H5:=hide h5;have HP:=hide hp;have HPL:=hide hpl;clear hm h5 h4 hp hpl h h2 h8 hk hl hwt
  by_cases hlt:p < m
  · go_enter Tryz.func78,Tryz.ntmps78
    go_wp2_with fail
    refine (pairs_any _ _ _ _ _ _ _ _ _ _ h3 h6 m HM.out).mono ?_;rintro e w1 ⟨rfl,b1⟩
    go_wp2_with fail
    have bb:=bthen (bthen (below_alloc w _) (below_alloc _ _)) b1;have hcell:=cell_keep (cell_new _ (.string key) 9 (w.heap.size+1) (by simp)) b1;refine (indexFunc_any hml hm32 (Cells.keep H5.out (Keeps.of_below bb)) key _ hcell (p:Int) (by rw [HP.out,if_pos hlt])).mono ?_;rintro e w1 ⟨rfl,rfl⟩
    go_wp2
    go_ret
    exact ⟨rfl,bb⟩
  · have hpe:m=p:=by have:=HPL.out;rw [HP.out] at this;omega
    subst hpe;go_enter Tryz.func78,Tryz.ntmps78
    go_wp2_with fail
    refine (pairs_any _ _ _ _ _ _ _ _ _ _ h3 h6 m HM.out).mono ?_;rintro e w1 ⟨rfl,b1⟩
    go_wp2_with fail
    have bb:=bthen (bthen (below_alloc w _) (below_alloc _ _)) b1;have hcell:=cell_keep (cell_new _ (.string key) 9 (w.heap.size+1) (by simp)) b1;refine (indexFunc_any hml hm32 (Cells.keep H5.out (Keeps.of_below bb)) key _ hcell (-1) (by rw [HP.out,if_neg hlt])).mono ?_;rintro e w1 ⟨rfl,rfl⟩
    go_wp2
    go_ret
    exact ⟨rfl,bb⟩
end Go.Proofs.YtapcmbbhhclepaaGreatDoor
namespace Go.Proofs.YtapcmbbhhclepaaGreatDoor
open Go.RowKit
theorem raw_one_str (w:World) (s:ByteArray) (S:Nat→Prop) (g:Nat) (hg:g=w.heap.size) (hS:S g):Raw (w.alloc (.cells #[.string s] 9)) S (.slice (some ⟨g,0,none⟩) 1 1) 1 1 [.string s]:=by
  subst hg;refine ⟨_,_,rfl,Nat.le_refl _,by decide,rfl,by simp [Value.oneCell'],fun _=>⟨_,0,rfl,hS,fun i hi=>?_⟩⟩;have:i=0:=by omega
  subst this;exact cell_new w _ _ _ rfl
theorem raw_one_val (w:World) (k n:Int) (t:ByteArray) (a1:Option Addr) (n1 c1:Nat) (a2:Option Addr) (n2 c2:Nat) (S:Nat→Prop) (g:Nat) (hg:g=w.heap.size) (hS:S g) :
    Raw (w.alloc (.cells #[.int .i64 k,.int .i64 n,.string t,.slice a1 n1 c1,.slice a2 n2 c2] 27)) S (.slice (some ⟨g,0,none⟩) 1 1) 5 1 (cellsQ [(.int .i64 k,.int .i64 n,.string t,.slice a1 n1 c1,.slice a2 n2 c2)]):=by
  subst hg;refine ⟨_,_,rfl,Nat.le_refl _,by decide,rfl,by simp [cellsQ,five,Value.oneCell'],fun _=>⟨_,0,rfl,hS,fun i hi=>?_⟩⟩;obtain ⟨h0,h1,h2,h3,h4⟩:=box5_new w (.int .i64 k) (.int .i64 n) (.string t) (.slice a1 n1 c1) (.slice a2 n2 c2) 27;have:i=0∨i=1∨i=2∨i=3∨i=4:=by omega
  rcases this with rfl | rfl | rfl | rfl | rfl
  · exact h0
  · exact h1
  · exact h2
  · exact h3
  · exact h4
theorem raw_nil (w:World) (S:Nat→Prop) (sz:Nat):Raw w S (.slice none 0 0) sz 0 [] :=
  ⟨none,0,rfl,Nat.le_refl _,by decide,by simp,by simp,fun hh=>absurd hh (by simp)⟩
set_option maxHeartbeats 8000000 in
theorem with5_hit {v vy:Value} {x y:V} {w:World} {S S':Nat→Prop} (h:Is w S v x) (h':Is w S' vy y) (hwx:V.wt x≤1000000000) (hwy:V.wt y≤1000000000) (key:ByteArray) (hkey:key.size≤1000000000) (h5:x.kind=5) (p:Nat) (hp:V.place x key=p) :
    Calls Tryz.prog 44 #[v,.string key,vy] w fun e w'=>∃ k n t a1 n1 c1 a2 n2 c2,e=.returned (.agg #[.int .i64 k,.int .i64 n,.string t,.slice a1 n1 c1,.slice a2 n2 c2])∧Is w' (Own w' w.heap.size) (.agg #[.int .i64 k,.int .i64 n,.string t,.slice a1 n1 c1,.slice a2 n2 c2]) (V.laid x p (p+1) [key] [y])∧Below w.heap.size w w':=by
  replace h:=h.weak (S':=fun b=>b < w.heap.size) (fun b hb _=>hb);replace h':=h'.weak (S':=fun b=>b < w.heap.size) (fun b hb _=>hb);have hpl:=(V.place_lt x key (by omega)).2;rw [hp] at hpl;have hwl:=V.wt_laid x p (p+1) [key] [y];have hkl:=V.klen_wt x;obtain ⟨kv,lv,rfl,h2,h8,ht⟩:=id h.open;obtain ⟨kvy,lvy,rfl,hy2,hy8,_⟩:=id h'.open;obtain ⟨k,n,t,ks,l⟩:=x;simp only at *;subst h5;obtain ⟨a1,c1,rfl,q1,_,hks,_⟩:=id h2;obtain ⟨a2,c2,_,rfl,q2,_⟩:=id h8;obtain ⟨b1,d1,rfl,_⟩:=id hy2;obtain ⟨b2,d2,_,rfl,_⟩:=id hy8;obtain ⟨m,hm⟩:∃ m,min ks.length l.length=m:=⟨_,rfl⟩;rw [hm] at hpl;have hpl':p < m:=by simpa using hpl
  have hm32:m≤4294967296:=by omega
  have HM:=hide hm;have HP:=hide hp;have HK:=hide hks;have HWL:=hide hwl;have HWX:=hide hwx;have HKL:=hide hkl;clear hm hp hks hwl hkl hpl hwx;go_enter Tryz.func44,Tryz.ntmps44
  go_wp2_with fail
  refine (placeOf_any (h.below (bthen (below_alloc w _) (bthen (below_alloc _ _) (below_alloc _ _)))) key p HP.out).mono ?_;rintro e w1 ⟨rfl,bw1⟩;have pa:BoxF w1 w.heap.size _ _ _ _ _:=((boxF_at w _ _ _ _ _ 27 _ rfl).keep (bthen (below_alloc _ _) (below_alloc _ _))).keep bw1;have pb:BoxF w1 (w.heap.size+1) _ _ _ _ _:=((boxF_at _ _ _ _ _ _ 27 _ (by simp)).keep (below_alloc _ _)).keep bw1;have pr:BoxF w1 (w.heap.size+2) _ _ _ _ _:=(boxF_at _ _ _ _ _ _ 27 _ (by simp)).keep bw1;have bb:=bthen (bthen (below_alloc w _) (bthen (below_alloc _ _) (below_alloc _ _))) bw1;have sz:w.heap.size+3≤w1.heap.size:=by have:=bw1.size;simpa using this
  clear bw1;obtain ⟨⟨x0,x1,x2,x3,x4⟩,f0,f1,f2,f3,f4⟩:=id pa
  go_wp2_with fail
  refine (pairs_any _ _ _ _ _ _ _ _ _ _ q1 q2 m HM.out).mono ?_;rintro e w2 ⟨rfl,bw2⟩;clear x0 x1 x2 x3 x4 f0 f1 f2 f3 f4;replace pa:=pa.keep bw2;replace pb:=pb.keep bw2;replace pr:=pr.keep bw2;replace bb:=bthen bb bw2;replace sz:=Nat.le_trans sz bw2.size;have sz2:=sz;clear bw2
  go_wp2_with fail
  have hmk:m≤ks.length:=by have:=HM.out;omega
  have hml:m≤l.length:=by have:=HM.out;omega
  have rk:Raw w2 (fun b=>b < w.heap.size) (.slice a1 m c1) 1 m ((ks.take m).map .string):=by
    have:=(raw_of_strs (h2.below bb)).front hmk
    rwa [Nat.mul_one,← List.map_take] at this
  refine (putS_any a1 m c1 _ p (p+1) _ 1 [.string key] _ (fun _=>True) ((rk.weak (fun _ _ _=>trivial)).below (below_alloc _ _)) (raw_one_str _ key _ _ rfl trivial) (by omega) (by omega) hm32 (by decide)).mono ?_;rintro e w3 ⟨a3,n3,c3,rfl,hr3,bw3⟩;replace bw3:=bthen (below_alloc _ _) bw3;replace pa:=pa.keep bw3;replace pb:=pb.keep bw3;replace pr:=pr.keep bw3;replace bb:=bthen bb bw3;replace sz:=Nat.le_trans sz bw3.size;clear bw3 rk;obtain ⟨⟨x0,x1,x2,x3,x4⟩,f0,f1,f2,f3,f4⟩:=id pa;have pb':=pb.other (g':=w.heap.size) (o':=3) (by omega) (.slice a3 n3 c3);obtain ⟨⟨y0,y1,y2,y3,y4⟩,_⟩:=id pb'
  go_wp2_with fail
  have pa':=pa.set3 (.slice a3 n3 c3);have pr':=pr.other (g':=w.heap.size) (o':=3) (by omega) (.slice a3 n3 c3);have bb':=below_set (o:=3) bb (Nat.le_refl _) (.slice a3 n3 c3);have sz':w.heap.size+3≤(w3.setCell ⟨w.heap.size,3,none⟩ (.slice a3 n3 c3)).heap.size:=by rw [size_set];exact sz
  have hr3':=(hr3.weak (S':=fun b=>w.heap.size+3≤b) (fun b _ hb=>by simp at hb;omega)).keep (keeps_set (o:=3) (g:=w.heap.size) (.slice a3 n3 c3) (by omega));have e3:w3.heap.size=(w3.setCell ⟨w.heap.size,3,none⟩ (.slice a3 n3 c3)).heap.size:=(size_set _ _ _).symm;rw [e3];clear sz2 x0 x1 x2 x3 x4 f0 f1 f2 f3 f4 y0 y1 y2 y3 y4 pa pb pr bb hr3 sz e3;generalize w3.setCell ⟨w.heap.size,3,none⟩ (.slice a3 n3 c3)=W3 at *;obtain ⟨es,rl0,hes⟩:=raw_of_isL (h8.below bb')
  have rl:Raw W3 (fun b=>b < w.heap.size) (.slice a2 m c2) 5 m (cellsQ (es.take m)):=by
    have:=rl0.front hml
    rwa [cellsQ_take _ _ (by rw [hes.1];exact hml)] at this
  have hesm:(es.take m).length=m:=by rw [List.length_take,hes.1];omega
  refine (putV_any a2 m c2 _ p (p+1) _ 1 _ _ (fun _=>True) ((rl.weak (fun _ _ _=>trivial)).below (below_alloc _ _)) (raw_one_val _ _ _ _ _ _ _ _ _ _ _ _ rfl trivial) (by omega) (by omega) hm32 (by decide)).mono ?_;rintro e w4 ⟨a4,n4,c4,rfl,hr4,bw4⟩;rw [cellsQ_take _ _ (by omega),cellsQ_drop _ _ (by omega),← cellsQ_append,← cellsQ_append] at hr4;replace bw4:=bthen (below_alloc _ _) bw4;have pa:=pa'.keep bw4;have pr:=pr'.keep bw4;have bb:=bthen bb' bw4;have sz:=Nat.le_trans sz' bw4.size;have hr3:=hr3'.below bw4;have hes4:=hes.keep (Keeps.of_below bw4);clear pa' pb' pr' hr3' rl rl0 hes;obtain ⟨⟨x0,x1,x2,x3,x4⟩,f0,f1,f2,f3,f4⟩:=id pa;obtain ⟨⟨z0,z1,z2,z3,z4⟩,_⟩:=id (pa.set4 (.slice a4 n4 c4))
  go_wp2_with fail
  have pr':=pr.other (g':=w.heap.size) (o':=4) (by omega) (.slice a4 n4 c4);have bb4:=below_set (o:=4) bb (Nat.le_refl _) (.slice a4 n4 c4);have kp:Keeps (fun b=>b≠w.heap.size) w4 (w4.setCell ⟨w.heap.size,4,none⟩ (.slice a4 n4 c4)):=keeps_set (o:=4) (g:=w.heap.size) (.slice a4 n4 c4) (by simp);have sz4:w.heap.size+3≤(w4.setCell ⟨w.heap.size,4,none⟩ (.slice a4 n4 c4)).heap.size:=by rw [size_set];exact sz
  have hx:Is (w4.setCell ⟨w.heap.size,4,none⟩ (.slice a4 n4 c4)) (fun _=>True) (.agg #[.int .i64 5,.int .i64 n,.string t,.slice a3 n3 c3,.slice a4 n4 c4]) (V.laid ⟨5,n,t,ks,l⟩ p (p+1) [key] [y]):=by
    refine Is.shut (x:=V.laid ⟨5,n,t,ks,l⟩ p (p+1) [key] [y]) ?_ ?_ ht
    · have e1:(List.map Value.string (List.take m ks)).take (p * 1) ++ [Value.string key] ++ (List.map Value.string (List.take m ks)).drop ((p+1) * 1)=(V.splice (ks.take m) p (p+1) [key]).map Value.string:=by
        simp only [V.splice,List.map_append,List.map_take,List.map_drop,Nat.mul_one,List.map_cons,List.map_nil]
      rw [e1] at hr3;simp only [V.laid,HM.out];refine strs_of_raw ((hr3.weak (S':=fun b=>b≠w.heap.size) (fun b _ hb=>by omega)).keep kp |>.weak (fun _ _ _=>trivial)) ?_;intro u hu;simp only [V.splice,List.mem_append,List.mem_singleton] at hu;rcases hu with (hu | rfl) | hu
      · exact HK.out u (List.mem_of_mem_take (List.mem_of_mem_take hu))
      · exact Nat.le_trans hkey (by decide)
      · exact HK.out u (List.mem_of_mem_take (List.mem_of_mem_drop hu))
    · simp only [V.laid,HM.out]
      have hy4:Is w4 (fun b=>b < w.heap.size) (aggQ (.int .i64 y.kind,.int .i64 y.num,.string y.text,.slice b1 y.keys.length d1,.slice b2 y.list.length d2)) y:=h'.below bb;have k1:Els w4 (fun b=>b≠w.heap.size) (es.take m) (l.take m):=(hes4.take m).weak (fun b _ hb=>Nat.ne_of_lt hb);have k2:=(k1.take p).append (Els.one (hy4.weak (S':=fun b=>b≠w.heap.size) (fun b _ hb=>Nat.ne_of_lt hb)));have k3:=k2.append (k1.drop (p+1));refine isL_of_raw (Raw.weak (Raw.keep (hr4.weak (S':=fun b=>b≠w.heap.size) (fun b _ hb=>by simp at hb;omega)) kp) (fun _ _ _=>trivial)) (Els.weak (Els.keep k3 kp) (fun _ _ _=>trivial))
  clear x0 x1 x2 x3 x4 f0 f1 f2 f3 f4 z0 z1 z2 z3 z4 pa pr bb hr3 hr4 kp hes4 sz sz';generalize w4.setCell ⟨w.heap.size,4,none⟩ (.slice a4 n4 c4)=W4 at *;refine (copyF_any hx (Nat.le_trans HWL.out (by have:=HWX.out;have e1:V.wtK [key]=1+key.size:=(by simp [V.wtK]);have e2:V.wtL [y]=V.wt y:=(by rw [V.wtL_cons,V.wtL_nil];omega);omega))).mono ?_;rintro e w5 ⟨k5,n5,t5,a5,m5,c5,a6,m6,c6,rfl,his,bw5⟩;have pr:=pr'.keep bw5;obtain ⟨⟨y0,y1,y2,y3,y4⟩,g0,g1,g2,g3,g4⟩:=id pr
  go_wp2_with fail
  obtain ⟨u0,u1,u2,u3,u4⟩:=Box5.all pr.1 (.int .i64 k5) (.int .i64 n5) (.string t5) (.slice a5 m5 c5) (.slice a6 m6 c6);refine bodyPost_ret (v:=.agg #[.int .i64 k5,.int .i64 n5,.string t5,.slice a5 m5 c5,.slice a6 m6 c6]) (by simp [results,Tryz.results44,go_sem,u0,u1,u2,u3,u4]) rfl ?_;refine ⟨k5,n5,t5,a5,m5,c5,a6,m6,c6,rfl,?_,?_⟩
  · have kp5:=keeps5 w5 (w.heap.size+1) (.int .i64 k5) (.int .i64 n5) (.string t5) (.slice a5 m5 c5) (.slice a6 m6 c6)
    exact (his.weak (S':=Own w5 (w.heap.size+1+2)) (fun b _ hb=>⟨by have:=hb.1;omega,hb.2⟩)).ownTo kp5 (fun b _ hf=>((((hf.set _ _).set _ _).set _ _).set _ _).set _ _) (by omega)
  · have le2:w.heap.size≤w.heap.size+2:=by omega
    exact (((((bthen bb4 bw5).setCell le2 _).setCell le2 _).setCell le2 _).setCell le2 _).setCell le2 _
end Go.Proofs.YtapcmbbhhclepaaGreatDoor
namespace Go.Proofs.YtapcmbbhhclepaaGreatDoor
open Go.RowKit
set_option maxHeartbeats 8000000 in
theorem without_hit {v:Value} {x:V} {w:World} {S:Nat→Prop} (h:Is w S v x) (hwx:V.wt x≤1000000000) (key:ByteArray) (p:Nat) (hp:V.place x key=p) :
    Calls Tryz.prog 57 #[v,.string key] w fun e w'=>∃ k n t a1 n1 c1 a2 n2 c2,e=.returned (.agg #[.int .i64 k,.int .i64 n,.string t,.slice a1 n1 c1,.slice a2 n2 c2])∧Is w' (fun b=>w.heap.size≤b) (.agg #[.int .i64 k,.int .i64 n,.string t,.slice a1 n1 c1,.slice a2 n2 c2]) (V.laid x p (p+1) [] [])∧Below w.heap.size w w':=by
  replace h:=h.weak (S':=fun b=>b < w.heap.size) (fun b hb _=>hb);have hpl:=(V.place_lt x key (by omega)).2;rw [hp] at hpl;have hwl:=V.wt_laid x p (p+1) [] [];have hkl:=V.klen_wt x;obtain ⟨kv,lv,rfl,h2,h8,ht⟩:=id h.open;obtain ⟨k,n,t,ks,l⟩:=x;simp only at *;obtain ⟨a1,c1,rfl,q1,_,hks,_⟩:=id h2;obtain ⟨a2,c2,_,rfl,q2,_⟩:=id h8;obtain ⟨m,hm⟩:∃ m,min ks.length l.length=m:=⟨_,rfl⟩;rw [hm] at hpl;have hpl':p < m:=by simpa using hpl
  have hm32:m≤4294967296:=by omega
  have HM:=hide hm;have HP:=hide hp;have HK:=hide hks;have HWL:=hide hwl;have HWX:=hide hwx;clear hm hp hks hwl hkl hpl hwx;go_enter Tryz.func57,Tryz.ntmps57
  go_wp2_with fail
  refine (placeOf_any (h.below (bthen (below_alloc w _) (below_alloc _ _))) key p HP.out).mono ?_;rintro e w1 ⟨rfl,bw1⟩;have pa:BoxF w1 w.heap.size _ _ _ _ _:=((boxF_at w _ _ _ _ _ 27 _ rfl).keep (below_alloc _ _)).keep bw1;have pr:BoxF w1 (w.heap.size+1) _ _ _ _ _:=(boxF_at _ _ _ _ _ _ 27 _ (by simp)).keep bw1;have bb:=bthen (bthen (below_alloc w _) (below_alloc _ _)) bw1;have sz:w.heap.size+2≤w1.heap.size:=by have:=bw1.size;simpa using this
  clear bw1;obtain ⟨⟨x0,x1,x2,x3,x4⟩,f0,f1,f2,f3,f4⟩:=id pa
  go_wp2_with fail
  refine (pairs_any _ _ _ _ _ _ _ _ _ _ q1 q2 m HM.out).mono ?_;rintro e w2 ⟨rfl,bw2⟩;clear x0 x1 x2 x3 x4 f0 f1 f2 f3 f4;replace pa:=pa.keep bw2;replace pr:=pr.keep bw2;replace bb:=bthen bb bw2;replace sz:=Nat.le_trans sz bw2.size;have sz2:=sz;clear bw2
  go_wp2_with fail
  have hmk:m≤ks.length:=by have:=HM.out;omega
  have hml:m≤l.length:=by have:=HM.out;omega
  have rk:Raw w2 (fun b=>b < w.heap.size) (.slice a1 m c1) 1 m ((ks.take m).map .string):=by
    have:=(raw_of_strs (h2.below bb)).front hmk
    rwa [Nat.mul_one,← List.map_take] at this
  refine (putS_any a1 m c1 _ p (p+1) _ 0 [] _ (fun _=>True) (rk.weak (fun _ _ _=>trivial)) (raw_nil _ _ _) (by omega) (by omega) hm32 (by decide)).mono ?_;rintro e w3 ⟨a3,n3,c3,rfl,hr3,bw3⟩;replace pa:=pa.keep bw3;replace pr:=pr.keep bw3;replace bb:=bthen bb bw3;replace sz:=Nat.le_trans sz bw3.size;clear bw3 rk;obtain ⟨⟨x0,x1,x2,x3,x4⟩,f0,f1,f2,f3,f4⟩:=id pa
  go_wp2_with fail
  have pa':=pa.set3 (.slice a3 n3 c3);have pr':=pr.other (g':=w.heap.size) (o':=3) (by omega) (.slice a3 n3 c3);have bb':=below_set (o:=3) bb (Nat.le_refl _) (.slice a3 n3 c3);have sz':w.heap.size+2≤(w3.setCell ⟨w.heap.size,3,none⟩ (.slice a3 n3 c3)).heap.size:=by rw [size_set];exact sz
  have hr3':=(hr3.weak (S':=fun b=>w.heap.size+2≤b) (fun b _ hb=>by omega)).keep (keeps_set (o:=3) (g:=w.heap.size) (.slice a3 n3 c3) (by omega));clear sz2 x0 x1 x2 x3 x4 f0 f1 f2 f3 f4 pa pr bb hr3 sz;generalize w3.setCell ⟨w.heap.size,3,none⟩ (.slice a3 n3 c3)=W3 at *;obtain ⟨es,rl0,hes⟩:=raw_of_isL (h8.below bb')
  have rl:Raw W3 (fun b=>b < w.heap.size) (.slice a2 m c2) 5 m (cellsQ (es.take m)):=by
    have:=rl0.front hml
    rwa [cellsQ_take _ _ (by rw [hes.1];exact hml)] at this
  have hesm:(es.take m).length=m:=by rw [List.length_take,hes.1];omega
  refine (putV_any a2 m c2 _ p (p+1) _ 0 [] _ (fun _=>True) (rl.weak (fun _ _ _=>trivial)) (raw_nil _ _ _) (by omega) (by omega) hm32 (by decide)).mono ?_;rintro e w4 ⟨a4,n4,c4,rfl,hr4,bw4⟩;rw [cellsQ_take _ _ (by omega),cellsQ_drop _ _ (by omega),List.append_nil,← cellsQ_append] at hr4;have pa:=pa'.keep bw4;have pr:=pr'.keep bw4;have bb:=bthen bb' bw4;have sz:=Nat.le_trans sz' bw4.size;have hr3:=hr3'.below bw4;have hes4:=hes.keep (Keeps.of_below bw4);clear pa' pr' hr3' rl rl0 hes;obtain ⟨⟨x0,x1,x2,x3,x4⟩,f0,f1,f2,f3,f4⟩:=id pa;obtain ⟨⟨z0,z1,z2,z3,z4⟩,_⟩:=id (pa.set4 (.slice a4 n4 c4))
  go_wp2_with fail
  have pr':=pr.other (g':=w.heap.size) (o':=4) (by omega) (.slice a4 n4 c4);have bb4:=below_set (o:=4) bb (Nat.le_refl _) (.slice a4 n4 c4);have kp:Keeps (fun b=>b≠w.heap.size) w4 (w4.setCell ⟨w.heap.size,4,none⟩ (.slice a4 n4 c4)):=keeps_set (o:=4) (g:=w.heap.size) (.slice a4 n4 c4) (by simp);have sz4:w.heap.size+2≤(w4.setCell ⟨w.heap.size,4,none⟩ (.slice a4 n4 c4)).heap.size:=by rw [size_set];exact sz
  have hx:Is (w4.setCell ⟨w.heap.size,4,none⟩ (.slice a4 n4 c4)) (fun _=>True) (.agg #[.int .i64 k,.int .i64 n,.string t,.slice a3 n3 c3,.slice a4 n4 c4]) (V.laid ⟨k,n,t,ks,l⟩ p (p+1) [] []):=by
    refine Is.shut (x:=V.laid ⟨k,n,t,ks,l⟩ p (p+1) [] []) ?_ ?_ ht
    · have e1:(List.map Value.string (List.take m ks)).take (p * 1) ++ [] ++ (List.map Value.string (List.take m ks)).drop ((p+1) * 1)=(V.splice (ks.take m) p (p+1) []).map Value.string:=by
        simp only [V.splice,List.map_append,List.map_take,List.map_drop,Nat.mul_one,List.map_nil]
      rw [e1] at hr3;simp only [V.laid,HM.out];refine strs_of_raw ((hr3.weak (S':=fun b=>b≠w.heap.size) (fun b _ hb=>by omega)).keep kp |>.weak (fun _ _ _=>trivial)) ?_;intro u hu;simp only [V.splice,List.append_nil,List.mem_append] at hu;rcases hu with hu | hu
      · exact HK.out u (List.mem_of_mem_take (List.mem_of_mem_take hu))
      · exact HK.out u (List.mem_of_mem_take (List.mem_of_mem_drop hu))
    · simp only [V.laid,HM.out,V.splice,List.append_nil]
      have k1:Els w4 (fun b=>b≠w.heap.size) (es.take m) (l.take m):=(hes4.take m).weak (fun b _ hb=>Nat.ne_of_lt hb);have k3:=(k1.take p).append (k1.drop (p+1));refine isL_of_raw (Raw.weak (Raw.keep (hr4.weak (S':=fun b=>b≠w.heap.size) (fun b _ hb=>by omega)) kp) (fun _ _ _=>trivial)) (Els.weak (Els.keep k3 kp) (fun _ _ _=>trivial))
  clear x0 x1 x2 x3 x4 f0 f1 f2 f3 f4 z0 z1 z2 z3 z4 pa pr bb hr3 hr4 kp hes4 sz sz';generalize w4.setCell ⟨w.heap.size,4,none⟩ (.slice a4 n4 c4)=W4 at *;refine (copy_any hx (Nat.le_trans HWL.out (by have:=HWX.out;have e1:V.wtK []=0:=rfl;have e2:V.wtL []=0:=rfl;omega))).mono ?_;rintro e w5 ⟨k5,n5,t5,a5,m5,c5,a6,m6,c6,rfl,his,bw5⟩;have pr:=pr'.keep bw5;obtain ⟨⟨y0,y1,y2,y3,y4⟩,g0,g1,g2,g3,g4⟩:=id pr
  go_wp2_with fail
  obtain ⟨u0,u1,u2,u3,u4⟩:=Box5.all pr.1 (.int .i64 k5) (.int .i64 n5) (.string t5) (.slice a5 m5 c5) (.slice a6 m6 c6);refine bodyPost_ret (v:=.agg #[.int .i64 k5,.int .i64 n5,.string t5,.slice a5 m5 c5,.slice a6 m6 c6]) (by simp [results,Tryz.results57,go_sem,u0,u1,u2,u3,u4]) rfl ?_;refine ⟨k5,n5,t5,a5,m5,c5,a6,m6,c6,rfl,?_,?_⟩
  · have kp5:=keeps5 w5 w.heap.size (.int .i64 k5) (.int .i64 n5) (.string t5) (.slice a5 m5 c5) (.slice a6 m6 c6)
    exact ((his.weak (S':=fun b=>w.heap.size+2≤b) (fun b _ hb=>by omega)).keep kp5).weak (fun b _ hb=>by omega)
  · have le2:w.heap.size≤w.heap.size+1:=by omega
    exact (((((bthen bb4 bw5).setCell le2 _).setCell le2 _).setCell le2 _).setCell le2 _).setCell le2 _
set_option maxHeartbeats 2000000 in
theorem without_miss {v:Value} {x:V} {w:World} {S:Nat→Prop} (h:Is w S v x) (hwx:V.wt x≤1000000000) (key:ByteArray) (p:Int) (hp:V.place x key=p) (hneg:p < 0) :
    Calls Tryz.prog 57 #[v,.string key] w fun e w'=>∃ k n t a1 n1 c1 a2 n2 c2,e=.returned (.agg #[.int .i64 k,.int .i64 n,.string t,.slice a1 n1 c1,.slice a2 n2 c2])∧Is w' (fun b=>w.heap.size≤b) (.agg #[.int .i64 k,.int .i64 n,.string t,.slice a1 n1 c1,.slice a2 n2 c2]) x∧Below w.heap.size w w':=by
  obtain ⟨kv,lv,rfl,h2,h8,ht⟩:=id h.open;obtain ⟨a1,c1,rfl,_⟩:=id h2;obtain ⟨a2,c2,_,rfl,_⟩:=id h8;have HP:=hide hp;clear hp;go_enter Tryz.func57,Tryz.ntmps57
  go_wp2_with fail
  refine (placeOf_any (h.below (bthen (below_alloc w _) (below_alloc _ _))) key p HP.out).mono ?_;rintro e w1 ⟨rfl,bw1⟩;have pa:BoxF w1 w.heap.size _ _ _ _ _:=((boxF_at w _ _ _ _ _ 27 _ rfl).keep (below_alloc _ _)).keep bw1;have pr:BoxF w1 (w.heap.size+1) _ _ _ _ _:=(boxF_at _ _ _ _ _ _ 27 _ (by simp)).keep bw1;have bb:=bthen (bthen (below_alloc w _) (below_alloc _ _)) bw1;have sz:w.heap.size+2≤w1.heap.size:=by have:=bw1.size;simpa using this
  clear bw1;obtain ⟨⟨x0,x1,x2,x3,x4⟩,f0,f1,f2,f3,f4⟩:=id pa
  go_wp2_with fail
  refine (copy_any (h.below bb) (by omega)).mono ?_;rintro e w5 ⟨k5,n5,t5,a5,m5,c5,a6,m6,c6,rfl,his,bw5⟩;replace pr:=pr.keep bw5;clear x0 x1 x2 x3 x4 f0 f1 f2 f3 f4;obtain ⟨⟨y0,y1,y2,y3,y4⟩,g0,g1,g2,g3,g4⟩:=id pr
  go_wp2_with fail
  obtain ⟨u0,u1,u2,u3,u4⟩:=Box5.all pr.1 (.int .i64 k5) (.int .i64 n5) (.string t5) (.slice a5 m5 c5) (.slice a6 m6 c6);refine bodyPost_ret (v:=.agg #[.int .i64 k5,.int .i64 n5,.string t5,.slice a5 m5 c5,.slice a6 m6 c6]) (by simp [results,Tryz.results57,go_sem,u0,u1,u2,u3,u4]) rfl ?_;refine ⟨k5,n5,t5,a5,m5,c5,a6,m6,c6,rfl,?_,?_⟩
  · have kp5:=keeps5 w5 w.heap.size (.int .i64 k5) (.int .i64 n5) (.string t5) (.slice a5 m5 c5) (.slice a6 m6 c6)
    exact ((his.weak (S':=fun b=>w.heap.size+2≤b) (fun b _ hb=>by omega)).keep kp5).weak (fun b _ hb=>by omega)
  · have le2:w.heap.size≤w.heap.size+1:=by omega
    exact (((((bthen bb bw5).setCell le2 _).setCell le2 _).setCell le2 _).setCell le2 _).setCell le2 _
theorem without_any {v:Value} {x:V} {w:World} {S:Nat→Prop} (h:Is w S v x) (hwx:V.wt x≤1000000000) (key:ByteArray) :
    Calls Tryz.prog 57 #[v,.string key] w fun e w'=>∃ k n t a1 n1 c1 a2 n2 c2,e=.returned (.agg #[.int .i64 k,.int .i64 n,.string t,.slice a1 n1 c1,.slice a2 n2 c2])∧Is w' (fun b=>w.heap.size≤b) (.agg #[.int .i64 k,.int .i64 n,.string t,.slice a1 n1 c1,.slice a2 n2 c2]) (V.without x key)∧Below w.heap.size w w':=by
  unfold V.without
  by_cases hp:0≤V.place x key
  · rw [if_pos hp]
    exact without_hit h hwx key _ (by omega)
  · rw [if_neg hp]
    exact without_miss h hwx key _ rfl (by omega)
end Go.Proofs.YtapcmbbhhclepaaGreatDoor
