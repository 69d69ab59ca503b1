/-
  What this claim takes of the earlier layers' texts: L1 VMath VBase.
-/
import Derived.Test.YtapcmbbhhclepaaGreatDoorM6
import Derived.Lib.DecodeN
import Derived.Lib.RuneBytes
import Derived.Lib.Strings
import Derived.Laws.RangeString
import Derived.WalkKit
import Derived.WalkSpells
import Derived.WalkLawsBesides
import Derived.BigCall
import Derived.Deep.QuietTactic
import Derived.BigQuiet
import Derived.OpenShut
import Derived.Test.YtapcmbbhhclepaaGreatDoorChecked
import Derived.Lib.SlicesS
import Derived.Deep.LoopGhost
import Derived.Laws.EntriesVeiled
set_option linter.unusedVariables false
set_option linter.unusedSimpArgs false
set_option maxRecDepth 100000
namespace Go.Proofs.YtapcmbbhhclepaaGreatDoor
open Go.RowKit
namespace Gm
def nth (l:List UInt8) (i:Nat):Nat:=(l.getD i 0).toNat
end Gm
namespace Gm
def dec (l:List UInt8):Nat×Nat:=Lib.decodeN l.length (nth l 0) (nth l 1) (nth l 2) (nth l 3)
end Gm
namespace Gm
def bad (l:List UInt8):Bool:=decide (dec l=(65533,1))
end Gm
namespace Gm
theorem nth_lt (l:List UInt8) (i:Nat):nth l i < 256:=by
  unfold nth;exact UInt8.toNat_lt _
end Gm
namespace Gm
theorem get!_nth (s:ByteArray) (i j:Nat):(s.get! (i+j)).toNat=nth (s.data.toList.drop i) j:=by
  unfold nth
  congr 1
  simp only [ByteArray.get!,List.getD_eq_getElem?_getD,List.getElem?_drop];show s.data[i+j]! = _
  rw [Array.getElem!_eq_getD,Array.getD_eq_getD_getElem?];simp;rfl
end Gm
namespace Gm
theorem dec_eq (s:ByteArray) (i:Nat):Utf8.decode s i=dec (s.data.toList.drop i):=by
  rw [Lib.decode_at];unfold dec;have h0:=get!_nth s i 0;have h1:=get!_nth s i 1;have h2:=get!_nth s i 2;have h3:=get!_nth s i 3;rw [Nat.add_zero] at h0;rw [h0,h1,h2,h3]
  congr 1
  simp
end Gm
namespace Gm
theorem dec_ascii (l:List UInt8) (h:nth l 0 < 128):dec l=(nth l 0,1):=by
  unfold dec Lib.decodeN;rw [if_pos h]
end Gm
namespace Gm
theorem dec_high (l:List UInt8) (h:128≤nth l 0):128≤(dec l).1:=by
  unfold dec Lib.decodeN;rw [if_neg (by omega)]
  repeat' split
  all_goals (simp only;omega)
end Gm
namespace Gm
theorem dec_le (l:List UInt8):(dec l).1≤1114111:=by
  unfold dec Lib.decodeN;have:=nth_lt l 0
  repeat' split
  all_goals (simp only;omega)
end Gm
namespace Gm
theorem dec_w (l:List UInt8):1≤(dec l).2∧(dec l).2≤4:=by
  unfold dec Lib.decodeN
  repeat' split
  all_goals (simp only;omega)
end Gm
namespace Gm
theorem dec_w_len (l:List UInt8) (h:l≠[]):(dec l).2≤l.length:=by
  have:1≤l.length:=by cases l with | nil=>exact absurd rfl h | cons _ _=>simp
  unfold dec Lib.decodeN
  repeat' split
  all_goals (simp only;omega)
end Gm
namespace Gm
def chk:Nat→List UInt8→Option Nat
  | 0,_=>none
  | f+1,l=>if l=[] then none else if bad l then some 0 else (chk f (l.drop (dec l).2)).map (fun n=>n+(dec l).2)
end Gm
namespace Gm
def check (l:List UInt8):Option Nat:=chk l.length l
end Gm
namespace Gm
def checkZ (l:List UInt8):Int:=match check l with | none=>-1 | some n=>(n:Int)
end Gm
namespace Gm
def rns:Nat→List UInt8→Nat
  | 0,_=>0
  | f+1,l=>if l=[] then 0 else 1+rns f (l.drop (dec l).2)
end Gm
namespace Gm
def runes (l:List UInt8):Nat:=rns l.length l
end Gm
namespace Gm
theorem chk_fuel (f:Nat):∀ (l:List UInt8),l.length≤f→chk f l=check l:=by
  have main:∀ (f:Nat) (g:Nat) (l:List UInt8),l.length≤f→l.length≤g→chk f l=chk g l:=by
    intro f
    induction f with
    | zero =>
      intro g l h1 h2;have:l=[]:=List.length_eq_zero_iff.1 (by omega)
      subst this;cases g <;> simp [chk]
    | succ f ih =>
      intro g l h1 h2;cases g with
      | zero =>
        have:l=[]:=List.length_eq_zero_iff.1 (by omega)
        subst this;simp [chk]
      | succ g =>
        simp only [chk]
        by_cases hl:l=[]
        · simp [hl]
        · rw [if_neg hl,if_neg hl]
          have hw:=dec_w l;have hne:1≤l.length:=by cases l with | nil=>exact absurd rfl hl | cons _ _=>simp
          rw [ih g (l.drop (dec l).2) (by rw [List.length_drop];omega) (by rw [List.length_drop];omega)]
  intro l h;exact main f l.length l h (Nat.le_refl _)
end Gm
namespace Gm
theorem check_nil:check []=none:=rfl
end Gm
namespace Gm
theorem check_eq (l:List UInt8) (h:l≠[]):check l=if bad l then some 0 else (check (l.drop (dec l).2)).map (fun n=>n+(dec l).2):=by
  have hne:1≤l.length:=by cases l with | nil=>exact absurd rfl h | cons _ _=>simp
  have hw:=dec_w l;obtain ⟨f,hf⟩:∃ f,l.length=f+1:=⟨l.length - 1,by omega⟩;unfold check;rw [hf,chk,if_neg h,chk_fuel f _ (by rw [List.length_drop];omega)];rfl
end Gm
namespace Gm
theorem rns_fuel (f:Nat):∀ (l:List UInt8),l.length≤f→rns f l=runes l:=by
  have main:∀ (f:Nat) (g:Nat) (l:List UInt8),l.length≤f→l.length≤g→rns f l=rns g l:=by
    intro f
    induction f with
    | zero =>
      intro g l h1 h2;have:l=[]:=List.length_eq_zero_iff.1 (by omega)
      subst this;cases g <;> simp [rns]
    | succ f ih =>
      intro g l h1 h2;cases g with
      | zero =>
        have:l=[]:=List.length_eq_zero_iff.1 (by omega)
        subst this;simp [rns]
      | succ g =>
        simp only [rns]
        by_cases hl:l=[]
        · simp [hl]
        · rw [if_neg hl,if_neg hl]
          have hw:=dec_w l;have hne:1≤l.length:=by cases l with | nil=>exact absurd rfl hl | cons _ _=>simp
          rw [ih g (l.drop (dec l).2) (by rw [List.length_drop];omega) (by rw [List.length_drop];omega)]
  intro l h;exact main f l.length l h (Nat.le_refl _)
end Gm
namespace Gm
theorem runes_nil:runes []=0:=rfl
end Gm
namespace Gm
theorem runes_eq (l:List UInt8) (h:l≠[]):runes l=1+runes (l.drop (dec l).2):=by
  have hne:1≤l.length:=by cases l with | nil=>exact absurd rfl h | cons _ _=>simp
  have hw:=dec_w l;obtain ⟨f,hf⟩:∃ f,l.length=f+1:=⟨l.length - 1,by omega⟩;unfold runes;rw [hf,rns,if_neg h,rns_fuel f _ (by rw [List.length_drop];omega)];rfl
end Gm
namespace Gm
def hexd (n:Nat):UInt8:=if n < 10 then (48+n).toUInt8 else (87+n).toUInt8
end Gm
namespace Gm
def escOf (r:Int):List UInt8 :=
  if r=34 then [92,34] else if r=92 then [92,92] else if r=8 then [92,98] else if r=9 then [92,116] else if r=10 then [92,110]
  else if r=12 then [92,102] else if r=13 then [92,114] else if 32≤r then [] else [92,117,48,48,hexd (r.toNat / 16),hexd (r.toNat % 16)]
end Gm
namespace Gm
def esc (c:UInt8):List UInt8:=if escOf c.toNat=[] then [c] else escOf c.toNat
end Gm
namespace Gm
def quote (l:List UInt8):List UInt8:=34 :: (l.flatMap esc ++ [34])
end Gm
namespace Gm
def quoteTo (l:List UInt8) (n:Nat):List UInt8:=34 :: (l.take n).flatMap esc
end Gm
namespace Gm
def plain (m:List UInt8):Prop:=∀ c ∈ m,esc c=[c]
end Gm
namespace Gm
theorem flat_plain (m:List UInt8) (h:plain m):m.flatMap esc=m:=by
  induction m with
  | nil=>rfl
  | cons a m ih =>
    rw [List.flatMap_cons,h a (by simp),ih (fun c hc=>h c (by simp [hc]))];rfl
end Gm
namespace Gm
theorem quoteTo_plain (l:List UInt8) (a b:Nat) (hab:a≤b) (h:plain ((l.drop a).take (b - a))):quoteTo l b=quoteTo l a ++ (l.drop a).take (b - a):=by
  unfold quoteTo
  have e:l.take b=l.take a ++ (l.drop a).take (b - a):=by
    rw [← List.take_add]
    congr 1
    omega
  rw [e,List.flatMap_append,flat_plain _ h];rfl
end Gm
namespace Gm
theorem take_succ' (l:List UInt8) (n:Nat) (h:n < l.length):l.take (n+1)=l.take n ++ [l.getD n 0]:=by
  rw [List.take_succ_eq_append_getElem h]
  congr 2
  simp [List.getD_eq_getElem?_getD,h]
end Gm
namespace Gm
theorem quoteTo_succ (l:List UInt8) (n:Nat) (h:n < l.length):quoteTo l (n+1)=quoteTo l n ++ esc (l.getD n 0):=by
  unfold quoteTo;rw [take_succ' l n h,List.flatMap_append];simp
end Gm
namespace Gm
theorem esc_le (c:UInt8):(esc c).length≤6:=by
  unfold esc escOf
  split
  · simp
  · repeat' split
    all_goals simp
end Gm
namespace Gm
theorem quoteTo_le (l:List UInt8) (n:Nat):(quoteTo l n).length≤1+6 * n:=by
  have key:∀ m:List UInt8,(m.flatMap esc).length≤6 * m.length:=by
    intro m
    induction m with
    | nil=>simp
    | cons a m ih =>
      have:=esc_le a
      rw [List.flatMap_cons,List.length_append,List.length_cons];omega
  unfold quoteTo;have h1:=key (l.take n);have h2:(l.take n).length≤n:=List.length_take_le _ _;simp only [List.length_cons];omega
end Gm
namespace Gm
theorem quoteTo_all (l:List UInt8) (n:Nat) (h:l.length≤n):quoteTo l n ++ [34]=quote l:=by
  unfold quoteTo quote;rw [List.take_of_length_le h];rfl
end Gm
namespace Gm
theorem escOf_high (r:Int) (h:128≤r):escOf r=[]:=by
  unfold escOf;rw [if_neg (by omega),if_neg (by omega),if_neg (by omega),if_neg (by omega),if_neg (by omega),if_neg (by omega),if_neg (by omega),if_pos (by omega)]
end Gm
namespace Gm
theorem esc_plain (c:UInt8) (h:escOf c.toNat=[]):esc c=[c]:=by unfold esc;rw [if_pos h]
end Gm
namespace Gm
theorem esc_some (c:UInt8) (h:escOf c.toNat≠[]):esc c=escOf c.toNat:=by unfold esc;rw [if_neg h]
end Gm
namespace Gm
theorem escOf_low {r:Int} (h:escOf r≠[]):r < 128:=by
  by_cases h1:128≤r
  · exact absurd (escOf_high r h1) h
  · omega
end Gm
namespace Gm
theorem dec_bytes (l:List UInt8) (h:128≤nth l 0) (j:Nat) (hj:j < (dec l).2):128≤nth l j:=by
  unfold dec Lib.decodeN at hj;rw [if_neg (by omega)] at hj
  have hj4:j=0∨j=1∨j=2∨j=3:=by
    revert hj
    repeat' split
    all_goals (intro hj;simp only at hj;omega)
  rcases hj4 with rfl | rfl | rfl | rfl
  · exact h
  all_goals
    revert hj
    repeat' split
    all_goals (intro hj;simp only at hj;omega)
end Gm
namespace Gm
def digit (r:Int):Option Int :=
  if 48≤r∧r≤57 then some (r - 48) else if 97≤r∧r≤102 then some (r - 87) else if 65≤r∧r≤70 then some (r - 55) else none
end Gm
namespace Gm
def fourTo (l:List UInt8):Nat→Option Int
  | 0=>some 0
  | k+1=>match fourTo l k,digit (nth l (2+k)) with
    | some n,some d=>some (n * 16+d)
    | _,_=>none
end Gm
namespace Gm
def four (l:List UInt8):Option Int:=if 6≤l.length∧nth l 0=92∧nth l 1=117 then fourTo l 4 else none
end Gm
namespace Gm
theorem digit_bd {r d:Int} (h:digit r=some d):0≤d∧d≤15∧48≤r∧r≤102:=by
  unfold digit at h
  split at h
  · have:=Option.some.inj h;omega
  · split at h
    · have:=Option.some.inj h;omega
    · split at h
      · have:=Option.some.inj h;omega
      · cases h
end Gm
namespace Gm
theorem fourTo_bd (l:List UInt8):∀ (k:Nat) (n:Int),k≤4→fourTo l k=some n→0≤n∧n < 16 ^ k:=by
  intro k
  induction k with
  | zero=>intro n _ h;simp [fourTo] at h;omega
  | succ k ih =>
    intro n hk h;simp only [fourTo] at h
    split at h
    · rename_i a d ha hd
      have h1:=ih a (by omega) ha;have h2:=digit_bd hd;have:=Option.some.inj h
      rw [Int.pow_succ];omega
    · cases h
end Gm
namespace Gm
theorem fourTo_digits (l:List UInt8):∀ (k:Nat),fourTo l k≠none→∀ j,j < k→nth l (2+j) < 128:=by
  intro k
  induction k with
  | zero=>intro _ j hj;omega
  | succ k ih =>
    intro h j hj;simp only [fourTo] at h
    split at h
    · rename_i a d ha hd
      by_cases hjk:j=k
      · subst hjk;have:=digit_bd hd;omega
      · exact ih (by rw [ha];simp) j (by omega)
    · exact absurd rfl h
end Gm
namespace Gm
end Gm
namespace Gm
end Gm
namespace Gm
end Gm
namespace Gm
end Gm
namespace Gm
theorem nth_drop (l:List UInt8) (i j:Nat):nth (l.drop i) j=nth l (i+j):=by
  unfold nth;congr 1;simp [List.getD_eq_getElem?_getD]
end Gm
namespace Gm
theorem nth_take (l:List UInt8) (i j:Nat) (h:j < i):nth (l.take i) j=nth l j:=by
  unfold nth;congr 1;simp [List.getD_eq_getElem?_getD,List.getElem?_take,h]
end Gm
namespace Gm
def second (r:Int):Bool:=decide (56320≤r∧r≤57343)
end Gm
namespace Gm
def first (r:Int):Bool:=decide (55296≤r∧r≤56319)
end Gm
namespace Gm
def long (l:List UInt8):Option (Int×Nat) :=
  match four l with
  | none=>none
  | some a=>if second a then none else if !(first a) then some (a,6) else
    match four (l.drop 6) with
    | none=>none
    | some b=>if second b then some (65536+(a - 55296) * 1024+(b - 56320),12) else none
end Gm
namespace Gm
def escape (l:List UInt8):Option (Int×Nat) :=
  if l.length < 2 then none
  else if nth l 1=34∨nth l 1=92∨nth l 1=47 then some (nth l 1,2)
  else if nth l 1=98 then some (8,2)
  else if nth l 1=102 then some (12,2)
  else if nth l 1=110 then some (10,2)
  else if nth l 1=114 then some (13,2)
  else if nth l 1=116 then some (9,2)
  else if nth l 1=117 then long l
  else none
end Gm
namespace Gm
def piece (l:List UInt8):Option (Int×Nat) :=
  if (dec l).1=92 then escape l else if (dec l).1 < 32∨bad l=true then none else some ((dec l).1,1)
end Gm
namespace Gm
def width (l:List UInt8) (n:Nat):Nat:=if (dec l).1=92 then n else (dec l).2
end Gm
namespace Gm
def unq:Nat→List UInt8→Option (List UInt8×Nat)
  | 0,_=>none
  | f+1,l=>if l=[] then none else if (dec l).1=34 then some ([],1) else
    match piece l with
    | none=>none
    | some (r,n)=>(unq f (l.drop (width l n))).map fun x=>(Lib.encodeRune r ++ x.1,x.2+width l n)
end Gm
namespace Gm
def unqL (l:List UInt8):Option (List UInt8×Nat):=unq l.length l
end Gm
namespace Gm
def unquote (l:List UInt8):Option (List UInt8×Nat) :=
  if nth l 0=34 then (unqL (l.drop 1)).map fun x=>(x.1,x.2+1) else none
end Gm
namespace Gm
theorem long_n {l:List UInt8} {r:Int} {n:Nat} (h:long l=some (r,n)):(n=6∨n=12)∧n≤l.length∧(∀ j,j < n→nth l j < 128)∧0≤r∧r≤1114111:=by
  unfold long at h
  split at h
  · cases h
  · rename_i a h4
    have hf:∀ {l:List UInt8} {a:Int},four l=some a→6≤l.length∧(∀ j,j < 6→nth l j < 128)∧0≤a∧a < 65536:=by
      intro l a h4;unfold four at h4
      split at h4
      · rename_i hc
        refine ⟨hc.1,?_,?_⟩
        · intro j hj
          by_cases j0:j=0
          · subst j0;omega
          · by_cases j1:j=1
            · subst j1;omega
            · have:=fourTo_digits l 4 (by rw [h4];simp) (j - 2) (by omega)
              rw [show 2+(j - 2)=j from by omega] at this;exact this
        · have:=fourTo_bd l 4 a (by omega) h4
          have e:(16:Int) ^ 4=65536:=by decide
          omega
      · cases h4
    obtain ⟨h6,ha,hr0,hr1⟩:=hf h4
    split at h
    · cases h
    · split at h
      · have:=Option.some.inj h
        simp only [Prod.mk.injEq] at this;obtain ⟨rfl,rfl⟩:=this;exact ⟨by omega,h6,ha,hr0,by omega⟩
      · rename_i hfirst
        split at h
        · cases h
        · rename_i b h4b
          split at h
          · rename_i hsec
            obtain ⟨h6b,hab,hb0,hb1⟩:=hf h4b;have hfi:55296≤a∧a≤56319:=by simpa [first] using hfirst
            have hse:56320≤b∧b≤57343:=by simpa [second] using hsec
            have:=Option.some.inj h
            simp only [Prod.mk.injEq] at this;obtain ⟨rfl,rfl⟩:=this;rw [List.length_drop] at h6b;refine ⟨by omega,by omega,?_,by omega,by omega⟩;intro j hj
            by_cases j6:j < 6
            · exact ha j j6
            · have:=hab (j - 6) (by omega)
              rw [nth_drop,show 6+(j - 6)=j from by omega] at this;exact this
          · cases h
end Gm
namespace Gm
theorem escape_n {l:List UInt8} {r:Int} {n:Nat} (h0:nth l 0 < 128) (h:escape l=some (r,n)):2≤n∧n≤l.length∧(∀ j,j < n→nth l j < 128)∧0≤r∧r≤1114111:=by
  have two:∀ (hl:¬ l.length < 2) (h1:nth l 1 < 128) (x:Int),0≤x→x < 128→some (x,2)=some (r,n)→2≤n∧n≤l.length∧(∀ j,j < n→nth l j < 128)∧0≤r∧r≤1114111:=by
    intro hl h1 x hx0 hx1 e;have:=Option.some.inj e
    simp only [Prod.mk.injEq] at this;obtain ⟨rfl,rfl⟩:=this;refine ⟨by omega,by omega,?_,by omega,by omega⟩;intro j hj
    by_cases j0:j=0
    · subst j0;exact h0
    · have:j=1:=by omega
      subst this;exact h1
  unfold escape at h
  by_cases hl:l.length < 2
  · rw [if_pos hl] at h;cases h
  rw [if_neg hl] at h
  by_cases c1:nth l 1=34∨nth l 1=92∨nth l 1=47
  · rw [if_pos c1] at h;exact two hl (by omega) _ (by omega) (by omega) h
  rw [if_neg c1] at h
  by_cases c2:nth l 1=98
  · rw [if_pos c2] at h;exact two hl (by omega) _ (by omega) (by omega) h
  rw [if_neg c2] at h
  by_cases c3:nth l 1=102
  · rw [if_pos c3] at h;exact two hl (by omega) _ (by omega) (by omega) h
  rw [if_neg c3] at h
  by_cases c4:nth l 1=110
  · rw [if_pos c4] at h;exact two hl (by omega) _ (by omega) (by omega) h
  rw [if_neg c4] at h
  by_cases c5:nth l 1=114
  · rw [if_pos c5] at h;exact two hl (by omega) _ (by omega) (by omega) h
  rw [if_neg c5] at h
  by_cases c6:nth l 1=116
  · rw [if_pos c6] at h;exact two hl (by omega) _ (by omega) (by omega) h
  rw [if_neg c6] at h
  by_cases c7:nth l 1=117
  · rw [if_pos c7] at h
    obtain ⟨a1,a2,a3,a4,a5⟩:=long_n h;exact ⟨by omega,a2,a3,a4,a5⟩
  rw [if_neg c7] at h;cases h
end Gm
namespace Gm
theorem dec_92 {l:List UInt8} {c:Nat} (hc:c < 128) (h:(dec l).1=c):nth l 0=c:=by
  by_cases ha:nth l 0 < 128
  · rw [dec_ascii l ha] at h;exact h
  · have:=dec_high l (by omega);omega
end Gm
namespace Gm
theorem piece_n {l:List UInt8} {r:Int} {n:Nat} (hne:l≠[]) (h:piece l=some (r,n)):1≤n∧1≤width l n∧width l n≤l.length∧0≤r∧r≤1114111:=by
  unfold piece at h;unfold width
  by_cases h92:(dec l).1=92
  · rw [if_pos h92] at h
    have:=escape_n (by rw [dec_92 (by omega) h92];omega) h
    rw [if_pos h92];omega
  · rw [if_neg h92] at h
    split at h
    · cases h
    · have:=Option.some.inj h
      simp only [Prod.mk.injEq] at this;obtain ⟨rfl,rfl⟩:=this;have h1:=dec_w l;have h2:=dec_w_len l hne;have h3:=dec_le l;rw [if_neg h92];omega
end Gm
namespace Gm
theorem unq_fuel (f:Nat):∀ (l:List UInt8),l.length≤f→unq f l=unqL l:=by
  have main:∀ (f:Nat) (g:Nat) (l:List UInt8),l.length≤f→l.length≤g→unq f l=unq g l:=by
    intro f
    induction f with
    | zero =>
      intro g l h1 h2;have:l=[]:=List.length_eq_zero_iff.1 (by omega)
      subst this;cases g <;> simp [unq]
    | succ f ih =>
      intro g l h1 h2;cases g with
      | zero =>
        have:l=[]:=List.length_eq_zero_iff.1 (by omega)
        subst this;simp [unq]
      | succ g =>
        simp only [unq]
        by_cases hl:l=[]
        · simp [hl]
        · rw [if_neg hl,if_neg hl]
          by_cases h34:(dec l).1=34
          · rw [if_pos h34,if_pos h34]
          · rw [if_neg h34,if_neg h34]
            cases hp:piece l with
            | none=>rfl
            | some x =>
              obtain ⟨r,n⟩:=x;have hw:=piece_n hl hp;have hlen:1≤l.length:=by omega
              simp only;rw [ih g (l.drop (width l n)) (by rw [List.length_drop];omega) (by rw [List.length_drop];omega)]
  intro l h;exact main f l.length l h (Nat.le_refl _)
end Gm
namespace Gm
theorem unqL_nil:unqL []=none:=rfl
end Gm
namespace Gm
theorem unqL_eq (l:List UInt8) (h:l≠[]):unqL l=if (dec l).1=34 then some ([],1) else
    match piece l with
    | none=>none
    | some (r,n)=>(unqL (l.drop (width l n))).map fun x=>(Lib.encodeRune r ++ x.1,x.2+width l n):=by
  have hne:1≤l.length:=by cases l with | nil=>exact absurd rfl h | cons _ _=>simp
  obtain ⟨f,hf⟩:∃ f,l.length=f+1:=⟨l.length - 1,by omega⟩;have e:unqL l=unq (f+1) l:=by unfold unqL;rw [hf]
  rw [e,unq,if_neg h]
  by_cases h34:(dec l).1=34
  · rw [if_pos h34,if_pos h34]
  · rw [if_neg h34,if_neg h34]
    cases hp:piece l with
    | none=>rfl
    | some x =>
      obtain ⟨r,n⟩:=x;have hw:=piece_n h hp;simp only;rw [unq_fuel f _ (by rw [List.length_drop];omega)]
end Gm
namespace Gm
theorem mem_nth {m:List UInt8} {c:UInt8} (h:c ∈ m):∃ j,j < m.length∧nth m j=c.toNat:=by
  obtain ⟨j,hj,e⟩:=List.getElem_of_mem h;refine ⟨j,hj,?_⟩;unfold nth;rw [List.getD_eq_getElem?_getD,List.getElem?_eq_getElem hj,e];rfl
end Gm
namespace Gm
theorem plain_rune (l:List UInt8) (h:escOf (dec l).1=[]):plain (l.take (dec l).2):=by
  intro c hc;obtain ⟨j,hj,e⟩:=mem_nth hc;have hj2:j < (dec l).2:=by rw [List.length_take] at hj;omega
  rw [nth_take _ _ _ hj2] at e
  apply esc_plain
  by_cases ha:nth l 0 < 128
  · rw [dec_ascii l ha] at hj2 h
    have:j=0:=by simp only at hj2;omega
    subst this;rw [← e];exact h
  · exact escOf_high _ (by have:=dec_bytes l (by omega) j hj2;omega)
end Gm
namespace Gm
theorem plain_append {a b:List UInt8} (h1:plain a) (h2:plain b):plain (a ++ b):=by
  intro c hc;rcases List.mem_append.1 hc with h | h
  · exact h1 c h
  · exact h2 c h
end Gm
namespace Gm
theorem seg_append (l:List UInt8) (a b w:Nat) (hab:a≤b):(l.drop a).take (b+w - a)=(l.drop a).take (b - a) ++ (l.drop b).take w:=by
  have e:b+w - a=(b - a)+w:=by omega
  rw [e,List.take_add,List.drop_drop]
  congr 3
  omega
end Gm
theorem less_any (a b:ByteArray) (w:World) :
    Calls Tryz.prog 106 #[.string a,.string b] w fun e w'=>e=.returned (.bool (Op.bytesLess a.toList b.toList))∧w'=w:=by
  go_enter Tryz.func106,Tryz.ntmps106
  go_wp2
  go_ret
  exact ⟨rfl,rfl⟩
theorem toList_drop_end (s:ByteArray) (i:Nat):(s.extract i s.size).data.toList=s.data.toList.drop i:=by
  rw [Lib.extract_data,List.take_of_length_le];rw [List.length_drop,← Lib.size_eq];exact Nat.le_refl _
theorem drop_ne (s:ByteArray) (i:Nat) (h:i < s.size):s.data.toList.drop i≠[]:=by
  intro e;have:=congrArg List.length e
  rw [List.length_drop,← Lib.size_eq] at this;simp at this;omega
theorem drop_nil (s:ByteArray) (i:Nat) (h:¬ i < s.size):s.data.toList.drop i=[]:=by
  apply List.drop_eq_nil_of_le
  rw [← Lib.size_eq];omega
theorem ret_int {k:IntKind} {a b:Int} (h:a=b):Ending.returned (.int k a)=.returned (.int k b):=by rw [h]
theorem checkZ_none {l:List UInt8} (h:Gm.check l=none):Gm.checkZ l=-1:=by unfold Gm.checkZ;rw [h]
theorem checkZ_some {l:List UInt8} {n:Nat} (h:Gm.check l=some n):Gm.checkZ l=n:=by unfold Gm.checkZ;rw [h]
theorem drop_drop' (l:List UInt8) (i j:Nat):(l.drop i).drop j=l.drop (i+j):=by rw [List.drop_drop]
theorem nth_of (s:ByteArray) (i:Nat) (h:i < s.size):Gm.nth s.data.toList i=(s[i]'h).toNat:=by
  unfold Gm.nth
  congr 1
  rw [List.getD_eq_getElem?_getD,List.getElem?_eq_getElem (by rw [← Lib.size_eq];exact h)];rfl
theorem esc_text0:∀ n ∈ List.range 32,(n=8∨n=9∨n=10∨n=12∨n=13) ∨
    (⟨#[92,117,48,48]⟩ ++ (⟨#[48,49,50,51,52,53,54,55,56,57,97,98,99,100,101,102]⟩:ByteArray).extract (n / 16) (n / 16+1) ++
      (⟨#[48,49,50,51,52,53,54,55,56,57,97,98,99,100,101,102]⟩:ByteArray).extract (n % 16) (n % 16+1)).data.toList=Gm.escOf n:=by
  decide +kernel
theorem esc_text (n:Nat) (h:n < 32) (c3:n≠8) (c4:n≠9) (c5:n≠10) (c6:n≠12) (c7:n≠13) :
    (⟨#[92,117,48,48]⟩ ++ (⟨#[48,49,50,51,52,53,54,55,56,57,97,98,99,100,101,102]⟩:ByteArray).extract (n / 16) (n / 16+1) ++
      (⟨#[48,49,50,51,52,53,54,55,56,57,97,98,99,100,101,102]⟩:ByteArray).extract (n % 16) (n % 16+1))=(⟨(Gm.escOf n).toArray⟩:ByteArray):=by
  rcases esc_text0 n (List.mem_range.2 h) with hc | hc
  · omega
  · rw [← hc]
theorem ret_str {a b:ByteArray} (h:a=b):Ending.returned (.string a)=.returned (.string b):=by rw [h]
theorem escapeOf_low (n:Nat) (w:World) (h1:n < 32) (c3:n≠8) (c4:n≠9) (c5:n≠10) (c6:n≠12) (c7:n≠13) :
    Calls Tryz.prog 134 #[.int .i32 n] w fun e w'=>e=.returned (.string ⟨(Gm.escOf n).toArray⟩)∧∃ n,w'=w.drewN n:=by
  have ht:=esc_text n h1 c3 c4 c5 c6 c7;have HT:Hid _:=ht;clear ht;have d1:((n:Int) == 34)=false:=by simp;omega
  have d2:((n:Int) == 92)=false:=by simp;omega
  have d3:((n:Int) == 8)=false:=by simp;omega
  have d4:((n:Int) == 9)=false:=by simp;omega
  have d5:((n:Int) == 10)=false:=by simp;omega
  have d6:((n:Int) == 12)=false:=by simp;omega
  have d7:((n:Int) == 13)=false:=by simp;omega
  go_enter Tryz.func134,Tryz.ntmps134
  go_wp2
  go_quiet (fail)
  go_wp2
  go_ret
  refine ⟨ret_str ?_,_,rfl⟩;rw [← HT.out]
theorem escapeOf_any (n:Nat) (w:World) (hn:n≤2147483647) :
    Calls Tryz.prog 134 #[.int .i32 n] w fun e w'=>e=.returned (.string ⟨(Gm.escOf n).toArray⟩)∧∃ n,w'=w.drewN n:=by
  by_cases h:n=34∨n=92∨n=8∨n=9∨n=10∨n=12∨n=13
  · rcases h with rfl | rfl | rfl | rfl | rfl | rfl | rfl
    all_goals
      go_enter Tryz.func134,Tryz.ntmps134
      go_wp2
      go_ret
      exact ⟨rfl,0,rfl⟩
  · by_cases h32:n < 32
    · exact escapeOf_low n w h32 (by omega) (by omega) (by omega) (by omega) (by omega)
    · have he:Gm.escOf n=[]:=by
        unfold Gm.escOf;rw [if_neg (by omega),if_neg (by omega),if_neg (by omega),if_neg (by omega),if_neg (by omega),if_neg (by omega),if_neg (by omega),if_pos (by omega)]
      rw [he];have d1:((n:Int) == 34)=false:=by simp;omega
      have d2:((n:Int) == 92)=false:=by simp;omega
      have d3:((n:Int) == 8)=false:=by simp;omega
      have d4:((n:Int) == 9)=false:=by simp;omega
      have d5:((n:Int) == 10)=false:=by simp;omega
      have d6:((n:Int) == 12)=false:=by simp;omega
      have d7:((n:Int) == 13)=false:=by simp;omega
      have d8:32≤(n:Int):=by omega
      clear h h32 he;go_enter Tryz.func134,Tryz.ntmps134
      go_wp2
      go_ret
      exact ⟨rfl,0,rfl⟩
theorem escapeOf_none (n:Nat) (w:World) (hn:n≤2147483647) (h:Gm.escOf n=[]) :
    Calls Tryz.prog 134 #[.int .i32 n] w fun e w'=>e=.returned (.string ⟨#[]⟩)∧∃ n,w'=w.drewN n:=by
  refine (escapeOf_any n w hn).mono ?_;rw [h];exact fun e w' h=>h
theorem escapeOf_some (n:Nat) (ev:ByteArray) (w:World) (hn:n≤2147483647) (h:(⟨(Gm.escOf n).toArray⟩:ByteArray)=ev) :
    Calls Tryz.prog 134 #[.int .i32 n] w fun e w'=>e=.returned (.string ev)∧∃ n,w'=w.drewN n:=by
  subst h;exact escapeOf_any n w hn
theorem flatten_size (l:List UInt8):(⟨l.toArray⟩:ByteArray).size=l.length:=by
  show l.toArray.size=_
  simp
set_option maxHeartbeats 2000000 in
theorem quote_any (s:ByteArray) (w:World) (hs:s.size≤17592186044416) :
    Calls Tryz.prog 112 #[.string s] w fun e w'=>e=.returned (.string ⟨(Gm.quote s.data.toList).toArray⟩)∧Below w.heap.size w w':=by
  go_enter Tryz.func112,Tryz.ntmps112
  go_wp2_with fail
  refine (Tryz.Builder_WriteByte_k w.heap.size w.heap.size [] 34 _ (Lib.IsBuilderF.of (Lib.fresh_isBuilder 82 5 w)) (by simp) (by simp)).mono ?_;rintro e W0 ⟨rfl,h0,b0,k0⟩;have hsz0:w.heap.size+1≤W0.heap.size:=by have:=b0.size;simpa using this
  have hb0:Below w.heap.size w W0:=((Below.refl _ w).alloc (Nat.le_refl _) _).trans b0;clear b0 k0
  go_wp2
  go_loopw [4] (fun fr wr=>∃ (pos fro:Nat) (acc:List UInt8),fr=.int .i64 fro∧Lib.IsBuilderF 82 5 w.heap.size w.heap.size (Lib.byteCells acc) wr∧wr.heap[W0.heap.size]? = some (.stringIter s pos)∧Below w.heap.size w wr∧fro≤pos∧pos≤s.size∧acc=Gm.quoteTo s.data.toList fro∧Gm.plain ((s.data.toList.drop fro).take (pos - fro))) (fun _ wr=>s.size - wr.iterPos W0.heap.size)
  case atStart =>
    refine ⟨0,0,[34],rfl,?_,World.iter_heap W0 s 0,hb0.alloc (by omega) _,by omega,by omega,rfl,?_⟩
    · exact Lib.IsBuilderF.alloc (Or.inr h0) _
    · intro c hc;simp at hc
  case round =>
    obtain ⟨pos,fro,acc,rfl,hI,hit,hbw,hfp,hps,hacc,hpl⟩:=hrel;have hal:acc.length≤1+6 * fro:=by rw [hacc];exact Gm.quoteTo_le _ _
    have hsz:W0.heap.size < wr.heap.size:=(Array.getElem?_eq_some_iff.1 hit).1;have HACC:Hid _:=hacc;have HPL:Hid _:=hpl;clear hacc hpl h0 hb0
    by_cases hp:pos < s.size
    · have hnx:∀ ty,(Instr.next (.pointer (some ⟨W0.heap.size,0,none⟩)) true ty).run Tryz.prog wr=_:=fun ty=>Lib.run_next_any_at wr W0.heap.size s pos ty hit hp
      have hd:=Gm.dec_eq s pos;have hw:=Gm.dec_w (s.data.toList.drop pos);have hwl:=Gm.dec_w_len _ (drop_ne s pos hp);have hrl:=Gm.dec_le (s.data.toList.drop pos);rw [List.length_drop,← Lib.size_eq] at hwl;rw [← hd] at hw hrl hwl;have hI2:=hI.iterAt hit (pos+(Utf8.decode s pos).2);have hit2:=Lib.iterAt_heap wr W0.heap.size s pos (pos+(Utf8.decode s pos).2) hit;have hbw2:=Lib.below_iterAt hbw (k:=W0.heap.size) (by omega) s (pos+(Utf8.decode s pos).2);have hsz2:w.heap.size≤(wr.iterAt W0.heap.size s (pos+(Utf8.decode s pos).2)).heap.size:=by rw [Lib.iterAt_size];omega
      have HD:Hid _:=hd;clear hd
      by_cases he:Gm.escOf ((Utf8.decode s pos).1:Int)=[]
      · have HE:Hid _:=he
        clear he
        go_wp2_with fail
        refine (escapeOf_none _ _ (by omega) HE.out).mono ?_;rintro e W1 ⟨rfl,q1,rfl⟩
        go_wp2
        go_roundw
        case rel =>
          refine ⟨pos+(Utf8.decode s pos).2,fro,acc,rfl,hI2,hit2,below_drewN hbw2 _,by omega,by omega,HACC.out,?_⟩;rw [Gm.seg_append _ _ _ _ hfp];refine Gm.plain_append HPL.out ?_;rw [HD.out];exact Gm.plain_rune _ (by rw [← HD.out];exact HE.out)
        case measure =>
          have e1:(wr.iterAt W0.heap.size s (pos+(Utf8.decode s pos).2)).iterPos W0.heap.size=pos+(Utf8.decode s pos).2:=by simp only [World.iterPos,hit2]
          have e2:wr.iterPos W0.heap.size=pos:=by simp only [World.iterPos,hit]
          show s.size - (wr.iterAt W0.heap.size s (pos+(Utf8.decode s pos).2)).iterPos W0.heap.size < _
          rw [e1,e2];omega
      · have HE:Hid _:=he
        clear he;generalize hev:(⟨(Gm.escOf ((Utf8.decode s pos).1:Int)).toArray⟩:ByteArray)=ev;have HEV:Hid _:=hev
        have hevs:ev.size≤6:=by
          rw [← hev,flatten_size];have hr:=Gm.escOf_low HE.out
          have e1:Gm.esc (Utf8.decode s pos).1.toUInt8=Gm.escOf ((Utf8.decode s pos).1.toUInt8.toNat:Int):=by
            apply Gm.esc_some
            have:(Utf8.decode s pos).1.toUInt8.toNat=(Utf8.decode s pos).1:=by simp;omega
            rw [this];exact HE.out
          have e2:(Utf8.decode s pos).1.toUInt8.toNat=(Utf8.decode s pos).1:=by simp;omega
          rw [e2] at e1;rw [← e1];exact Gm.esc_le _
        have hem:(!ev.toList.isEmpty)=true:=by
          rw [← hev]
          have h1:(⟨(Gm.escOf ((Utf8.decode s pos).1:Int)).toArray⟩:ByteArray).toList=Gm.escOf ((Utf8.decode s pos).1:Int):=by
            rw [Lib.toList_data]
          rw [h1];have h2:=HE.out;cases hx:Gm.escOf ((Utf8.decode s pos).1:Int) with
          | nil=>exact absurd hx h2
          | cons a b=>rfl
        clear hev;have hfp':(fro:Int)≤(pos:Int):=by omega
        have hexs:(s.extract fro pos).size=pos - fro:=by simp [ByteArray.size_extract];omega
        have HX:Hid _:=hexs;clear hexs
        go_wp2_with fail
        refine (escapeOf_some _ ev _ (by omega) HEV.out).mono ?_;rintro e W1 ⟨rfl,q1,rfl⟩
        go_wp2_with fail
        refine (Tryz.Builder_WriteString_k w.heap.size w.heap.size (Lib.byteCells acc) (s.extract fro pos) _ (by exact hI2) (by rw [Lib.byteCells_length,HX.out];omega) (by exact hsz2)).mono ?_;rintro e W2 ⟨rfl,h2,b2,k2⟩;have hit3:=k2.iter (k:=W0.heap.size) (s:=s) (pos:=pos+(Utf8.decode s pos).2) (by exact hit2) (by omega);have hbw3:Below w.heap.size w W2:=(below_drewN hbw2 q1).trans b2;have hsz3:w.heap.size≤W2.heap.size:=hbw3.size
        go_wp2_with fail
        refine (Tryz.Builder_WriteString_k w.heap.size w.heap.size _ ev _ (Or.inr h2) (by rw [List.length_append,Lib.byteCells_length,Lib.strCells_length,HX.out];omega) hsz3).mono ?_;rintro e W3 ⟨rfl,h3,b3,k3⟩;have hit4:=k3.iter hit3 (by omega);have hbw4:Below w.heap.size w W3:=hbw3.trans b3
        go_wp2
        go_roundw
        case rel =>
          have hr:=Gm.escOf_low HE.out
          have hasc:Gm.nth (s.data.toList.drop pos) 0 < 128:=by
            by_cases hh:128≤Gm.nth (s.data.toList.drop pos) 0
            · have:=Gm.dec_high _ hh
              rw [← HD.out] at this;omega
            · omega
          have hdd:=HD.out;rw [Gm.dec_ascii _ hasc] at hdd;have hw1:(Utf8.decode s pos).2=1:=by rw [hdd]
          have hr1:(Utf8.decode s pos).1=Gm.nth s.data.toList pos:=by rw [hdd,Gm.nth_drop,Nat.add_zero]
          have hescs:Gm.esc (s.data.toList.getD pos 0)=Gm.escOf ((Utf8.decode s pos).1:Int):=by
            rw [hr1];exact Gm.esc_some _ (by have:=HE.out;rw [hr1] at this;exact this)
          refine ⟨pos+1,pos+1,Gm.quoteTo s.data.toList (pos+1),by go_num,?_,by rw [hw1] at hit4;exact hit4,hbw4,by omega,by omega,rfl,?_⟩
          · have e1:Lib.byteCells (Gm.quoteTo s.data.toList (pos+1))=Lib.byteCells acc ++ Lib.strCells (s.extract fro pos) ++ Lib.strCells ev:=by
              rw [Gm.quoteTo_succ _ _ (by rw [← Lib.size_eq];omega),hescs,Gm.quoteTo_plain s.data.toList fro pos hfp HPL.out,← HACC.out,Lib.strCells_eq,Lib.strCells_eq,Lib.extract_data,← HEV.out,Lib.byteCells_append,Lib.byteCells_append]
            rw [e1];exact Or.inr h3
          · intro c hc;simp at hc
        case measure =>
          simp only [World.iterPos,hit4,hit];omega
    · have hnx:∀ ty,(Instr.next (.pointer (some ⟨W0.heap.size,0,none⟩)) true ty).run Tryz.prog wr=_:=fun ty=>Lib.run_next_end_at wr W0.heap.size s pos ty hit hp
      have hexs:(s.extract fro s.size).size=s.size - fro:=by simp [ByteArray.size_extract]
      have HX:Hid _:=hexs;clear hexs
      go_wp2_with fail
      refine (Tryz.Builder_WriteString_k w.heap.size w.heap.size (Lib.byteCells acc) (s.extract fro s.size) _ hI (by rw [Lib.byteCells_length,HX.out];omega) (by omega)).mono ?_;rintro e W2 ⟨rfl,h2,b2,k2⟩;have hbw3:Below w.heap.size w W2:=hbw.trans b2;have hsz3:w.heap.size≤W2.heap.size:=hbw3.size
      go_wp2_with fail
      refine (Tryz.Builder_WriteByte_k w.heap.size w.heap.size _ 34 _ (Or.inr h2) (by rw [List.length_append,Lib.byteCells_length,Lib.strCells_length,HX.out];omega) hsz3).mono ?_;rintro e W3 ⟨rfl,h3,b3,k3⟩;have hbw4:Below w.heap.size w W3:=hbw3.trans b3
      have h4:Lib.IsBuilderF 82 5 w.heap.size w.heap.size (Lib.byteCells (Gm.quote s.data.toList)) W3:=by
        have e1:Lib.byteCells (Gm.quote s.data.toList)=Lib.byteCells acc ++ Lib.strCells (s.extract fro s.size) ++ [Value.int .u8 34]:=by
          rw [Lib.strCells_eq,toList_drop_end,← Gm.quoteTo_all s.data.toList pos (by rw [← Lib.size_eq];omega),Gm.quoteTo_plain s.data.toList fro pos hfp HPL.out,← HACC.out];rw [List.take_of_length_le (by rw [List.length_drop,← Lib.size_eq];omega),Lib.byteCells_append,Lib.byteCells_append];rfl
        rw [e1];exact Or.inr h3
      go_wp2_with fail
      refine (Tryz.Builder_String_any_k w.heap.size w.heap.size (Gm.quote s.data.toList) _ h4 (by have:=hbw4.size;omega)).mono ?_;rintro e W4 ⟨rfl,_,b5,_⟩
      go_wp2
      go_ret
      exact ⟨rfl,hbw4.trans b5⟩
def unR (o:Option (List UInt8×Nat)):Ending:=match o with
  | none=>.returned (.tuple #[.string ⟨#[]⟩,.int .i64 0])
  | some x=>.returned (.tuple #[.string ⟨x.1.toArray⟩,.int .i64 x.2])
namespace Gm
def textTab:List (List UInt8):=[[97],[98],[34],[92],[10],[1],[195,169],[226,130,172],[240,159,152,128],[255],[237,160,128],[12],[127],[239,191,189],[8],[9]]
end Gm
namespace Gm
def rawTab:List (List UInt8):=[[97],[92,110],[92,117,48,48,52,49],[92,117,100,56,51,100],[92,117,100,101,48,48],[92,117,48,48,69,57],[92,34],[92,92],[92,47],[92,120],[92,117,49,50],[10],[195,169],[255],[92,117,68,66,70,70,92,117,68,70,70,70],[34]]
end Gm
namespace Gm
def pick (tab:List (List UInt8)) (zs:List Int) (n:Nat):List UInt8:=(zs.take n).flatMap fun z=>tab.getD (z.toNat % 16) []
end Gm
namespace Gm
theorem pick_zero (tab:List (List UInt8)) (zs:List Int):pick tab zs 0=[]:=by simp [pick]
end Gm
namespace Gm
theorem pick_succ (tab:List (List UInt8)) (zs:List Int) (n:Nat) (h:n < zs.length):pick tab zs (n+1)=pick tab zs n ++ tab.getD ((zs.getD n 0).toNat % 16) []:=by
  unfold pick;rw [List.take_succ_eq_append_getElem h,List.flatMap_append];simp [List.getD_eq_getElem?_getD,h]
end Gm
namespace Gm
theorem tab_le (k:Nat):(textTab.getD k []).length≤4∧(rawTab.getD k []).length≤12:=by
  by_cases h:k < 16
  · have:∀ k ∈ List.range 16,(textTab.getD k []).length≤4∧(rawTab.getD k []).length≤12:=by decide
    exact this k (List.mem_range.2 h)
  · have h1:textTab.getD k []=[]:=by
      rw [List.getD_eq_getElem?_getD,List.getElem?_eq_none (by simp [textTab];omega)];rfl
    have h2:rawTab.getD k []=[]:=by
      rw [List.getD_eq_getElem?_getD,List.getElem?_eq_none (by simp [rawTab];omega)];rfl
    rw [h1,h2];simp
end Gm
namespace Gm
theorem pick_text_le (zs:List Int) (n:Nat):(pick textTab zs n).length≤4 * n:=by
  have key:∀ m:List Int,(m.flatMap fun z=>textTab.getD (z.toNat % 16) []).length≤4 * m.length:=by
    intro m
    induction m with
    | nil=>simp
    | cons a m ih =>
      have:=(tab_le (a.toNat % 16)).1
      rw [List.flatMap_cons,List.length_append,List.length_cons];omega
  have h1:=key (zs.take n);have h2:(zs.take n).length≤n:=List.length_take_le _ _;unfold pick;omega
end Gm
def IsRow (k:IntKind) (w:World) (a:Option Addr) (len cap:Nat) (zs:List Int):Prop :=
  (a=none∧len=0∧cap=0∧zs=[]) ∨
  ∃ x,a=some x∧len≤cap∧cap≤maxLen∧zs.length=cap∧(∀ i,i < zs.length→w.cell? (x.add i)=some (.int k (zs.getD i 0)))∧∀ n ∈ zs,(Lit.int k n).wf=true
theorem less_is (a b:ByteArray) (r:Bool) (w:World) (h:Op.bytesLess a.toList b.toList=r) :
    Calls Tryz.prog 106 #[.string a,.string b] w fun e w'=>e=.returned (.bool r)∧w'=w:=by
  subst h;exact less_any a b w
theorem str_app (a b:List UInt8):(⟨a.toArray⟩:ByteArray) ++ ⟨b.toArray⟩=⟨(a ++ b).toArray⟩:=by
  apply ByteArray.ext
  rw [ByteArray.data_append];simp
theorem wf_u8 {z:Int} (h:(Lit.int .u8 z).wf=true):0≤z∧z≤255:=by
  simpa [Lit.wf,IntKind.min,IntKind.max,IntKind.signed,IntKind.bits] using h
theorem getD_u8 {zs:List Int} (h:∀ n ∈ zs,(Lit.int .u8 n).wf=true) (i:Nat) (hi:i < zs.length):0≤zs.getD i 0∧zs.getD i 0≤255:=by
  rw [List.getD_eq_getElem?_getD,List.getElem?_eq_getElem hi];exact wf_u8 (h _ (List.getElem_mem hi))
def textArr:Array Value:=#[.string ⟨#[97]⟩,.string ⟨#[98]⟩,.string ⟨#[34]⟩,.string ⟨#[92]⟩,.string ⟨#[10]⟩,.string ⟨#[1]⟩,.string ⟨#[195,169]⟩,.string ⟨#[226,130,172]⟩,.string ⟨#[240,159,152,128]⟩,.string ⟨#[255]⟩,.string ⟨#[237,160,128]⟩,.string ⟨#[12]⟩,.string ⟨#[127]⟩,.string ⟨#[239,191,189]⟩,.string ⟨#[8]⟩,.string ⟨#[9]⟩]
theorem text_at (w:World):∀ k,k < 16→(w.alloc (.cells textArr 9)).cell? ⟨w.heap.size,k,none⟩=some (.string ⟨(Gm.textTab.getD k []).toArray⟩):=by
  have h0:∀ k,k < 16→textArr[k]? = some (.string ⟨(Gm.textTab.getD k []).toArray⟩):=fun
  | 0,_=>rfl
  | 1,_=>rfl
  | 2,_=>rfl
  | 3,_=>rfl
  | 4,_=>rfl
  | 5,_=>rfl
  | 6,_=>rfl
  | 7,_=>rfl
  | 8,_=>rfl
  | 9,_=>rfl
  | 10,_=>rfl
  | 11,_=>rfl
  | 12,_=>rfl
  | 13,_=>rfl
  | 14,_=>rfl
  | 15,_=>rfl
  | n+16,h=>by omega
  intro k hk;have h1:=h0 k hk;simp only [World.cell?,World.alloc,Array.getElem?_push_size]
  simpa using h1
set_option maxHeartbeats 1000000 in
theorem text_row (a:Option Addr) (len cap:Nat) (zs:List Int) (w:World) (hl:len≤zs.length) (hm:len≤maxLen) (hwz:∀ n ∈ zs,(Lit.int .u8 n).wf=true)
    (hc:∀ i,i < len→∃ b off,a=some ⟨b,off,none⟩∧w.cell? ⟨b,off+i,none⟩=some (.int .u8 (zs.getD i 0))) :
    Calls Tryz.prog 71 #[.slice a len cap] w fun e w'=>e=.returned (.string ⟨(Gm.pick Gm.textTab zs (min len 40)).toArray⟩)∧Below w.heap.size w w':=by
  have htab:=text_at w;have hbel:Below w.heap.size w (w.alloc (.cells textArr 9)):=(Below.refl _ _).alloc (Nat.le_refl _) _;unfold maxLen at hm;go_enter Tryz.func71,Tryz.ntmps71
  go_wp2
  change Code.wp _ _ _ _ (w.alloc (.cells textArr 9))
  generalize w.alloc (.cells textArr 9)=W1 at *
  have hc2:∀ i,i < len→∃ b off,a=some ⟨b,off,none⟩∧W1.cell? ⟨b,off+i,none⟩=some (.int .u8 (zs.getD i 0)):=by
    intro i hi;obtain ⟨b,off,h1,h2⟩:=hc i hi;exact ⟨b,off,h1,cell_later hbel h2⟩
  have HT:Hid _:=htab;have HC:Hid _:=hc2;have HW:Hid _:=hwz;clear htab hc hc2 hwz
  go_loop [4,5] (fun s i=>∃ k:Nat,k≤min len 40∧i=.int .i64 k∧s=.string ⟨(Gm.pick Gm.textTab zs k).toArray⟩) (fun _ i=>40 - (intOf i).toNat)
  case atStart=>exact ⟨0,by omega,rfl,by rw [Gm.pick_zero]⟩
  case round =>
    obtain ⟨k,hk,rfl,rfl⟩:=hrel
    by_cases h1:k < len
    · have h1':(k:Int) < len:=by omega
      by_cases h2:k < 40
      · have h2':(k:Int) < 40:=by omega
        obtain ⟨b,off,ha,hcell⟩:=HC.out k h1;have hz:=getD_u8 HW.out k (by omega);have hps:=Gm.pick_succ Gm.textTab zs k (by omega);have HPS:Hid _:=hps;clear hps;subst ha;obtain ⟨hz0,hz1⟩:=hz;generalize hzz:zs.getD k 0=z at *;obtain ⟨zn,rfl⟩:=Int.eq_ofNat_of_zero_le hz0;have ht:=HT.out (zn % 16) (by omega);have hmod:((zn:Int) % 16).toNat=zn % 16:=by omega
        have hm0:0≤(zn:Int) % 16:=by omega
        have hm1:(zn:Int) % 16 < 16:=by omega
        clear hzz;have hpl:=Gm.pick_text_le zs k;have htl:=(Gm.tab_le (zn % 16)).1;rw [show ((zn:Int)).toNat % 16=zn % 16 from by omega] at HPS;generalize hps:Gm.pick Gm.textTab zs k=ps at *;generalize hte:Gm.textTab.getD (zn % 16) []=te at *;have hsum:¬ 9223372036854775807 < ps.length+te.length:=by omega
        have HP:Hid _:=hps;have HTE:Hid _:=hte;clear hps hte
        go_wp2
        go_round
        case rel=>exact ⟨k+1,by omega,by go_num,by rw [HPS.out,str_app]⟩
        case measure=>simp [intOf];omega
      · have h2':¬ (k:Int) < 40:=by omega
        go_wp2
        go_ret
        refine ⟨?_,hbel⟩;rw [show min len 40=k from by omega];rfl
    · have h1':decide ((k:Int) < len)=false:=by simp;omega
      go_wp2
      go_ret
      refine ⟨?_,hbel⟩;rw [show min len 40=k from by omega];rfl
theorem IsRow.view {w:World} {a:Option Addr} {len cap:Nat} {zs:List Int} (h:IsRow .u8 w a len cap zs) :
    len≤zs.length∧len≤maxLen∧(∀ n ∈ zs,(Lit.int .u8 n).wf=true)∧(∀ i,i < len→∃ b off,a=some ⟨b,off,none⟩∧w.cell? ⟨b,off+i,none⟩=some (.int .u8 (zs.getD i 0))):=by
  rcases h with ⟨rfl,rfl,rfl,rfl⟩ | ⟨x,rfl,hl,hm,hz,hcell,hwz⟩
  · exact ⟨by simp,by simp [maxLen],by simp,fun i hi=>by omega⟩
  · refine ⟨by omega,by omega,hwz,fun i hi=>?_⟩
    obtain ⟨b,off,rfl,hc⟩:=ints_at hcell (by omega);exact ⟨b,off,rfl,hc i (by omega)⟩
end Go.Proofs.YtapcmbbhhclepaaGreatDoor
namespace Go.Proofs.YtapcmbbhhclepaaGreatDoor
structure V where
  kind:Int
  num:Int
  text:ByteArray
  keys:List ByteArray
  list:List V
namespace V
theorem ind {P:V→Prop} (h:∀ k n t ks l,(∀ x ∈ l,P x)→P ⟨k,n,t,ks,l⟩):∀ x,P x
  | ⟨k,n,t,ks,l⟩=>h k n t ks l (fun x _=>V.ind h x)
def wtK:List ByteArray→Nat
  | []=>0
  | k :: ks=>1+k.size+wtK ks
def wt:V→Nat
  | ⟨_,_,t,ks,l⟩=>1+t.size+wtK ks+(l.map (fun x=>wt x)).sum
def wtL (l:List V):Nat:=(l.map wt).sum
theorem wtL_nil:wtL []=0:=rfl
theorem wtL_cons (x:V) (l:List V):wtL (x :: l)=wt x+wtL l:=by simp [wtL]
theorem wt_mk (k n:Int) (t:ByteArray) (ks:List ByteArray) (l:List V):wt ⟨k,n,t,ks,l⟩=1+t.size+wtK ks+wtL l:=by rw [wt];rfl
theorem wt_pos (x:V):0 < wt x:=by cases x;rw [wt_mk];omega
theorem wtL_mem {l:List V}:∀ {x:V},x ∈ l→wt x≤wtL l:=by
  induction l with
  | nil=>intro x h;cases h
  | cons y l ih =>
    intro x h;simp only [wtL_cons];rcases List.mem_cons.1 h with rfl | h
    · omega
    · have:=ih h;omega
theorem wtL_len (l:List V):l.length≤wtL l:=by
  induction l with
  | nil=>simp
  | cons y l ih=>have:=wt_pos y;simp only [wtL_cons,List.length_cons];omega
theorem wtK_len (l:List ByteArray):l.length≤wtK l:=by
  induction l with
  | nil=>simp
  | cons y l ih=>simp only [wtK,List.length_cons];omega
theorem wtK_mem {l:List ByteArray}:∀ {x:ByteArray},x ∈ l→x.size < wtK l:=by
  induction l with
  | nil=>intro x h;cases h
  | cons y l ih =>
    intro x h;simp only [wtK];rcases List.mem_cons.1 h with rfl | h
    · omega
    · have:=ih h;omega
theorem wtL_append (a b:List V):wtL (a ++ b)=wtL a+wtL b:=by
  induction a with
  | nil=>simp [wtL_nil]
  | cons y l ih=>simp only [List.cons_append,wtL_cons,ih];omega
theorem wtK_append (a b:List ByteArray):wtK (a ++ b)=wtK a+wtK b:=by
  induction a with
  | nil=>simp [wtK]
  | cons y l ih=>simp only [List.cons_append,wtK,ih];omega
theorem wtL_take (l:List V) (n:Nat):wtL (l.take n)≤wtL l:=by
  have:=wtL_append (l.take n) (l.drop n)
  rw [List.take_append_drop] at this;omega
theorem wtL_drop (l:List V) (n:Nat):wtL (l.drop n)≤wtL l:=by
  have:=wtL_append (l.take n) (l.drop n)
  rw [List.take_append_drop] at this;omega
theorem wtK_take (l:List ByteArray) (n:Nat):wtK (l.take n)≤wtK l:=by
  have:=wtK_append (l.take n) (l.drop n)
  rw [List.take_append_drop] at this;omega
theorem wtK_drop (l:List ByteArray) (n:Nat):wtK (l.drop n)≤wtK l:=by
  have:=wtK_append (l.take n) (l.drop n)
  rw [List.take_append_drop] at this;omega
def utf (s:ByteArray):Bool:=decide (Gm.checkZ s.data.toList < 0)
def less (a b:ByteArray):Bool:=Op.bytesLess a.toList b.toList
def most:List Nat→Nat
  | []=>0
  | n :: l=>max n (most l)
def deep:V→Nat
  | ⟨k,_,_,_,l⟩=>if k=4∨k=5 then 1+most (l.map (fun x=>deep x)) else 0
def deepL (l:List V):Nat:=most (l.map deep)
theorem deepL_nil:deepL []=0:=rfl
theorem deepL_cons (x:V) (l:List V):deepL (x :: l)=max (deep x) (deepL l):=by simp [deepL,most]
theorem deep_mk (k n:Int) (t:ByteArray) (ks:List ByteArray) (l:List V):deep ⟨k,n,t,ks,l⟩=if k=4∨k=5 then 1+deepL l else 0:=by rw [deep];rfl
def kindOk (k:Int):Bool:=decide (0≤k) && decide (k≤5)
def numOk (k n:Int):Bool:=if k=1 then (n == 0) || (n == 1) else if k=2 then decide (-9007199254740991≤n) && decide (n≤9007199254740991) else n == 0
def textOk (k:Int) (t:ByteArray):Bool:=t.toList.isEmpty || ((k == 3) && utf t)
def keyOk (ks:List ByteArray) (j:Nat):Bool:=utf (ks.getD j ByteArray.empty) && ((j == 0) || less (ks.getD (j - 1) ByteArray.empty) (ks.getD j ByteArray.empty))
def risesTo (ks:List ByteArray):Nat→Bool
  | 0=>true
  | j+1=>risesTo ks j && keyOk ks j
def rises (ks:List ByteArray):Bool:=risesTo ks ks.length
theorem risesTo_mono {ks:List ByteArray} {j:Nat} (h:risesTo ks j=false):∀ {m:Nat},j≤m→risesTo ks m=false:=by
  intro m hm
  induction m with
  | zero => have:j=0:=by omega
            subst this;exact h
  | succ m ih =>
    rcases Nat.lt_or_ge m j with h1 | h1
    · have:j=m+1:=by omega
      subst this;exact h
    · simp [risesTo,ih h1]
theorem risesTo_iff (ks:List ByteArray) (m:Nat):risesTo ks m=true ↔ ∀ j,j < m→keyOk ks j=true:=by
  induction m with
  | zero=>simp [risesTo]
  | succ m ih =>
    simp only [risesTo,Bool.and_eq_true,ih];constructor
    · rintro ⟨h1,h2⟩ j hj
      rcases Nat.lt_or_ge j m with h | h
      · exact h1 j h
      · have:j=m:=by omega
        subst this;exact h2
    · intro h
      exact ⟨fun j hj=>h j (by omega),h m (by omega)⟩
def keysOk (k:Int) (ks:List ByteArray) (m:Nat):Bool:=if k=5 then rises ks && decide (ks.length=m) else ks.isEmpty
def right:V→Bool
  | ⟨k,n,t,ks,l⟩=>kindOk k && numOk k n && textOk k t && keysOk k ks l.length && (l.map (fun x=>right x)).all id && ((k == 4) || (k == 5) || l.isEmpty)
theorem right_mk (k n:Int) (t:ByteArray) (ks:List ByteArray) (l:List V):right ⟨k,n,t,ks,l⟩=(kindOk k && numOk k n && textOk k t && keysOk k ks l.length && l.all right && ((k == 4) || (k == 5) || l.isEmpty)):=by
  rw [right]
  congr 2
  rw [List.all_map];rfl
def place:V→ByteArray→Int
  | ⟨k,_,_,ks,l⟩,key=>if k=5 then Lib.idxOfS (ks.take (min ks.length l.length)) key else -1
def get:V→ByteArray→Option V
  | x,key=>if place x key < 0 then none else x.list[(place x key).toNat]?
def splice {α:Type} (l:List α) (a b:Nat) (mid:List α):List α:=l.take a ++ mid ++ l.drop b
def room (ks:List ByteArray) (key:ByteArray):Nat:=ks.findIdx (fun k=>!less k key)
def nul:V:=.mk 0 0 ⟨#[]⟩ [] []
def none5:V:=.mk 5 0 ⟨#[]⟩ [] []
def laid (x:V) (a b:Nat) (mk':List ByteArray) (ml:List V):V :=
  match x with
  | ⟨k,n,t,ks,l⟩=>.mk k n t (splice (ks.take (min ks.length l.length)) a b mk') (splice (l.take (min ks.length l.length)) a b ml)
def with5 (x:V) (key:ByteArray) (y:V):V :=
  if 0≤place x key then laid x (place x key).toNat ((place x key).toNat+1) [key] [y]
  else laid x (room (x.keys.take (min x.keys.length x.list.length)) key) (room (x.keys.take (min x.keys.length x.list.length)) key) [key] [y]
def withV (x:V) (key:ByteArray) (y:V):V:=if x.kind=5 then with5 x key y else with5 none5 key y
def without (x:V) (key:ByteArray):V :=
  if 0≤place x key then laid x (place x key).toNat ((place x key).toNat+1) [] [] else x
def str (s:ByteArray):V:=.mk 3 0 s [] []
def numV (n:Int):V:=.mk 2 n ⟨#[]⟩ [] []
end V
end Go.Proofs.YtapcmbbhhclepaaGreatDoor
namespace Go.Proofs.YtapcmbbhhclepaaGreatDoor
open Go.RowKit
def Cells (w:World) (S:Nat→Prop) (a:Option Addr) (m:Nat) (f:Nat→Value):Prop :=
  0 < m→∃ b off,a=some ⟨b,off,none⟩∧S b∧∀ i,i < m→w.cell? ⟨b,off+i,none⟩=some (f i)
def Keeps (S:Nat→Prop) (w w':World):Prop:=∀ b,S b→b < w.heap.size→w'.heap[b]? = w.heap[b]?
theorem Keeps.of_below {S:Nat→Prop} {w w':World} (h:Below w.heap.size w w'):Keeps S w w':=fun b _ hb=>h.block b hb
theorem cell_size {w:World} {b o:Nat} {v:Value} (h:w.cell? ⟨b,o,none⟩=some v):b < w.heap.size:=by
  rcases Nat.lt_or_ge b w.heap.size with h1 | h1
  · exact h1
  · simp [World.cell?,Array.getElem?_eq_none h1] at h
theorem Keeps.cell {S:Nat→Prop} {w w':World} (h:Keeps S w w') {b o:Nat} {v:Value} (hb:S b) (hc:w.cell? ⟨b,o,none⟩=some v):w'.cell? ⟨b,o,none⟩=some v:=by
  rw [← hc];exact World.cell?_of_block (w:=w) (h b hb (cell_size hc))
theorem Cells.keep {w w':World} {S:Nat→Prop} {a:Option Addr} {m:Nat} {f:Nat→Value} (h:Cells w S a m f) (k:Keeps S w w'):Cells w' S a m f:=by
  intro hm;obtain ⟨b,off,ha,hb,hc⟩:=h hm;exact ⟨b,off,ha,hb,fun i hi=>k.cell hb (hc i hi)⟩
theorem Cells.weak {w:World} {S S':Nat→Prop} {a:Option Addr} {m:Nat} {f:Nat→Value} (h:Cells w S a m f) (k:∀ b,b < w.heap.size→S b→S' b):Cells w S' a m f:=by
  intro hm;obtain ⟨b,off,ha,hb,hc⟩:=h hm;exact ⟨b,off,ha,k b (cell_size (hc 0 hm)) hb,hc⟩
theorem Cells.front {w:World} {S:Nat→Prop} {a:Option Addr} {m m':Nat} {f:Nat→Value} (h:Cells w S a m f) (k:m'≤m):Cells w S a m' f:=by
  intro hm;obtain ⟨b,off,ha,hb,hc⟩:=h (by omega);exact ⟨b,off,ha,hb,fun i hi=>hc i (by omega)⟩
theorem Cells.congr {w:World} {S:Nat→Prop} {a:Option Addr} {m:Nat} {f g:Nat→Value} (h:Cells w S a m f) (k:∀ i,i < m→f i=g i):Cells w S a m g:=by
  intro hm;obtain ⟨b,off,ha,hb,hc⟩:=h hm;exact ⟨b,off,ha,hb,fun i hi=>by rw [← k i hi];exact hc i hi⟩
def Strs (w:World) (S:Nat→Prop) (v:Value) (ks:List ByteArray):Prop :=
  ∃ a cap,v=.slice a ks.length cap∧ks.length≤cap∧cap≤maxLen∧(∀ k ∈ ks,k.size≤maxLen)∧Cells w S a ks.length (fun i=>.string (ks.getD i ByteArray.empty))
theorem Strs.out {w:World} {S:Nat→Prop} {a:Option Addr} {n cap:Nat} {ks:List ByteArray} (h:Strs w S (.slice a n cap) ks) :
    n=ks.length∧n≤cap∧cap≤maxLen∧(∀ k ∈ ks,k.size≤maxLen)∧Cells w S a ks.length (fun i=>.string (ks.getD i ByteArray.empty)):=by
  obtain ⟨a',cap',h1,h2,h3,h4,h5⟩:=h;simp only [Value.slice.injEq] at h1;obtain ⟨rfl,rfl,rfl⟩:=h1;exact ⟨rfl,h2,h3,h4,h5⟩
theorem getD_size {ks:List ByteArray} (h:∀ k ∈ ks,k.size≤maxLen) (i:Nat):(ks.getD i ByteArray.empty).size≤maxLen:=by
  rcases Nat.lt_or_ge i ks.length with hi | hi
  · have e:ks.getD i ByteArray.empty=ks[i]:=by simp [List.getD,hi]
    rw [e];exact h _ (List.getElem_mem hi)
  · have e:ks.getD i ByteArray.empty=ByteArray.empty:=by simp [List.getD,List.getElem?_eq_none hi]
    rw [e];decide
theorem Strs.keep {w w':World} {S:Nat→Prop} {v:Value} {ks:List ByteArray} (h:Strs w S v ks) (k:Keeps S w w'):Strs w' S v ks:=by
  obtain ⟨a,cap,h1,h2,h3,h4,h5⟩:=h;exact ⟨a,cap,h1,h2,h3,h4,h5.keep k⟩
theorem Strs.weak {w:World} {S S':Nat→Prop} {v:Value} {ks:List ByteArray} (h:Strs w S v ks) (k:∀ b,b < w.heap.size→S b→S' b):Strs w S' v ks:=by
  obtain ⟨a,cap,h1,h2,h3,h4,h5⟩:=h;exact ⟨a,cap,h1,h2,h3,h4,h5.weak k⟩
theorem str_at' {w w':World} {S:Nat→Prop} {a:Option Addr} {ks:List ByteArray} (h:Cells w S a ks.length (fun i=>.string (ks.getD i ByteArray.empty))) (k:Below w.heap.size w w') {i:Nat} (hi:i < ks.length) :
    ∃ b off K,a=some ⟨b,off,none⟩∧Hid (K=ks.getD i ByteArray.empty)∧w'.cell? ⟨b,off+i,none⟩=some (.string K):=by
  obtain ⟨b,off,ha,_,hc⟩:=(h.keep (Keeps.of_below k)) (by omega);exact ⟨b,off,_,ha,rfl,hc i hi⟩
theorem getD_wt {ks:List ByteArray} {n:Nat} (h:V.wtK ks≤n) {i:Nat} (hi:i < ks.length):(ks.getD i ByteArray.empty).size≤n:=by
  have e:ks.getD i ByteArray.empty=ks[i]:=by simp [List.getD,hi]
  have:=V.wtK_mem (List.getElem_mem hi)
  rw [e];omega
def elemV (c:Nat→Value) (i:Nat):Value:=.agg #[c (i * 5),c (i * 5+1),c (i * 5+2),c (i * 5+3),c (i * 5+4)]
def IsD (w:World) (S:Nat→Prop):Nat→Value→V→Prop
  | 0,_,_=>False
  | d+1,v,x=>∃ kv a cap c,v=.agg #[.int .i64 x.kind,.int .i64 x.num,.string x.text,kv,.slice a x.list.length cap]∧Strs w S kv x.keys ∧
      x.list.length≤cap∧cap≤maxLen∧x.text.size≤maxLen∧Cells w S a (x.list.length * 5) c∧∀ i (h:i < x.list.length),IsD w S d (elemV c i) x.list[i]
def Is (w:World) (S:Nat→Prop) (v:Value) (x:V):Prop:=∃ d,IsD w S d v x
def IsL (w:World) (S:Nat→Prop) (v:Value) (l:List V):Prop :=
  ∃ a cap c,v=.slice a l.length cap∧l.length≤cap∧cap≤maxLen∧Cells w S a (l.length * 5) c∧∀ i (h:i < l.length),Is w S (elemV c i) l[i]
theorem IsD.succ {w:World} {S:Nat→Prop}:∀ {d:Nat} {v:Value} {x:V},IsD w S d v x→IsD w S (d+1) v x
  | 0,_,_,h=>h.elim
  | d+1,v,x,h=>by
    obtain ⟨kv,a,cap,c,h1,h2,h3,h4,h5,h6,h7⟩:=h;exact ⟨kv,a,cap,c,h1,h2,h3,h4,h5,h6,fun i hi=>(h7 i hi).succ⟩
theorem IsD.le {w:World} {S:Nat→Prop} {d:Nat} {v:Value} {x:V} (h:IsD w S d v x):∀ {e:Nat},d≤e→IsD w S e v x:=by
  intro e he
  induction e with
  | zero => have:d=0:=by omega
            subst this;exact h
  | succ e ih =>
    rcases Nat.lt_or_ge e d with h1 | h1
    · have:d=e+1:=by omega
      subst this;exact h
    · exact (ih h1).succ
theorem IsD.keep {w w':World} {S:Nat→Prop}:∀ {d:Nat} {v:Value} {x:V},IsD w S d v x→Keeps S w w'→IsD w' S d v x
  | 0,_,_,h,_=>h.elim
  | d+1,v,x,h,k=>by
    obtain ⟨kv,a,cap,c,h1,h2,h3,h4,h5,h6,h7⟩:=h;exact ⟨kv,a,cap,c,h1,h2.keep k,h3,h4,h5,h6.keep k,fun i hi=>(h7 i hi).keep k⟩
theorem IsD.weak {w:World} {S S':Nat→Prop}:∀ {d:Nat} {v:Value} {x:V},IsD w S d v x→(∀ b,b < w.heap.size→S b→S' b)→IsD w S' d v x
  | 0,_,_,h,_=>h.elim
  | d+1,v,x,h,k=>by
    obtain ⟨kv,a,cap,c,h1,h2,h3,h4,h5,h6,h7⟩:=h;exact ⟨kv,a,cap,c,h1,h2.weak k,h3,h4,h5,h6.weak k,fun i hi=>(h7 i hi).weak k⟩
theorem Is.keep {w w':World} {S:Nat→Prop} {v:Value} {x:V} (h:Is w S v x) (k:Keeps S w w'):Is w' S v x:=h.elim fun d hd=>⟨d,hd.keep k⟩
theorem Is.below {w w':World} {S:Nat→Prop} {v:Value} {x:V} (h:Is w S v x) (k:Below w.heap.size w w'):Is w' S v x:=h.keep (Keeps.of_below k)
theorem Is.weak {w:World} {S S':Nat→Prop} {v:Value} {x:V} (h:Is w S v x) (k:∀ b,b < w.heap.size→S b→S' b):Is w S' v x:=h.elim fun d hd=>⟨d,hd.weak k⟩
theorem IsL.keep {w w':World} {S:Nat→Prop} {v:Value} {l:List V} (h:IsL w S v l) (k:Keeps S w w'):IsL w' S v l:=by
  obtain ⟨a,cap,c,h1,h2,h3,h4,h5⟩:=h;exact ⟨a,cap,c,h1,h2,h3,h4.keep k,fun i hi=>(h5 i hi).keep k⟩
theorem IsL.below {w w':World} {S:Nat→Prop} {v:Value} {l:List V} (h:IsL w S v l) (k:Below w.heap.size w w'):IsL w' S v l:=h.keep (Keeps.of_below k)
theorem IsL.weak {w:World} {S S':Nat→Prop} {v:Value} {l:List V} (h:IsL w S v l) (k:∀ b,b < w.heap.size→S b→S' b):IsL w S' v l:=by
  obtain ⟨a,cap,c,h1,h2,h3,h4,h5⟩:=h;exact ⟨a,cap,c,h1,h2,h3,h4.weak k,fun i hi=>(h5 i hi).weak k⟩
theorem Strs.below {w w':World} {S:Nat→Prop} {v:Value} {l:List ByteArray} (h:Strs w S v l) (k:Below w.heap.size w w'):Strs w' S v l:=h.keep (Keeps.of_below k)
theorem strs_nil (w:World) (S:Nat→Prop):Strs w S (.slice none 0 0) []:=⟨none,0,rfl,Nat.le_refl _,by decide,by simp,fun hh=>absurd hh (by simp)⟩
theorem isL_nil (w:World) (S:Nat→Prop):IsL w S (.slice none 0 0) []:=⟨none,0,fun _=>undef,rfl,Nat.le_refl _,by decide,fun hh=>absurd hh (by simp),fun i hi=>absurd hi (by simp)⟩
theorem all_le (n:Nat) (P:Nat→Nat→Prop) (hP:∀ i d e,P i d→d≤e→P i e) (h:∀ i,i < n→∃ d,P i d):∃ d,∀ i,i < n→P i d:=by
  induction n with
  | zero=>exact ⟨0,fun i hi=>by omega⟩
  | succ n ih =>
    obtain ⟨d,hd⟩:=ih (fun i hi=>h i (by omega));obtain ⟨e,he⟩:=h n (by omega);refine ⟨max d e,fun i hi=>?_⟩;rcases Nat.lt_or_ge i n with h1 | h1
    · exact hP i d _ (hd i h1) (by omega)
    · have:i=n:=by omega
      subst this;exact hP i e _ he (by omega)
theorem Is.open {w:World} {S:Nat→Prop} {v:Value} {x:V} (h:Is w S v x) :
    ∃ kv lv,v=.agg #[.int .i64 x.kind,.int .i64 x.num,.string x.text,kv,lv]∧Strs w S kv x.keys∧IsL w S lv x.list∧x.text.size≤maxLen:=by
  obtain ⟨d,h⟩:=h;cases d with
  | zero=>exact h.elim
  | succ d =>
    obtain ⟨kv,a,cap,c,h1,h2,h3,h4,h5,h6,h7⟩:=h;exact ⟨kv,_,h1,h2,⟨a,cap,c,rfl,h3,h4,h6,fun i hi=>⟨d,h7 i hi⟩⟩,h5⟩
theorem Is.shut {w:World} {S:Nat→Prop} {x:V} {kv lv:Value} (h1:Strs w S kv x.keys) (h2:IsL w S lv x.list) (h3:x.text.size≤maxLen) :
    Is w S (.agg #[.int .i64 x.kind,.int .i64 x.num,.string x.text,kv,lv]) x:=by
  obtain ⟨a,cap,c,rfl,h4,h5,h6,h7⟩:=h2
  obtain ⟨d,hd⟩:=all_le x.list.length (fun i d=>∀ h:i < x.list.length,IsD w S d (elemV c i) x.list[i]) (fun i d e hp hde hi=>(hp hi).le hde)
    (fun i hi=>by obtain ⟨d,hd⟩:=h7 i hi;exact ⟨d,fun _=>hd⟩)
  exact ⟨d+1,kv,a,cap,c,rfl,h1,h4,h5,h3,h6,fun i hi=>hd i hi hi⟩
theorem elem_cells {w:World} {S:Nat→Prop} {a:Option Addr} {n:Nat} {c:Nat→Value} (h:Cells w S a (n * 5) c) {i:Nat} (hi:i < n) :
    ∃ b off,a=some ⟨b,off,none⟩∧S b∧w.cell? ⟨b,off+i * 5,none⟩=some (c (i * 5))∧w.cell? ⟨b,off+i * 5+1,none⟩=some (c (i * 5+1))∧w.cell? ⟨b,off+i * 5+2,none⟩=some (c (i * 5+2))∧w.cell? ⟨b,off+i * 5+3,none⟩=some (c (i * 5+3))∧w.cell? ⟨b,off+i * 5+4,none⟩=some (c (i * 5+4)):=by
  obtain ⟨b,off,ha,hb,hc⟩:=h (by omega);refine ⟨b,off,ha,hb,hc _ (by omega),?_,?_,?_,?_⟩
  · rw [Nat.add_assoc];exact hc _ (by omega)
  · rw [Nat.add_assoc];exact hc _ (by omega)
  · rw [Nat.add_assoc];exact hc _ (by omega)
  · rw [Nat.add_assoc];exact hc _ (by omega)
theorem elem_open {w w':World} {S:Nat→Prop} {a:Option Addr} {n d:Nat} {c:Nat→Value} {x:V} (h:Cells w S a (n * 5) c) (k:Below w.heap.size w w') {i:Nat} (hi:i < n) (hx:IsD w S d (elemV c i) x) :
    ∃ b off k n t a1 n1 c1 a2 n2 c2,a=some ⟨b,off,none⟩∧IsD w' S d (.agg #[.int .i64 k,.int .i64 n,.string t,.slice a1 n1 c1,.slice a2 n2 c2]) x∧w'.cell? ⟨b,off+i * 5,none⟩=some (.int .i64 k)∧w'.cell? ⟨b,off+i * 5+1,none⟩=some (.int .i64 n)∧w'.cell? ⟨b,off+i * 5+2,none⟩=some (.string t)∧w'.cell? ⟨b,off+i * 5+3,none⟩=some (.slice a1 n1 c1)∧w'.cell? ⟨b,off+i * 5+4,none⟩=some (.slice a2 n2 c2):=by
  obtain ⟨b,off,ha,hb,e0,e1,e2,e3,e4⟩:=elem_cells (h.keep (Keeps.of_below k)) hi;have hx':=hx.keep (Keeps.of_below k);cases d with
  | zero=>exact hx.elim
  | succ d =>
    obtain ⟨kv,a2,c2,cc,q,⟨a1,c1,rfl,_⟩,_⟩:=hx;have hq:=q;unfold elemV at hq hx';simp only [Value.agg.injEq,Array.mk.injEq,List.cons.injEq,and_true] at hq;obtain ⟨q0,q1,q2,q3,q4⟩:=hq;rw [q0] at e0;rw [q1] at e1;rw [q2] at e2;rw [q3] at e3;rw [q4] at e4;rw [q0,q1,q2,q3,q4] at hx';exact ⟨b,off,_,_,_,_,_,_,_,_,_,ha,hx',e0,e1,e2,e3,e4⟩
def Box5 (w:World) (g:Nat) (c0 c1 c2 c3 c4:Value):Prop :=
  w.cell? ⟨g,0,none⟩=some c0∧w.cell? ⟨g,1,none⟩=some c1∧w.cell? ⟨g,2,none⟩=some c2∧w.cell? ⟨g,3,none⟩=some c3∧w.cell? ⟨g,4,none⟩=some c4
theorem box5_new (w:World) (c0 c1 c2 c3 c4:Value) (t:TypeId):Box5 (w.alloc (.cells #[c0,c1,c2,c3,c4] t)) w.heap.size c0 c1 c2 c3 c4:=by
  refine ⟨?_,?_,?_,?_,?_⟩ <;> simp only [World.cell?,World.alloc,Array.getElem?_push_size] <;> rfl
theorem Box5.keep {w w':World} {g:Nat} {c0 c1 c2 c3 c4:Value} (h:Box5 w g c0 c1 c2 c3 c4) (k:Below w.heap.size w w'):Box5 w' g c0 c1 c2 c3 c4:=by
  obtain ⟨h0,h1,h2,h3,h4⟩:=h;have kk:Keeps (fun _=>True) w w':=Keeps.of_below k;exact ⟨kk.cell trivial h0,kk.cell trivial h1,kk.cell trivial h2,kk.cell trivial h3,kk.cell trivial h4⟩
theorem cell_keep {w w':World} {b o:Nat} {v:Value} (h:w.cell? ⟨b,o,none⟩=some v) (k:Below w.heap.size w w'):w'.cell? ⟨b,o,none⟩=some v :=
  (Keeps.of_below (S:=fun _=>True) k).cell trivial h
theorem below_alloc (w:World) (o:Obj):Below w.heap.size w (w.alloc o):=(Below.refl _ _).alloc (Nat.le_refl _) _
theorem cell_new (w:World) (v:Value) (t:TypeId) (g:Nat) (h:g=w.heap.size):(w.alloc (.cells #[v] t)).cell? ⟨g,0,none⟩=some v:=by
  subst h;simp only [World.cell?,World.alloc,Array.getElem?_push_size];rfl
theorem bthen {a b c:World} (h:Below a.heap.size a b) (k:Below b.heap.size b c):Below a.heap.size a c:=h.trans (k.mono h.size)
end Go.Proofs.YtapcmbbhhclepaaGreatDoor
