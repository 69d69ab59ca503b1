/-
  What this claim takes of the earlier layers' texts: CMathP CRefN VVal VBlock.
-/
import Derived.Test.YtapcmbbhhclepaaGreatDoorM14
set_option linter.unusedVariables false
set_option linter.unusedSimpArgs false
set_option maxRecDepth 100000
namespace Go.Proofs.YtapcmbbhhclepaaGreatDoor
namespace Cn
def lens (ls:List (List UInt8)):Nat:=(ls.map List.length).sum
theorem lens_cons (a:List UInt8) (l:List (List UInt8)):lens (a :: l)=a.length+lens l:=by simp [lens]
theorem lens_nil:lens []=0:=rfl
theorem joined_ge:∀ (ls:List (List UInt8)),lens ls≤(joined ls).length
  | []=>Nat.zero_le _
  | [a]=>by rw [joined_one,lens_cons,lens_nil];omega
  | a :: b :: ls=>by
    rw [joined_two,List.length_append,List.length_cons,lens_cons];have:=joined_ge (b :: ls)
    omega
theorem esc_pos':∀ n ∈ List.range 256,1≤(Gm.esc (UInt8.ofNat n)).length:=by decide +kernel
theorem esc_pos (c:UInt8):1≤(Gm.esc c).length:=by
  have h:=esc_pos' c.toNat (List.mem_range.2 c.toNat_lt)
  rwa [UInt8.ofNat_toNat] at h
theorem flat_ge (l:List UInt8):l.length≤(l.flatMap Gm.esc).length:=by
  induction l with
  | nil=>exact Nat.zero_le _
  | cons c l ih =>
    rw [List.flatMap_cons,List.length_append,List.length_cons];have:=esc_pos c
    omega
theorem quote_ge (l:List UInt8):l.length+2≤(Gm.quote l).length:=by
  unfold Gm.quote;rw [List.length_cons,List.length_append,List.length_singleton];have:=flat_ge l
  omega
theorem size_len (s:ByteArray):s.data.toList.length=s.size:=by simp
theorem wtL_rows:∀ (l:List V),(∀ x ∈ l,V.wt x≤(print x).length)→V.wtL l≤lens (l.map print)
  | [],_=>Nat.le_refl _
  | x :: l,h=>by
    rw [V.wtL_cons,List.map_cons,lens_cons];have h1:=h x (by simp);have h2:=wtL_rows l (fun y hy=>h y (by simp [hy]));omega
theorem wtO_rows:∀ (ks:List ByteArray) (l:List V),ks.length=l.length→(∀ x ∈ l,V.wt x≤(print x).length) →
    V.wtK ks+V.wtL l≤lens ((ks.zip (l.map print)).map (fun p=>Gm.quote p.1.data.toList ++ 58 :: p.2))
  | [],[],_,_=>Nat.le_refl _
  | [],_ :: _,h,_=>by simp at h
  | _ :: _,[],h,_=>by simp at h
  | k :: ks,x :: l,h,hx=>by
    rw [V.wtL_cons,V.wtK,List.map_cons,List.zip_cons_cons,List.map_cons,lens_cons,List.length_append,List.length_cons];have h1:=hx x (by simp);have h2:=wtO_rows ks l (by simpa using h) (fun y hy=>hx y (by simp [hy]));have h3:=quote_ge k.data.toList;rw [size_len] at h3;simp only at h3 ⊢;omega
theorem wt_print:∀ v:V,V.right v=true→V.wt v≤(print v).length:=by
  intro v
  induction v using V.ind with
  | h k n t ks l ih =>
    intro hr
    have hpos:1≤(print ⟨k,n,t,ks,l⟩).length:=by
      obtain ⟨c,u,e,_⟩:=print_head hr;rw [e,List.length_cons];omega
    rcases right_cases hr with h | ⟨b,h⟩ | ⟨m,h,_,_⟩ | ⟨s,h,_⟩ | ⟨l',h,hl'⟩ | ⟨ks',l',h,_,hlen,hl'⟩
    · rw [h] at hpos ⊢
      have e:V.wt V.nul=1:=by unfold V.nul;rw [V.wt_mk];rfl
      omega
    · rw [h] at hpos ⊢
      have e:V.wt (truth b)=1:=by unfold truth;rw [V.wt_mk];rfl
      omega
    · rw [h] at hpos ⊢
      have e:V.wt (V.numV m)=1:=by unfold V.numV;rw [V.wt_mk];rfl
      omega
    · rw [h,print_str]
      unfold V.str;rw [V.wt_mk];have:=quote_ge s.data.toList
      rw [size_len] at this;simp only [V.wtK,V.wtL,List.map_nil,List.sum_nil];omega
    · have e:l=l':=by
        unfold listV at h
        injection h
      subst e;rw [h,print_list,List.length_cons,List.length_append,List.length_singleton];unfold listV;rw [V.wt_mk];have h1:=joined_ge (l.map print);have h2:=wtL_rows l (fun x hx=>ih x hx (List.all_eq_true.1 hl' x hx));have h3:(⟨#[]⟩:ByteArray).size=0:=rfl;simp only [V.wtK];omega
    · injection h with e1 e2 e3 e4 e5
      subst e1 e2 e3 e4 e5;rw [print_obj,List.length_cons,List.length_append,List.length_singleton,V.wt_mk];have h1:=joined_ge ((ks.zip (l.map print)).map (fun p=>Gm.quote p.1.data.toList ++ 58 :: p.2));have h2:=wtO_rows ks l hlen (fun x hx=>ih x hx (List.all_eq_true.1 hl' x hx));have h3:(⟨#[]⟩:ByteArray).size=0:=rfl;omega
theorem objV_wt {d:Nat} {acc:List (ByteArray×V)} (h:FitO d acc) (hd:0 < d):V.wt (objV acc)≤tot (acc.map pairRow)+2:=by
  have h1:=wt_print _ (fit_obj h hd).1;have h2:=objV_tot acc [] [] rfl ⟨by simp,by simp⟩ h (by simp)
  have e:(print (objV acc)).length≤tot (acc.map pairRow)+2:=by
    refine Nat.le_trans h2 ?_;simp [tot_nil]
  omega
theorem objV_snoc (acc:List (ByteArray×V)) (p:ByteArray×V):objV (acc ++ [p])=V.withV (objV acc) p.1 p.2:=by
  unfold objV;rw [List.foldl_append];rfl
def left {α:Type} (o:Except Er (α×List UInt8)):List UInt8:=match o with | .ok x=>x.2 | .error e=>e.2
def code {α:Type} (o:Except Er (α×List UInt8)):Int:=match o with | .ok _=>0 | .error e=>e.1
def pmany (P:List UInt8→Except Er (V×List UInt8)) (last:UInt8) (u:List UInt8):Except Er (V×List UInt8) :=
  if last=93 then
    match u with
    | 93 :: t=>.ok (listV [],t)
    | u=>match serL P (u.length+1) u [] with | .error e=>.error e | .ok x=>.ok (listV x.1,x.2)
  else
    match u with
    | 125 :: t=>.ok (V.none5,t)
    | u=>match serO P (u.length+1) u [] with | .error e=>.error e | .ok x=>.ok (objV x.1,x.2)
end Cn
end Go.Proofs.YtapcmbbhhclepaaGreatDoor
namespace Go.Proofs.YtapcmbbhhclepaaGreatDoor
open Go.RowKit
def Told (B:Nat) (s:ByteArray) (d:Nat) (o:Except Cn.Er (V×List UInt8)) (e':Ending) (w':World):Prop :=
  ∃ (a':Nat) (k n:Int) (t:ByteArray) (a1:Option Addr) (n1 c1:Nat) (a2:Option Addr) (n2 c2:Nat) (y:V),e'=.returned (.tuple #[St s a' (Cn.code o) d,.agg #[.int .i64 k,.int .i64 n,.string t,.slice a1 n1 c1,.slice a2 n2 c2]])∧At s a' (Cn.left o) ∧
    Is w' (fun b=>B≤b) (.agg #[.int .i64 k,.int .i64 n,.string t,.slice a1 n1 c1,.slice a2 n2 c2]) y∧∀ x r,o=.ok (x,r)→y=x
theorem is_bare (w:World) (S:Nat→Prop) (k n:Int) (t:ByteArray) (ht:t.size≤maxLen):Is w S (.agg #[.int .i64 k,.int .i64 n,.string t,.slice none 0 0,.slice none 0 0]) ⟨k,n,t,[],[]⟩ :=
  Is.shut (x:=⟨k,n,t,[],[]⟩) (strs_nil w S) (isL_nil w S) ht
theorem told_ok {B:Nat} {s:ByteArray} {a' d:Nat} {r:List UInt8} {k n:Int} {o:Except Cn.Er (V×List UInt8)} {e':Ending} {w':World} (h:At s a' r) (ho:o=.ok (⟨k,n,⟨#[]⟩,[],[]⟩,r)) (he:e'=.returned (.tuple #[St s a' 0 d,.agg #[.int .i64 k,.int .i64 n,.string ⟨#[]⟩,.slice none 0 0,.slice none 0 0]])):Told B s d o e' w':=by
  subst ho;exact ⟨a',k,n,⟨#[]⟩,none,0,0,none,0,0,_,he,h,is_bare w' _ k n ⟨#[]⟩ (by decide),fun x r hx=>by cases hx;rfl⟩
end Go.Proofs.YtapcmbbhhclepaaGreatDoor
namespace Go.Proofs.YtapcmbbhhclepaaGreatDoor
namespace V
def keyTab:List ByteArray:=[⟨#[97]⟩,⟨#[98]⟩,⟨#[109,101,109,98,101,114,115,104,105,112]⟩,⟨#[117,115,101,114,115]⟩,⟨#[195,169]⟩,⟨#[101,118,101,110,116,115]⟩,⟨#[120]⟩,⟨#[116,121,112,101]⟩]
def kidsN (c:Int) (l:List V):Nat:=min (c % 4).toNat l.length
def objKey (c:Int) (j:Nat):ByteArray:=keyTab.getD ((c.toNat / 4+3 * j) % 8) ByteArray.empty
def objTo (c:Int) (kids:List V):Nat→V
  | 0=>none5
  | j+1=>withV (objTo c kids j) (objKey c j) (kids.getD j nul)
def textRaw (zs:List Int) (len i:Nat):ByteArray:=⟨(Gm.pick Gm.textTab (zs.drop i) (min (min len (i+3) - i) 40)).toArray⟩
def textOf (zs:List Int) (len i:Nat):ByteArray:=if 0≤Gm.checkZ (textRaw zs len i).data.toList then ⟨#[122]⟩ else textRaw zs len i
def stepL (b c:Int) (l:List V):List V:=if b=7∨b=8∨b=9∨b=10 then l.take (l.length - kidsN c l) else l
def stepX (zs:List Int) (len i:Nat) (b c:Int) (l:List V):V :=
  if b=0 then ⟨1,c % 2,⟨#[]⟩,[],[]⟩
  else if b=1∨b=2∨b=3 then ⟨2,c - 100,⟨#[]⟩,[],[]⟩
  else if b=4 then ⟨2,9007199254740991 - c % 2,⟨#[]⟩,[],[]⟩
  else if b=5∨b=6 then ⟨3,0,textOf zs len i,[],[]⟩
  else if b=7 then ⟨4,0,⟨#[]⟩,[],l.drop (l.length - kidsN c l)⟩
  else if b=8∨b=9∨b=10 then objTo c (l.drop (l.length - kidsN c l)) (kidsN c l)
  else nul
def stepV (zs:List Int) (len i:Nat) (l:List V):List V :=
  stepL (zs.getD i 0 % 12) (zs.getD (i+1) 0) l ++ [stepX zs len i (zs.getD i 0 % 12) (zs.getD (i+1) 0) l]
def valTo (zs:List Int) (len:Nat):Nat→List V
  | 0=>[]
  | r+1=>stepV zs len (2 * r) (valTo zs len r)
def valV (zs:List Int) (len:Nat):V:=⟨4,0,⟨#[]⟩,[],valTo zs len (min 30 (len / 2))⟩
theorem wtK_splice (l:List ByteArray) (a b:Nat) (h:a≤b) (mid:List ByteArray):wtK (splice l a b mid)≤wtK l+wtK mid:=by
  unfold splice;rw [wtK_append,wtK_append];have h1:=wtK_append (l.take a) (l.drop a);rw [List.take_append_drop] at h1;have h2:l.drop b=(l.drop a).drop (b - a):=by rw [List.drop_drop];congr 1;omega
  have h3:=wtK_drop (l.drop a) (b - a);rw [← h2] at h3;omega
theorem wtL_splice (l:List V) (a b:Nat) (h:a≤b) (mid:List V):wtL (splice l a b mid)≤wtL l+wtL mid:=by
  unfold splice;rw [wtL_append,wtL_append];have h1:=wtL_append (l.take a) (l.drop a);rw [List.take_append_drop] at h1;have h2:l.drop b=(l.drop a).drop (b - a):=by rw [List.drop_drop];congr 1;omega
  have h3:=wtL_drop (l.drop a) (b - a);rw [← h2] at h3;omega
theorem wt_laid_le (x:V) (a b:Nat) (h:a≤b) (mk':List ByteArray) (ml:List V):wt (laid x a b mk' ml)≤wt x+wtK mk'+wtL ml:=by
  obtain ⟨k,n,t,ks,l⟩:=x;simp only [laid,wt_mk];have h1:=wtK_splice (ks.take (min ks.length l.length)) a b h mk';have h2:=wtK_take ks (min ks.length l.length);have h3:=wtL_splice (l.take (min ks.length l.length)) a b h ml;have h4:=wtL_take l (min ks.length l.length);omega
theorem wt_with_le (x:V) (key:ByteArray) (y:V):wt (withV x key y)≤wt x+1+key.size+wt y:=by
  have e1:wtK [key]=1+key.size:=by simp [wtK]
  have e2:wtL [y]=wt y:=by rw [wtL_cons,wtL_nil];omega
  have h5:∀ z:V,wt (with5 z key y)≤wt z+(1+key.size)+wt y:=by
    intro z;unfold with5
    split
    · have:=wt_laid_le z (place z key).toNat ((place z key).toNat+1) (by omega) [key] [y];omega
    · have:=wt_laid_le z (room (z.keys.take (min z.keys.length z.list.length)) key) (room (z.keys.take (min z.keys.length z.list.length)) key) (Nat.le_refl _) [key] [y];omega
  unfold withV
  split
  · have:=h5 x;omega
  · have:=h5 none5
    have e3:wt none5=1:=by unfold none5;rw [wt_mk];rfl
    have:=wt_pos x
    omega
theorem kind_laid (x:V) (a b:Nat) (mk':List ByteArray) (ml:List V):(laid x a b mk' ml).kind=x.kind:=by obtain ⟨k,n,t,ks,l⟩:=x;rfl
theorem kind_with (x:V) (key:ByteArray) (y:V):(withV x key y).kind=5:=by
  unfold withV with5
  split
  · rename_i h
    split
    · rw [kind_laid];exact h
    · rw [kind_laid];exact h
  · split <;> rw [kind_laid] <;> rfl
theorem kind_obj (c:Int) (kids:List V) (j:Nat):(objTo c kids j).kind=5:=by
  cases j with
  | zero=>rfl
  | succ j=>exact kind_with _ _ _
theorem objKey_size (c:Int) (j:Nat):(objKey c j).size≤10:=by
  unfold objKey;have h:(c.toNat / 4+3 * j) % 8 < 8:=Nat.mod_lt _ (by decide);generalize (c.toNat / 4+3 * j) % 8=q at h;have:q=0∨q=1∨q=2∨q=3∨q=4∨q=5∨q=6∨q=7:=by omega
  rcases this with rfl | rfl | rfl | rfl | rfl | rfl | rfl | rfl <;> decide
theorem wt_obj (c:Int) (kids:List V) (j:Nat) (hj:j≤kids.length):wt (objTo c kids j)≤1+11 * j+wtL (kids.take j):=by
  induction j with
  | zero =>
    have e3:wt none5=1:=by unfold none5;rw [wt_mk];rfl
    simp only [objTo,e3];omega
  | succ j ih =>
    have h1:=wt_with_le (objTo c kids j) (objKey c j) (kids.getD j nul);have h2:=ih (by omega);have h3:=objKey_size c j;have h4:kids.getD j nul=kids[j]:=by simp [List.getD,List.getElem?_eq_getElem (show j < kids.length by omega)]
    have h5:wtL (kids.take (j+1))=wtL (kids.take j)+wt kids[j]:=by
      rw [List.take_succ_eq_append_getElem (by omega),wtL_append,wtL_cons,wtL_nil];omega
    simp only [objTo];rw [h4] at h1;rw [h5,h4];omega
theorem pick_len (zs:List Int) (n:Nat):(Gm.pick Gm.textTab zs n).length≤4 * n:=by
  unfold Gm.pick
  have hb:∀ q:Nat,(Gm.textTab.getD q []).length≤4:=by
    intro q
    by_cases h:q < 16
    · have:q=0∨q=1∨q=2∨q=3∨q=4∨q=5∨q=6∨q=7∨q=8∨q=9∨q=10∨q=11∨q=12∨q=13∨q=14∨q=15:=by omega
      rcases this with rfl | rfl | rfl | rfl | rfl | rfl | rfl | rfl | rfl | rfl | rfl | rfl | rfl | rfl | rfl | rfl <;> decide
    · have:Gm.textTab.getD q []=[]:=by simp [List.getD,List.getElem?_eq_none (show Gm.textTab.length≤q by simp [Gm.textTab];omega)]
      rw [this];simp
  have hg:∀ l:List Int,(l.flatMap fun z=>Gm.textTab.getD (z.toNat % 16) []).length≤4 * l.length:=by
    intro l
    induction l with
    | nil=>simp
    | cons z l ih =>
      rw [List.flatMap_cons,List.length_append,List.length_cons];have:=hb (z.toNat % 16)
      omega
  have:=hg (zs.take n)
  have h2:(zs.take n).length≤n:=by rw [List.length_take];omega
  omega
theorem textRaw_size (zs:List Int) (len i:Nat):(textRaw zs len i).size≤12:=by
  unfold textRaw;have:=pick_len (zs.drop i) (min (min len (i+3) - i) 40)
  show (Gm.pick Gm.textTab (zs.drop i) (min (min len (i+3) - i) 40)).toArray.size≤12
  rw [List.size_toArray];omega
theorem textOf_size (zs:List Int) (len i:Nat):(textOf zs len i).size≤12:=by
  unfold textOf
  split
  · decide
  · exact textRaw_size _ _ _
section
variable {zs:List Int} {len i:Nat} {b c:Int} {l:List V}
theorem stepX_0 (h:b=0):stepX zs len i b c l=⟨1,c % 2,⟨#[]⟩,[],[]⟩:=by unfold stepX;rw [if_pos h]
theorem stepX_1 (h:b=1∨b=2∨b=3):stepX zs len i b c l=⟨2,c - 100,⟨#[]⟩,[],[]⟩:=by unfold stepX;rw [if_neg (by omega),if_pos h]
theorem stepX_4 (h:b=4):stepX zs len i b c l=⟨2,9007199254740991 - c % 2,⟨#[]⟩,[],[]⟩:=by unfold stepX;rw [if_neg (by omega),if_neg (by omega),if_pos h]
theorem stepX_5 (h:b=5∨b=6):stepX zs len i b c l=⟨3,0,textOf zs len i,[],[]⟩:=by unfold stepX;rw [if_neg (by omega),if_neg (by omega),if_neg (by omega),if_pos h]
theorem stepX_7 (h:b=7):stepX zs len i b c l=⟨4,0,⟨#[]⟩,[],l.drop (l.length - kidsN c l)⟩:=by unfold stepX;rw [if_neg (by omega),if_neg (by omega),if_neg (by omega),if_neg (by omega),if_pos h]
theorem stepX_8 (h:b=8∨b=9∨b=10):stepX zs len i b c l=objTo c (l.drop (l.length - kidsN c l)) (kidsN c l):=by unfold stepX;rw [if_neg (by omega),if_neg (by omega),if_neg (by omega),if_neg (by omega),if_neg (by omega),if_pos h]
theorem stepX_e (h:b < 0∨10 < b):stepX zs len i b c l=nul:=by unfold stepX;rw [if_neg (by omega),if_neg (by omega),if_neg (by omega),if_neg (by omega),if_neg (by omega),if_neg (by omega)]
theorem stepL_all (h:¬ (b=7∨b=8∨b=9∨b=10)):stepL b c l=l:=by unfold stepL;rw [if_neg h]
theorem stepL_cut (h:b=7∨b=8∨b=9∨b=10):stepL b c l=l.take (l.length - kidsN c l):=by unfold stepL;rw [if_pos h]
end
theorem wt_step (zs:List Int) (len i:Nat) (l:List V):wtL (stepV zs len i l)≤wtL l+100:=by
  unfold stepV;generalize zs.getD i 0 % 12=b;generalize zs.getD (i+1) 0=c;rw [wtL_append,wtL_cons,wtL_nil];have hk:kidsN c l≤l.length:=by unfold kidsN;omega
  have hk4:kidsN c l≤3:=by unfold kidsN;omega
  have hs:=wtL_append (l.take (l.length - kidsN c l)) (l.drop (l.length - kidsN c l));rw [List.take_append_drop] at hs;have hd:(l.drop (l.length - kidsN c l)).length=kidsN c l:=by rw [List.length_drop];omega
  have hb:∀ (k n:Int) (t:ByteArray),t.size≤12→wt ⟨k,n,t,[],[]⟩≤13:=by
    intro k n t ht;rw [wt_mk];simp only [wtK,wtL_nil];omega
  have e0:(⟨#[]⟩:ByteArray).size≤12:=by decide
  by_cases h0:b=0
  · rw [stepX_0 h0,stepL_all (by omega)];have:=hb 1 (c % 2) ⟨#[]⟩ e0;omega
  · by_cases h1:b=1∨b=2∨b=3
    · rw [stepX_1 h1,stepL_all (by omega)];have:=hb 2 (c - 100) ⟨#[]⟩ e0;omega
    · by_cases h4:b=4
      · rw [stepX_4 h4,stepL_all (by omega)];have:=hb 2 (9007199254740991 - c % 2) ⟨#[]⟩ e0;omega
      · by_cases h5:b=5∨b=6
        · rw [stepX_5 h5,stepL_all (by omega)];have:=hb 3 0 _ (textOf_size zs len i);omega
        · by_cases h7:b=7
          · rw [stepX_7 h7,stepL_cut (by omega),wt_mk]
            have e1:(⟨#[]⟩:ByteArray).size=0:=rfl;simp only [wtK,e1];omega
          · by_cases h8:b=8∨b=9∨b=10
            · rw [stepX_8 h8,stepL_cut (by omega)]
              have h1:=wt_obj c (l.drop (l.length - kidsN c l)) (kidsN c l) (by omega);have h2:=wtL_take (l.drop (l.length - kidsN c l)) (kidsN c l);omega
            · rw [stepX_e (by omega),stepL_all (by omega)];have:=hb 0 0 ⟨#[]⟩ e0;unfold nul;omega
theorem wt_valTo (zs:List Int) (len r:Nat):wtL (valTo zs len r)≤100 * r:=by
  induction r with
  | zero=>simp [valTo,wtL_nil]
  | succ r ih=>have:=wt_step zs len (2 * r) (valTo zs len r);simp only [valTo];omega
theorem wt_val (zs:List Int) (len:Nat):wt (valV zs len)≤4000:=by
  unfold valV;rw [wt_mk];have:=wt_valTo zs len (min 30 (len / 2))
  have e1:(⟨#[]⟩:ByteArray).size=0:=rfl;simp only [wtK,e1];omega
end V
end Go.Proofs.YtapcmbbhhclepaaGreatDoor
namespace Go.Proofs.YtapcmbbhhclepaaGreatDoor
open Go.RowKit
theorem append_block {P:Program} {w:World} (t ty e:TypeId) (z:Value) (size bytes:Nat) (ht:P.underlying t=some (.slice e)) (hinfo:(P.info? e).map (fun i=>(i.zero,i.size,i.bytes))=some (some z,size,bytes)) (hsz:0 < size)
    (base:Nat) (v:Value) (n:Nat) (xs:List Value) (hown:w.ownsRow base e size v n xs) {S:Nat→Prop} {x:Value} {m:Nat} {cs:List Value} (hx:Raw w S x size m cs)
    (h63:n+m≤maxLen) (hbytes:(n+m) * bytes≤140737488355328) {v':Value} {w':World} (hr:(Builtin.append_ #[t,t] ty #[v,x]).run P w=.ok v' w') :
    v'.ownBlock=v.ownBlock∨v'.ownBlock=some w.heap.size:=by
  obtain ⟨i0,hi,hz0,hz1,hz2⟩:=info_parts hinfo;obtain ⟨a,cap,rfl,h1,h2,h3,h4,h5⟩:=hx;subst hz1;subst hz2;have hsmall:n+m≤9223372036854775807:=h63
  by_cases hm:m=0
  · subst hm
    rw [append_zero t ty e i0 ht hi base i0.size v n xs hown a cap] at hr;simp only [Result.ok.injEq] at hr;exact .inl (by rw [← hr.1])
  · obtain ⟨b,off,rfl,_,hc⟩:=h5 (Nat.mul_pos (by omega) hsz)
    have hnews:∀ j u,cs[j]? = some u→w.cell? ((⟨b,off,none⟩:Addr).add j)=some u:=fun j u hu=>by
      obtain ⟨hj,hju⟩:=List.getElem?_eq_some_iff.1 hu;have e1:(⟨b,off,none⟩:Addr).add j=⟨b,off+j,none⟩:=by unfold Addr.add;split <;> simp_all
      rw [e1,hc j (by omega)];simp [List.getD,hu]
    rcases hown.2 with ⟨rfl,rfl⟩ | ⟨g,cap',cur,rfl,hbg,hg,hnc,hcm,hcs,htake⟩
    · have hr2:=run_append_nil (P:=P) w t ty e i0 z ht hi hz0 ⟨b,off,none⟩ m cap cs h3 hnews (by omega) (by omega) (by have hb:=hbytes;simp only [Nat.zero_add] at hb;omega)
      rw [hr2] at hr;simp only [Result.ok.injEq] at hr;exact .inr (by rw [← hr.1];rfl)
    · by_cases hroom:n+m≤cap'
      · have hfit:n * i0.size+cs.length≤cur.size:=by rw [h3,hcs,← Nat.add_mul];exact Nat.mul_le_mul_right _ hroom
        have hr2:=run_append_room (P:=P) w t ty e i0 ht hi g n cap' cur hg ⟨b,off,none⟩ m cap cs h3 hnews h4 hroom hfit;rw [hr2] at hr;simp only [Result.ok.injEq] at hr;exact .inl (by rw [← hr.1];rfl)
      · have holds:∀ j u,xs[j]? = some u→w.cell? ((⟨g,0,none⟩:Addr).add j)=some u:=hown.cells (g:=g) rfl
        have hr2:=run_append_grow (P:=P) w t ty e i0 z ht hi hz0 ⟨g,0,none⟩ n cap' xs hown.1 holds ⟨b,off,none⟩ m cap cs h3 hnews (by omega) (by omega) (growslice_fits (by omega) hbytes);rw [hr2] at hr;simp only [Result.ok.injEq] at hr;exact .inr (by rw [← hr.1];rfl)
theorem tail_some (b off cap n:Nat) (h:cap≠n):(if cap=n then some (⟨b,off,none⟩:Addr) else (some (⟨b,off,none⟩:Addr)).map (fun x=>x.add (n * 1)))=some ⟨b,off+n,none⟩:=by
  rw [if_neg h];simp only [Option.map_some,Nat.mul_one]
  congr 1
  unfold Addr.add
  split <;> simp_all
end Go.Proofs.YtapcmbbhhclepaaGreatDoor
