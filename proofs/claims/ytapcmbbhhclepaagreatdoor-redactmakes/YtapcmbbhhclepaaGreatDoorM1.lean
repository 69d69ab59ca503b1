/-
  What this claim takes of the earlier layers' texts: DMath SMath DWalks DBase DStep DFacts DSpread.
-/
import Derived.Test.YtapcmbbhhclepaaGreatDoorChecked
import Derived.Laws.Entries
import Derived.WalkKit
import Derived.WalkSpells
import Derived.WalkLawsBesides
import Derived.BigCall
import Derived.BigQuiet
import Derived.Deep.Draws
import Derived.Laws.Rows
import Derived.Laws.Tables
import Derived.Laws.CopyRow
import Derived.Laws.BitsLemmas
import Derived.Laws.Bits64
import Derived.BigRegion
import Derived.Deep.RegionHeld3
import Derived.Deep.DeepCutAuto
import Derived.Deep.CutBlock
set_option linter.unusedVariables false
set_option linter.unusedSimpArgs false
set_option maxRecDepth 100000
namespace Go.Proofs.YtapcmbbhhclepaaGreatDoor.Dig
namespace Dg
def rotr (x n:Int):Int:=bits .or .u32 (x / 2 ^ n.toNat) (IntKind.u32.wrap (x * 2 ^ (32 - n).toNat))
def x3 (a b c:Int):Int:=bits .xor .u32 (bits .xor .u32 a b) c
def s0 (x:Int):Int:=x3 (rotr x 7) (rotr x 18) (x / 2 ^ 3)
def s1 (x:Int):Int:=x3 (rotr x 17) (rotr x 19) (x / 2 ^ 10)
def S0 (x:Int):Int:=x3 (rotr x 2) (rotr x 13) (rotr x 22)
def S1 (x:Int):Int:=x3 (rotr x 6) (rotr x 11) (rotr x 25)
def ch (e f g:Int):Int:=bits .xor .u32 (bits .and .u32 e f) (bits .and .u32 (bits .xor .u32 IntKind.u32.max e) g)
def maj (a b c:Int):Int:=bits .xor .u32 (bits .xor .u32 (bits .and .u32 a b) (bits .and .u32 a c)) (bits .and .u32 b c)
def t1 (e f g h x:Int):Int:=h+S1 e+ch e f g+x
def t2 (a b c:Int):Int:=S0 a+maj a b c
def nA (a b c e f g h x:Int):Int:=(t1 e f g h x+t2 a b c) % 4294967296
def nE (d e f g h x:Int):Int:=(d+t1 e f g h x) % 4294967296
def acc (bs:List Int):Nat→List Int
  | 0=>List.replicate 64 0
  | k+1=>(acc bs k).set (k / 4) (bits .or .u32 ((acc bs k)[k / 4]?.getD 0 * 256 % 4294967296) (bs[k]?.getD 0))
theorem acc_length (bs:List Int):∀ k,(acc bs k).length=64
  | 0=>by simp [acc]
  | k+1=>by simp [acc,acc_length bs k]
def sch (l:List Int):Nat→List Int
  | 0=>l
  | n+1=>(sch l n).set (16+n) ((s1 ((sch l n)[14+n]?.getD 0)+(sch l n)[9+n]?.getD 0+s0 ((sch l n)[1+n]?.getD 0)+(sch l n)[n]?.getD 0) % 4294967296)
theorem sch_length (l:List Int):∀ n,(sch l n).length=l.length
  | 0=>rfl
  | n+1=>by simp [sch,sch_length l n]
theorem sch_next (l:List Int) (t:Nat) (h:16≤t):sch l (t+1 - 16)=(sch l (t - 16)).set t ((s1 ((sch l (t - 16))[t - 2]?.getD 0)+(sch l (t - 16))[t - 7]?.getD 0+s0 ((sch l (t - 16))[t - 15]?.getD 0)+(sch l (t - 16))[t - 16]?.getD 0) % 4294967296):=by
  obtain ⟨n,rfl⟩:∃ n,t=16+n:=⟨t - 16,by omega⟩;rw [show 16+n+1 - 16=n+1 by omega,show 16+n - 16=n by omega,show 16+n - 2=14+n by omega,show 16+n - 7=9+n by omega,show 16+n - 15=1+n by omega];rfl
def spread (bs:List Int):List Int:=sch (acc bs 64) 48
theorem spread_length (bs:List Int):(spread bs).length=64:=by rw [spread,sch_length,acc_length]
def K:List Int:=[1116352408,1899447441,3049323471,3921009573,961987163,1508970993,2453635748,2870763221,3624381080,310598401,607225278,1426881987,1925078388,2162078206,2614888103,3248222580,3835390401,4022224774,264347078,604807628,770255983,1249150122,1555081692,1996064986,2554220882,2821834349,2952996808,3210313671,3336571891,3584528711,113926993,338241895,666307205,773529912,1294757372,1396182291,1695183700,1986661051,2177026350,2456956037,2730485921,2820302411,3259730800,3345764771,3516065817,3600352804,4094571909,275423344,430227734,506948616,659060556,883997877,958139571,1322822218,1537002063,1747873779,1955562222,2024104815,2227730452,2361852424,2428436474,2756734187,3204031479,3329325298]
def step:List Int→Int→List Int
  | [a,b,c,d,e,f,g,h],x=>[nA a b c e f g h x,a,b,c,nE d e f g h x,e,f,g]
  | l,_=>l
theorem step_length (s:List Int) (x:Int):(step s x).length=s.length:=by
  unfold step
  split <;> rfl
def rounds (s W:List Int):Nat→List Int
  | 0=>s
  | k+1=>step (rounds s W k) ((K[k]?.getD 0+W[k]?.getD 0) % 4294967296)
theorem rounds_length (s W:List Int):∀ k,(rounds s W k).length=s.length
  | 0=>rfl
  | k+1=>by rw [rounds,step_length,rounds_length s W k]
def plus (s n:List Int):Nat→List Int
  | 0=>s
  | k+1=>(plus s n k).set k (((plus s n k)[k]?.getD 0+n[k]?.getD 0) % 4294967296)
theorem plus_length (s n:List Int):∀ k,(plus s n k).length=s.length
  | 0=>rfl
  | k+1=>by simp [plus,plus_length s n k]
def block (s bs:List Int):List Int:=plus s (rounds s (spread bs) 64) 8
theorem block_length (s bs:List Int):(block s bs).length=s.length:=plus_length _ _ _
theorem eight {s:List Int} (h:s.length=8):∃ a b c d e f g i,s=[a,b,c,d,e,f,g,i]:=by
  match s,h with
  | [a,b,c,d,e,f,g,i],_=>exact ⟨a,b,c,d,e,f,g,i,rfl⟩
def be (x:Int):Nat→List Int
  | 0=>[]
  | m+1=>x / 2 ^ (8 * m) % 256 :: be x m
theorem be_length (x:Int):∀ m,(be x m).length=m
  | 0=>rfl
  | m+1=>by simp [be,be_length x m]
def noughts (n:Int):Nat:=((55 - n) % 64).toNat
def tail (n:Int):List Int:=128 :: (List.replicate (noughts n) 0 ++ be (n * 8 % 18446744073709551616) 8)
theorem tail_length (n:Int):(tail n).length=noughts n+9:=by simp [tail,be_length]
theorem noughts_le (n:Int):noughts n≤63:=by unfold noughts;omega
def start:List Int:=[1779033703,3144134277,1013904242,2773480762,1359893119,2600822924,528734635,1541459225]
def sums (s bs:List Int):Nat→List Int
  | 0=>s
  | k+1=>block (sums s bs k) ((bs.drop (64 * k)).take 64)
theorem sums_length (s bs:List Int):∀ k,(sums s bs k).length=s.length
  | 0=>rfl
  | k+1=>by rw [sums,block_length,sums_length s bs k]
def sumOf (bs:List Int):List Int:=sums start bs (bs.length / 64)
theorem sumOf_length (bs:List Int):(sumOf bs).length=8:=sums_length _ _ _
def sha (bs:List Int):List Int:=(sumOf (bs ++ tail bs.length)).flatMap (be · 4)
theorem sums_front (s p q:List Int):∀ k,64 * k≤p.length→sums s (p ++ q) k=sums s p k
  | 0,_=>rfl
  | k+1,h=>by
    rw [sums,sums,sums_front s p q k (by omega),List.drop_append_of_le_length (by omega),List.take_append_of_le_length (by simp;omega)]
theorem sums_app (s p q:List Int) (j:Nat) (h:p.length=64 * j):∀ i,sums s (p ++ q) (j+i)=sums (sums s p j) q i
  | 0=>by rw [Nat.add_zero,sums_front s p q j (by omega)];rfl
  | i+1=>by
    rw [← Nat.add_assoc,sums,sums,sums_app s p q j h i,show 64 * (j+i)=p.length+64 * i by omega,List.drop_append,List.drop_eq_nil_of_le (by omega),List.nil_append,show p.length+64 * i - p.length=64 * i by omega]
theorem sumOf_app (p q:List Int) (h:p.length % 64=0):sumOf (p ++ q)=sums (sumOf p) q (q.length / 64):=by
  unfold sumOf;rw [List.length_append,show (p.length+q.length) / 64=p.length / 64+q.length / 64 by omega,sums_app start p q (p.length / 64) (by omega)]
theorem sumOf_more (p q:List Int) (h:p.length % 64+q.length < 64):sumOf (p ++ q)=sumOf p:=by
  unfold sumOf;rw [List.length_append,show (p.length+q.length) / 64=p.length / 64 by omega,sums_front _ _ _ _ (by omega)]
theorem sumOf_block (p q:List Int) (h:p.length % 64+q.length=64):sumOf (p ++ q)=block (sumOf p) (p.drop (p.length - p.length % 64) ++ q):=by
  unfold sumOf;rw [List.length_append,show (p.length+q.length) / 64=p.length / 64+1 by omega,sums,sums_front _ _ _ _ (by omega),show 64 * (p.length / 64)=p.length - p.length % 64 by omega,List.drop_append_of_le_length (by omega),List.take_of_length_le (by simp;omega)]
theorem sums_split (all q:List Int) (h:q.length≤all.length) (hd:all.drop (all.length - q.length)=q) (h0:(all.length - q.length) % 64=0):sums (sums start all ((all.length - q.length) / 64)) q (q.length / 64)=sumOf all:=by
  have e:all=all.take (all.length - q.length) ++ q:=by
    have:=List.take_append_drop (all.length - q.length) all
    rw [hd] at this;exact this.symm
  have hl:(all.take (all.length - q.length)).length=all.length - q.length:=by rw [List.length_take];omega
  have h1:=sumOf_app (all.take (all.length - q.length)) q (by rw [hl];exact h0);rw [← e] at h1;rw [h1]
  congr 1
  unfold sumOf;rw [hl];have h2:=sums_front start (all.take (all.length - q.length)) q ((all.length - q.length) / 64) (by rw [hl];omega);rw [← e] at h2;exact h2
def W32 (l:List Int):Prop:=∀ i:Nat,0≤l[i]?.getD 0∧l[i]?.getD 0≤4294967295
theorem W32.set {l:List Int} (h:W32 l) (k:Nat) (x:Int):W32 (l.set k (x % 4294967296)):=by
  intro i;rw [List.getElem?_set]
  split
  · split
    · simp only [Option.getD_some];omega
    · simp
  · exact h i
theorem plus_w32 {s:List Int} (h:W32 s) (n:List Int):∀ k,W32 (plus s n k)
  | 0=>h
  | k+1=>(plus_w32 h n k).set _ _
theorem sums_w32 {s:List Int} (h:W32 s) (bs:List Int):∀ k,W32 (sums s bs k)
  | 0=>h
  | k+1=>plus_w32 (sums_w32 h bs k) _ _
theorem start_w32:W32 start:=by
  intro i
  match i with
  | 0 | 1 | 2 | 3 | 4 | 5 | 6 | 7=>decide
  | i+8=>simp [start]
theorem sumOf_w32 (bs:List Int):W32 (sumOf bs):=sums_w32 start_w32 _ _
def B8 (l:List Int):Prop:=∀ i:Nat,0≤l[i]?.getD 0∧l[i]?.getD 0≤255
theorem b8_of_mem {l:List Int} (h:∀ x ∈ l,0≤x∧x≤255):B8 l:=by
  intro i;rcases Nat.lt_or_ge i l.length with hi | hi
  · rw [List.getElem?_eq_getElem hi];exact h _ (List.getElem_mem hi)
  · rw [List.getElem?_eq_none hi];simp
theorem be_mem (x:Int):∀ m,∀ y ∈ be x m,0≤y∧y≤255
  | 0,y,h=>by cases h
  | m+1,y,h=>by
    rcases List.mem_cons.1 h with rfl | h
    · omega
    · exact be_mem x m y h
theorem tail_mem (n:Int):∀ y ∈ tail n,0≤y∧y≤255:=by
  intro y hy;unfold tail at hy;simp only [List.mem_cons,List.mem_append,List.mem_replicate] at hy;rcases hy with rfl | ⟨_,rfl⟩ | h
  · decide
  · decide
  · exact be_mem _ _ y h
theorem sha_mem (bs:List Int):∀ y ∈ sha bs,0≤y∧y≤255:=by
  intro y hy;unfold sha at hy;rw [List.mem_flatMap] at hy;obtain ⟨x,_,h⟩:=hy;exact be_mem x 4 y h
theorem flat_length:∀ l:List Int,(l.flatMap (be · 4)).length=4 * l.length
  | []=>rfl
  | x :: l=>by rw [List.flatMap_cons,List.length_append,be_length,flat_length l,List.length_cons];omega
theorem sha_length (bs:List Int):(sha bs).length=32:=by
  unfold sha;rw [flat_length,sumOf_length]
end Dg
end Go.Proofs.YtapcmbbhhclepaaGreatDoor.Dig
namespace Go.Proofs.YtapcmbbhhclepaaGreatDoor.Dig
namespace Sl
def signs:List UInt8:=[65,66,67,68,69,70,71,72,73,74,75,76,77,78,79,80,81,82,83,84,85,86,87,88,89,90,97,98,99,100,101,102,103,104,105,106,107,108,109,110,111,112,113,114,115,116,117,118,119,120,121,122,48,49,50,51,52,53,54,55,56,57,45,95]
def sgn (n:Int):UInt8:=signs[n.toNat]?.getD 0
def num (c:UInt8):Option Int:=(signs.idxOf? c).map (fun n:Nat=>(n:Int))
def S6 (l:List Int):Prop:=∀ n ∈ l,0≤n∧n < 64
def Y8 (l:List Int):Prop:=∀ n ∈ l,0≤n∧n≤255
def nums:List Int→List Int
  | []=>[]
  | [a]=>[a / 4,a % 4 * 16]
  | [a,b]=>[a / 4,a % 4 * 16+b / 16,b % 16 * 4]
  | a :: b :: c :: r=>a / 4 :: (a % 4 * 16+b / 16) :: (b % 16 * 4+c / 64) :: c % 64 :: nums r
theorem nums_length:∀ bs,(nums bs).length=(bs.length * 4+2) / 3
  | []=>rfl
  | [_]=>by simp [nums]
  | [_,_]=>by simp [nums]
  | a :: b :: c :: r=>by
    have:=nums_length r
    simp only [nums,List.length_cons,this];omega
theorem nums_append:∀ a b,a.length % 3=0→nums (a ++ b)=nums a ++ nums b
  | [],b,_=>rfl
  | [_],b,h=>by simp at h
  | [_,_],b,h=>by simp at h
  | x :: y :: z :: r,b,h=>by
    have:=nums_append r b (by simp at h;omega)
    simp [nums,this]
def numsOf:List UInt8→Option (List Int)
  | []=>some []
  | c :: s=>(num c).bind fun n=>(numsOf s).map (n :: ·)
def text (bs:List Int):List UInt8:=(nums bs).map sgn
theorem text_length (bs:List Int):(text bs).length=(bs.length * 4+2) / 3:=by
  unfold text;rw [List.length_map,nums_length]
theorem text_append {a b:List Int} (h:a.length % 3=0):text (a ++ b)=text a ++ text b:=by
  unfold text;rw [nums_append a b h,List.map_append]
def tog (w:Nat):List Int→Nat→Int
  | [],_=>0
  | n :: r,i=>n * 2 ^ (24 - w * (i+1))+tog w r (i+1)
def piece (b:Int) (i w:Nat):Int:=b / 2 ^ (24 - w * (i+1)) % 2 ^ w
def pieces (b:Int) (w k:Nat):List Int:=(List.range k).map (piece b · w)
theorem pieces_succ (b:Int) (w k:Nat):pieces b w (k+1)=pieces b w k ++ [piece b k w]:=by simp [pieces,List.range_succ]
theorem nums_group (g:List Int) (h8:Y8 g) (h:0 < g.length) (h3:g.length≤3):nums g=pieces (tog 8 g 0) 6 (g.length+1):=by
  match g,h,h3 with
  | [a],_,_ =>
    have:=h8 a (by simp)
    simp [nums,pieces,List.range_succ,piece,tog];omega
  | [a,b],_,_ =>
    have:=h8 a (by simp)
    have:=h8 b (by simp)
    simp [nums,pieces,List.range_succ,piece,tog];omega
  | [a,b,c],_,_ =>
    have:=h8 a (by simp)
    have:=h8 b (by simp)
    have:=h8 c (by simp)
    simp [nums,pieces,List.range_succ,piece,tog];omega
def whole (key:List Int):List Int:=let k:=if key.length≤64 then key else Dg.sha key;k ++ List.replicate (64 - k.length) 0
def mask (m:Int) (k:List Int):List Int:=k.map fun x=>bits .xor .u8 x m
def summed (k:List Int) (m:Int) (row:List Int):List Int:=Dg.sha (mask m k ++ row)
def code (key msg:List Int):List Int:=summed (whole key) 92 (summed (whole key) 54 msg)
def ints (s:List UInt8):List Int:=s.map fun c=>(c.toNat:Int)
def ident (s:List UInt8):List UInt8:=36 :: text (Dg.sha (ints s))
end Sl
end Go.Proofs.YtapcmbbhhclepaaGreatDoor.Dig
namespace Go.Proofs.YtapcmbbhhclepaaGreatDoor.Dig
open Go.RowKit
theorem turn_any (x n:Int) (w:World) (h0:0≤n) (h1:n≤32) :
    Calls Tryz.prog 157 #[.int .u32 x,.int .i64 n] w fun e w'=>e=.returned (.int .u32 (Dg.rotr x n))∧∃ k,w'=w.drewN k:=by
  go_enter Tryz.func157,Tryz.ntmps157
  go_wp2
  go_quiet (fail)
  go_wp2
  go_ret
  exact ⟨rfl,_,rfl⟩
theorem small0_any (x:Int) (w:World) :
    Calls Tryz.prog 147 #[.int .u32 x] w fun e w'=>e=.returned (.int .u32 (Dg.s0 x))∧∃ k,w'=w.drewN k:=by
  go_enter Tryz.func147,Tryz.ntmps147
  go_wp2_with (go_at_call 157;refine (turn_any _ _ _ (by omega) (by omega)).mono ?_;rintro e w' ⟨rfl,k,rfl⟩)
  go_ret
  exact ⟨rfl,_,rfl⟩
theorem small1_any (x:Int) (w:World) :
    Calls Tryz.prog 146 #[.int .u32 x] w fun e w'=>e=.returned (.int .u32 (Dg.s1 x))∧∃ k,w'=w.drewN k:=by
  go_enter Tryz.func146,Tryz.ntmps146
  go_wp2_with (go_at_call 157;refine (turn_any _ _ _ (by omega) (by omega)).mono ?_;rintro e w' ⟨rfl,k,rfl⟩)
  go_ret
  exact ⟨rfl,_,rfl⟩
theorem great0_any (x:Int) (w:World) :
    Calls Tryz.prog 149 #[.int .u32 x] w fun e w'=>e=.returned (.int .u32 (Dg.S0 x))∧∃ k,w'=w.drewN k:=by
  go_enter Tryz.func149,Tryz.ntmps149
  go_wp2_with (go_at_call 157;refine (turn_any _ _ _ (by omega) (by omega)).mono ?_;rintro e w' ⟨rfl,k,rfl⟩)
  go_ret
  exact ⟨rfl,_,rfl⟩
theorem great1_any (x:Int) (w:World) :
    Calls Tryz.prog 148 #[.int .u32 x] w fun e w'=>e=.returned (.int .u32 (Dg.S1 x))∧∃ k,w'=w.drewN k:=by
  go_enter Tryz.func148,Tryz.ntmps148
  go_wp2_with (go_at_call 157;refine (turn_any _ _ _ (by omega) (by omega)).mono ?_;rintro e w' ⟨rfl,k,rfl⟩)
  go_ret
  exact ⟨rfl,_,rfl⟩
end Go.Proofs.YtapcmbbhhclepaaGreatDoor.Dig
namespace Go.Proofs.YtapcmbbhhclepaaGreatDoor.Dig
open Go.RowKit
def Blk (w:World) (g:Nat) (t:TypeId) (cs:Array Value):Prop:=w.heap[g]? = some (.cells cs t (0,0))
theorem Blk.lt {w:World} {g:Nat} {t:TypeId} {cs:Array Value} (h:Blk w g t cs):g < w.heap.size:=(Array.getElem?_eq_some_iff.1 h).1
theorem Blk.cell {w:World} {g:Nat} {t:TypeId} {cs:Array Value} (h:Blk w g t cs) (j:Nat):w.cell? ⟨g,j,none⟩=cs[j]? := cell_of_row w g j cs t _ h
theorem Blk.frozen {w:World} {g:Nat} {t:TypeId} {cs:Array Value} (h:Blk w g t cs) (j:Nat):w.frozen? ⟨g,j,none⟩=false:=frozen_of_row w g j cs t h
theorem Blk.set {w:World} {g:Nat} {t:TypeId} {cs:Array Value} (h:Blk w g t cs) (i:Nat) (v:Value):Blk (w.setCell ⟨g,i,none⟩ v) g t (cs.setIfInBounds i v):=heap_setCell_same w g i cs t v h
theorem Blk.below {w w':World} {g:Nat} {t:TypeId} {cs:Array Value} (h:Blk w g t cs) {B:Nat} (b:Below B w w') (hg:g < B):Blk w' g t cs:=(b.block g hg).trans h
theorem Blk.below' {w w':World} {g:Nat} {t:TypeId} {cs:Array Value} (h:Blk w g t cs) (b:Below w.heap.size w w'):Blk w' g t cs:=h.below b h.lt
theorem blk_new (w:World) (t:TypeId) (cs:Array Value):Blk (w.alloc (.cells cs t)) w.heap.size t cs:=heap_alloc_new w _
structure But (g:Nat) (w w':World):Prop where
  os:w'.os=w.os
  tape:w'.tape=w.tape
  output:w'.output=w.output
  size:w.heap.size≤w'.heap.size
  block:∀ k,k < w.heap.size→k≠g→w'.heap[k]? = w.heap[k]?
theorem But.refl (g:Nat) (w:World):But g w w:=⟨rfl,rfl,rfl,Nat.le_refl _,fun _ _ _=>rfl⟩
theorem But.trans {g:Nat} {a b c:World} (h:But g a b) (k:But g b c):But g a c :=
  ⟨k.os.trans h.os,k.tape.trans h.tape,k.output.trans h.output,Nat.le_trans h.size k.size,fun i hi hg=>(k.block i (Nat.lt_of_lt_of_le hi h.size) hg).trans (h.block i hi hg)⟩
theorem But.of_below {g:Nat} {a b:World} (h:Below a.heap.size a b):But g a b:=⟨h.os,h.tape,h.output,h.size,fun i hi _=>h.block i hi⟩
theorem But.then {g:Nat} {a b c:World} (h:But g a b) (k:Below b.heap.size b c):But g a c:=h.trans (.of_below k)
theorem But.set {g:Nat} {a b:World} (h:But g a b) (i:Nat) (v:Value):But g a (b.setCell ⟨g,i,none⟩ v) :=
  h.trans ⟨rfl,rfl,rfl,by simp [World.setCell],fun k _ hk=>Below.heap_setCell _ _ _ _ hk⟩
theorem But.drew {g:Nat} {a b:World} (h:But g a b):But g a b.drew:=h.trans ⟨rfl,rfl,rfl,Nat.le_refl _,fun _ _ _=>rfl⟩
theorem But.drewN {g:Nat} {a b:World} (h:But g a b) (n:Nat):But g a (b.drewN n):=h.trans ⟨rfl,rfl,rfl,Nat.le_refl _,fun _ _ _=>rfl⟩
theorem But.row {g:Nat} {a b:World} (h:But g a b) (cs:Array Value):But g a (b.setRow g cs) :=
  h.trans ⟨rfl,rfl,rfl,by simp,fun k _ hk=>setRow_other _ _ _ _ hk⟩
theorem But.alloc {g:Nat} {a b:World} (h:But g a b) (o:Obj):But g a (b.alloc o):=h.then ((Below.refl _ _).alloc (Nat.le_refl _) o)
theorem But.other {g:Nat} {a b:World} (h:But g a b) {k:Nat} {t:TypeId} {cs:Array Value} (hk:Blk a k t cs) (hg:k≠g):Blk b k t cs:=(h.block k hk.lt hg).trans hk
theorem But.to_below {g B:Nat} {a b:World} (h:But g a b) (hB:B≤a.heap.size) (hg:B≤g):Below B a b :=
  ⟨h.os,h.tape,h.output,h.size,fun k hk=>h.block k (by omega) (by omega)⟩
theorem Blk.row {w:World} {g:Nat} {t:TypeId} {cs:Array Value} (h:Blk w g t cs) (cs':Array Value):Blk (w.setRow g cs') g t cs':=setRow_heap w g cs cs' t _ h
theorem bthen {a b c:World} (h:Below a.heap.size a b) (k:Below b.heap.size b c):Below a.heap.size a c:=h.trans (k.mono h.size)
theorem int_i64 {a b:Int} (h:a=b) (h0:-9223372036854775808≤b) (h1:b≤9223372036854775807):Value.int .i64 (IntKind.i64.wrap a)=.int .i64 b:=by
  rw [IntKind.wrap_i64,h]
  congr 1
  omega
theorem int_u32 {a b:Int} (h:a % 4294967296=b):Value.int .u32 (IntKind.u32.wrap a)=.int .u32 b:=by
  rw [IntKind.wrap_u32,h]
theorem hide {p:Prop} (h:p):Hid p:=h
abbrev w32 (x:Int):Value:=.int .u32 x
abbrev b8 (x:Int):Value:=.int .u8 x
def wds (l:List Int):Array Value:=(l.map w32).toArray
theorem wds_size (l:List Int):(wds l).size=l.length:=by simp [wds]
theorem wds_at {l:List Int} {i:Nat} (h:i < l.length):(wds l)[i]? = some (w32 (l[i]?.getD 0)):=by simp [wds,h]
theorem wds_set (l:List Int) (i:Nat) (x:Int):(wds l).setIfInBounds i (w32 x)=wds (l.set i x):=by simp [wds,List.map_set]
theorem wds_one (l:List Int):(wds l).all (·.oneCell')=true:=by
  rw [Array.all_eq_true_iff_forall_mem];intro x hx;simp only [wds,List.mem_toArray,List.mem_map] at hx;obtain ⟨y,_,rfl⟩:=hx;rfl
def Rd (w:World) (b o:Nat) (bs:List Int):Prop:=∀ i,i < bs.length→w.cell? ⟨b,o+i,none⟩=some (b8 (bs[i]?.getD 0))
theorem Rd.lt {w:World} {b o:Nat} {bs:List Int} (h:Rd w b o bs) (h0:0 < bs.length):b < w.heap.size:=block_lt_of_cell (h 0 h0)
theorem Rd.below {w w':World} {b o:Nat} {bs:List Int} (h:Rd w b o bs) (k:Below w.heap.size w w'):Rd w' b o bs:=fun i hi=>(k.cell (p:=⟨b,o+i,none⟩) (block_lt_of_cell (h i hi))).trans (h i hi)
theorem Rd.but {w w':World} {b o g:Nat} {bs:List Int} (h:Rd w b o bs) (k:But g w w') (hg:b≠g):Rd w' b o bs:=fun i hi=>by
  have hb:b < w.heap.size:=block_lt_of_cell (h i hi);exact (World.cell?_of_block (w:=w) (k.block b hb hg)).trans (h i hi)
end Go.Proofs.YtapcmbbhhclepaaGreatDoor.Dig
namespace Go.Proofs.YtapcmbbhhclepaaGreatDoor.Dig
open Go.RowKit
theorem Blk.cells8 {w:World} {g t:Nat} {a b c d e f i h:Value} (hb:Blk w g t #[a,b,c,d,e,f,i,h]) :
    w.cell? ⟨g,0,none⟩=some a∧w.cell? ⟨g,1,none⟩=some b∧w.cell? ⟨g,2,none⟩=some c∧w.cell? ⟨g,3,none⟩=some d∧w.cell? ⟨g,4,none⟩=some e∧w.cell? ⟨g,5,none⟩=some f∧w.cell? ⟨g,6,none⟩=some i∧w.cell? ⟨g,7,none⟩=some h :=
  ⟨hb.cell 0,hb.cell 1,hb.cell 2,hb.cell 3,hb.cell 4,hb.cell 5,hb.cell 6,hb.cell 7⟩
theorem Blk.drewN {w:World} {g t:Nat} {cs:Array Value} (h:Blk w g t cs) (n:Nat):Blk (w.drewN n) g t cs:=h
theorem Blk.drew {w:World} {g t:Nat} {cs:Array Value} (h:Blk w g t cs):Blk w.drew g t cs:=h
set_option maxHeartbeats 1000000 in
theorem step_any (g t:Nat) (a b c d e f i z x:Int) (w:World) (hb:Blk w g t #[w32 a,w32 b,w32 c,w32 d,w32 e,w32 f,w32 i,w32 z]) :
    Calls Tryz.prog 139 #[.pointer (some ⟨g,0,none⟩),.int .u32 x] w fun r w'=>(∃ v,r=.returned v)∧But g w w' ∧
      Blk w' g t #[w32 (Dg.nA a b c e f i z x),w32 a,w32 b,w32 c,w32 (Dg.nE d e f i z x),w32 e,w32 f,w32 i]:=by
  obtain ⟨c0,c1,c2,c3,c4,c5,c6,c7⟩:=hb.cells8;go_enter Tryz.func139,Tryz.ntmps139
  go_wp2
  go_quiet (fail)
  have b1:=(But.refl g w).drewN nq;have hb1:=hb.drewN nq;clear c0 c1 c2 c3 c4 c5 c6 c7;generalize w.drewN nq=w1 at b1 hb1 ⊢;obtain ⟨c0,c1,c2,c3,c4,c5,c6,c7⟩:=hb1.cells8
  go_wp2
  go_quiet ((go_at_call 148;exact Calls.quiet_of (great1_any _ _)))
  go_wp2_with (go_at_call 149;refine (great0_any _ _).mono ?_;rintro e w' ⟨rfl,k,rfl⟩)
  have b2:=b1.drewN (nq+k);have hb2:=hb1.drewN (nq+k);clear c0 c1 c2 c3 c4 c5 c6 c7 b1 hb1 hb;generalize w1.drewN (nq+k)=w2 at b2 hb2 ⊢
  have hcp:∀ W,Blk W g t #[w32 a,w32 b,w32 c,w32 d,w32 e,w32 f,w32 i,w32 z]→(Builtin.copy_ #[158,158] 3 #[.slice (some ⟨g,1,none⟩) 7 7,.slice (some ⟨g,0,none⟩) 7 8]).run Tryz.prog W =
      .ok (goInt 7) (W.setRow g #[w32 a,w32 a,w32 b,w32 c,w32 d,w32 e,w32 f,w32 i]):=fun W hW =>
    run_copy_row (P:=Tryz.prog) W 158 158 3 123 g 1 7 7 ⟨g,0,none⟩ 7 8 _ t [w32 a,w32 b,w32 c,w32 d,w32 e,w32 f,w32 i] Tryz.underlying158 (by kernel_rfl) hW rfl
      (fun j v hv=>by
        have hadd:(⟨g,0,none⟩:Addr).add j=⟨g,j,none⟩:=by unfold Addr.add;split <;> simp_all
        refine Eq.trans (congrArg _ hadd) ((hW.cell j).trans ?_);have hj:j < 7:=by simpa using (List.getElem?_eq_some_iff.1 hv).1
        have:j=0∨j=1∨j=2∨j=3∨j=4∨j=5∨j=6:=by omega
        rcases this with rfl | rfl | rfl | rfl | rfl | rfl | rfl <;> exact hv)
      (by simp) (by simp [Value.oneCell'])
  have hcp1:=hcp w2.drew hb2.drew;clear hcp
  go_region
  have b3:=(b2.drew).row #[w32 a,w32 a,w32 b,w32 c,w32 d,w32 e,w32 f,w32 i];have hb3:=(hb2.drew).row #[w32 a,w32 a,w32 b,w32 c,w32 d,w32 e,w32 f,w32 i];clear hcp1 hb2 b2;generalize w2.drew.setRow g #[w32 a,w32 a,w32 b,w32 c,w32 d,w32 e,w32 f,w32 i]=w3 at b3 hb3 ⊢;obtain ⟨c0,c1,c2,c3,c4,c5,c6,c7⟩:=hb3.cells8;have f0:=hb3.frozen 0;have f4:=hb3.frozen 4
  go_wp2
  go_region
  go_wp2
  go_end0
  exact ⟨⟨_,rfl⟩,((b3.set 4 _).set 0 _).drew,((hb3.set 4 _).set 0 _).drew⟩
end Go.Proofs.YtapcmbbhhclepaaGreatDoor.Dig
namespace Go.Proofs.YtapcmbbhhclepaaGreatDoor.Dig
open Go.RowKit
abbrev Fact:=Nat→Nat→Value→World→Prop
def fct (Fs:List Fact) (k:Nat):Fact:=Fs.getD k (fun _ _ _ _=>True)
def Mono (f:Fact):Prop:=∀ lo hi v (w w':World),f lo hi v w→Below w.heap.size w w'→f lo hi v w'
def MonoAll:List Fact→Prop
  | []=>True
  | f :: l=>Mono f∧MonoAll l
theorem mono_eq (x:Value):Mono (fun _ _ v _=>v=x):=fun _ _ _ _ _ h _=>h
theorem mono_true:Mono (fun _ _ _ _=>True):=fun _ _ _ _ _ _ _=>trivial
theorem MonoAll.at {Fs:List Fact} (h:MonoAll Fs) (k:Nat):Mono (fct Fs k):=by
  induction Fs generalizing k with
  | nil=>exact mono_true
  | cons f l ih =>
    cases k with
    | zero=>exact h.1
    | succ k=>exact ih h.2 k
def AllF (vs:Nat→Value) (lo hi:Nat→Nat) (w:World):Nat→List Fact→Prop
  | _,[]=>True
  | k,f :: l=>f (lo k) (hi k) (vs k) w∧AllF vs lo hi w (k+1) l
theorem allF_of {vs:Nat→Value} {lo hi:Nat→Nat} {w:World}:∀ (l:List Fact) (k:Nat),(∀ i,i < l.length→fct l i (lo (k+i)) (hi (k+i)) (vs (k+i)) w)→AllF vs lo hi w k l
  | [],_,_=>trivial
  | f :: l,k,h=>⟨h 0 (by simp),allF_of l (k+1) (fun i hi=>by
      have:=h (i+1) (by simp;omega)
      rw [show k+(i+1)=k+1+i by omega] at this
      exact this)⟩
def puts (vs:Nat→Value):Nat→List Oper→Act→Act
  | _,[],a=>a
  | k,o :: l,a=>puts vs (k+1) l (a.put o.dst (vs k))
theorem put_put (a:Act) (d:Option Tmp) (x v:Value):(a.put d x).put d v=a.put d v:=by
  cases d <;> simp [Act.put]
theorem puts_put (vs:Nat→Value) (d:Option Tmp) (v:Value):∀ (l:List Oper) (m:Nat) (a:Act),(∀ o ∈ l,∀ x,d=some x→o.dst≠some x)→(puts vs m l a).put d v=puts vs m l (a.put d v)
  | [],_,_,_=>rfl
  | o :: l,m,a,h=>by
    simp only [puts];rw [puts_put vs d v l (m+1) _ (fun o ho=>h o (List.mem_cons_of_mem _ ho)),← Act.put_comm a v (vs m) (h o (List.mem_cons_self ..))]
theorem puts_congr {vs vs':Nat→Value}:∀ (l:List Oper) (m:Nat) (a:Act),(∀ i,m≤i→vs i=vs' i)→puts vs m l a=puts vs' m l a
  | [],_,_,_=>rfl
  | o :: l,m,a,h=>by
    simp only [puts];rw [h m (Nat.le_refl _),puts_congr l (m+1) _ (fun i hi=>h i (by omega))]
def dstB:List Oper→Bool
  | []=>true
  | o :: l=>(match o.dst with | some x=>l.all (fun o'=>o'.dst != some x) | none=>true) && dstB l
theorem dstB_cons {o:Oper} {l:List Oper} (h:dstB (o :: l)=true):(∀ o' ∈ l,∀ x,o.dst=some x→o'.dst≠some x)∧dstB l=true:=by
  simp only [dstB,Bool.and_eq_true] at h;refine ⟨fun o' ho' x hx=>?_,h.2⟩;have h1:=h.1;rw [hx] at h1;simp only [List.all_eq_true,bne_iff_ne] at h1;exact h1 o' ho'
theorem puts_set (vs:Nat→Value) (v:Value) (k:Nat):∀ (l:List Oper) (m:Nat) (a:Act) (o:Oper),dstB l=true→m≤k→l[k - m]? = some o →
    (puts vs m l a).put o.dst v=puts (fun i=>if i=k then v else vs i) m l a
  | [],_,_,_,_,_,h=>by simp at h
  | o' :: l,m,a,o,hd,hm,h=>by
    obtain ⟨h1,h2⟩:=dstB_cons hd;simp only [puts]
    by_cases hk:k=m
    · subst hk
      simp at h;subst h;rw [puts_put vs _ v l (k+1) _ h1,put_put,if_pos rfl];exact puts_congr l (k+1) _ (fun i hi=>by rw [if_neg (by omega)])
    · rw [if_neg (fun e=>hk e.symm)]
      refine puts_set vs v k l (m+1) _ o h2 (by omega) ?_;rw [show k - m=(k - (m+1))+1 by omega,List.getElem?_cons_succ] at h;exact h
def own (a:Act) (o:Oper):Value:=match o.dst with | some d=>a.tmps.getD d undef | none=>undef
theorem put_own (a:Act) (o:Oper):a.put o.dst (own a o)=a:=by
  unfold own;cases hd:o.dst with
  | none=>rfl
  | some d =>
    simp only [Act.put];obtain ⟨tmps,defers⟩:=a
    congr 1
    apply Array.ext
    · simp
    · intro i h1 h2
      rw [Array.getElem_setIfInBounds h2]
      split
      · rename_i e
        subst e;simp [h2]
      · rfl
theorem puts_own (a:Act) (vs:Nat→Value):∀ (l:List Oper) (m:Nat),(∀ i o,l[i]? = some o→vs (m+i)=own a o)→puts vs m l a=a
  | [],_,_=>rfl
  | o :: l,m,h=>by
    simp only [puts];rw [show vs m=own a o from h 0 o rfl,put_own]
    exact puts_own a vs l (m+1) (fun i o' ho=>by
      have:=h (i+1) o' (by simpa using ho)
      rw [show m+(i+1)=m+1+i by omega] at this
      exact this)
def depB (o:Oper) (d:Nat):Bool:=o.after.toList.any (fun e=>e.on == d && Region.binds .any e)
theorem depB_spec {o:Oper} {d:Nat} (h:depB o d=true):∃ e,e ∈ o.after∧e.on=d∧Region.binds .any e=true:=by
  simp only [depB,List.any_eq_true,Bool.and_eq_true,beq_iff_eq] at h;obtain ⟨e,he,h2,h3⟩:=h;exact ⟨e,by simpa using he,h2,h3⟩
def backB:Nat→List Oper→Bool
  | _,[]=>true
  | k,o :: l=>o.after.toList.all (fun e=>!Region.binds .any e || decide (e.on < k)) && backB (k+1) l
theorem backB_at:∀ (l:List Oper) (m:Nat),backB m l=true→∀ i o,l[i]? = some o→∀ e ∈ o.after,Region.binds .any e=true→e.on < m+i
  | [],_,_,_,_,h=>by simp at h
  | o :: l,m,hb,i,x,hx=>by
    simp only [backB,Bool.and_eq_true,List.all_eq_true,Bool.or_eq_true,Bool.not_eq_true',decide_eq_true_eq] at hb;cases i with
    | zero =>
      simp at hx;subst hx;intro e he hbn;rcases hb.1 e (by simpa using he) with h | h
      · rw [h] at hbn;cases hbn
      · exact h
    | succ i =>
      intro e he hbn;have:=backB_at l (m+1) hb.2 i x (by simpa using hx) e he hbn
      omega
def coverB (L:List Oper):Bool:=(List.range (L.length - 1)).all (fun j=>(List.range L.length).any (fun k=>decide (j < k) && (match L[k]? with | some o=>depB o j | none=>false)))
theorem coverB_at {L:List Oper} (h:coverB L=true) (j:Nat) (hj:j < L.length - 1):∃ k o,j < k∧L[k]? = some o∧depB o j=true:=by
  have h1:=(List.all_eq_true.1 h) j (List.mem_range.2 hj);obtain ⟨k,_,hk⟩:=List.any_eq_true.1 h1;simp only [Bool.and_eq_true,decide_eq_true_eq] at hk;cases ho:L[k]? with
  | none=>rw [ho] at hk;simp at hk
  | some o=>rw [ho] at hk;exact ⟨k,o,hk.1,ho,hk.2⟩
theorem least {p:Nat→Prop}:∀ n,p n→∃ m,m≤n∧p m∧∀ i,i < m→¬ p i:=by
  intro n
  induction n using Nat.strongRecOn with
  | ind n ih =>
    intro hp
    by_cases h:∃ i,i < n∧p i
    · obtain ⟨i,hi,hpi⟩:=h
      obtain ⟨m,h1,h2,h3⟩:=ih i hi hpi;exact ⟨m,by omega,h2,h3⟩
    · exact ⟨n,Nat.le_refl _,hp,fun i hi hpi=>h ⟨i,hi,hpi⟩⟩
def Step (P:Program) (ops:Array Oper) (Q:Exit→Act→World→Prop) (Fs:List Fact) (A:(Nat→Value)→Act) (w0:World) (k:Nat) (o:Oper):Prop :=
  ∀ (vs:Nat→Value) (lo hi:Nat→Nat) (w:World),Below w0.heap.size w0 w→(∀ d,depB o d=true→fct Fs d (lo d) (hi d) (vs d) w)→∀ K':Act→World→Prop,
    Shut (∀ v w',fct Fs k w.heap.size w'.heap.size v w'→Below w.heap.size w w'→K' ((A vs).put o.dst v) w') →
    if Region.wanted o (yielded ops (A vs).tmps)=true then Oper.wp P o (A vs) w K' Q else K' ((A vs).put o.dst undef) w
def Steps (P:Program) (ops:Array Oper) (Q:Exit→Act→World→Prop) (Fs:List Fact) (A:(Nat→Value)→Act) (w0:World):Nat→List Oper→Prop
  | _,[]=>True
  | _,[_]=>True
  | k,o :: o' :: l=>Step P ops Q Fs A w0 k o∧Steps P ops Q Fs A w0 (k+1) (o' :: l)
theorem Steps.at {P:Program} {ops:Array Oper} {Q:Exit→Act→World→Prop} {Fs:List Fact} {A:(Nat→Value)→Act} {w0:World}:∀ (l:List Oper) (m:Nat),Steps P ops Q Fs A w0 m l→∀ i o,l[i]? = some o→i+1 < l.length→Step P ops Q Fs A w0 (m+i) o
  | [],_,_,_,_,_,h=>by simp at h
  | [_],_,_,i,_,_,h=>by simp at h
  | o :: o' :: l,m,h,i,x,hx,hi=>by
    cases i with
    | zero =>
      simp at hx;subst hx;exact h.1
    | succ i =>
      have:=Steps.at (o' :: l) (m+1) h.2 i x (by simpa using hx) (by simp at hi ⊢;omega)
      rw [show m+1+i=m+(i+1) by omega] at this;exact this
theorem getD_set_self {listed:Array Bool} {i j:Nat} (h:(listed.setIfInBounds i true).getD j false=true):j=i∨listed.getD j false=true:=by
  by_cases e:i=j
  · exact .inl e.symm
  · rw [getD_set_ne false e] at h
    exact .inr h
theorem falses_set {listed:Array Bool} {i:Nat} (h:listed.getD i true=false):(listed.setIfInBounds i true).toList.count false+1=listed.toList.count false:=by
  have hi:i < listed.size:=by
    rcases Nat.lt_or_ge i listed.size with h' | h'
    · exact h'
    · simp [Array.getElem?_eq_none h'] at h
  have hv:listed[i]=false:=by simpa [hi] using h
  rw [Array.toList_setIfInBounds,List.count_set (by simpa using hi)];have h2:listed.toList[i]'(by simpa using hi)=false:=by simpa using hv
  rw [h2];have h3:0 < listed.toList.count false:=List.count_pos_iff.2 (by rw [← h2];exact List.getElem_mem _);have e1:(if (false == false)=true then 1 else 0)=1:=rfl;have e2:(if (true == false)=true then 1 else 0)=0:=rfl;rw [e1,e2];omega
theorem wpAny_facts {P:Program} {l:List Oper} {olast:Oper} {Q:Exit→Act→World→Prop} {Fs:List Fact} {a0:Act} {w0:World} {A:(Nat→Value)→Act}
    (hA:∀ vs,puts vs 0 (l ++ [olast]) a0=A vs) (hd:dstB (l ++ [olast])=true) (hbk:backB 0 (l ++ [olast])=true) (hc:coverB (l ++ [olast])=true) (hF:MonoAll Fs) (hlen:Fs.length=l.length)
    (hs:Steps P (l ++ [olast]).toArray Q Fs A w0 0 (l ++ [olast]))
    (hl:∀ vs lo hi w,Below w0.heap.size w0 w→(∀ k,k < l.length→w0.heap.size≤lo k∧hi k≤w.heap.size)→(∀ j k,j < l.length→k < l.length→j≠k→hi j≤lo k∨hi k≤lo j)→AllF vs lo hi w 0 Fs→wpOp P (l ++ [olast]).toArray Q l.length (fun a' w'=>Q .normal a' w') (A vs) w) :
    ∀ (fuel:Nat) (listed:Array Bool) (vs:Nat→Value) (lo hi:Nat→Nat) (w:World),listed.size=l.length+1→listed.getD l.length true=false→listed.toList.count false≤fuel→Below w0.heap.size w0 w →
      (∀ k,listed.getD k false=true→(w0.heap.size≤lo k∧hi k≤w.heap.size)∧fct Fs k (lo k) (hi k) (vs k) w)→(∀ j k,listed.getD j false=true→listed.getD k false=true→j≠k→hi j≤lo k∨hi k≤lo j)→(∀ k o,(l ++ [olast])[k]? = some o→listed.getD k false=true→∀ j,depB o j=true→listed.getD j false=true)→wpAny P .any (l ++ [olast]).toArray Q fuel listed (A vs) w:=by
  intro fuel
  induction fuel with
  | zero =>
    intro listed vs lo hi w hsz hlast hcnt;have hi:l.length < listed.size:=by omega
    have hv:listed[l.length]=false:=by simpa [hi] using hlast
    have h3:0 < listed.toList.count false:=List.count_pos_iff.2 (by rw [← hv,← Array.getElem_toList];exact List.getElem_mem _);omega
  | succ fuel ih =>
    intro listed vs lo hi w hsz hlast hcnt hb hf hap hdn
    have hnext:∀ i,i ∈ Region.ready .any (l ++ [olast]).toArray listed→wpOp P (l ++ [olast]).toArray Q i (wpAny P .any (l ++ [olast]).toArray Q fuel (listed.setIfInBounds i true)) (A vs) w:=by
      intro i hrd;obtain ⟨hun,o,ho,hall⟩:=mem_ready.1 hrd
      have hlt:i < l.length+1:=by
        have:=(Array.getElem?_eq_some_iff.1 ho).1
        simpa using this
      by_cases hil:i=l.length
      · subst hil
        have hol:o=olast:=by simpa using ho.symm
        subst hol
        have hthere:∀ d j,j < l.length→l.length - j≤d→listed.getD j false=true:=by
          intro d
          induction d with
          | zero=>intro j hj hd';omega
          | succ d ihd =>
            intro j hj hd';obtain ⟨k,ok,hjk,hok,hdep⟩:=coverB_at hc j (by simpa using hj)
            by_cases hkl:k=l.length
            · subst hkl
              have:ok=o:=by simpa using hok.symm
              subst this;obtain ⟨e,he,h2,h3⟩:=depB_spec hdep;have:=hall e he h3
              rw [h2] at this;exact this
            · have hkn:k < l.length:=by
                have:=(List.getElem?_eq_some_iff.1 hok).1
                simp at this;omega
              exact hdn k ok hok (ihd k hkn (by omega)) j hdep
        replace hthere:∀ j,j < l.length→listed.getD j false=true:=fun j hj=>hthere (l.length - j) j hj (Nat.le_refl _)
        refine wpOp_mono (fun a' w' hq=>?_) (hl vs lo hi w hb (fun k hk=>(hf k (hthere k hk)).1) (fun j k hj hk=>hap j k (hthere j hj) (hthere k hk)) (allF_of Fs 0 (fun i hi'=>by rw [Nat.zero_add];exact (hf i (hthere i (by omega))).2)))
        have hnone:Region.ready .any (l ++ [o]).toArray (listed.setIfInBounds l.length true)=[]:=by
          rw [List.eq_nil_iff_forall_not_mem];intro j hj;obtain ⟨h1,_⟩:=mem_ready.1 hj
          by_cases hjl:l.length=j
          · subst hjl
            have:l.length < listed.size:=by omega
            simp [this] at h1
          · rw [getD_set_ne true hjl] at h1
            have hjs:j < listed.size:=by
              rcases Nat.lt_or_ge j listed.size with h' | h'
              · exact h'
              · simp [Array.getElem?_eq_none h'] at h1
            have h4:=hthere j (by omega);simp [hjs] at h1 h4;rw [h1] at h4;cases h4
        exact wpAny_done hnone hq fuel
      · have hst:=Steps.at (l ++ [olast]) 0 hs i o (by simpa using ho) (by simp;omega)
        rw [Nat.zero_add] at hst;refine wpOp_step ho (fun K' hK=>hst vs lo hi w hb (fun d hdep=>?_) K' (fun v w' hv hbw=>?_))
        · obtain ⟨e,he,h2,h3⟩:=depB_spec hdep
          subst h2;exact (hf _ (hall e he h3)).2
        · refine hK _ _ ?_
          have hset:(A vs).put o.dst v=A (fun i'=>if i'=i then v else vs i'):=by
            rw [← hA,← hA];exact puts_set vs v i (l ++ [olast]) 0 a0 o hd (Nat.zero_le _) (by simpa using ho)
          rw [hset];refine ih _ _ (fun i'=>if i'=i then w.heap.size else lo i') (fun i'=>if i'=i then w'.heap.size else hi i') _ (by simpa using hsz) (by rw [getD_set_ne true hil];exact hlast) ?_ (bthen hb hbw) (fun k hk=>?_) (fun j k hj hk hjk=>?_) (fun k ok hok hk j hdep=>?_)
          · have:=falses_set hun
            omega
          · have h9:=hbw.size
            have h8:=hb.size
            by_cases hki:k=i
            · subst hki
              simp only [if_pos];exact ⟨⟨h8,Nat.le_refl _⟩,hv⟩
            · simp only [if_neg hki]
              rcases getD_set_self hk with h5 | h5
              · exact absurd h5 hki
              · have h6:=(hf k h5).1
                exact ⟨⟨h6.1,by omega⟩,hF.at k _ _ _ _ _ (hf k h5).2 hbw⟩
          · rcases getD_set_self hj with h5 | h5 <;> rcases getD_set_self hk with h6 | h6
            · omega
            · subst h5
              by_cases hki:k=j
              · omega
              · simp only [if_neg hki,if_pos]
                exact .inr (hf k h6).1.2
            · subst h6
              by_cases hji:j=k
              · omega
              · simp only [if_neg hji,if_pos]
                exact .inl (hf j h5).1.2
            · by_cases hki:k=i
              · subst hki
                by_cases hji:j=k
                · omega
                · simp only [if_neg hji,if_pos]
                  exact .inl (hf j h5).1.2
              · by_cases hji:j=i
                · subst hji
                  simp only [if_neg hki,if_pos];exact .inr (hf k h6).1.2
                · simp only [if_neg hki,if_neg hji]
                  exact hap j k h5 h6 hjk
          · rcases getD_set_self hk with h5 | h5
            · subst h5
              have:ok=o:=by
                have h7:(l ++ [olast])[k]? = some o:=by simpa using ho
                rw [h7] at hok;exact (Option.some.inj hok).symm
              subst this;obtain ⟨e,he,h2,h3⟩:=depB_spec hdep;have:=hall e he h3
              rw [h2] at this;exact getD_set_true this
            · exact getD_set_true (hdn k ok hok h5 j hdep)
    refine ⟨fun hnil=>?_,hnext⟩;exfalso
    obtain ⟨m,hm,hpm,hmin⟩:=least (p:=fun j=>listed.getD j true=false) l.length hlast
    have hmo:∃ o,(l ++ [olast]).toArray[m]? = some o:=by
      rw [List.getElem?_toArray];exact ⟨_,List.getElem?_eq_getElem (by simp;omega)⟩
    obtain ⟨o,ho⟩:=hmo
    have hin:m ∈ Region.ready .any (l ++ [olast]).toArray listed:=mem_ready.2 ⟨hpm,o,ho,fun e he hbn=>by
      have h1:=backB_at (l ++ [olast]) 0 hbk m o (by simpa using ho) e he hbn;have h2:=hmin e.on (by omega);have h3:e.on < listed.size:=by omega
      simp [h3] at h2 ⊢
      exact h2⟩
    rw [hnil] at hin;cases hin
theorem wp_region_facts {P:Program} {id:Nat} {L:List Oper} {olast:Oper} {Q:Exit→Act→World→Prop} (Fs:List Fact) {a0:Act} {w0:World} {A:(Nat→Value)→Act} (hm:P.follows .mixedOrders=true) (hL:L.getLast? = some olast)
    (hA:∀ vs,puts vs 0 L a0=A vs) (hd:dstB L=true) (hbk:backB 0 L=true) (hc:coverB L=true) (hlen:Fs.length=L.length - 1) (hF:MonoAll Fs)
    (hs:∀ Q',Steps P L.toArray Q' Fs A w0 0 L)
    (hl:∀ vs lo hi w,Below w0.heap.size w0 w→(∀ k,k < L.length - 1→w0.heap.size≤lo k∧hi k≤w.heap.size)→(∀ j k,j < L.length - 1→k < L.length - 1→j≠k→hi j≤lo k∨hi k≤lo j)→AllF vs lo hi w 0 Fs→∀ (K':Act→World→Prop) (Q':Exit→Act→World→Prop),Shut (∀ a w,Q .normal a w→K' a w) →
      if Region.wanted olast (yielded L.toArray (A vs).tmps)=true then Oper.wp P olast (A vs) w K' Q' else K' ((A vs).put olast.dst undef) w) :
    (Code.region id L.toArray true).wp P Q a0 w0:=by
  obtain ⟨l,rfl⟩:∃ l,L=l ++ [olast]:=by
    obtain ⟨l,hl⟩:=List.getLast?_eq_some_iff.1 hL;exact ⟨l,hl⟩
  have hn:(l ++ [olast]).length - 1=l.length:=by simp
  rw [hn] at hlen hl;refine wp_region_any hm ?_
  obtain ⟨vs,hvs⟩:∃ vs:Nat→Value,∀ i o,(l ++ [olast])[i]? = some o→vs (0+i)=own a0 o :=
    ⟨fun i=>match (l ++ [olast])[i]? with | some o=>own a0 o | none=>undef,fun i o ho=>by simp only [Nat.zero_add,ho]⟩
  have e:a0=A vs:=by rw [← hA,puts_own a0 vs _ 0 hvs]
  have h:=wpAny_facts hA hd hbk hc hF hlen (hs Q) (fun vs lo hi w hb h1 h2 hf=>wpOp_step (by simp) (fun K' hK=>hl vs lo hi w hb h1 h2 hf K' Q hK)) (l ++ [olast]).toArray.size (Array.replicate (l ++ [olast]).toArray.size false) vs (fun _=>0) (fun _=>0) w0.drew (by simp) (by simp)
    (Nat.le_trans List.count_le_length (by simp)) (Below.refl _ _).drew (fun k hk=>by simp [Array.getD] at hk) (fun j k hk=>by simp [Array.getD] at hk) (fun k o _ hk=>by simp [Array.getD] at hk)
  rw [← e] at h;exact h
end Go.Proofs.YtapcmbbhhclepaaGreatDoor.Dig
namespace Go.Proofs.YtapcmbbhhclepaaGreatDoor.Dig
open Go.RowKit
set_option maxHeartbeats 1000000 in
theorem spread_any (b o cap:Nat) (bs:List Int) (w:World) (hl:bs.length=64) (hcap:64≤cap) (hr:Rd w b o bs) (h8:∀ i:Nat,0≤bs[i]?.getD 0∧bs[i]?.getD 0≤255) :
    Calls Tryz.prog 138 #[.slice (some ⟨b,o,none⟩) 64 cap] w fun e w'=>e=.returned (.agg (wds (Dg.spread bs)))∧Below w.heap.size w w':=by
  have HL:=hide hl;clear hl;go_enter Tryz.func138,Tryz.ntmps138
  go_wp2_with fail
  go_loopw [9] (fun i wr=>∃ k:Nat,k≤64∧i=.int .i64 k∧Blk wr (w.heap.size+1) 147 (wds (Dg.acc bs k))∧Blk wr w.heap.size 147 (wds (List.replicate 64 0))∧Below w.heap.size w wr) (fun i _=>64 - (intOf i).toNat)
  case atStart =>
    refine ⟨0,by omega,rfl,?_,?_,((Below.refl _ _).alloc (Nat.le_refl _) _).alloc (by simp) _⟩
    · have:=blk_new (w.alloc (.cells (wds (List.replicate 64 0)) 147)) 147 (wds (List.replicate 64 0))
      rw [World.size_alloc] at this;exact this
    · exact (blk_new w 147 (wds (List.replicate 64 0))).below ((Below.refl _ _).alloc (Nat.le_refl _) _) (by simp)
  case round =>
    obtain ⟨k,hk,rfl,hB,hR,hbel⟩:=hrel
    by_cases hlt:k < 64
    · have hbyte:=hr.below hbel k (by rw [HL.out];exact hlt)
      have hb8:=h8 k;have hcell:=(hB.cell (k / 4)).trans (wds_at (by rw [Dg.acc_length];omega));have hfr:=hB.frozen (k / 4);have HBk:=hide hB;have HRk:=hide hR;have HBe:=hide hbel;clear hB hR hbel hr h8
      go_wp2_with fail
      go_roundw
      case rel =>
        refine ⟨k+1,by omega,by go_num,?_,?_,HBe.out.setCell (p:=⟨w.heap.size+1,k / 4,none⟩) (by simp) _⟩
        · have:=HBk.out.set (k / 4) (w32 (bits .or .u32 ((Dg.acc bs k)[k / 4]?.getD 0 * 256 % 4294967296) (bs[k]?.getD 0)))
          rw [wds_set] at this;exact this
        · exact (But.set (.refl _ _) (k / 4) _).other HRk.out (by omega)
      case measure=>simp [intOf];omega
    · have HK:Hid (k=64):=by show k=64;omega
      have HBl:Hid (Blk wr (w.heap.size+1) 147 (wds (Dg.sch (Dg.acc bs 64) (16 - 16)))):=by rw [HK.out] at hB;exact hB
      have HRl:=hide hR;have HBw:=hide hbel;clear hB hR hbel hr h8 hk
      go_wp2_with fail
      clear hlt
      go_loopw [6] (fun i wq=>∃ t:Nat,16≤t∧t≤64∧i=.int .i64 t∧Blk wq (w.heap.size+1) 147 (wds (Dg.sch (Dg.acc bs 64) (t - 16)))∧Blk wq w.heap.size 147 (wds (List.replicate 64 0))∧Below w.heap.size w wq) (fun i _=>64 - (intOf i).toNat)
      case atStart=>exact ⟨16,by omega,by omega,rfl,HBl.out,HRl.out,HBw.out⟩
      case round =>
        obtain ⟨t,ht,ht2,rfl,hB,hR,hbel⟩:=hrel;clear HBl HRl HBw
        by_cases hlt:t < 64
        · have HLT:Hid (w.heap.size+1 < wr.heap.size):=hB.lt
          have hlen:(Dg.sch (Dg.acc bs 64) (t - 16)).length=64:=by rw [Dg.sch_length,Dg.acc_length]
          obtain ⟨x2,e2⟩:∃ x,x=(Dg.sch (Dg.acc bs 64) (t - 16))[t - 2]?.getD 0:=⟨_,rfl⟩;obtain ⟨x7,e7⟩:∃ x,x=(Dg.sch (Dg.acc bs 64) (t - 16))[t - 7]?.getD 0:=⟨_,rfl⟩;obtain ⟨x15,e15⟩:∃ x,x=(Dg.sch (Dg.acc bs 64) (t - 16))[t - 15]?.getD 0:=⟨_,rfl⟩;obtain ⟨x16,e16⟩:∃ x,x=(Dg.sch (Dg.acc bs 64) (t - 16))[t - 16]?.getD 0:=⟨_,rfl⟩;have HX2:Hid (wr.cell? ⟨w.heap.size+1,t - 2,none⟩=some (.int .u32 x2)):=by rw [e2];exact (hB.cell _).trans (wds_at (by omega))
          have HX7:Hid (wr.cell? ⟨w.heap.size+1,t - 7,none⟩=some (.int .u32 x7)):=by rw [e7];exact (hB.cell _).trans (wds_at (by omega))
          have HX15:Hid (wr.cell? ⟨w.heap.size+1,t - 15,none⟩=some (.int .u32 x15)):=by rw [e15];exact (hB.cell _).trans (wds_at (by omega))
          have HX16:Hid (wr.cell? ⟨w.heap.size+1,t - 16,none⟩=some (.int .u32 x16)):=by rw [e16];exact (hB.cell _).trans (wds_at (by omega))
          have HXT:Hid (wr.cell? ⟨w.heap.size+1,t,none⟩=some (.int .u32 ((Dg.sch (Dg.acc bs 64) (t - 16))[t]?.getD 0))):=(hB.cell _).trans (wds_at (by omega));have HFT:Hid (wr.frozen? ⟨w.heap.size+1,t,none⟩=false):=hB.frozen _;have HE:Hid (Dg.sch (Dg.acc bs 64) (t+1 - 16)=(Dg.sch (Dg.acc bs 64) (t - 16)).set t ((Dg.s1 x2+x7+Dg.s0 x15+x16) % 4294967296)):=by rw [e2,e7,e15,e16];exact Dg.sch_next _ _ ht
          have HBk:=hide hB;have HRk:=hide hR;have HBe:=hide hbel;clear hB hR hbel e2 e7 e15 e16 hlen
          go_upto_region 10 with fail
          generalize decide ((t:Int) < 64)=bt;have Ht:=hide ht;have Ht2:=hide hlt;clear ht hlt ht2;refine' wp_region_facts [(fun _ _ v _=>v=(.int .i64 (t:Int))),(fun _ _ v _=>v=(.int .i64 (t:Int))),(fun _ _ v _=>v=(.int .i64 (t - 2:Int))),(fun _ _ v _=>v=(.pointer (some ⟨w.heap.size+1,t - 2,none⟩))),(fun _ _ v _=>v=(.int .u32 x2)),(fun _ _ v _=>v=(.int .u32 (Dg.s1 x2))),(fun _ _ v _=>v=(.int .i64 (t:Int))),(fun _ _ v _=>v=(.int .i64 (t - 7:Int))),(fun _ _ v _=>v=(.pointer (some ⟨w.heap.size+1,t - 7,none⟩))),(fun _ _ v _=>v=(.int .u32 x7)),(fun _ _ v _=>v=(.int .u32 ((Dg.s1 x2+x7) % 4294967296))),(fun _ _ v _=>v=(.int .i64 (t:Int))),(fun _ _ v _=>v=(.int .i64 (t - 15:Int))),(fun _ _ v _=>v=(.pointer (some ⟨w.heap.size+1,t - 15,none⟩))),(fun _ _ v _=>v=(.int .u32 x15)),(fun _ _ v _=>v=(.int .u32 (Dg.s0 x15))),(fun _ _ v _=>v=(.int .u32 ((Dg.s1 x2+x7+Dg.s0 x15) % 4294967296))),(fun _ _ v _=>v=(.int .i64 (t:Int))),(fun _ _ v _=>v=(.int .i64 (t - 16:Int))),(fun _ _ v _=>v=(.pointer (some ⟨w.heap.size+1,t - 16,none⟩))),(fun _ _ v _=>v=(.int .u32 x16)),(fun _ _ v _=>v=(.int .u32 ((Dg.s1 x2+x7+Dg.s0 x15+x16) % 4294967296))),(fun _ _ v _=>v=(.pointer (some ⟨w.heap.size+1,t,none⟩)))] (by kernel_rfl) rfl ?hA (by kernel_rfl) (by kernel_rfl) (by kernel_rfl) rfl ?mono ?steps ?last
          case hA =>
            intro vs;simp only [puts,Act.put,List.setIfInBounds_toArray,List.set_cons_zero,List.set_cons_succ,Nat.zero_add,Nat.reduceAdd];rfl
          case mono=>exact ⟨mono_eq _,mono_eq _,mono_eq _,mono_eq _,mono_eq _,mono_eq _,mono_eq _,mono_eq _,mono_eq _,mono_eq _,mono_eq _,mono_eq _,mono_eq _,mono_eq _,mono_eq _,mono_eq _,mono_eq _,mono_eq _,mono_eq _,mono_eq _,mono_eq _,mono_eq _,mono_eq _,trivial⟩
          case steps =>
            intro Q';refine And.intro ?_ <| And.intro ?_ <| And.intro ?_ <| And.intro ?_ <| And.intro ?_ <| And.intro ?_ <| And.intro ?_ <| And.intro ?_ <| And.intro ?_ <| And.intro ?_ <| And.intro ?_ <| And.intro ?_ <| And.intro ?_ <| And.intro ?_ <| And.intro ?_ <| And.intro ?_ <| And.intro ?_ <| And.intro ?_ <| And.intro ?_ <| And.intro ?_ <| And.intro ?_ <| And.intro ?_ <| And.intro ?_ <| trivial
            all_goals
              intro vs lo hi w' hM hd K' hK;dsimp only at hK ⊢;simp only [Act.put,List.setIfInBounds_toArray,List.set_cons_zero,List.set_cons_succ] at hK
            · go_simp
              exact hK.out _ _ rfl (Below.refl _ _)
            · go_simp
              exact hK.out _ _ rfl (Below.refl _ _)
            · have e1:vs 1=(.int .i64 (t:Int)):=hd 1 (by kernel_rfl)
              simp only [e1] at hK ⊢;clear e1;have g0:(16:Int)≤(t:Int):=by have:=Ht.out;omega
              have g1:(t:Int) < 64:=by have:=Ht2.out;omega
              go_simp;exact hK.out _ _ (int_i64 rfl (by omega) (by omega)) (Below.refl _ _)
            · have e2:vs 2=(.int .i64 (t - 2:Int)):=hd 2 (by kernel_rfl)
              simp only [e2] at hK ⊢;clear e2;have g0:(2:Int)≤(t:Int):=by have:=Ht.out;omega
              have g1:(t:Int) - 2 < 64:=by have:=Ht2.out;omega
              have g2:((t:Int) - 2).toNat=t - 2:=by omega
              go_simp;exact hK.out _ _ rfl (Below.refl _ _)
            · have e3:vs 3=(.pointer (some ⟨w.heap.size+1,t - 2,none⟩)):=hd 3 (by kernel_rfl)
              simp only [e3] at hK ⊢;clear e3;have q0:=(hM.cell (p:=⟨w.heap.size+1,t - 2,none⟩) HLT.out).trans HX2.out;go_simp;exact hK.out _ _ rfl (Below.refl _ _)
            · have e4:vs 4=(.int .u32 x2):=hd 4 (by kernel_rfl)
              simp only [e4] at hK ⊢;clear e4;go_simp;refine (small1_any _ _).mono ?_;rintro e w7 ⟨rfl,k7,rfl⟩;exact hK.out _ _ rfl (below_drewN (Below.refl _ _) _)
            · go_simp
              exact hK.out _ _ rfl (Below.refl _ _)
            · have e6:vs 6=(.int .i64 (t:Int)):=hd 6 (by kernel_rfl)
              simp only [e6] at hK ⊢;clear e6;have g0:(16:Int)≤(t:Int):=by have:=Ht.out;omega
              have g1:(t:Int) < 64:=by have:=Ht2.out;omega
              go_simp;exact hK.out _ _ (int_i64 rfl (by omega) (by omega)) (Below.refl _ _)
            · have e7:vs 7=(.int .i64 (t - 7:Int)):=hd 7 (by kernel_rfl)
              simp only [e7] at hK ⊢;clear e7;have g0:(7:Int)≤(t:Int):=by have:=Ht.out;omega
              have g1:(t:Int) - 7 < 64:=by have:=Ht2.out;omega
              have g2:((t:Int) - 7).toNat=t - 7:=by omega
              go_simp;exact hK.out _ _ rfl (Below.refl _ _)
            · have e8:vs 8=(.pointer (some ⟨w.heap.size+1,t - 7,none⟩)):=hd 8 (by kernel_rfl)
              simp only [e8] at hK ⊢;clear e8;have q0:=(hM.cell (p:=⟨w.heap.size+1,t - 7,none⟩) HLT.out).trans HX7.out;go_simp;exact hK.out _ _ rfl (Below.refl _ _)
            · have e5:vs 5=(.int .u32 (Dg.s1 x2)):=hd 5 (by kernel_rfl)
              have e9:vs 9=(.int .u32 x7):=hd 9 (by kernel_rfl);simp only [e5,e9] at hK ⊢;clear e5 e9;go_simp;exact hK.out _ _ (int_u32 (by omega)) (Below.refl _ _)
            · go_simp
              exact hK.out _ _ rfl (Below.refl _ _)
            · have e11:vs 11=(.int .i64 (t:Int)):=hd 11 (by kernel_rfl)
              simp only [e11] at hK ⊢;clear e11;have g0:(16:Int)≤(t:Int):=by have:=Ht.out;omega
              have g1:(t:Int) < 64:=by have:=Ht2.out;omega
              go_simp;exact hK.out _ _ (int_i64 rfl (by omega) (by omega)) (Below.refl _ _)
            · have e12:vs 12=(.int .i64 (t - 15:Int)):=hd 12 (by kernel_rfl)
              simp only [e12] at hK ⊢;clear e12;have g0:(15:Int)≤(t:Int):=by have:=Ht.out;omega
              have g1:(t:Int) - 15 < 64:=by have:=Ht2.out;omega
              have g2:((t:Int) - 15).toNat=t - 15:=by omega
              go_simp;exact hK.out _ _ rfl (Below.refl _ _)
            · have e13:vs 13=(.pointer (some ⟨w.heap.size+1,t - 15,none⟩)):=hd 13 (by kernel_rfl)
              simp only [e13] at hK ⊢;clear e13;have q0:=(hM.cell (p:=⟨w.heap.size+1,t - 15,none⟩) HLT.out).trans HX15.out;go_simp;exact hK.out _ _ rfl (Below.refl _ _)
            · have e14:vs 14=(.int .u32 x15):=hd 14 (by kernel_rfl)
              simp only [e14] at hK ⊢;clear e14;go_simp;refine (small0_any _ _).mono ?_;rintro e w7 ⟨rfl,k7,rfl⟩;exact hK.out _ _ rfl (below_drewN (Below.refl _ _) _)
            · have e10:vs 10=(.int .u32 ((Dg.s1 x2+x7) % 4294967296)):=hd 10 (by kernel_rfl)
              have e15:vs 15=(.int .u32 (Dg.s0 x15)):=hd 15 (by kernel_rfl);simp only [e10,e15] at hK ⊢;clear e10 e15;go_simp;exact hK.out _ _ (int_u32 (by omega)) (Below.refl _ _)
            · go_simp
              exact hK.out _ _ rfl (Below.refl _ _)
            · have e17:vs 17=(.int .i64 (t:Int)):=hd 17 (by kernel_rfl)
              simp only [e17] at hK ⊢;clear e17;have g0:(16:Int)≤(t:Int):=by have:=Ht.out;omega
              have g1:(t:Int) < 64:=by have:=Ht2.out;omega
              go_simp;exact hK.out _ _ (int_i64 rfl (by omega) (by omega)) (Below.refl _ _)
            · have e18:vs 18=(.int .i64 (t - 16:Int)):=hd 18 (by kernel_rfl)
              simp only [e18] at hK ⊢;clear e18;have g0:(16:Int)≤(t:Int):=by have:=Ht.out;omega
              have g1:(t:Int) - 16 < 64:=by have:=Ht2.out;omega
              have g2:((t:Int) - 16).toNat=t - 16:=by omega
              go_simp;exact hK.out _ _ rfl (Below.refl _ _)
            · have e19:vs 19=(.pointer (some ⟨w.heap.size+1,t - 16,none⟩)):=hd 19 (by kernel_rfl)
              simp only [e19] at hK ⊢;clear e19;have q0:=(hM.cell (p:=⟨w.heap.size+1,t - 16,none⟩) HLT.out).trans HX16.out;go_simp;exact hK.out _ _ rfl (Below.refl _ _)
            · have e16:vs 16=(.int .u32 ((Dg.s1 x2+x7+Dg.s0 x15) % 4294967296)):=hd 16 (by kernel_rfl)
              have e20:vs 20=(.int .u32 x16):=hd 20 (by kernel_rfl);simp only [e16,e20] at hK ⊢;clear e16 e20;go_simp;exact hK.out _ _ (int_u32 (by omega)) (Below.refl _ _)
            · have e0:vs 0=(.int .i64 (t:Int)):=hd 0 (by kernel_rfl)
              simp only [e0] at hK ⊢;clear e0;have g1:(t:Int) < 64:=by have:=Ht2.out;omega
              go_simp;exact hK.out _ _ rfl (Below.refl _ _)
          case last =>
            intro vs lo hi w' hM hlo hap hall K' Q' hK;have h21:vs 21=.int .u32 ((Dg.s1 x2+x7+Dg.s0 x15+x16) % 4294967296):=hall.2.2.2.2.2.2.2.2.2.2.2.2.2.2.2.2.2.2.2.2.2.1;have h22:vs 22=(.pointer (some ⟨w.heap.size+1,t,none⟩)):=hall.2.2.2.2.2.2.2.2.2.2.2.2.2.2.2.2.2.2.2.2.2.2.1;dsimp only;simp only [h21,h22];clear h21 h22 hall hap hlo;have q0:=(hM.cell (p:=⟨w.heap.size+1,t,none⟩) HLT.out).trans HXT.out;have q1:=(hM.frozen (p:=⟨w.heap.size+1,t,none⟩) HLT.out).trans HFT.out;have g1:(t:Int) < 64:=by have:=Ht2.out;omega
            go_simp;refine hK.out _ _ ?_;clear hK g1;have HM:=hide hM;clear hM q0 q1;have ht:=Ht.out;have hlt:=Ht2.out
            go_wp2_with fail
            go_roundw
            case rel =>
              refine ⟨t+1,by omega,by omega,by go_num,?_,?_,?_⟩
              · rw [HE.out,← wds_set]
                exact (HBk.out.below HM.out HLT.out).set t _
              · exact (But.set (.refl _ _) t _).other (HRk.out.below' HM.out) (by omega)
              · exact (HBe.out.trans (HM.out.mono HBe.out.size)).setCell (p:=⟨w.heap.size+1,t,none⟩) (by simp) _
            case measure=>simp [intOf];omega
        · obtain rfl:t=64:=by omega
          have HBk:=hide hB;have HRk:=hide hR;have HBe:=hide hbel;clear hB hR hbel
          go_upto_region 11 with fail
          refine wp_region_lit ?_;refine wpList_load_row rfl _ _ rfl (w.heap.size+1) rfl 147 (wds (Dg.spread bs)) (0,0) _ HBk.out Tryz.underlying147 rfl (by rw [wds_size,Dg.spread_length];kernel_rfl) ?_;refine wpList_store_row rfl _ _ _ rfl w.heap.size (wds (Dg.spread bs)) rfl rfl 147 _ HRk.out (by rw [wds_size,Dg.spread_length];kernel_rfl) (by rw [wds_size,wds_size,Dg.spread_length];rfl) (wds_one _) ?_;have hR2:=HRk.out.row (wds (Dg.spread bs));have hb2:Below w.heap.size w (wr.setRow w.heap.size (wds (Dg.spread bs))):=HBe.out.trans ((But.row (.refl _ _) _).to_below HBe.out.size (Nat.le_refl _));clear HBk HRk HBe;generalize wr.setRow w.heap.size (wds (Dg.spread bs))=w5 at hR2 hb2 ⊢;simp only [wpList,Act.put]
          go_wp2_with fail
          refine bodyPost_ret (v:=.agg (wds (Dg.spread bs))) ?_ rfl ⟨rfl,hb2⟩;exact results_cell_row rfl _ _ w.heap.size 147 _ (0,0) _ rfl hR2 Tryz.underlying147 rfl (by rw [wds_size,Dg.spread_length];kernel_rfl)
end Go.Proofs.YtapcmbbhhclepaaGreatDoor.Dig
