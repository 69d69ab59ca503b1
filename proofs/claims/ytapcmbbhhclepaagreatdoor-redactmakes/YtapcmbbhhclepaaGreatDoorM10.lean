/-
  What this claim takes of the earlier layers' texts: L1R.
-/
import Derived.Test.YtapcmbbhhclepaaGreatDoorM9
import Derived.Laws.BytesArg
import Derived.BigRegion
set_option linter.unusedVariables false
set_option linter.unusedSimpArgs false
set_option maxRecDepth 100000
namespace Go.Proofs.YtapcmbbhhclepaaGreatDoor
open Go.RowKit
namespace Gm
theorem nth_cons_zero (c:UInt8) (t:List UInt8):nth (c :: t) 0=c.toNat:=rfl
end Gm
namespace Gm
theorem nth_cons_succ (c:UInt8) (t:List UInt8) (i:Nat):nth (c :: t) (i+1)=nth t i:=rfl
end Gm
namespace Gm
theorem nth_append_left (a b:List UInt8) (i:Nat) (h:i < a.length):nth (a ++ b) i=nth a i:=by
  unfold nth;congr 1;simp [List.getD_eq_getElem?_getD,List.getElem?_append_left h]
end Gm
namespace Gm
theorem ne_nil_len {l:List UInt8} (h:l≠[]):1≤l.length:=by
  cases l with | nil=>exact absurd rfl h | cons _ _=>simp
end Gm
namespace Gm
def S1 (l:List UInt8):Prop:=nth l 0 < 128
end Gm
namespace Gm
def S2 (l:List UInt8):Prop:=nth l 0 / 32=6∧1 < l.length∧nth l 1 / 64=2∧128≤nth l 0 % 32 * 64+nth l 1 % 64
end Gm
namespace Gm
def c3 (l:List UInt8):Nat:=nth l 0 % 16 * 4096+nth l 1 % 64 * 64+nth l 2 % 64
end Gm
namespace Gm
def S3 (l:List UInt8):Prop:=nth l 0 / 16=14∧2 < l.length∧nth l 1 / 64=2∧nth l 2 / 64=2∧2048≤c3 l∧(c3 l < 55296∨57344≤c3 l)
end Gm
namespace Gm
def c4 (l:List UInt8):Nat:=nth l 0 % 8 * 262144+nth l 1 % 64 * 4096+nth l 2 % 64 * 64+nth l 3 % 64
end Gm
namespace Gm
def S4 (l:List UInt8):Prop:=nth l 0 / 8=30∧3 < l.length∧nth l 1 / 64=2∧nth l 2 / 64=2∧nth l 3 / 64=2∧65536≤c4 l∧c4 l≤1114111
end Gm
namespace Gm
theorem dec_S2 {l:List UInt8} (h:S2 l):dec l=(nth l 0 % 32 * 64+nth l 1 % 64,2):=by
  obtain ⟨h0,h1,h2,h3⟩:=h;unfold dec Lib.decodeN;rw [if_neg (by omega),if_pos ⟨h0,h1,h2⟩,if_pos (by omega)]
end Gm
namespace Gm
theorem dec_S3 {l:List UInt8} (h:S3 l):dec l=(c3 l,3):=by
  obtain ⟨h0,h1,h2,h3,h4,h5⟩:=h;have l0:=nth_lt l 0;unfold c3 at *;unfold dec Lib.decodeN;rw [if_neg (by omega),if_neg (by omega),if_pos ⟨h0,⟨by omega,h2⟩,h1,h3⟩,if_pos ⟨by omega,by omega⟩]
end Gm
namespace Gm
theorem dec_S4 {l:List UInt8} (h:S4 l):dec l=(c4 l,4):=by
  obtain ⟨h0,h1,h2,h3,h4,h5,h6⟩:=h;have l0:=nth_lt l 0;unfold c4 at *;unfold dec Lib.decodeN;rw [if_neg (by omega),if_neg (by omega),if_neg (by omega),if_pos ⟨h0,⟨by omega,h2⟩,⟨by omega,h3⟩,h1,h4⟩,if_pos ⟨by omega,by omega⟩]
end Gm
namespace Gm
theorem dec_cases (l:List UInt8) (hb:bad l=false):S1 l∨S2 l∨S3 l∨S4 l:=by
  have hb':¬ dec l=(65533,1):=by simpa [bad] using hb
  unfold dec Lib.decodeN at hb';unfold S1 S2 S3 S4 c3 c4
  by_cases g1:nth l 0 < 128
  · left;exact g1
  · rw [if_neg g1] at hb'
    by_cases g2:nth l 0 / 32=6∧(1 < l.length∧nth l 1 / 64=2)
    · rw [if_pos g2] at hb'
      split at hb'
      · right;left;omega
      · exact absurd rfl hb'
    · rw [if_neg g2] at hb'
      split at hb'
      · split at hb'
        · right;right;left;omega
        · exact absurd rfl hb'
      · split at hb'
        · split at hb'
          · right;right;right;omega
          · exact absurd rfl hb'
        · exact absurd rfl hb'
end Gm
namespace Gm
theorem bad_of_dec {l:List UInt8} {r w:Nat} (h:dec l=(r,w)) (hw:w≠1∨r≠65533):bad l=false:=by
  unfold bad;rw [h];simp;omega
end Gm
namespace Gm
theorem bad_S1 {l:List UInt8} (h:S1 l):bad l=false:=bad_of_dec (dec_ascii l h) (by unfold S1 at h;omega)
end Gm
namespace Gm
theorem bad_S2 {l:List UInt8} (h:S2 l):bad l=false:=bad_of_dec (dec_S2 h) (by omega)
end Gm
namespace Gm
theorem bad_S3 {l:List UInt8} (h:S3 l):bad l=false:=bad_of_dec (dec_S3 h) (by omega)
end Gm
namespace Gm
theorem bad_S4 {l:List UInt8} (h:S4 l):bad l=false:=bad_of_dec (dec_S4 h) (by omega)
end Gm
namespace Gm
theorem dec_same (l m:List UInt8) (hb:bad l=false) (hlen:(dec l).2≤m.length) (hj:∀ j,j < (dec l).2→nth m j=nth l j):dec m=dec l∧bad m=false:=by
  have main:dec m=dec l:=by
    rcases dec_cases l hb with h | h | h | h
    · have e:=dec_ascii l h
      rw [e] at hlen hj ⊢;have h0:=hj 0 (by simp);unfold S1 at h;rw [dec_ascii m (by omega),h0]
    · have e:=dec_S2 h
      rw [e] at hlen hj ⊢;have h0:=hj 0 (by simp);have h1:=hj 1 (by simp);unfold S2 at h;simp only at hlen;have hm:S2 m:=by unfold S2;rw [h0,h1];omega
      rw [dec_S2 hm,h0,h1]
    · have e:=dec_S3 h
      rw [e] at hlen hj ⊢;have h0:=hj 0 (by simp);have h1:=hj 1 (by simp);have h2:=hj 2 (by simp);unfold S3 at h;simp only at hlen;have ec:c3 m=c3 l:=by unfold c3;rw [h0,h1,h2]
      have hm:S3 m:=by unfold S3;rw [h0,h1,h2,ec];omega
      rw [dec_S3 hm,ec]
    · have e:=dec_S4 h
      rw [e] at hlen hj ⊢;have h0:=hj 0 (by simp);have h1:=hj 1 (by simp);have h2:=hj 2 (by simp);have h3:=hj 3 (by simp);unfold S4 at h;simp only at hlen;have ec:c4 m=c4 l:=by unfold c4;rw [h0,h1,h2,h3]
      have hm:S4 m:=by unfold S4;rw [h0,h1,h2,h3,ec];omega
      rw [dec_S4 hm,ec]
  refine ⟨main,?_⟩;unfold bad at hb ⊢;rw [main];exact hb
end Gm
namespace Gm
def okRune (r:Int):Prop:=(0≤r∧r < 55296)∨(57344≤r∧r≤1114111)
end Gm
namespace Gm
theorem dec_ok (l:List UInt8) (hb:bad l=false):okRune (dec l).1:=by
  unfold okRune;have l0:=nth_lt l 0;have l1:=nth_lt l 1;have l2:=nth_lt l 2;rcases dec_cases l hb with h | h | h | h
  · rw [dec_ascii l h];unfold S1 at h;simp only;omega
  · rw [dec_S2 h];unfold S2 at h;simp only;omega
  · rw [dec_S3 h];unfold S3 at h;simp only;unfold c3 at *;omega
  · rw [dec_S4 h];unfold S4 at h;simp only;omega
end Gm
namespace Gm
theorem byte_of_nth (l:List UInt8) (i:Nat):(nth l i).toUInt8=l.getD i 0:=by
  unfold nth;simp
end Gm
namespace Gm
theorem take_nth (l:List UInt8):∀ n,n≤l.length→l.take n=(List.range n).map fun i=>l.getD i 0:=by
  intro n hn
  apply List.ext_getElem?
  intro i
  by_cases hi:i < n
  · rw [List.getElem?_take,if_pos hi,List.getElem?_map,List.getElem?_range hi]
    simp [List.getD_eq_getElem?_getD,List.getElem?_eq_getElem (show i < l.length by omega)]
  · rw [List.getElem?_eq_none (by simp;omega),List.getElem?_eq_none (by simp;omega)]
end Gm
namespace Gm
theorem encode_dec (l:List UInt8) (hl:l≠[]) (hb:bad l=false):Lib.encodeRune (dec l).1=l.take (dec l).2:=by
  have hlen:=dec_w_len l hl;rw [take_nth l _ hlen];have l0:=nth_lt l 0;have l1:=nth_lt l 1;have l2:=nth_lt l 2;have l3:=nth_lt l 3;unfold Lib.encodeRune;rcases dec_cases l hb with h | h | h | h
  · rw [dec_ascii l h]
    unfold S1 at h;rw [Lib.encodeRuneZ_one (by omega) (by omega)];simp only [List.map_cons,List.map_nil,List.range_succ,List.range_zero,List.nil_append];rw [← byte_of_nth]
    congr 1
  · rw [dec_S2 h]
    unfold S2 at h;rw [Lib.encodeRuneZ_two (by simp only;omega) (by simp only;omega)];simp only [List.map_cons,List.map_nil,List.range_succ,List.range_zero,List.nil_append,List.cons_append];rw [← byte_of_nth l 0,← byte_of_nth l 1]
    congr 2
    · omega
    · congr 1;omega
  · have hh:=h
    unfold S3 at h;have hc:c3 l=nth l 0 % 16 * 4096+nth l 1 % 64 * 64+nth l 2 % 64:=rfl;rw [dec_S3 hh];rw [Lib.encodeRuneZ_three (by simp only;omega)];simp only [List.map_cons,List.map_nil,List.range_succ,List.range_zero,List.nil_append,List.cons_append];have e0:((224:Int)+((c3 l:Nat):Int) / 4096).toNat=nth l 0:=by omega
    have e1:((128:Int)+((c3 l:Nat):Int) / 64 % 64).toNat=nth l 1:=by omega
    have e2:((128:Int)+((c3 l:Nat):Int) % 64).toNat=nth l 2:=by omega
    rw [e0,e1,e2,byte_of_nth,byte_of_nth,byte_of_nth]
  · have hh:=h
    unfold S4 at h;have hc:c4 l=nth l 0 % 8 * 262144+nth l 1 % 64 * 4096+nth l 2 % 64 * 64+nth l 3 % 64:=rfl;rw [dec_S4 hh];rw [Lib.encodeRuneZ_four (by simp only;omega) (by simp only;omega)];simp only [List.map_cons,List.map_nil,List.range_succ,List.range_zero,List.nil_append,List.cons_append];have e0:((240:Int)+((c4 l:Nat):Int) / 262144).toNat=nth l 0:=by omega
    have e1:((128:Int)+((c4 l:Nat):Int) / 4096 % 64).toNat=nth l 1:=by omega
    have e2:((128:Int)+((c4 l:Nat):Int) / 64 % 64).toNat=nth l 2:=by omega
    have e3:((128:Int)+((c4 l:Nat):Int) % 64).toNat=nth l 3:=by omega
    rw [e0,e1,e2,e3,byte_of_nth,byte_of_nth,byte_of_nth,byte_of_nth]
end Gm
namespace Gm
theorem dec_encode (r:Int) (hr:okRune r) (x:List UInt8):dec (Lib.encodeRune r ++ x)=(r.toNat,(Lib.encodeRune r).length)∧bad (Lib.encodeRune r ++ x)=false:=by
  unfold okRune at hr;have tb:∀ z:Int,0≤z→z < 256→(z.toNat.toUInt8).toNat=z.toNat:=by intro z h0 h1;simp;omega
  unfold Lib.encodeRune
  by_cases g1:r≤127
  · rw [Lib.encodeRuneZ_one (by omega) g1]
    simp only [List.map_cons,List.map_nil,List.cons_append,List.nil_append,List.length_cons,List.length_nil];have n0:nth (r.toNat.toUInt8 :: x) 0=r.toNat:=by rw [nth_cons_zero,tb _ (by omega) (by omega)]
    have hs:S1 (r.toNat.toUInt8 :: x):=by unfold S1;omega
    exact ⟨by rw [dec_ascii _ hs,n0],bad_S1 hs⟩
  · by_cases g2:r≤2047
    · rw [Lib.encodeRuneZ_two (by omega) g2]
      simp only [List.map_cons,List.map_nil,List.cons_append,List.nil_append,List.length_cons,List.length_nil];generalize hl:((192+r / 64).toNat.toUInt8 :: (128+r % 64).toNat.toUInt8 :: x)=l;have n0:nth l 0=(192+r / 64).toNat:=by rw [← hl,nth_cons_zero,tb _ (by omega) (by omega)]
      have n1:nth l 1=(128+r % 64).toNat:=by rw [← hl,nth_cons_succ,nth_cons_zero,tb _ (by omega) (by omega)]
      have hlen:2≤l.length:=by rw [← hl];simp
      have hs:S2 l:=by unfold S2;rw [n0,n1];omega
      exact ⟨by rw [dec_S2 hs,n0,n1];simp only [Prod.mk.injEq,and_true];omega,bad_S2 hs⟩
    · by_cases g3:r≤65535
      · rw [Lib.encodeRuneZ_three (by omega)]
        simp only [List.map_cons,List.map_nil,List.cons_append,List.nil_append,List.length_cons,List.length_nil];generalize hl:((224+r / 4096).toNat.toUInt8 :: (128+r / 64 % 64).toNat.toUInt8 :: (128+r % 64).toNat.toUInt8 :: x)=l;have n0:nth l 0=(224+r / 4096).toNat:=by rw [← hl,nth_cons_zero,tb _ (by omega) (by omega)]
        have n1:nth l 1=(128+r / 64 % 64).toNat:=by rw [← hl,nth_cons_succ,nth_cons_zero,tb _ (by omega) (by omega)]
        have n2:nth l 2=(128+r % 64).toNat:=by rw [← hl,nth_cons_succ,nth_cons_succ,nth_cons_zero,tb _ (by omega) (by omega)]
        have hlen:3≤l.length:=by rw [← hl];simp
        have hc:c3 l=r.toNat:=by unfold c3;rw [n0,n1,n2];omega
        have hs:S3 l:=by unfold S3;rw [hc,n0,n1,n2];omega
        exact ⟨by rw [dec_S3 hs,hc],bad_S3 hs⟩
      · rw [Lib.encodeRuneZ_four (by omega) (by omega)]
        simp only [List.map_cons,List.map_nil,List.cons_append,List.nil_append,List.length_cons,List.length_nil];generalize hl:((240+r / 262144).toNat.toUInt8 :: (128+r / 4096 % 64).toNat.toUInt8 :: (128+r / 64 % 64).toNat.toUInt8 :: (128+r % 64).toNat.toUInt8 :: x)=l;have n0:nth l 0=(240+r / 262144).toNat:=by rw [← hl,nth_cons_zero,tb _ (by omega) (by omega)]
        have n1:nth l 1=(128+r / 4096 % 64).toNat:=by rw [← hl,nth_cons_succ,nth_cons_zero,tb _ (by omega) (by omega)]
        have n2:nth l 2=(128+r / 64 % 64).toNat:=by rw [← hl,nth_cons_succ,nth_cons_succ,nth_cons_zero,tb _ (by omega) (by omega)]
        have n3:nth l 3=(128+r % 64).toNat:=by rw [← hl,nth_cons_succ,nth_cons_succ,nth_cons_succ,nth_cons_zero,tb _ (by omega) (by omega)]
        have hlen:4≤l.length:=by rw [← hl];simp
        have hc:c4 l=r.toNat:=by unfold c4;rw [n0,n1,n2,n3];omega
        have hs:S4 l:=by unfold S4;rw [hc,n0,n1,n2,n3];omega
        exact ⟨by rw [dec_S4 hs,hc],bad_S4 hs⟩
end Gm
namespace Gm
theorem check_bad {l:List UInt8} (h:l≠[]) (hb:bad l=true):check l=some 0:=by rw [check_eq l h,hb];rfl
end Gm
namespace Gm
theorem check_good {l:List UInt8} (h:l≠[]) (hb:bad l=false):check l=(check (l.drop (dec l).2)).map (fun n=>n+(dec l).2):=by rw [check_eq l h,hb];rfl
end Gm
namespace Gm
theorem step_append (a s:List UInt8) (ha:a≠[]) (hb:bad a=false):dec (a ++ s)=dec a∧bad (a ++ s)=false∧(a ++ s).drop (dec a).2=a.drop (dec a).2 ++ s:=by
  have hwl:=dec_w_len a ha;have h:=dec_same a (a ++ s) hb (by rw [List.length_append];omega) (fun j hj=>nth_append_left a s j (by omega));exact ⟨h.1,h.2,by rw [List.drop_append_of_le_length hwl]⟩
end Gm
namespace Gm
theorem check_append:∀ (n:Nat) (a s:List UInt8),a.length≤n→check a=none→check (a ++ s)=(check s).map (fun k=>k+a.length)∧runes (a ++ s)=runes a+runes s:=by
  intro n
  induction n with
  | zero =>
    intro a s hn hc;have:a=[]:=List.length_eq_zero_iff.1 (by omega)
    subst this;simp [runes_nil]
  | succ n ih =>
    intro a s hn hc
    by_cases ha:a=[]
    · subst ha;simp [runes_nil]
    · cases hb:bad a with
      | true=>rw [check_bad ha hb] at hc;cases hc
      | false =>
        have hw:=dec_w a;have hwl:=dec_w_len a ha;obtain ⟨e1,e2,e3⟩:=step_append a s ha hb;have hne:a ++ s≠[]:=by simp [ha]
        rw [check_good ha hb] at hc;have hc2:check (a.drop (dec a).2)=none:=by simpa using hc
        obtain ⟨i1,i2⟩:=ih (a.drop (dec a).2) s (by rw [List.length_drop];omega) hc2;constructor
        · rw [check_good hne e2,e1,e3,i1,Option.map_map]
          congr 1
          funext k
          simp only [Function.comp,List.length_drop];omega
        · rw [runes_eq _ hne,e1,e3,i2,runes_eq a ha]
          omega
end Gm
namespace Gm
theorem check_encode (r:Int) (hr:okRune r) (x:List UInt8):check (Lib.encodeRune r ++ x)=(check x).map (fun k=>k+(Lib.encodeRune r).length):=by
  obtain ⟨h1,h2⟩:=dec_encode r hr x
  have hne:Lib.encodeRune r ++ x≠[]:=by
    have:=Lib.encodeRuneZ_length r
    intro e;have e2:=congrArg List.length e;simp [Lib.encodeRune] at e2;have e3:=e2.1;rw [e3] at this;simp at this
  rw [check_good hne h2,h1];simp
end Gm
namespace Gm
theorem unqL_piece {l:List UInt8} {r:Int} {n w:Nat} (hne:l≠[]) (h34:(dec l).1≠34) (hp:piece l=some (r,n)) (hw:width l n=w) :
    unqL l=(unqL (l.drop w)).map fun x=>(Lib.encodeRune r ++ x.1,x.2+w):=by
  rw [unqL_eq l hne,if_neg h34,hp];simp only;rw [hw]
end Gm
namespace Gm
theorem checkZ_neg (l:List UInt8):checkZ l < 0 ↔ check l=none:=by
  unfold checkZ;cases check l with
  | none=>simp
  | some n=>simp
end Gm
namespace Gm
theorem fourTo_congr (l m:List UInt8) (h:∀ j,j < 6→nth m j=nth l j):∀ k,k≤4→fourTo m k=fourTo l k:=by
  intro k
  induction k with
  | zero=>intro _;rfl
  | succ k ih =>
    intro hk;simp only [fourTo];rw [ih (by omega),h (2+k) (by omega)]
end Gm
namespace Gm
theorem four_take {l:List UInt8} {a:Int} (m:Nat) (hm:6≤m) (h:four l=some a):four (l.take m)=some a:=by
  unfold four at h ⊢
  split at h
  · rename_i hc
    have hn:∀ j,j < 6→nth (l.take m) j=nth l j:=fun j hj=>nth_take _ _ _ (by omega)
    rw [if_pos ⟨by rw [List.length_take];omega,by rw [hn 0 (by omega)];exact hc.2.1,by rw [hn 1 (by omega)];exact hc.2.2⟩,fourTo_congr l _ hn 4 (by omega)];exact h
  · cases h
end Gm
namespace Gm
theorem long_take {l:List UInt8} {r:Int} {n:Nat} (m:Nat) (hm:n≤m) (h:long l=some (r,n)):long (l.take m)=some (r,n):=by
  have hn:=(long_n h).1;unfold long at h ⊢;cases h4:four l with
  | none=>rw [h4] at h;cases h
  | some a =>
    rw [h4] at h;rw [four_take m (by omega) h4];simp only at h ⊢
    by_cases hs:second a=true
    · rw [if_pos hs] at h;cases h
    · rw [if_neg hs] at h ⊢
      by_cases hf:(!first a)=true
      · rw [if_pos hf] at h ⊢;exact h
      · rw [if_neg hf] at h ⊢
        cases h5:four (l.drop 6) with
        | none=>rw [h5] at h;cases h
        | some b =>
          rw [h5] at h;simp only at h
          by_cases hb:second b=true
          · rw [if_pos hb] at h
            have hn12:n=12:=by
              have:=Option.some.inj h
              simp only [Prod.mk.injEq] at this;omega
            have e:(l.take m).drop 6=(l.drop 6).take (m - 6):=by rw [List.drop_take]
            rw [e,four_take (m - 6) (by omega) h5];simp only;rw [if_pos hb];exact h
          · rw [if_neg hb] at h;cases h
end Gm
namespace Gm
theorem escape_take {l:List UInt8} {r:Int} {n:Nat} (m:Nat) (h0:nth l 0 < 128) (hm:n≤m) (h:escape l=some (r,n)):escape (l.take m)=some (r,n):=by
  have hn:=escape_n h0 h;have hl:¬ l.length < 2:=by omega
  have hl2:¬ (l.take m).length < 2:=by rw [List.length_take];omega
  have h1:nth (l.take m) 1=nth l 1:=nth_take _ _ _ (by omega);unfold escape at h ⊢;rw [if_neg hl] at h;rw [if_neg hl2,h1]
  by_cases c7:nth l 1=117
  · rw [if_neg (by omega),if_neg (by omega),if_neg (by omega),if_neg (by omega),if_neg (by omega),if_neg (by omega),if_pos c7] at h ⊢
    exact long_take m hm h
  · by_cases c1:nth l 1=34∨nth l 1=92∨nth l 1=47
    · rw [if_pos c1] at h ⊢;exact h
    rw [if_neg c1] at h ⊢
    by_cases c2:nth l 1=98
    · rw [if_pos c2] at h ⊢;exact h
    rw [if_neg c2] at h ⊢
    by_cases c3:nth l 1=102
    · rw [if_pos c3] at h ⊢;exact h
    rw [if_neg c3] at h ⊢
    by_cases c4:nth l 1=110
    · rw [if_pos c4] at h ⊢;exact h
    rw [if_neg c4] at h ⊢
    by_cases c5:nth l 1=114
    · rw [if_pos c5] at h ⊢;exact h
    rw [if_neg c5] at h ⊢
    by_cases c6:nth l 1=116
    · rw [if_pos c6] at h ⊢;exact h
    rw [if_neg c6,if_neg c7] at h;cases h
end Gm
namespace Gm
theorem piece_take {l:List UInt8} {r:Int} {n:Nat} (m:Nat) (hne:l≠[]) (hm:width l n≤m) (h:piece l=some (r,n)) :
    piece (l.take m)=some (r,n)∧width (l.take m) n=width l n∧(dec (l.take m)).1=(dec l).1:=by
  have hpn:=piece_n hne h;unfold piece at h;unfold width at hm hpn ⊢
  by_cases h92:(dec l).1=92
  · rw [if_pos h92] at h hm hpn
    have h0:=dec_92 (by omega) h92
    have hd:dec (l.take m)=(92,1):=by
      rw [dec_ascii _ (by rw [nth_take _ _ _ (by omega)];omega),nth_take _ _ _ (by omega),h0]
    refine ⟨?_,?_,?_⟩
    · unfold piece
      rw [hd,if_pos rfl];exact escape_take m (by omega) hm h
    · rw [hd,if_pos rfl,if_pos h92]
    · rw [hd,h92]
  · rw [if_neg h92] at h hm hpn
    by_cases hb:(dec l).1 < 32∨bad l=true
    · rw [if_pos hb] at h;cases h
    · rw [if_neg hb] at h
      have hb2:bad l=false:=by
        cases hx:bad l with
        | true=>exact absurd (Or.inr hx) hb
        | false=>rfl
      obtain ⟨hd,hbm⟩:=dec_same l (l.take m) hb2 (by rw [List.length_take];omega) (fun j hj=>nth_take _ _ _ (by omega));refine ⟨?_,?_,?_⟩
      · unfold piece
        rw [hd,if_neg h92,if_neg (by rw [hbm];rw [hb2] at hb;exact hb)];exact h
      · rw [hd]
      · rw [hd]
end Gm
namespace Gm
theorem long_ok {l:List UInt8} {r:Int} {n:Nat} (h:long l=some (r,n)):okRune r:=by
  unfold okRune;unfold long at h;cases h4:four l with
  | none=>rw [h4] at h;cases h
  | some a =>
    have hbd:=(long_n (l:=l) (r:=r) (n:=n) (by unfold long;exact h)).2.2.2;rw [h4] at h;simp only at h
    by_cases hs:second a=true
    · rw [if_pos hs] at h;cases h
    · rw [if_neg hs] at h
      have hs':¬ (56320≤a∧a≤57343):=by simpa [second] using hs
      by_cases hf:(!first a)=true
      · rw [if_pos hf] at h
        have hf':a < 55296∨56319 < a:=by simpa [first] using hf
        have:=Option.some.inj h
        simp only [Prod.mk.injEq] at this;omega
      · rw [if_neg hf] at h
        have hf':55296≤a∧a≤56319:=by simpa [first] using hf
        cases h5:four (l.drop 6) with
        | none=>rw [h5] at h;cases h
        | some b =>
          rw [h5] at h;simp only at h
          by_cases hb:second b=true
          · rw [if_pos hb] at h
            have hb':56320≤b∧b≤57343:=by simpa [second] using hb
            have:=Option.some.inj h
            simp only [Prod.mk.injEq] at this;omega
          · rw [if_neg hb] at h;cases h
end Gm
namespace Gm
theorem escape_ok {l:List UInt8} {r:Int} {n:Nat} (h:escape l=some (r,n)):okRune r:=by
  have small:∀ (x:Int),0≤x→x < 256→some (x,2)=some (r,n)→okRune r:=by
    intro x h0 h1 e;have:=Option.some.inj e
    simp only [Prod.mk.injEq] at this;unfold okRune;omega
  unfold escape at h;have hl:=nth_lt l 1
  by_cases c0:l.length < 2
  · rw [if_pos c0] at h;cases h
  rw [if_neg c0] at h
  by_cases c1:nth l 1=34∨nth l 1=92∨nth l 1=47
  · rw [if_pos c1] at h;exact small _ (by omega) (by omega) h
  rw [if_neg c1] at h
  by_cases c2:nth l 1=98
  · rw [if_pos c2] at h;exact small _ (by omega) (by omega) h
  rw [if_neg c2] at h
  by_cases c3:nth l 1=102
  · rw [if_pos c3] at h;exact small _ (by omega) (by omega) h
  rw [if_neg c3] at h
  by_cases c4:nth l 1=110
  · rw [if_pos c4] at h;exact small _ (by omega) (by omega) h
  rw [if_neg c4] at h
  by_cases c5:nth l 1=114
  · rw [if_pos c5] at h;exact small _ (by omega) (by omega) h
  rw [if_neg c5] at h
  by_cases c6:nth l 1=116
  · rw [if_pos c6] at h;exact small _ (by omega) (by omega) h
  rw [if_neg c6] at h
  by_cases c7:nth l 1=117
  · rw [if_pos c7] at h;exact long_ok h
  rw [if_neg c7] at h;cases h
end Gm
namespace Gm
theorem piece_ok {l:List UInt8} {r:Int} {n:Nat} (h:piece l=some (r,n)):okRune r:=by
  unfold piece at h
  by_cases h92:(dec l).1=92
  · rw [if_pos h92] at h;exact escape_ok h
  · rw [if_neg h92] at h
    by_cases hb:(dec l).1 < 32∨bad l=true
    · rw [if_pos hb] at h;cases h
    · rw [if_neg hb] at h
      have hb2:bad l=false:=by
        cases hx:bad l with
        | true=>exact absurd (Or.inr hx) hb
        | false=>rfl
      have:=Option.some.inj h
      simp only [Prod.mk.injEq] at this;rw [← this.1];exact dec_ok l hb2
end Gm
namespace Gm
theorem told_body:∀ (n:Nat) (l t:List UInt8) (k:Nat),l.length≤n→unqL l=some (t,k) →
    1≤k∧k≤l.length∧nth l (k - 1)=34∧check t=none∧unqL (l.take (k - 1))=none∧t.length≤4 * k:=by
  intro n
  induction n with
  | zero =>
    intro l t k hn h;have:l=[]:=List.length_eq_zero_iff.1 (by omega)
    subst this;cases h
  | succ n ih =>
    intro l t k hn h
    by_cases hl:l=[]
    · subst hl;cases h
    · have hne:=ne_nil_len hl
      have h':=h;rw [unqL_eq l hl] at h
      by_cases h34:(dec l).1=34
      · rw [if_pos h34] at h
        have:=Option.some.inj h
        simp only [Prod.mk.injEq] at this;obtain ⟨rfl,rfl⟩:=this;exact ⟨by omega,by omega,dec_92 (by omega) h34,rfl,by simp [unqL_nil],by simp⟩
      · rw [if_neg h34] at h
        cases hp:piece l with
        | none=>rw [hp] at h;cases h
        | some x =>
          obtain ⟨r,p⟩:=x;rw [hp] at h;simp only at h;have hpn:=piece_n hl hp;cases hu:unqL (l.drop (width l p)) with
          | none=>rw [hu] at h;cases h
          | some y =>
            obtain ⟨t',k'⟩:=y;rw [hu] at h;have:=Option.some.inj h
            simp only [Prod.mk.injEq] at this;obtain ⟨e1,e2⟩:=this;obtain ⟨i1,i2,i3,i4,i5,i6⟩:=ih (l.drop (width l p)) t' k' (by rw [List.length_drop];omega) hu;rw [List.length_drop] at i2;rw [nth_drop] at i3;have hk1:k - 1=width l p+(k' - 1):=by omega
            have hk2:k - 1 - width l p=k' - 1:=by omega
            refine ⟨by omega,by omega,?_,?_,?_,?_⟩
            · rw [hk1];exact i3
            · rw [← e1,check_encode r (piece_ok hp),i4];rfl
            · obtain ⟨p1,p2,p3⟩:=piece_take (k - 1) hl (by omega) hp
              have hne2:l.take (k - 1)≠[]:=by
                intro e;have:=congrArg List.length e
                rw [List.length_take,List.length_nil] at this;omega
              rw [unqL_piece hne2 (by rw [p3];exact h34) p1 p2]
              have e3:(l.take (k - 1)).drop (width l p)=(l.drop (width l p)).take (k' - 1):=by
                rw [List.drop_take,hk2]
              rw [e3,i5];rfl
            · have hz:=Lib.encodeRuneZ_length r
              have hz2:(Lib.encodeRune r).length≤4:=by unfold Lib.encodeRune;rw [List.length_map];exact hz.2
              rw [← e1,List.length_append];omega
end Gm
namespace Gm
theorem told (q t:List UInt8) (n:Nat) (h:unquote q=some (t,n)):2≤n∧n≤q.length∧nth q (n - 1)=34∧check t=none∧unquote (q.take (n - 1))=none∧t.length≤4 * n:=by
  unfold unquote at h
  by_cases h34:nth q 0=34
  · rw [if_pos h34] at h
    cases hu:unqL (q.drop 1) with
    | none=>rw [hu] at h;cases h
    | some y =>
      obtain ⟨t',k⟩:=y;rw [hu] at h;have:=Option.some.inj h
      simp only [Prod.mk.injEq] at this;obtain ⟨rfl,rfl⟩:=this;obtain ⟨i1,i2,i3,i4,i5,i6⟩:=told_body (q.drop 1).length (q.drop 1) t' k (Nat.le_refl _) hu;rw [List.length_drop] at i2;rw [nth_drop] at i3;refine ⟨by omega,by omega,?_,i4,?_,by omega⟩
      · rw [show k+1 - 1=1+(k - 1) from by omega];exact i3
      · unfold unquote
        rw [if_pos (by rw [nth_take _ _ _ (by omega)];exact h34)]
        have e:(q.take (k+1 - 1)).drop 1=(q.drop 1).take (k - 1):=by
          rw [List.drop_take]
          congr 1
        rw [e,i5];rfl
  · rw [if_neg h34] at h;cases h
end Gm
namespace Gm
def encZ (r:Nat):List UInt8 :=
  if r < 128 then [r.toUInt8] else if r < 2048 then [(192+r / 64).toUInt8,(128+r % 64).toUInt8]
  else if r < 65536 then [(224+r / 4096).toUInt8,(128+r / 64 % 64).toUInt8,(128+r % 64).toUInt8]
  else [(240+r / 262144).toUInt8,(128+r / 4096 % 64).toUInt8,(128+r / 64 % 64).toUInt8,(128+r % 64).toUInt8]
end Gm
namespace Gm
end Gm
theorem str_eta (s:ByteArray):(⟨s.data.toList.toArray⟩:ByteArray)=s:=by simp
theorem data_append (a b:ByteArray):(a ++ b).data.toList=a.data.toList ++ b.data.toList:=by
  rw [ByteArray.data_append];simp
theorem conv_lit (w:World) (xs:List Int) :
    (convert 22 9 (.slice (some ⟨w.heap.size,0,none⟩) xs.length xs.length)).run Tryz.prog (w.alloc (.cells (xs.map (Value.int .u8)).toArray 5)) =
      .ok (.string ⟨(xs.map fun z=>z.toNat.toUInt8).toArray⟩) (w.alloc (.cells (xs.map (Value.int .u8)).toArray 5)):=by
  have h:=run_convert_bytes_arg (P:=Tryz.prog) (w.alloc (.cells (xs.map (Value.int .u8)).toArray 5)) 22 5 Tryz.underlying22 Tryz.underlying5 w.heap.size 0 xs.length xs.length xs rfl
    (fun i hi=>by
      simp only [World.cell?,World.alloc,Array.getElem?_push_size]
      simp [hi]) 9 Tryz.underlying9
  rw [h];rfl
theorem conv1 (w:World) (x:Int) :
    (convert 22 9 (.slice (some ⟨w.heap.size,0,none⟩) 1 1)).run Tryz.prog (w.alloc (.cells #[Value.int .u8 x] 5)) =
      .ok (.string ⟨#[x.toNat.toUInt8]⟩) (w.alloc (.cells #[Value.int .u8 x] 5)):=conv_lit w [x]
theorem conv2 (w:World) (x y:Int) :
    (convert 22 9 (.slice (some ⟨w.heap.size,0,none⟩) 2 2)).run Tryz.prog (w.alloc (.cells #[Value.int .u8 x,Value.int .u8 y] 5)) =
      .ok (.string ⟨#[x.toNat.toUInt8,y.toNat.toUInt8]⟩) (w.alloc (.cells #[Value.int .u8 x,Value.int .u8 y] 5)):=conv_lit w [x,y]
theorem conv3 (w:World) (x y z:Int) :
    (convert 22 9 (.slice (some ⟨w.heap.size,0,none⟩) 3 3)).run Tryz.prog (w.alloc (.cells #[Value.int .u8 x,Value.int .u8 y,Value.int .u8 z] 5)) =
      .ok (.string ⟨#[x.toNat.toUInt8,y.toNat.toUInt8,z.toNat.toUInt8]⟩) (w.alloc (.cells #[Value.int .u8 x,Value.int .u8 y,Value.int .u8 z] 5)):=conv_lit w [x,y,z]
theorem conv4 (w:World) (x y z u:Int) :
    (convert 22 9 (.slice (some ⟨w.heap.size,0,none⟩) 4 4)).run Tryz.prog (w.alloc (.cells #[Value.int .u8 x,Value.int .u8 y,Value.int .u8 z,Value.int .u8 u] 5)) =
      .ok (.string ⟨#[x.toNat.toUInt8,y.toNat.toUInt8,z.toNat.toUInt8,u.toNat.toUInt8]⟩) (w.alloc (.cells #[Value.int .u8 x,Value.int .u8 y,Value.int .u8 z,Value.int .u8 u] 5)):=conv_lit w [x,y,z,u]
theorem conv2_drew (w:World) (x y:Int) :
    (convert 22 9 (.slice (some ⟨w.heap.size,0,none⟩) 2 2)).run Tryz.prog (w.alloc (.cells #[Value.int .u8 x,Value.int .u8 y] 5)).drew =
      .ok (.string ⟨#[x.toNat.toUInt8,y.toNat.toUInt8]⟩) (w.alloc (.cells #[Value.int .u8 x,Value.int .u8 y] 5)).drew:=conv2 w.drew x y
theorem dig_at:∀ (k:Nat) (h:k < (⟨#[48,49,50,51,52,53,54,55,56,57,97,98,99,100,101,102]⟩:ByteArray).size),(⟨#[48,49,50,51,52,53,54,55,56,57,97,98,99,100,101,102]⟩:ByteArray)[k]'h=Gm.hexd k:=fun
  | 0,_=>rfl
  | 1,_=>rfl
  | 2,_=>rfl
  | 3,_=>rfl
  | 4,_=>rfl
  | 5,_=>rfl
  | 6,_=>rfl
  | 7,_=>rfl
  | 8,_=>rfl
  | 9,_=>rfl
  | 10,_=>rfl
  | 11,_=>rfl
  | 12,_=>rfl
  | 13,_=>rfl
  | 14,_=>rfl
  | 15,_=>rfl
  | n+16,h=>absurd h (by show ¬ n+16 < 16;omega)
namespace Gm
def moreZ (c:Nat):Int:=if c < 128 then 0 else if 194≤c∧c≤223 then 1 else if 224≤c∧c≤239 then 2 else if 240≤c∧c≤244 then 3 else -1
end Gm
namespace Gm
def one (l:List UInt8):Nat:=if l=[] then 0 else if bad l then 0 else (dec l).2
end Gm
namespace Gm
def rac (l:List UInt8) (q:Nat):Nat→Nat
  | 0=>nth l 0 % q
  | k+1=>64 * rac l q k+nth l (k+1) % 64
end Gm
namespace Gm
theorem bad_of_not {l:List UInt8} (h1:¬ S1 l) (h2:¬ S2 l) (h3:¬ S3 l) (h4:¬ S4 l):bad l=true:=by
  cases hb:bad l with
  | true=>rfl
  | false =>
    rcases dec_cases l hb with h | h | h | h
    · exact absurd h h1
    · exact absurd h h2
    · exact absurd h h3
    · exact absurd h h4
end Gm
namespace Gm
theorem one_zero {l:List UInt8} (h1:¬ S1 l) (h2:¬ S2 l) (h3:¬ S3 l) (h4:¬ S4 l):one l=0:=by
  unfold one;rw [bad_of_not h1 h2 h3 h4];simp
end Gm
namespace Gm
theorem one_S1 {l:List UInt8} (hl:l≠[]) (h:S1 l):one l=1:=by
  unfold one;rw [if_neg hl,bad_S1 h,dec_ascii l h];rfl
end Gm
namespace Gm
theorem one_S2 {l:List UInt8} (hl:l≠[]) (h:S2 l):one l=2:=by
  unfold one;rw [if_neg hl,bad_S2 h,dec_S2 h];rfl
end Gm
namespace Gm
theorem one_S3 {l:List UInt8} (hl:l≠[]) (h:S3 l):one l=3:=by
  unfold one;rw [if_neg hl,bad_S3 h,dec_S3 h];rfl
end Gm
namespace Gm
theorem one_S4 {l:List UInt8} (hl:l≠[]) (h:S4 l):one l=4:=by
  unfold one;rw [if_neg hl,bad_S4 h,dec_S4 h];rfl
end Gm
namespace Gm
theorem rac_le (l:List UInt8) (q k:Nat) (hq:0 < q) (hq2:q≤32) (hk:k≤3):rac l q k≤8388607:=by
  have h0:nth l 0 % q < q:=Nat.mod_lt _ hq;have:k=0∨k=1∨k=2∨k=3:=by omega
  rcases this with rfl | rfl | rfl | rfl <;> simp only [rac] <;> omega
end Gm
namespace Gm
theorem one_nocont {l:List UInt8} {m:Nat} (hm:moreZ (nth l 0)=m) (j:Nat) (h1:1≤j) (h2:j≤m) (hj:nth l j / 64≠2):one l=0:=by
  unfold moreZ at hm;have hl0:=nth_lt l 0
  have hm3:m≤3:=by
    repeat' split at hm
    all_goals omega
  have hb:194≤nth l 0∧nth l 0≤244∧(m=1→nth l 0≤223)∧(m=2→224≤nth l 0∧nth l 0≤239)∧(m=3→240≤nth l 0):=by
    repeat' split at hm
    all_goals omega
  have hjj:j=1∨j=2∨j=3:=by omega
  apply one_zero
  · unfold S1;omega
  · unfold S2;rcases hjj with rfl | rfl | rfl <;> omega
  · unfold S3;rcases hjj with rfl | rfl | rfl <;> omega
  · unfold S4;rcases hjj with rfl | rfl | rfl <;> omega
end Gm
namespace Gm
theorem one_neg_zero {l:List UInt8} (hm:moreZ (nth l 0)=-1):one l=0:=by
  unfold moreZ at hm;have hl0:=nth_lt l 0;have hl1:=nth_lt l 1
  have hb:128≤nth l 0∧(nth l 0 < 194∨244 < nth l 0):=by
    repeat' split at hm
    all_goals omega
  apply one_zero
  · unfold S1;omega
  · unfold S2;omega
  · unfold S3;omega
  · unfold S4 c4;omega
end Gm
namespace Gm
theorem one_cut_zero {l:List UInt8} {m:Nat} (hm:moreZ (nth l 0)=m) (hl:l.length≤m) (h0:0 < l.length):one l=0:=by
  unfold moreZ at hm;have hl0:=nth_lt l 0
  have hb:(m=1∧194≤nth l 0∧nth l 0≤223)∨(m=2∧224≤nth l 0∧nth l 0≤239)∨(m=3∧240≤nth l 0∧nth l 0≤244):=by
    repeat' split at hm
    all_goals omega
  apply one_zero
  · unfold S1;omega
  · unfold S2;omega
  · unfold S3;omega
  · unfold S4;omega
end Gm
theorem more_any (c:Nat) (w:World) (hc:c < 256) :
    Calls Tryz.prog 115 #[.int .u8 c] w fun e w'=>e=.returned (.int .i64 (Gm.moreZ c))∧w'=w:=by
  unfold Gm.moreZ
  by_cases h1:c < 128
  · rw [if_pos h1]
    have g1:(c:Int) < 128:=by omega
    go_enter Tryz.func115,Tryz.ntmps115
    go_wp2
    go_ret
    exact ⟨rfl,rfl⟩
  · rw [if_neg h1]
    have g1:¬ (c:Int) < 128:=by omega
    by_cases h2:c < 194
    · rw [if_neg (by omega),if_neg (by omega),if_neg (by omega)]
      have d2:decide (194≤(c:Int))=false:=by simp;omega
      have d3:decide (224≤(c:Int))=false:=by simp;omega
      have d4:decide (240≤(c:Int))=false:=by simp;omega
      go_enter Tryz.func115,Tryz.ntmps115
      go_wp2
      go_ret
      exact ⟨rfl,rfl⟩
    · have d2:194≤(c:Int):=by omega
      by_cases h3:c≤223
      · rw [if_pos ⟨by omega,h3⟩]
        have d3:(c:Int)≤223:=by omega
        go_enter Tryz.func115,Tryz.ntmps115
        go_wp2
        go_ret
        exact ⟨rfl,rfl⟩
      · rw [if_neg (by omega)]
        have d3:¬ (c:Int)≤223:=by omega
        have d4:224≤(c:Int):=by omega
        by_cases h4:c≤239
        · rw [if_pos ⟨by omega,h4⟩]
          have d5:(c:Int)≤239:=by omega
          go_enter Tryz.func115,Tryz.ntmps115
          go_wp2
          go_ret
          exact ⟨rfl,rfl⟩
        · rw [if_neg (by omega)]
          have d5:¬ (c:Int)≤239:=by omega
          have d6:240≤(c:Int):=by omega
          by_cases h5:c≤244
          · rw [if_pos ⟨by omega,h5⟩]
            have d7:(c:Int)≤244:=by omega
            go_enter Tryz.func115,Tryz.ntmps115
            go_wp2
            go_ret
            exact ⟨rfl,rfl⟩
          · rw [if_neg (by omega)]
            have d7:¬ (c:Int)≤244:=by omega
            go_enter Tryz.func115,Tryz.ntmps115
            go_wp2
            go_ret
            exact ⟨rfl,rfl⟩
theorem more_is (c:Nat) (z:Int) (w:World) (hc:c < 256) (h:Gm.moreZ c=z) :
    Calls Tryz.prog 115 #[.int .u8 c] w fun e w'=>e=.returned (.int .i64 z)∧w'=w:=by
  subst h;exact more_any c w hc
theorem one_empty (s:ByteArray) (w:World) (h:s.toList.isEmpty=true) :
    Calls Tryz.prog 84 #[.string s] w fun e w'=>e=.returned (.int .i64 0)∧Below w.heap.size w w':=by
  go_enter Tryz.func84,Tryz.ntmps84
  go_wp2
  go_ret
  exact ⟨rfl,Below.refl _ _⟩
theorem one_neg (s:ByteArray) (w:World) (hp:0 < s.size) (h:s.toList.isEmpty=false) (hm:Gm.moreZ (s[0]'hp).toNat=-1) :
    Calls Tryz.prog 84 #[.string s] w fun e w'=>e=.returned (.int .i64 0)∧Below w.heap.size w w':=by
  have HM:Hid _:=hm;clear hm;have hlt:(s[0]'hp).toNat < 256:=(s[0]'hp).toNat_lt;go_enter Tryz.func84,Tryz.ntmps84
  go_wp2_with fail
  refine (more_is _ (-1) _ hlt HM.out).mono ?_;rintro e w ⟨rfl,rfl⟩
  go_wp2
  go_ret
  exact ⟨rfl,Below.refl _ _⟩
theorem one_cut (s:ByteArray) (m:Nat) (w:World) (hp:0 < s.size) (h:s.toList.isEmpty=false) (hm:Gm.moreZ (s[0]'hp).toNat=m) (hs:s.size≤m) (hm3:m≤3) :
    Calls Tryz.prog 84 #[.string s] w fun e w'=>e=.returned (.int .i64 0)∧Below w.heap.size w w':=by
  have HM:Hid _:=hm;clear hm;have hlt:(s[0]'hp).toNat < 256:=(s[0]'hp).toNat_lt;have hge:(s.size:Int)≤m:=by omega
  have hnn:¬ (m:Int) < 0:=by omega
  go_enter Tryz.func84,Tryz.ntmps84
  go_wp2_with fail
  refine (more_is _ m _ hlt HM.out).mono ?_;rintro e w ⟨rfl,rfl⟩
  go_wp2_with fail
  refine (more_is _ m _ hlt HM.out).mono ?_;rintro e w ⟨rfl,rfl⟩
  go_wp2
  go_ret
  exact ⟨rfl,Below.refl _ _⟩
theorem one_ascii (s:ByteArray) (w:World) (hp:0 < s.size) (hs:s.size≤maxLen) (h:s.toList.isEmpty=false) (hm:Gm.moreZ (s[0]'hp).toNat=0) (ha:(s[0]'hp).toNat < 128) :
    Calls Tryz.prog 84 #[.string s] w fun e w'=>e=.returned (.int .i64 1)∧Below w.heap.size w w':=by
  unfold maxLen at hs;have HM:Hid _:=hm;clear hm;have hlt:(s[0]'hp).toNat < 256:=(s[0]'hp).toNat_lt
  have hem:¬ s=ByteArray.empty:=by
    intro e;rw [e] at hp;simp at hp
  go_enter Tryz.func84,Tryz.ntmps84
  go_wp2_with fail
  refine (more_is _ 0 _ hlt HM.out).mono ?_;rintro e w ⟨rfl,rfl⟩
  go_wp2_with fail
  refine (more_is _ 0 _ hlt HM.out).mono ?_;rintro e w ⟨rfl,rfl⟩
  go_wp2_with fail
  refine (more_is _ 0 _ hlt HM.out).mono ?_;rintro e w ⟨rfl,rfl⟩
  go_wp2
  go_loop [4,5] (fun r i=>r=.int .i64 (s[0]'hp).toNat∧i=.int .i64 1) (fun _ _=>0)
  case atStart=>exact ⟨rfl,rfl⟩
  case round =>
    obtain ⟨rfl,rfl⟩:=hrel
    go_wp2
    go_ret
    exact ⟨rfl,(Below.refl _ _).alloc (Nat.le_refl _) _⟩
set_option maxHeartbeats 1000000 in
theorem one_m1 (s:ByteArray) (w:World) (hp:0 < s.size) (hs:s.size≤maxLen) (h:s.toList.isEmpty=false) (hm:Gm.moreZ (s[0]'hp).toNat=1) (hl:1 < s.size) (hb1:194≤(s[0]'hp).toNat) (hb2:(s[0]'hp).toNat≤223) :
    Calls Tryz.prog 84 #[.string s] w fun e w'=>e=.returned (.int .i64 (Gm.one s.data.toList))∧Below w.heap.size w w':=by
  unfold maxLen at hs;have hn0:=nth_of s 0 hp
  have hne:s.data.toList≠[]:=by
    intro e;rw [Lib.size_eq,e] at hp;simp at hp
  have HM:Hid _:=hm;have hge:¬ (s.size:Int)≤1:=by omega
  have hlt:(s[0]'hp).toNat < 256:=by omega
  have HN0:Hid _:=hn0
  have hr0:(((s[0]'hp).toNat:Int) % 32)=((Gm.rac s.data.toList 32 0:Nat):Int):=by
    simp only [Gm.rac];rw [hn0];omega
  have HR0:Hid _:=hr0;clear hm hn0 hr0;go_enter Tryz.func84,Tryz.ntmps84
  go_wp2_with fail
  refine (more_is _ 1 _ hlt HM.out).mono ?_;rintro e w ⟨rfl,rfl⟩
  go_wp2_with fail
  refine (more_is _ 1 _ hlt HM.out).mono ?_;rintro e w ⟨rfl,rfl⟩
  go_wp2_with fail
  refine (more_is _ 1 _ hlt HM.out).mono ?_;rintro e w ⟨rfl,rfl⟩
  go_wp2
  go_loop [4,5] (fun r i=>∃ k n:Nat,n=k+1∧k≤1∧i=.int .i64 n∧r=.int .i64 (Gm.rac s.data.toList 32 k)∧∀ j,1≤j→j≤k→Gm.nth s.data.toList j / 64=2) (fun _ i=>3 - (intOf i).toNat)
  case atStart=>exact ⟨0,1,rfl,by omega,rfl,by rw [← HR0.out],fun j h1 h2=>by omega⟩
  case round =>
    obtain ⟨k,n,hkn,hk,rfl,rfl,hkk⟩:=hrel;have hrl:=Gm.rac_le s.data.toList 32 k (by omega) (by omega) (by omega);have HK:Hid _:=hkk;clear hkk
    by_cases hkm:k < 1
    · have hle:(n:Int)≤1:=by omega
      have hks:n < s.size:=by omega
      have hnk:=nth_of s n hks;have hbl:(s[n]'hks).toNat < 256:=(s[n]'hks).toNat_lt;have HKN:Hid _:=hkn;have hn1:1≤n:=by omega
      have hnm:n≤1:=by omega
      clear hkn;have HNK:Hid _:=hnk;clear hnk;generalize hR:Gm.rac s.data.toList 32 k=R at *;have HR:Hid _:=hR;clear hR
      by_cases hc1:(s[n]'hks).toNat < 128
      · have hc1':((s[n]'hks).toNat:Int) < 128:=by omega
        go_wp2
        go_ret
        have hz:=Gm.one_nocont (l:=s.data.toList) (m:=1) (by rw [HN0.out];exact HM.out) n hn1 hnm (by rw [HNK.out];omega);rw [hz];exact ⟨rfl,Below.refl _ _⟩
      · have hc1':¬ ((s[n]'hks).toNat:Int) < 128:=by omega
        by_cases hc2:191 < (s[n]'hks).toNat
        · have hc2':191 < ((s[n]'hks).toNat:Int):=by omega
          go_wp2
          go_ret
          have hz:=Gm.one_nocont (l:=s.data.toList) (m:=1) (by rw [HN0.out];exact HM.out) n hn1 hnm (by rw [HNK.out];omega);rw [hz];exact ⟨rfl,Below.refl _ _⟩
        · have hc2':¬ 191 < ((s[n]'hks).toNat:Int):=by omega
          go_wp2
          go_round
          case rel =>
            have hkn:=HKN.out;refine ⟨k+1,n+1,by omega,by omega,by go_num,?_,?_⟩
            · simp only [Gm.rac]
              rw [HR.out,← hkn,HNK.out]
              go_num
            · intro j h1 h2
              by_cases hj:j=n
              · subst hj;rw [HNK.out];omega
              · exact HK.out j h1 (by omega)
          case measure=>simp [intOf];omega
    · have hle:¬ (n:Int)≤1:=by omega
      have hkm':k=1:=by omega
      subst hkm';subst hkn;have k1:=HK.out 1 (by omega) (by omega);have hc0:Gm.rac s.data.toList 32 1=64 * (Gm.nth s.data.toList 0 % 32)+Gm.nth s.data.toList 1 % 64:=rfl;have l0:=Gm.nth_lt s.data.toList 0;have hn0:=HN0.out;have hlen:1 < s.data.toList.length:=by rw [← Lib.size_eq];exact hl
      generalize hR:Gm.rac s.data.toList 32 1=R at *;have HR:Hid (R=64 * (Gm.nth s.data.toList 0 % 32)+Gm.nth s.data.toList 1 % 64):=hc0;have hcs:(128≤R∧R < 55296):=by omega
      have HN1:Hid _:=hn0;have HLN:Hid _:=hlen;have K1:Hid _:=k1;clear hR hc0 hn0 hlen k1;rcases hcs with ⟨g1,g2⟩
      · have t1:¬ (R:Int) < 128:=by omega
        have t2:decide (55296≤(R:Int))=false:=by simp;omega
        have t4:¬ 1114111 < (R:Int):=by omega
        go_wp2
        go_ret
        have RR:=HR.out;have hn0:=HN1.out;have hlen:=HLN.out;have k1:=K1.out;have hz:Gm.one s.data.toList=2:=Gm.one_S2 hne (by unfold Gm.S2;omega);rw [hz];exact ⟨rfl,(Below.refl _ _).alloc (Nat.le_refl _) _⟩
set_option maxHeartbeats 1000000 in
theorem one_m2 (s:ByteArray) (w:World) (hp:0 < s.size) (hs:s.size≤maxLen) (h:s.toList.isEmpty=false) (hm:Gm.moreZ (s[0]'hp).toNat=2) (hl:2 < s.size) (hb1:224≤(s[0]'hp).toNat) (hb2:(s[0]'hp).toNat≤239) :
    Calls Tryz.prog 84 #[.string s] w fun e w'=>e=.returned (.int .i64 (Gm.one s.data.toList))∧Below w.heap.size w w':=by
  unfold maxLen at hs;have hn0:=nth_of s 0 hp
  have hne:s.data.toList≠[]:=by
    intro e;rw [Lib.size_eq,e] at hp;simp at hp
  have HM:Hid _:=hm;have hge:¬ (s.size:Int)≤2:=by omega
  have hlt:(s[0]'hp).toNat < 256:=by omega
  have HN0:Hid _:=hn0
  have hr0:(((s[0]'hp).toNat:Int) % 16)=((Gm.rac s.data.toList 16 0:Nat):Int):=by
    simp only [Gm.rac];rw [hn0];omega
  have HR0:Hid _:=hr0;clear hm hn0 hr0;go_enter Tryz.func84,Tryz.ntmps84
  go_wp2_with fail
  refine (more_is _ 2 _ hlt HM.out).mono ?_;rintro e w ⟨rfl,rfl⟩
  go_wp2_with fail
  refine (more_is _ 2 _ hlt HM.out).mono ?_;rintro e w ⟨rfl,rfl⟩
  go_wp2_with fail
  refine (more_is _ 2 _ hlt HM.out).mono ?_;rintro e w ⟨rfl,rfl⟩
  go_wp2
  go_loop [4,5] (fun r i=>∃ k n:Nat,n=k+1∧k≤2∧i=.int .i64 n∧r=.int .i64 (Gm.rac s.data.toList 16 k)∧∀ j,1≤j→j≤k→Gm.nth s.data.toList j / 64=2) (fun _ i=>4 - (intOf i).toNat)
  case atStart=>exact ⟨0,1,rfl,by omega,rfl,by rw [← HR0.out],fun j h1 h2=>by omega⟩
  case round =>
    obtain ⟨k,n,hkn,hk,rfl,rfl,hkk⟩:=hrel;have hrl:=Gm.rac_le s.data.toList 16 k (by omega) (by omega) (by omega);have HK:Hid _:=hkk;clear hkk
    by_cases hkm:k < 2
    · have hle:(n:Int)≤2:=by omega
      have hks:n < s.size:=by omega
      have hnk:=nth_of s n hks;have hbl:(s[n]'hks).toNat < 256:=(s[n]'hks).toNat_lt;have HKN:Hid _:=hkn;have hn1:1≤n:=by omega
      have hnm:n≤2:=by omega
      clear hkn;have HNK:Hid _:=hnk;clear hnk;generalize hR:Gm.rac s.data.toList 16 k=R at *;have HR:Hid _:=hR;clear hR
      by_cases hc1:(s[n]'hks).toNat < 128
      · have hc1':((s[n]'hks).toNat:Int) < 128:=by omega
        go_wp2
        go_ret
        have hz:=Gm.one_nocont (l:=s.data.toList) (m:=2) (by rw [HN0.out];exact HM.out) n hn1 hnm (by rw [HNK.out];omega);rw [hz];exact ⟨rfl,Below.refl _ _⟩
      · have hc1':¬ ((s[n]'hks).toNat:Int) < 128:=by omega
        by_cases hc2:191 < (s[n]'hks).toNat
        · have hc2':191 < ((s[n]'hks).toNat:Int):=by omega
          go_wp2
          go_ret
          have hz:=Gm.one_nocont (l:=s.data.toList) (m:=2) (by rw [HN0.out];exact HM.out) n hn1 hnm (by rw [HNK.out];omega);rw [hz];exact ⟨rfl,Below.refl _ _⟩
        · have hc2':¬ 191 < ((s[n]'hks).toNat:Int):=by omega
          go_wp2
          go_round
          case rel =>
            have hkn:=HKN.out;refine ⟨k+1,n+1,by omega,by omega,by go_num,?_,?_⟩
            · simp only [Gm.rac]
              rw [HR.out,← hkn,HNK.out]
              go_num
            · intro j h1 h2
              by_cases hj:j=n
              · subst hj;rw [HNK.out];omega
              · exact HK.out j h1 (by omega)
          case measure=>simp [intOf];omega
    · have hle:¬ (n:Int)≤2:=by omega
      have hkm':k=2:=by omega
      subst hkm';subst hkn;have k1:=HK.out 1 (by omega) (by omega);have k2:=HK.out 2 (by omega) (by omega);have hc0:Gm.rac s.data.toList 16 2=64 * (64 * (Gm.nth s.data.toList 0 % 16)+Gm.nth s.data.toList 1 % 64)+Gm.nth s.data.toList 2 % 64:=rfl;have l0:=Gm.nth_lt s.data.toList 0;have hn0:=HN0.out;have hlen:2 < s.data.toList.length:=by rw [← Lib.size_eq];exact hl
      generalize hR:Gm.rac s.data.toList 16 2=R at *;have HR:Hid (R=64 * (64 * (Gm.nth s.data.toList 0 % 16)+Gm.nth s.data.toList 1 % 64)+Gm.nth s.data.toList 2 % 64):=hc0;have hcs:R < 2048∨(2048≤R∧55296≤R∧R≤57343)∨(2048≤R∧R < 55296)∨(2048≤R∧57343 < R∧R≤1114111):=by omega
      have HN1:Hid _:=hn0;have HLN:Hid _:=hlen;have K1:Hid _:=k1;have K2:Hid _:=k2;clear hR hc0 hn0 hlen k1 k2;rcases hcs with g | ⟨g1,g2,g3⟩ | ⟨g1,g2⟩ | ⟨g1,g2,g3⟩
      · have t1:(R:Int) < 2048:=by omega
        go_wp2
        go_ret
        have RR:=HR.out;have hn0:=HN1.out;have hlen:=HLN.out;have k1:=K1.out;have k2:=K2.out
        have hz:Gm.one s.data.toList=0:=by
          apply Gm.one_zero
          · unfold Gm.S1;omega
          · unfold Gm.S2;omega
          · unfold Gm.S3 Gm.c3;omega
          · unfold Gm.S4 Gm.c4;omega
        rw [hz];exact ⟨rfl,(Below.refl _ _).alloc (Nat.le_refl _) _⟩
      · have t1:¬ (R:Int) < 2048:=by omega
        have t2:55296≤(R:Int):=by omega
        have t3:(R:Int)≤57343:=by omega
        go_wp2
        go_ret
        have RR:=HR.out;have hn0:=HN1.out;have hlen:=HLN.out;have k1:=K1.out;have k2:=K2.out
        have hz:Gm.one s.data.toList=0:=by
          apply Gm.one_zero
          · unfold Gm.S1;omega
          · unfold Gm.S2;omega
          · unfold Gm.S3 Gm.c3;omega
          · unfold Gm.S4 Gm.c4;omega
        rw [hz];exact ⟨rfl,(Below.refl _ _).alloc (Nat.le_refl _) _⟩
      · have t1:¬ (R:Int) < 2048:=by omega
        have t2:decide (55296≤(R:Int))=false:=by simp;omega
        have t4:¬ 1114111 < (R:Int):=by omega
        go_wp2
        go_ret
        have RR:=HR.out;have hn0:=HN1.out;have hlen:=HLN.out;have k1:=K1.out;have k2:=K2.out;have hz:Gm.one s.data.toList=3:=Gm.one_S3 hne (by unfold Gm.S3 Gm.c3;omega);rw [hz];exact ⟨rfl,(Below.refl _ _).alloc (Nat.le_refl _) _⟩
      · have t1:¬ (R:Int) < 2048:=by omega
        have t2:55296≤(R:Int):=by omega
        have t3:¬ (R:Int)≤57343:=by omega
        have t4:¬ 1114111 < (R:Int):=by omega
        go_wp2
        go_ret
        have RR:=HR.out;have hn0:=HN1.out;have hlen:=HLN.out;have k1:=K1.out;have k2:=K2.out;have hz:Gm.one s.data.toList=3:=Gm.one_S3 hne (by unfold Gm.S3 Gm.c3;omega);rw [hz];exact ⟨rfl,(Below.refl _ _).alloc (Nat.le_refl _) _⟩
set_option maxHeartbeats 1000000 in
theorem one_m3 (s:ByteArray) (w:World) (hp:0 < s.size) (hs:s.size≤maxLen) (h:s.toList.isEmpty=false) (hm:Gm.moreZ (s[0]'hp).toNat=3) (hl:3 < s.size) (hb1:240≤(s[0]'hp).toNat) (hb2:(s[0]'hp).toNat≤244) :
    Calls Tryz.prog 84 #[.string s] w fun e w'=>e=.returned (.int .i64 (Gm.one s.data.toList))∧Below w.heap.size w w':=by
  unfold maxLen at hs;have hn0:=nth_of s 0 hp
  have hne:s.data.toList≠[]:=by
    intro e;rw [Lib.size_eq,e] at hp;simp at hp
  have HM:Hid _:=hm;have hge:¬ (s.size:Int)≤3:=by omega
  have hlt:(s[0]'hp).toNat < 256:=by omega
  have HN0:Hid _:=hn0
  have hr0:(((s[0]'hp).toNat:Int) % 8)=((Gm.rac s.data.toList 8 0:Nat):Int):=by
    simp only [Gm.rac];rw [hn0];omega
  have HR0:Hid _:=hr0;clear hm hn0 hr0;go_enter Tryz.func84,Tryz.ntmps84
  go_wp2_with fail
  refine (more_is _ 3 _ hlt HM.out).mono ?_;rintro e w ⟨rfl,rfl⟩
  go_wp2_with fail
  refine (more_is _ 3 _ hlt HM.out).mono ?_;rintro e w ⟨rfl,rfl⟩
  go_wp2_with fail
  refine (more_is _ 3 _ hlt HM.out).mono ?_;rintro e w ⟨rfl,rfl⟩
  go_wp2
  go_loop [4,5] (fun r i=>∃ k n:Nat,n=k+1∧k≤3∧i=.int .i64 n∧r=.int .i64 (Gm.rac s.data.toList 8 k)∧∀ j,1≤j→j≤k→Gm.nth s.data.toList j / 64=2) (fun _ i=>5 - (intOf i).toNat)
  case atStart=>exact ⟨0,1,rfl,by omega,rfl,by rw [← HR0.out],fun j h1 h2=>by omega⟩
  case round =>
    obtain ⟨k,n,hkn,hk,rfl,rfl,hkk⟩:=hrel;have hrl:=Gm.rac_le s.data.toList 8 k (by omega) (by omega) (by omega);have HK:Hid _:=hkk;clear hkk
    by_cases hkm:k < 3
    · have hle:(n:Int)≤3:=by omega
      have hks:n < s.size:=by omega
      have hnk:=nth_of s n hks;have hbl:(s[n]'hks).toNat < 256:=(s[n]'hks).toNat_lt;have HKN:Hid _:=hkn;have hn1:1≤n:=by omega
      have hnm:n≤3:=by omega
      clear hkn;have HNK:Hid _:=hnk;clear hnk;generalize hR:Gm.rac s.data.toList 8 k=R at *;have HR:Hid _:=hR;clear hR
      by_cases hc1:(s[n]'hks).toNat < 128
      · have hc1':((s[n]'hks).toNat:Int) < 128:=by omega
        go_wp2
        go_ret
        have hz:=Gm.one_nocont (l:=s.data.toList) (m:=3) (by rw [HN0.out];exact HM.out) n hn1 hnm (by rw [HNK.out];omega);rw [hz];exact ⟨rfl,Below.refl _ _⟩
      · have hc1':¬ ((s[n]'hks).toNat:Int) < 128:=by omega
        by_cases hc2:191 < (s[n]'hks).toNat
        · have hc2':191 < ((s[n]'hks).toNat:Int):=by omega
          go_wp2
          go_ret
          have hz:=Gm.one_nocont (l:=s.data.toList) (m:=3) (by rw [HN0.out];exact HM.out) n hn1 hnm (by rw [HNK.out];omega);rw [hz];exact ⟨rfl,Below.refl _ _⟩
        · have hc2':¬ 191 < ((s[n]'hks).toNat:Int):=by omega
          go_wp2
          go_round
          case rel =>
            have hkn:=HKN.out;refine ⟨k+1,n+1,by omega,by omega,by go_num,?_,?_⟩
            · simp only [Gm.rac]
              rw [HR.out,← hkn,HNK.out]
              go_num
            · intro j h1 h2
              by_cases hj:j=n
              · subst hj;rw [HNK.out];omega
              · exact HK.out j h1 (by omega)
          case measure=>simp [intOf];omega
    · have hle:¬ (n:Int)≤3:=by omega
      have hkm':k=3:=by omega
      subst hkm';subst hkn;have k1:=HK.out 1 (by omega) (by omega);have k2:=HK.out 2 (by omega) (by omega);have k3:=HK.out 3 (by omega) (by omega);have hc0:Gm.rac s.data.toList 8 3=64 * (64 * (64 * (Gm.nth s.data.toList 0 % 8)+Gm.nth s.data.toList 1 % 64)+Gm.nth s.data.toList 2 % 64)+Gm.nth s.data.toList 3 % 64:=rfl;have l0:=Gm.nth_lt s.data.toList 0;have hn0:=HN0.out;have hlen:3 < s.data.toList.length:=by rw [← Lib.size_eq];exact hl
      generalize hR:Gm.rac s.data.toList 8 3=R at *;have HR:Hid (R=64 * (64 * (64 * (Gm.nth s.data.toList 0 % 8)+Gm.nth s.data.toList 1 % 64)+Gm.nth s.data.toList 2 % 64)+Gm.nth s.data.toList 3 % 64):=hc0;have hcs:R < 65536∨(65536≤R∧1114111 < R)∨(65536≤R∧57343 < R∧R≤1114111):=by omega
      have HN1:Hid _:=hn0;have HLN:Hid _:=hlen;have K1:Hid _:=k1;have K2:Hid _:=k2;have K3:Hid _:=k3;clear hR hc0 hn0 hlen k1 k2 k3;rcases hcs with g | ⟨g1,g2⟩ | ⟨g1,g2,g3⟩
      · have t1:(R:Int) < 65536:=by omega
        go_wp2
        go_ret
        have RR:=HR.out;have hn0:=HN1.out;have hlen:=HLN.out;have k1:=K1.out;have k2:=K2.out;have k3:=K3.out
        have hz:Gm.one s.data.toList=0:=by
          apply Gm.one_zero
          · unfold Gm.S1;omega
          · unfold Gm.S2;omega
          · unfold Gm.S3 Gm.c3;omega
          · unfold Gm.S4 Gm.c4;omega
        rw [hz];exact ⟨rfl,(Below.refl _ _).alloc (Nat.le_refl _) _⟩
      · have t1:¬ (R:Int) < 65536:=by omega
        have t2:55296≤(R:Int):=by omega
        have t3:¬ (R:Int)≤57343:=by omega
        have t4:1114111 < (R:Int):=by omega
        go_wp2
        go_ret
        have RR:=HR.out;have hn0:=HN1.out;have hlen:=HLN.out;have k1:=K1.out;have k2:=K2.out;have k3:=K3.out
        have hz:Gm.one s.data.toList=0:=by
          apply Gm.one_zero
          · unfold Gm.S1;omega
          · unfold Gm.S2;omega
          · unfold Gm.S3 Gm.c3;omega
          · unfold Gm.S4 Gm.c4;omega
        rw [hz];exact ⟨rfl,(Below.refl _ _).alloc (Nat.le_refl _) _⟩
      · have t1:¬ (R:Int) < 65536:=by omega
        have t2:55296≤(R:Int):=by omega
        have t3:¬ (R:Int)≤57343:=by omega
        have t4:¬ 1114111 < (R:Int):=by omega
        go_wp2
        go_ret
        have RR:=HR.out;have hn0:=HN1.out;have hlen:=HLN.out;have k1:=K1.out;have k2:=K2.out;have k3:=K3.out;have hz:Gm.one s.data.toList=4:=Gm.one_S4 hne (by unfold Gm.S4 Gm.c4;omega);rw [hz];exact ⟨rfl,(Below.refl _ _).alloc (Nat.le_refl _) _⟩
theorem one_any (s:ByteArray) (w:World) (hs:s.size≤maxLen) :
    Calls Tryz.prog 84 #[.string s] w fun e w'=>e=.returned (.int .i64 (Gm.one s.data.toList))∧Below w.heap.size w w':=by
  by_cases hp:0 < s.size
  · have hn0:=nth_of s 0 hp
    have hb:=(s[0]'hp).toNat_lt
    have hne:s.data.toList≠[]:=by
      intro e;rw [Lib.size_eq,e] at hp;simp at hp
    have h:s.toList.isEmpty=false:=by
      rw [Lib.toList_data];cases hx:s.data.toList with
      | nil=>exact absurd hx hne
      | cons _ _=>rfl
    have hlen:=Lib.size_eq s
    by_cases c0:(s[0]'hp).toNat < 128
    · have e:Gm.one s.data.toList=1:=Gm.one_S1 hne (by unfold Gm.S1;omega)
      rw [e];exact one_ascii s w hp hs h (by unfold Gm.moreZ;rw [if_pos c0]) c0
    · by_cases c1:194≤(s[0]'hp).toNat∧(s[0]'hp).toNat≤223
      · have hm:Gm.moreZ (s[0]'hp).toNat=1:=by unfold Gm.moreZ;rw [if_neg c0,if_pos c1]
        by_cases hl:1 < s.size
        · exact one_m1 s w hp hs h hm hl c1.1 c1.2
        · rw [Gm.one_cut_zero (m:=1) (by rw [hn0];exact hm) (by omega) (by omega)]
          exact one_cut s 1 w hp h hm (by omega) (by omega)
      · by_cases c2:224≤(s[0]'hp).toNat∧(s[0]'hp).toNat≤239
        · have hm:Gm.moreZ (s[0]'hp).toNat=2:=by unfold Gm.moreZ;rw [if_neg c0,if_neg c1,if_pos c2]
          by_cases hl:2 < s.size
          · exact one_m2 s w hp hs h hm hl c2.1 c2.2
          · rw [Gm.one_cut_zero (m:=2) (by rw [hn0];exact hm) (by omega) (by omega)]
            exact one_cut s 2 w hp h hm (by omega) (by omega)
        · by_cases c3:240≤(s[0]'hp).toNat∧(s[0]'hp).toNat≤244
          · have hm:Gm.moreZ (s[0]'hp).toNat=3:=by unfold Gm.moreZ;rw [if_neg c0,if_neg c1,if_neg c2,if_pos c3]
            by_cases hl:3 < s.size
            · exact one_m3 s w hp hs h hm hl c3.1 c3.2
            · rw [Gm.one_cut_zero (m:=3) (by rw [hn0];exact hm) (by omega) (by omega)]
              exact one_cut s 3 w hp h hm (by omega) (by omega)
          · have hm:Gm.moreZ (s[0]'hp).toNat=-1:=by unfold Gm.moreZ;rw [if_neg c0,if_neg c1,if_neg c2,if_neg c3]
            rw [Gm.one_neg_zero (by rw [hn0];exact hm)];exact one_neg s w hp h hm
  · have he:s.data.toList=[]:=by
      apply List.length_eq_zero_iff.1
      rw [← Lib.size_eq];omega
    have e:Gm.one s.data.toList=0:=by rw [he];rfl
    rw [e];exact one_empty s w (by rw [Lib.toList_data,he];rfl)
theorem one_is (s:ByteArray) (n:Nat) (w:World) (hs:s.size≤maxLen) (h:Gm.one s.data.toList=n) :
    Calls Tryz.prog 84 #[.string s] w fun e w'=>e=.returned (.int .i64 n)∧Below w.heap.size w w':=by
  subst h;exact one_any s w hs
theorem one_bad {l:List UInt8} (h:l≠[]) (hb:Gm.bad l=true):Gm.one l=0:=by
  unfold Gm.one;rw [if_neg h,hb];rfl
theorem one_good {l:List UInt8} (h:l≠[]) (hb:Gm.bad l=false):Gm.one l=(Gm.dec l).2:=by
  unfold Gm.one;rw [if_neg h,hb];rfl
set_option maxHeartbeats 1000000 in
theorem refCheck_any (s:ByteArray) (w:World) (hs:s.size≤maxLen) :
    Calls Tryz.prog 51 #[.string s] w fun e w'=>e=.returned (.int .i64 (Gm.checkZ s.data.toList))∧Below w.heap.size w w':=by
  have hs':=hs;unfold maxLen at hs;go_enter Tryz.func51,Tryz.ntmps51
  go_wp2
  go_loopw [3] (fun at' wr=>∃ (pos:Nat),at'=.int .i64 pos∧pos≤s.size∧Below w.heap.size w wr∧(Gm.check (s.data.toList.drop pos)).map (fun n=>n+pos)=Gm.check s.data.toList) (fun at' _=>s.size - (intOf at').toNat)
  case atStart=>exact ⟨0,rfl,by omega,Below.refl _ _,by simp⟩
  case round =>
    obtain ⟨pos,rfl,hps,hbel,hc⟩:=hrel;have HC:Hid _:=hc;clear hc
    by_cases hp:pos < s.size
    · have hp':(pos:Int) < s.size:=by omega
      have hne:=drop_ne s pos hp;have hce:=Gm.check_eq _ hne;have hw:=Gm.dec_w (s.data.toList.drop pos);have hwl:=Gm.dec_w_len _ hne;rw [List.length_drop,← Lib.size_eq] at hwl;have hes:(s.extract pos s.size).size≤maxLen:=by unfold maxLen;simp [ByteArray.size_extract];omega
      have hed:=toList_drop_end s pos;have HE:Hid _:=hce;cases hb:Gm.bad (s.data.toList.drop pos) with
      | true =>
        have HB:Hid _:=hb;have HO:Hid (Gm.one (s.extract pos s.size).data.toList=0):=by rw [hed];exact one_bad hne hb
        clear hb hce hed
        go_wp2_with fail
        refine (one_is _ 0 _ hes HO.out).mono ?_;rintro e W1 ⟨rfl,b1⟩
        go_wp2
        go_ret
        refine ⟨ret_int ?_,bthen hbel b1⟩;have h1:=HC.out;rw [HE.out,HB.out] at h1;have h2:=checkZ_some h1.symm;rw [h2];simp
      | false =>
        have HB:Hid _:=hb;have HO:Hid (Gm.one (s.extract pos s.size).data.toList=(Gm.dec (s.data.toList.drop pos)).2):=by rw [hed];exact one_good hne hb
        clear hb hce hed;generalize hwd:(Gm.dec (s.data.toList.drop pos)).2=wd at *;have HWD:Hid _:=hwd;clear hwd;have hw0:((wd:Int) == 0)=false:=by simp;omega
        go_wp2_with fail
        refine (one_is _ wd _ hes HO.out).mono ?_;rintro e W1 ⟨rfl,b1⟩
        go_wp2
        go_roundw
        case rel =>
          refine ⟨pos+wd,by go_num,by omega,bthen hbel b1,?_⟩;have h1:=HC.out;rw [HE.out,HB.out,drop_drop'] at h1;rw [← h1];simp only [Bool.false_eq_true,if_false,Option.map_map]
          congr 1
          funext n
          simp only [Function.comp];omega
        case measure=>simp [intOf];omega
    · have hp':¬ (pos:Int) < s.size:=by omega
      go_wp2
      go_ret
      refine ⟨ret_int ?_,hbel⟩;have h1:=HC.out;rw [drop_nil s pos hp,Gm.check_nil] at h1;exact (checkZ_none h1.symm).symm
theorem refCheck_is (s:ByteArray) (z:Int) (w:World) (hs:s.size≤maxLen) (h:Gm.checkZ s.data.toList=z) :
    Calls Tryz.prog 51 #[.string s] w fun e w'=>e=.returned (.int .i64 z)∧Below w.heap.size w w':=by
  subst h;exact refCheck_any s w hs
theorem isEmpty_false (T:ByteArray) (h:0 < T.size):T.toList.isEmpty=false:=by
  rw [Lib.toList_data];cases hx:T.data.toList with
  | nil=>rw [Lib.size_eq,hx] at h;simp at h
  | cons _ _=>rfl
theorem isEmpty_true (T:ByteArray) (h:¬ 0 < T.size):T.toList.isEmpty=true:=by
  rw [Lib.toList_data];cases hx:T.data.toList with
  | nil=>rfl
  | cons _ _=>rw [Lib.size_eq,hx] at h;simp at h
theorem less_step (a b:List UInt8) (k:Nat) (ha:k < a.length) (hb:k < b.length) (h:Gm.nth a k=Gm.nth b k) :
    Op.bytesLess (a.drop k) (b.drop k)=Op.bytesLess (a.drop (k+1)) (b.drop (k+1)):=by
  rw [List.drop_eq_getElem_cons ha,List.drop_eq_getElem_cons hb]
  have e:a[k]=b[k]:=by
    apply UInt8.toNat_inj.1
    unfold Gm.nth at h
    simpa [List.getD_eq_getElem?_getD,ha,hb] using h
  simp only [Op.bytesLess];rw [e];simp
theorem less_diff (a b:List UInt8) (k:Nat) (ha:k < a.length) (hb:k < b.length) (h:Gm.nth a k≠Gm.nth b k) :
    Op.bytesLess (a.drop k) (b.drop k)=decide (Gm.nth a k < Gm.nth b k):=by
  rw [List.drop_eq_getElem_cons ha,List.drop_eq_getElem_cons hb];have ea:Gm.nth a k=a[k].toNat:=by unfold Gm.nth;simp [List.getD_eq_getElem?_getD,ha]
  have eb:Gm.nth b k=b[k].toNat:=by unfold Gm.nth;simp [List.getD_eq_getElem?_getD,hb]
  rw [ea,eb] at h ⊢
  have hne:(a[k] == b[k])=false:=by
    simp only [beq_eq_false_iff_ne,ne_eq];intro e;exact h (by rw [e])
  simp only [Op.bytesLess,hne,Bool.false_and,Bool.or_false];rw [Bool.eq_iff_iff];simp [UInt8.lt_iff_toNat_lt]
set_option maxHeartbeats 1000000 in
theorem refLess_any (a b:ByteArray) (w:World) (ha:a.size≤maxLen) (hb:b.size≤maxLen) :
    Calls Tryz.prog 56 #[.string a,.string b] w fun e w'=>e=.returned (.bool (Op.bytesLess a.toList b.toList))∧Below w.heap.size w w':=by
  unfold maxLen at ha hb;rw [Lib.toList_data,Lib.toList_data];generalize hR:Op.bytesLess a.data.toList b.data.toList=R;have HR:Hid _:=hR;clear hR;go_enter Tryz.func56,Tryz.ntmps56
  go_wp2
  go_loopw [5] (fun i wr=>∃ k:Nat,i=.int .i64 k∧k≤a.size∧k≤b.size∧Op.bytesLess (a.data.toList.drop k) (b.data.toList.drop k)=R∧Below w.heap.size w wr) (fun i _=>a.size - (intOf i).toNat)
  case atStart=>exact ⟨0,rfl,by omega,by omega,by simpa using HR.out,Below.refl _ _⟩
  case round =>
    obtain ⟨k,rfl,hka,hkb,hc,hbel⟩:=hrel;have HC:Hid _:=hc;clear hc;have hla:=Lib.size_eq a;have hlb:=Lib.size_eq b
    by_cases h1:k < a.size
    · have h1':(k:Int) < a.size:=by omega
      by_cases h2:k < b.size
      · have h2':(k:Int) < b.size:=by omega
        have na:=nth_of a k h1;have nb:=nth_of b k h2;have ca:(a[k]'h1).toNat < 256:=(a[k]'h1).toNat_lt;have cb:(b[k]'h2).toNat < 256:=(b[k]'h2).toNat_lt;have NA:Hid _:=na;have NB:Hid _:=nb;have LA:Hid _:=hla;have LB:Hid _:=hlb;clear na nb hla hlb
        by_cases he:(a[k]'h1).toNat=(b[k]'h2).toNat
        · have HE:Hid _:=he
          have hne:(((a[k]'h1).toNat:Int) != ((b[k]'h2).toNat:Int))=false:=by rw [HE.out];simp
          clear he
          go_wp2
          go_quiet (fail)
          go_wp2
          go_roundw
          case rel =>
            refine ⟨k+1,by go_num,by omega,by omega,?_,below_drewN hbel _⟩;rw [← less_step _ _ k (by rw [← LA.out];exact h1) (by rw [← LB.out];exact h2) (by rw [NA.out,NB.out];exact HE.out)];exact HC.out
          case measure=>simp [intOf];omega
        · have HE:Hid _:=he
          have hne:(((a[k]'h1).toNat:Int) != ((b[k]'h2).toNat:Int))=true:=by
            rw [bne_iff_ne];intro e;exact he (by omega)
          clear he
          go_wp2
          go_quiet (fail)
          go_wp2
          go_quiet (fail)
          go_wp2
          go_ret
          refine ⟨ret_bool ?_,below_drewN (below_drewN hbel _) _⟩;have h3:=HC.out;rw [less_diff _ _ k (by rw [← LA.out];exact h1) (by rw [← LB.out];exact h2) (by rw [NA.out,NB.out];exact HE.out),NA.out,NB.out] at h3;rw [← h3]
      · have h2':¬ (k:Int) < b.size:=by omega
        have e1:b.data.toList.drop k=[]:=drop_nil b k h2;have h3:=HC.out;rw [e1] at h3;have H3:Hid _:=h3;clear hla hlb h3 e1
        go_wp2
        go_ret
        refine ⟨ret_bool ?_,hbel⟩;rw [← H3.out];cases hx:a.data.toList.drop k <;> simp [Op.bytesLess] <;> omega
    · have h1':decide ((k:Int) < a.size)=false:=by simp;omega
      have e1:a.data.toList.drop k=[]:=drop_nil a k h1;have h3:=HC.out;rw [e1] at h3;have H3:Hid _:=h3;have hdl:(b.data.toList.drop k).length=b.size - k:=by rw [List.length_drop,← Lib.size_eq]
      have HDL:Hid _:=hdl;clear hla hlb h3 e1 hdl
      go_wp2
      go_ret
      refine ⟨ret_bool ?_,hbel⟩;rw [← H3.out];have hd:=HDL.out;cases hx:b.data.toList.drop k with
      | nil=>rw [hx] at hd;simp at hd;simp [Op.bytesLess];omega
      | cons y ys=>rw [hx] at hd;simp at hd;simp [Op.bytesLess];omega
def shortZ (c:Nat):Nat:=if c=34 then 34 else if c=92 then 92 else if c=8 then 98 else if c=9 then 116 else if c=10 then 110 else if c=12 then 102 else if c=13 then 114 else 0
theorem esc_short (c:UInt8) (h:shortZ c.toNat≠0):Gm.esc c=[92,(shortZ c.toNat).toUInt8]:=by
  have key:∀ n ∈ List.range 256,shortZ n≠0→Gm.esc n.toUInt8=[92,(shortZ n).toUInt8]:=by decide +kernel
  have:=key c.toNat (List.mem_range.2 c.toNat_lt) h
  have e:c.toNat.toUInt8=c:=by simp
  rw [e] at this;exact this
theorem esc_low (c:UInt8) (h:shortZ c.toNat=0) (h32:c.toNat < 32):Gm.esc c=[92,117,48,48,Gm.hexd (c.toNat / 16),Gm.hexd (c.toNat % 16)]:=by
  have key:∀ n ∈ List.range 256,shortZ n=0→n < 32→Gm.esc n.toUInt8=[92,117,48,48,Gm.hexd (n / 16),Gm.hexd (n % 16)]:=by decide +kernel
  have:=key c.toNat (List.mem_range.2 c.toNat_lt) h h32
  have e:c.toNat.toUInt8=c:=by simp
  rw [e] at this;exact this
theorem esc_self (c:UInt8) (h:shortZ c.toNat=0) (h32:¬ c.toNat < 32):Gm.esc c=[c]:=by
  have key:∀ n ∈ List.range 256,shortZ n=0→¬ n < 32→Gm.esc n.toUInt8=[n.toUInt8]:=by decide +kernel
  have:=key c.toNat (List.mem_range.2 c.toNat_lt) h h32
  have e:c.toNat.toUInt8=c:=by simp
  rw [e] at this;exact this
def fromB:ByteArray:=⟨#[34,92,8,9,10,12,13]⟩
def toB:ByteArray:=⟨#[34,92,98,116,110,102,114]⟩
def fromN (k:Nat):Nat:=Gm.nth [34,92,8,9,10,12,13] k
theorem shortZ_hit (k:Nat) (hk:k < 7):shortZ (fromN k)=Gm.nth [34,92,98,116,110,102,114] k:=by
  have:∀ k ∈ List.range 7,shortZ (fromN k)=Gm.nth [34,92,98,116,110,102,114] k:=by decide
  exact this k (List.mem_range.2 hk)
theorem shortZ_miss (c:Nat) (h:∀ j,j < 7→fromN j≠c):shortZ c=0:=by
  unfold shortZ;have h0:=h 0 (by omega);have h1:=h 1 (by omega);have h2:=h 2 (by omega);have h3:=h 3 (by omega);have h4:=h 4 (by omega);have h5:=h 5 (by omega);have h6:=h 6 (by omega);simp [fromN,Gm.nth] at h0 h1 h2 h3 h4 h5 h6;rw [if_neg (by omega),if_neg (by omega),if_neg (by omega),if_neg (by omega),if_neg (by omega),if_neg (by omega),if_neg (by omega)]
set_option maxHeartbeats 1000000 in
theorem short_any (c:Nat) (w:World) (hc:c < 256) :
    Calls Tryz.prog 100 #[.int .u8 c] w fun e w'=>e=.returned (.int .u8 (shortZ c))∧w'=w:=by
  go_enter Tryz.func100,Tryz.ntmps100
  go_wp2
  go_loop [3] (fun i=>∃ k:Nat,k≤7∧i=.int .i64 k∧∀ j,j < k→fromN j≠c) (fun i=>7 - (intOf i).toNat)
  case atStart=>exact ⟨0,by omega,rfl,fun j hj=>by omega⟩
  case round =>
    obtain ⟨k,hk,rfl,hall⟩:=hrel;have HA:Hid _:=hall;clear hall
    by_cases hlt:k < 7
    · have hlt':(k:Int) < 7:=by omega
      have hf:k < fromB.size:=by show k < 7;exact hlt
      have ht:k < toB.size:=by show k < 7;exact hlt
      have ef:=nth_of fromB k hf;have et:=nth_of toB k ht;have EF:Hid (fromN k=(fromB[k]'hf).toNat):=ef;have ET:Hid (Gm.nth [34,92,98,116,110,102,114] k=(toB[k]'ht).toNat):=et;clear ef et;unfold fromB at *;unfold toB at *
      by_cases he:fromN k=c
      · have hb:((((⟨#[34,92,8,9,10,12,13]⟩:ByteArray)[k]'hf).toNat:Int) == (c:Int))=true:=by rw [← EF.out,he];simp
        have HE:Hid _:=he;clear he
        go_wp2
        go_ret
        refine ⟨ret_int ?_,rfl⟩;rw [← HE.out,shortZ_hit k hlt,ET.out]
      · have hb:((((⟨#[34,92,8,9,10,12,13]⟩:ByteArray)[k]'hf).toNat:Int) == (c:Int))=false:=by rw [← EF.out];simp;omega
        have HE:Hid _:=he;clear he
        go_wp2
        go_round
        case rel =>
          refine ⟨k+1,by omega,by go_num,?_⟩;intro j hj
          by_cases hjk:j=k
          · subst hjk;exact HE.out
          · exact HA.out j (by omega)
        case measure=>simp [intOf];omega
    · have hlt':¬ (k:Int) < 7:=by omega
      go_wp2
      go_ret
      refine ⟨ret_int ?_,rfl⟩;rw [shortZ_miss c (fun j hj=>HA.out j (by omega))];rfl
theorem short_is (c z:Nat) (w:World) (hc:c < 256) (h:shortZ c=z) :
    Calls Tryz.prog 100 #[.int .u8 c] w fun e w'=>e=.returned (.int .u8 z)∧w'=w:=by
  subst h;exact short_any c w hc
theorem app_low (acc:List UInt8) (a b:UInt8):(⟨acc.toArray⟩:ByteArray) ++ ⟨#[92,117,48,48]⟩ ++ ⟨#[a,b]⟩=⟨(acc ++ [92,117,48,48,a,b]).toArray⟩:=by
  have e1:(⟨#[92,117,48,48]⟩:ByteArray)=⟨([92,117,48,48]:List UInt8).toArray⟩:=rfl;have e2:(⟨#[a,b]⟩:ByteArray)=⟨([a,b]:List UInt8).toArray⟩:=rfl;rw [e1,e2,str_app,str_app];simp
theorem app_short (acc:List UInt8) (a:UInt8):(⟨acc.toArray⟩:ByteArray) ++ ⟨#[92]⟩ ++ ⟨#[a]⟩=⟨(acc ++ [92,a]).toArray⟩:=by
  have e1:(⟨#[92]⟩:ByteArray)=⟨([92]:List UInt8).toArray⟩:=rfl;have e2:(⟨#[a]⟩:ByteArray)=⟨([a]:List UInt8).toArray⟩:=rfl;rw [e1,e2,str_app,str_app];simp
theorem extract_one (s:ByteArray) (k:Nat) (h:k < s.size):s.extract k (k+1)=⟨[s[k]'h].toArray⟩:=by
  have:(s.extract k (k+1)).data.toList=[s[k]'h]:=by
    rw [Lib.extract_data,show k+1 - k=1 from by omega];have hl:k < s.data.toList.length:=by rw [← Lib.size_eq];exact h
    rw [List.drop_eq_getElem_cons hl];rfl
  rw [← this,str_eta]
set_option maxHeartbeats 2000000 in
theorem refQuote_any (s:ByteArray) (w:World) (hs:s.size≤17592186044416) :
    Calls Tryz.prog 65 #[.string s] w fun e w'=>e=.returned (.string ⟨(Gm.quote s.data.toList).toArray⟩)∧Below w.heap.size w w':=by
  go_enter Tryz.func65,Tryz.ntmps65
  go_wp2
  go_loopw [3,4] (fun o i wr=>∃ (k:Nat) (acc:List UInt8),k≤s.size∧i=.int .i64 k∧o=.string ⟨acc.toArray⟩∧acc=Gm.quoteTo s.data.toList k∧Below w.heap.size w wr) (fun _ i _=>s.size - (intOf i).toNat)
  case atStart=>exact ⟨0,[34],by omega,rfl,rfl,rfl,Below.refl _ _⟩
  case round =>
    obtain ⟨k,acc,hk,rfl,rfl,hacc,hbel⟩:=hrel;have hal:acc.length≤1+6 * k:=by rw [hacc];exact Gm.quoteTo_le _ _
    have HACC:Hid _:=hacc;clear hacc;have hsum:¬ 9223372036854775807 < acc.length+1:=by omega
    by_cases hlt:k < s.size
    · have hlt':(k:Int) < s.size:=by omega
      have hsucc:=Gm.quoteTo_succ s.data.toList k (by rw [← Lib.size_eq];exact hlt)
      have hget:s.data.toList.getD k 0=s[k]'hlt:=by
        rw [List.getD_eq_getElem?_getD,List.getElem?_eq_getElem (by rw [← Lib.size_eq];exact hlt)];rfl
      rw [hget] at hsucc;have HS:Hid _:=hsucc;clear hsucc hget;have hb:(s[k]'hlt).toNat < 256:=(s[k]'hlt).toNat_lt
      by_cases hsh:shortZ (s[k]'hlt).toNat=0
      · have HSH:Hid _:=hsh
        clear hsh
        by_cases h32:(s[k]'hlt).toNat < 32
        · have HE:Hid _:=esc_low (s[k]'hlt) HSH.out h32
          have h32':((s[k]'hlt).toNat:Int) < 32:=by omega
          go_wp2_with fail
          refine (short_is _ 0 _ hb HSH.out).mono ?_;rintro e W1 ⟨rfl,rfl⟩;have kc:=conv2_drew W1;have q0:0≤((s[k]'hlt).toNat:Int) / 16∧((s[k]'hlt).toNat:Int) / 16 < 16:=by omega
          have q1:0≤((s[k]'hlt).toNat:Int) % 16∧((s[k]'hlt).toNat:Int) % 16 < 16:=by omega
          go_wp2
          go_region
          go_wp2
          go_roundw
          case rel =>
            refine ⟨k+1,Gm.quoteTo s.data.toList (k+1),by omega,by go_num,?_,rfl,(hbel.alloc hbel.size _).drew⟩;rw [dig_at,dig_at,app_low,HS.out,HE.out,← HACC.out]
          case measure=>simp [intOf];omega
        · have HE:Hid _:=esc_self (s[k]'hlt) HSH.out h32
          have HX:Hid _:=extract_one s k hlt;have h32':¬ ((s[k]'hlt).toNat:Int) < 32:=by omega
          have hk1:(k:Int)+1≤s.size:=by omega
          go_wp2_with fail
          refine (short_is _ 0 _ hb HSH.out).mono ?_;rintro e W1 ⟨rfl,rfl⟩;have hxs:(s.extract k (k+1)).size=1:=by rw [HX.out];rfl
          go_wp2
          go_roundw
          case rel =>
            refine ⟨k+1,Gm.quoteTo s.data.toList (k+1),by omega,by go_num,?_,rfl,hbel⟩;rw [HX.out,str_app,HS.out,HE.out,← HACC.out]
          case measure=>simp [intOf];omega
      · have HE:Hid _:=esc_short (s[k]'hlt) hsh
        generalize hz:shortZ (s[k]'hlt).toNat=z at *;have HZ:Hid _:=hz;have hz2:((z:Int) != 0)=true:=by rw [bne_iff_ne];omega
        have hz256:z < 256:=by
          rw [← hz];unfold shortZ
          repeat' split
          all_goals omega
        clear hz hsh
        go_wp2_with fail
        refine (short_is _ z _ hb HZ.out).mono ?_;rintro e W1 ⟨rfl,rfl⟩
        go_wp2_with fail
        refine (short_is _ z _ hb HZ.out).mono ?_;rintro e W1 ⟨rfl,rfl⟩;have kc:=conv1 W1
        go_wp2
        go_roundw
        case rel =>
          refine ⟨k+1,Gm.quoteTo s.data.toList (k+1),by omega,by go_num,?_,rfl,hbel.alloc hbel.size _⟩;rw [HS.out,HE.out,← HACC.out,← app_short]
        case measure=>simp [intOf];omega
    · have hlt':¬ (k:Int) < s.size:=by omega
      go_wp2
      go_ret
      refine ⟨ret_str ?_,hbel⟩;have e2:(⟨#[34]⟩:ByteArray)=⟨([34]:List UInt8).toArray⟩:=rfl;rw [e2,str_app,HACC.out,Gm.quoteTo_all _ _ (by rw [← Lib.size_eq];omega)]
set_option maxHeartbeats 1000000 in
theorem bytes_any (r:Nat) (w:World) (hr:r≤1114111) :
    Calls Tryz.prog 151 #[.int .i64 r] w fun e w'=>e=.returned (.string ⟨(Gm.encZ r).toArray⟩)∧Below w.heap.size w w':=by
  have hbel:∀ o,Below w.heap.size w (w.alloc o):=fun o=>(Below.refl _ _).alloc (Nat.le_refl _) o
  unfold Gm.encZ
  by_cases g1:r < 128
  · rw [if_pos g1]
    have g1':(r:Int) < 128:=by omega
    have kc:=conv1 w;go_enter Tryz.func151,Tryz.ntmps151
    go_wp2
    go_ret
    refine ⟨ret_str ?_,hbel _⟩
    first | rfl | simp [Nat.toUInt8,UInt8.ofNat_add]
  · rw [if_neg g1]
    have g1':¬ (r:Int) < 128:=by omega
    by_cases g2:r < 2048
    · rw [if_pos g2]
      have g2':(r:Int) < 2048:=by omega
      have kc:=conv2 w;go_enter Tryz.func151,Tryz.ntmps151
      go_wp2
      go_ret
      refine ⟨ret_str ?_,hbel _⟩
      first | rfl | simp [Nat.toUInt8,UInt8.ofNat_add]
    · rw [if_neg g2]
      have g2':¬ (r:Int) < 2048:=by omega
      by_cases g3:r < 65536
      · rw [if_pos g3]
        have g3':(r:Int) < 65536:=by omega
        have kc:=conv3 w;go_enter Tryz.func151,Tryz.ntmps151
        go_wp2
        go_ret
        refine ⟨ret_str ?_,hbel _⟩
        first | rfl | simp [Nat.toUInt8,UInt8.ofNat_add]
      · rw [if_neg g3]
        have g3':¬ (r:Int) < 65536:=by omega
        have kc:=conv4 w;go_enter Tryz.func151,Tryz.ntmps151
        go_wp2
        go_ret
        refine ⟨ret_str ?_,hbel _⟩
        first | rfl | simp [Nat.toUInt8,UInt8.ofNat_add]
def halfZ (o:Option Int):Int:=match o with | none=>-1 | some d=>d
def escR (o:Option (Int×Nat)):Ending:=match o with
  | none=>.returned (.tuple #[.string ⟨#[]⟩,.int .i64 0])
  | some x=>.returned (.tuple #[.string ⟨(Lib.encodeRune x.1).toArray⟩,.int .i64 x.2])
def eFrom (k:Nat):Nat:=Gm.nth [34,92,47,98,102,110,114,116] k
def eTo (k:Nat):Nat:=Gm.nth [34,92,47,8,12,10,13,9] k
def eFromB:ByteArray:=⟨#[34,92,47,98,102,110,114,116]⟩
theorem refUnquote_empty (s:ByteArray) (w:World) (h:s.toList.isEmpty=true) :
    Calls Tryz.prog 126 #[.string s] w fun e w'=>e=unR none∧Below w.heap.size w w':=by
  go_enter Tryz.func126,Tryz.ntmps126
  go_wp2
  go_ret2
  exact ⟨rfl,Below.refl _ _⟩
theorem refUnquote_no (s:ByteArray) (w:World) (hp:0 < s.size) (h:s.toList.isEmpty=false) (hn:(s[0]'hp).toNat≠34) :
    Calls Tryz.prog 126 #[.string s] w fun e w'=>e=unR none∧Below w.heap.size w w':=by
  have hn':(((s[0]'hp).toNat:Int) != 34)=true:=by rw [bne_iff_ne];omega
  go_enter Tryz.func126,Tryz.ntmps126
  go_wp2
  go_ret2
  exact ⟨rfl,Below.refl _ _⟩
set_option maxHeartbeats 2000000 in
theorem refUnquote_yes (s:ByteArray) (w:World) (hs:s.size≤17592186044416) (hp0:0 < s.size) (h:s.toList.isEmpty=false) (hn:(s[0]'hp0).toNat=34) (hnb:∀ p,Gm.nth s.data.toList p≠92) :
    Calls Tryz.prog 126 #[.string s] w fun e w'=>e=unR (Gm.unquote s.data.toList)∧Below w.heap.size w w':=by
  have HNB:Hid (∀ p,Gm.nth s.data.toList p≠92):=hnb;clear hnb;have hn0:=nth_of s 0 hp0;have hmx:s.size≤maxLen:=by unfold maxLen;omega
  have hun:Gm.unquote s.data.toList=(Gm.unqL (s.data.toList.drop 1)).map fun x=>(x.1,x.2+1):=by
    unfold Gm.unquote;rw [if_pos (by rw [hn0];exact hn)]
  generalize hR:Gm.unquote s.data.toList=R at *;have HUN:Hid _:=hun;have hn':(((s[0]'hp0).toNat:Int) != 34)=false:=by rw [hn];rfl
  clear hun hR hn hn0;go_enter Tryz.func126,Tryz.ntmps126
  go_wp2
  go_loopw [4,5] (fun o a wr=>∃ (pos:Nat) (acc:List UInt8),a=.int .i64 pos∧o=.string ⟨acc.toArray⟩∧pos≤s.size∧acc.length≤4 * pos∧Below w.heap.size w wr∧(Gm.unqL (s.data.toList.drop pos)).map (fun x=>(acc ++ x.1,x.2+pos))=R) (fun _ a _=>s.size - (intOf a).toNat)
  case atStart=>exact ⟨1,[],rfl,rfl,by omega,by simp,Below.refl _ _,by rw [HUN.out];rfl⟩
  case round =>
    obtain ⟨pos,acc,rfl,rfl,hps,hal,hbel,huq⟩:=hrel;have HQ:Hid _:=huq;clear huq HUN
    by_cases hp:pos < s.size
    · have hp':(pos:Int) < s.size:=by omega
      have hne:=drop_ne s pos hp;have hn0:=nth_of s pos hp;have hnd:Gm.nth (s.data.toList.drop pos) 0=(s[pos]'hp).toNat:=by rw [Gm.nth_drop,Nat.add_zero,hn0]
      have hb:(s[pos]'hp).toNat < 256:=(s[pos]'hp).toNat_lt;have heq:=Gm.unqL_eq _ hne;have hes:(s.extract pos s.size).size≤maxLen:=by unfold maxLen;simp [ByteArray.size_extract];omega
      have hed:=toList_drop_end s pos
      by_cases h34:(s[pos]'hp).toNat=34
      · have hd:Gm.dec (s.data.toList.drop pos)=(34,1):=by rw [Gm.dec_ascii _ (by omega),hnd,h34]
        have huq:=HQ.out;rw [heq,hd,if_pos rfl] at huq;have HQ2:Hid _:=huq;have t1:(((s[pos]'hp).toNat:Int) != 34)=false:=by rw [h34];rfl
        have t2:¬ (s.size:Int)≤pos:=by omega
        clear hd huq heq hed hnd hn0 h34 HQ
        go_wp2
        go_ret2
        refine ⟨?_,hbel⟩;rw [← HQ2.out];simp [unR];omega
      · have t1:(((s[pos]'hp).toNat:Int) != 34)=true:=by rw [bne_iff_ne];omega
        by_cases h92:(s[pos]'hp).toNat=92
        · exact absurd (hn0.trans h92) (HNB.out pos)
        · have t2:(((s[pos]'hp).toNat:Int) == 92)=false:=by simp;omega
          have hd34:(Gm.dec (s.data.toList.drop pos)).1≠34:=by
            intro e;have:=Gm.dec_92 (by omega) e;omega
          have hd92:(Gm.dec (s.data.toList.drop pos)).1≠92:=by
            intro e;have:=Gm.dec_92 (by omega) e;omega
          have huq:=HQ.out;rw [heq,if_neg hd34] at huq;cases hbad:Gm.bad (s.data.toList.drop pos) with
          | true =>
            have hpc:Gm.piece (s.data.toList.drop pos)=none:=by unfold Gm.piece;rw [if_neg hd92,if_pos (Or.inr hbad)]
            rw [hpc] at huq;have HQ2:Hid _:=huq;have HO:Hid (Gm.one (s.extract pos s.size).data.toList=0):=by rw [hed];exact one_bad hne hbad
            clear huq heq hed hnd hn0 h34 h92 HQ hpc hbad hd34 hd92
            go_wp2_with fail
            refine (one_is _ 0 _ hes HO.out).mono ?_;rintro e W1 ⟨rfl,b1⟩
            go_wp2
            go_ret2
            refine ⟨?_,bthen hbel b1⟩;rw [← HQ2.out];rfl
          | false =>
            have hw:=Gm.dec_w (s.data.toList.drop pos);have hwl:=Gm.dec_w_len _ hne;rw [List.length_drop,← Lib.size_eq] at hwl;have HO:Hid (Gm.one (s.extract pos s.size).data.toList=(Gm.dec (s.data.toList.drop pos)).2):=by rw [hed];exact one_good hne hbad
            by_cases h32:(s[pos]'hp).toNat < 32
            · have h32':((s[pos]'hp).toNat:Int) < 32:=by omega
              have hd1:(Gm.dec (s.data.toList.drop pos)).1 < 32:=by rw [Gm.dec_ascii _ (by omega)];simp only;omega
              have hpc:Gm.piece (s.data.toList.drop pos)=none:=by unfold Gm.piece;rw [if_neg hd92,if_pos (Or.inl hd1)]
              rw [hpc] at huq;have HQ2:Hid _:=huq;generalize hwd:(Gm.dec (s.data.toList.drop pos)).2=wd at *;have hw0:((wd:Int) == 0)=false:=by simp;omega
              clear huq heq hed hnd hn0 h34 h92 HQ hpc hbad hd34 hd92 hd1 hwd
              go_wp2_with fail
              refine (one_is _ wd _ hes HO.out).mono ?_;rintro e W1 ⟨rfl,b1⟩
              go_wp2
              go_ret2
              refine ⟨?_,bthen hbel b1⟩;rw [← HQ2.out];rfl
            · have h32':¬ ((s[pos]'hp).toNat:Int) < 32:=by omega
              have hd1:¬ (Gm.dec (s.data.toList.drop pos)).1 < 32:=by
                by_cases ha:(s[pos]'hp).toNat < 128
                · rw [Gm.dec_ascii _ (by omega)];simp only;omega
                · have:=Gm.dec_high _ (show 128≤Gm.nth (s.data.toList.drop pos) 0 by omega);omega
              have hpc:Gm.piece (s.data.toList.drop pos)=some (((Gm.dec (s.data.toList.drop pos)).1:Int),1):=by
                unfold Gm.piece;rw [if_neg hd92,if_neg (by rw [hbad];simp;omega)]
              have hwid:Gm.width (s.data.toList.drop pos) 1=(Gm.dec (s.data.toList.drop pos)).2:=by unfold Gm.width;rw [if_neg hd92]
              have henc:=Gm.encode_dec _ hne hbad;rw [hpc] at huq;simp only [hwid,henc] at huq;generalize hwd:(Gm.dec (s.data.toList.drop pos)).2=wd at *;have hw0:((wd:Int) == 0)=false:=by simp;omega
              have hxs:(s.extract pos (pos+wd)).size=wd:=by simp [ByteArray.size_extract];omega
              have HXD:Hid _:=Lib.extract_data s pos (pos+wd);have HQ2:Hid _:=huq;have hle:(pos:Int)+wd≤s.size:=by omega
              have hxs':(s.extract pos (pos+wd)).size≤4:=by omega
              have hsum:¬ 9223372036854775807 < acc.length+(s.extract pos (pos+wd)).size:=by omega
              clear huq heq hed hnd hn0 h34 h92 HQ hpc hbad hd34 hd92 hd1 hwd hwid henc
              go_wp2_with fail
              refine (one_is _ wd _ hes HO.out).mono ?_;rintro e W1 ⟨rfl,b1⟩
              go_wp2
              go_roundw
              case rel =>
                refine ⟨pos+wd,acc ++ (s.data.toList.drop pos).take wd,by go_num,?_,by omega,?_,bthen hbel b1,?_⟩
                · have e1:s.extract pos (pos+wd)=⟨((s.data.toList.drop pos).take wd).toArray⟩:=by
                    have:=HXD.out
                    rw [show pos+wd - pos=wd from by omega] at this;rw [← this,str_eta]
                  rw [e1,str_app]
                · rw [List.length_append]
                  have:((s.data.toList.drop pos).take wd).length≤wd:=List.length_take_le _ _
                  omega
                · have h1:=HQ2.out
                  simp only [Option.map_map] at h1;rw [← h1,drop_drop']
                  congr 1
                  funext x
                  simp [Function.comp];omega
              case measure=>simp [intOf];omega
    · have hp':decide ((pos:Int) < s.size)=false:=by simp;omega
      have t2:(s.size:Int)≤pos:=by omega
      have huq:=HQ.out;rw [drop_nil s pos hp,Gm.unqL_nil] at huq;have HQ2:Hid _:=huq;clear huq HQ
      go_wp2
      go_ret2
      refine ⟨?_,hbel⟩;rw [← HQ2.out];rfl
theorem refUnquote_any (s:ByteArray) (w:World) (hs:s.size≤17592186044416) (hnb:∀ p,Gm.nth s.data.toList p≠92) :
    Calls Tryz.prog 126 #[.string s] w fun e w'=>e=unR (Gm.unquote s.data.toList)∧Below w.heap.size w w':=by
  by_cases hp:0 < s.size
  · have h:=isEmpty_false s hp
    have hn0:=nth_of s 0 hp
    by_cases hn:(s[0]'hp).toNat=34
    · exact refUnquote_yes s w hs hp h hn hnb
    · have e:Gm.unquote s.data.toList=none:=by unfold Gm.unquote;rw [if_neg (by omega)]
      rw [e];exact refUnquote_no s w hp h hn
  · have he:s.data.toList=[]:=List.length_eq_zero_iff.1 (by rw [← Lib.size_eq];omega)
    have e:Gm.unquote s.data.toList=none:=by rw [he];rfl
    rw [e];exact refUnquote_empty s w (isEmpty_true s hp)
end Go.Proofs.YtapcmbbhhclepaaGreatDoor
