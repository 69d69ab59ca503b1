/-
  What this claim takes of the earlier layers' texts: XCost VWithD CRefP CRefQ CRefO XRed.
-/
import Derived.Test.YtapcmbbhhclepaaGreatDoorM17
import Derived.BigRegion
set_option linter.unusedVariables false
set_option linter.unusedSimpArgs false
set_option maxRecDepth 100000
namespace Go.Proofs.YtapcmbbhhclepaaGreatDoor
open V
namespace Xr
theorem wt_nul:wt nul=1:=by unfold nul;rw [wt_mk];rfl
theorem wt_get {x:V} {o:ByteArray} {z:V} (h:get x o=some z):wt z < wt x:=by
  rw [get_def] at h
  split at h
  · cases h
  · have hm:=List.mem_of_getElem? h
    exact Nat.lt_of_le_of_lt (wtL_mem hm) (wtL_list x)
theorem wt_getD (x:V) (o:ByteArray):wt ((get x o).getD nul)≤wt x:=by
  cases h:get x o with
  | none=>simp only [Option.getD_none];rw [wt_nul];exact wt_pos x
  | some z=>simp only [Option.getD_some];exact Nat.le_of_lt (wt_get h)
theorem wt_content (x:V):wt (content x)≤wt x:=wt_getD x kContent
theorem kindOf_size (x:V):(kindOf x).size≤wt x:=by
  unfold kindOf;have h1:=wt_getD x kType;have h2:=text_wt ((get x kType).getD nul)
  split
  · omega
  · show 0≤_
    omega
theorem wt_pairs (ps qs:List (ByteArray×V)) (h:qs.Sublist ps):wtK (qs.map (·.1))+wtL (qs.map (·.2))≤wtK (ps.map (·.1))+wtL (ps.map (·.2)):=by
  induction h with
  | slnil=>exact Nat.le_refl _
  | cons a h ih=>simp only [List.map_cons,wtK,wtL_cons];omega
  | cons_cons a h ih=>simp only [List.map_cons,wtK,wtL_cons];omega
theorem wt_zip:∀ (ks:List ByteArray) (l:List V),wtK ((ks.zip l).map (·.1))+wtL ((ks.zip l).map (·.2))≤wtK ks+wtL l
  | [],l=>by simp [wtK,wtL_nil]
  | k :: ks,[]=>by simp [wtK,wtL_nil]
  | k :: ks,x :: l=>by
    have:=wt_zip ks l
    simp only [List.zip_cons_cons,List.map_cons,wtK,wtL_cons];omega
theorem wt_taken (x:V) (stay:List ByteArray):wt (taken x stay)≤wt x:=by
  unfold taken;rw [wt_mk];have h1:=wt_pairs (x.keys.zip x.list) (stays stay (x.keys.zip x.list)) (by unfold stays;exact List.filter_sublist);have h2:=wt_zip x.keys x.list;obtain ⟨k,n,t,ks,l⟩:=x;rw [wt_mk];simp only at h1 h2 ⊢;have e:(⟨#[]⟩:ByteArray).size=0:=rfl;omega
theorem wt_ofContent (c:V) (kind:ByteArray):wt (ofContent c kind)≤wt c:=by
  unfold ofContent
  split
  · exact Nat.le_refl _
  · exact wt_taken _ _
theorem wt_keep (kind:ByteArray) (c:V):wt (keep kind c)≤wt c:=by
  unfold keep
  split
  · exact wt_ofContent _ _
  · exact Nat.le_refl _
def costK:List ByteArray→Nat
  | []=>0
  | k :: ks=>3+6 * k.size+costK ks
def cost:V→Nat
  | ⟨_,_,t,ks,l⟩=>24+6 * t.size+costK ks+(l.map (fun x=>cost x)).sum
def costL (l:List V):Nat:=(l.map cost).sum
theorem costL_nil:costL []=0:=rfl
theorem costL_cons (x:V) (l:List V):costL (x :: l)=cost x+costL l:=by simp [costL]
theorem cost_mk (k n:Int) (t:ByteArray) (ks:List ByteArray) (l:List V):cost ⟨k,n,t,ks,l⟩=24+6 * t.size+costK ks+costL l:=by rw [cost];rfl
theorem costK_append (a b:List ByteArray):costK (a ++ b)=costK a+costK b:=by
  induction a with
  | nil=>simp [costK]
  | cons y l ih=>simp only [List.cons_append,costK,ih];omega
theorem costL_append (a b:List V):costL (a ++ b)=costL a+costL b:=by
  induction a with
  | nil=>simp [costL_nil]
  | cons y l ih=>simp only [List.cons_append,costL_cons,ih];omega
theorem costL_mem {l:List V}:∀ {x:V},x ∈ l→cost x≤costL l:=by
  induction l with
  | nil=>intro x h;cases h
  | cons y l ih =>
    intro x h;simp only [costL_cons];rcases List.mem_cons.1 h with rfl | h
    · omega
    · have:=ih h;omega
theorem cost_pos (x:V):24≤cost x:=by cases x;rw [cost_mk];omega
theorem digitsN_len:∀ (f n:Nat),(Cn.digitsN f n).length≤f
  | 0,n=>by simp [Cn.digitsN]
  | f+1,n=>by
    simp only [Cn.digitsN]
    split
    · simp
    · have:=digitsN_len f (n / 10)
      simp;omega
theorem digits_len (n:Int):(Cn.digits n).length≤21:=by
  unfold Cn.digits;have:=digitsN_len 20 n.natAbs
  split
  · simp;omega
  · omega
theorem joined_le (ls:List (List UInt8)):(Cn.joined ls).length≤(ls.map (fun l=>l.length+1)).sum:=by
  unfold Cn.joined
  match ls with
  | []=>simp
  | [a]=>simp
  | a :: b :: ls =>
    have ih:=joined_le (b :: ls);unfold Cn.joined at ih;simp only [List.intersperse_cons_cons,List.flatten_cons,List.length_append,List.map_cons,List.sum_cons,List.length_singleton] at ih ⊢;omega
theorem escOf_len (r:Int):(Gm.escOf r).length≤6:=by
  unfold Gm.escOf
  repeat' split
  all_goals simp
theorem esc_len (b:UInt8):(Gm.esc b).length≤6:=by
  unfold Gm.esc
  split
  · simp
  · exact escOf_len _
theorem flat_len (l:List UInt8):(l.flatMap Gm.esc).length≤6 * l.length:=by
  induction l with
  | nil=>simp
  | cons b l ih =>
    have:=esc_len b
    simp only [List.flatMap_cons,List.length_append,List.length_cons];omega
theorem quote_len (l:List UInt8):(Gm.quote l).length≤6 * l.length+2:=by
  unfold Gm.quote;have:=flat_len l
  simp only [List.length_cons,List.length_append,List.length_singleton,List.length_nil];omega
theorem data_len (t:ByteArray):t.data.toList.length=t.size:=by rw [Array.length_toList];rfl
theorem print_cost (x:V):(Cn.print x).length+1≤cost x:=by
  induction x using V.ind with
  | h k n t ks l ih =>
    rw [cost_mk];unfold Cn.print
    split
    · split <;> (simp [Cn.falseW,Cn.trueW];omega)
    · split
      · have:=digits_len n;omega
      · split
        · have:=quote_len t.data.toList
          rw [data_len] at this;omega
        · split
          · have h1:=joined_le (l.map (fun x=>Cn.print x))
            have h2:((l.map (fun x=>Cn.print x)).map (fun l=>l.length+1)).sum≤costL l:=by
              clear h1
              induction l with
              | nil=>simp
              | cons y l ih2 =>
                have h3:=ih y (by simp);have h4:=ih2 (fun z hz=>ih z (by simp [hz]));simp only [List.map_cons,List.sum_cons,costL_cons];omega
            simp only [List.length_cons,List.length_append,List.length_singleton,List.length_nil];omega
          · split
            · have h1:=joined_le ((ks.zip (l.map (fun x=>Cn.print x))).map (fun p=>Gm.quote p.1.data.toList ++ 58 :: p.2))
              have h2:∀ ks:List ByteArray,(((ks.zip (l.map (fun x=>Cn.print x))).map (fun p=>Gm.quote p.1.data.toList ++ 58 :: p.2)).map (fun l=>l.length+1)).sum≤costK ks+costL l:=by
                clear h1
                induction l with
                | nil=>intro ks;simp
                | cons y l ih2 =>
                  intro ks;cases ks with
                  | nil=>simp
                  | cons k ks =>
                    have h3:=ih y (by simp);have h4:=ih2 (fun z hz=>ih z (by simp [hz])) ks;have h5:=quote_len k.data.toList;rw [data_len] at h5;simp only [List.map_cons,List.zip_cons_cons,List.sum_cons,costL_cons,costK,List.length_append,List.length_cons];omega
              have h3:=h2 ks;simp only [List.length_cons,List.length_append,List.length_singleton,List.length_nil];omega
            · simp [Cn.nullW];omega
theorem costK_splice (l:List ByteArray) (a b:Nat) (h:a≤b) (mid:List ByteArray):costK (splice l a b mid)≤costK l+costK mid:=by
  unfold splice;rw [costK_append,costK_append];have h1:=costK_append (l.take a) (l.drop a);rw [List.take_append_drop] at h1;have h2:l.drop b=(l.drop a).drop (b - a):=by rw [List.drop_drop];congr 1;omega
  have h3:=costK_append ((l.drop a).take (b - a)) ((l.drop a).drop (b - a));rw [List.take_append_drop] at h3;rw [h2];omega
theorem costL_splice (l:List V) (a b:Nat) (h:a≤b) (mid:List V):costL (splice l a b mid)≤costL l+costL mid:=by
  unfold splice;rw [costL_append,costL_append];have h1:=costL_append (l.take a) (l.drop a);rw [List.take_append_drop] at h1;have h2:l.drop b=(l.drop a).drop (b - a):=by rw [List.drop_drop];congr 1;omega
  have h3:=costL_append ((l.drop a).take (b - a)) ((l.drop a).drop (b - a));rw [List.take_append_drop] at h3;rw [h2];omega
theorem costK_take (l:List ByteArray) (m:Nat):costK (l.take m)≤costK l:=by
  have h1:=costK_append (l.take m) (l.drop m);rw [List.take_append_drop] at h1;omega
theorem costL_take (l:List V) (m:Nat):costL (l.take m)≤costL l:=by
  have h1:=costL_append (l.take m) (l.drop m);rw [List.take_append_drop] at h1;omega
theorem cost_laid (x:V) (a b:Nat) (h:a≤b) (mk':List ByteArray) (ml:List V):cost (laid x a b mk' ml)≤cost x+costK mk'+costL ml:=by
  obtain ⟨k,n,t,ks,l⟩:=x;show cost ⟨k,n,t,_,_⟩≤_
  rw [cost_mk,cost_mk];have h1:=costK_splice (ks.take (min ks.length l.length)) a b h mk';have h2:=costL_splice (l.take (min ks.length l.length)) a b h ml;have h3:=costK_take ks (min ks.length l.length);have h4:=costL_take l (min ks.length l.length);omega
theorem cost_with (x:V) (key:ByteArray) (y:V):cost (withV x key y)≤cost x+3+6 * key.size+cost y:=by
  have hone:costK [key]=3+6 * key.size:=by simp [costK]
  have hl:costL [y]=cost y:=by rw [costL_cons,costL_nil];omega
  unfold withV
  split
  · unfold with5
    split
    · have:=cost_laid x (place x key).toNat ((place x key).toNat+1) (by omega) [key] [y];omega
    · have:=cost_laid x (room (x.keys.take (min x.keys.length x.list.length)) key) (room (x.keys.take (min x.keys.length x.list.length)) key) (Nat.le_refl _) [key] [y];omega
  · have h0:cost none5=24:=by unfold none5;rw [cost_mk];rfl
    have h1:=cost_pos x;unfold with5
    split
    · have:=cost_laid none5 (place none5 key).toNat ((place none5 key).toNat+1) (by omega) [key] [y];omega
    · have:=cost_laid none5 (room (none5.keys.take (min none5.keys.length none5.list.length)) key) (room (none5.keys.take (min none5.keys.length none5.list.length)) key) (Nat.le_refl _) [key] [y];omega
theorem cost_without (x:V) (key:ByteArray):cost (without x key)≤cost x:=by
  rw [without_def]
  split
  · have:=cost_laid x (place x key).toNat ((place x key).toNat+1) (by omega) [] []
    have e1:costK []=0:=rfl;have e2:costL []=0:=rfl;omega
  · exact Nat.le_refl _
theorem cost_rest (x:V):cost (rest x)≤cost x:=Nat.le_trans (cost_without _ _) (cost_without _ _)
theorem cost_pairs (ps qs:List (ByteArray×V)) (h:qs.Sublist ps):costK (qs.map (·.1))+costL (qs.map (·.2))≤costK (ps.map (·.1))+costL (ps.map (·.2)):=by
  induction h with
  | slnil=>exact Nat.le_refl _
  | cons a h ih=>simp only [List.map_cons,costK,costL_cons];omega
  | cons_cons a h ih=>simp only [List.map_cons,costK,costL_cons];omega
theorem cost_zip:∀ (ks:List ByteArray) (l:List V),costK ((ks.zip l).map (·.1))+costL ((ks.zip l).map (·.2))≤costK ks+costL l
  | [],l=>by simp [costK,costL_nil]
  | k :: ks,[]=>by simp [costK,costL_nil]
  | k :: ks,x :: l=>by
    have:=cost_zip ks l
    simp only [List.zip_cons_cons,List.map_cons,costK,costL_cons];omega
theorem cost_taken (x:V) (stay:List ByteArray):cost (taken x stay)≤cost x:=by
  unfold taken;rw [cost_mk];have h1:=cost_pairs (x.keys.zip x.list) (stays stay (x.keys.zip x.list)) (by unfold stays;exact List.filter_sublist);have h2:=cost_zip x.keys x.list;obtain ⟨k,n,t,ks,l⟩:=x;rw [cost_mk];simp only at h1 h2 ⊢;have e:(⟨#[]⟩:ByteArray).size=0:=rfl;omega
theorem wt_rest (x:V):wt (rest x)≤4 * wt x:=by
  have h1:=wt_without x kHashes;have h2:=wt_without (without x kHashes) kUnsigned;unfold rest;omega
theorem wt_redact (x:V):wt (redact x)≤3 * wt x+12:=by
  have h1:=wt_taken x lEvent;have h2:=wt_content x;have h3:=wt_pos x;unfold redact
  split
  · split
    · have h4:=wt_withV (taken x lEvent) kContent (ofContent (content x) (kindOf x))
      have h5:=wt_ofContent (content x) (kindOf x);have h6:kContent.size=7:=rfl;omega
    · omega
  · rw [wt_nul];omega
end Xr
end Go.Proofs.YtapcmbbhhclepaaGreatDoor
namespace Go.Proofs.YtapcmbbhhclepaaGreatDoor
open Go.RowKit
theorem wt_none5:V.wt V.none5=1:=by unfold V.none5;rw [V.wt_mk];rfl
set_option maxHeartbeats 8000000 in
theorem with5_miss {v vy:Value} {x y:V} {w:World} {S S':Nat→Prop} (h:Is w S v x) (h':Is w S' vy y) (hwx:V.wt x≤1000000000) (hwy:V.wt y≤1000000000) (key:ByteArray) (hkey:key.size≤1000000000) (h5:x.kind=5) (pz:Int) (hp:V.place x key=pz) (hneg:pz < 0) (p:Nat) (hroom:V.room (x.keys.take (min x.keys.length x.list.length)) key=p) :
    Calls Tryz.prog 44 #[v,.string key,vy] w fun e w'=>∃ k n t a1 n1 c1 a2 n2 c2,e=.returned (.agg #[.int .i64 k,.int .i64 n,.string t,.slice a1 n1 c1,.slice a2 n2 c2])∧Is w' (Own w' w.heap.size) (.agg #[.int .i64 k,.int .i64 n,.string t,.slice a1 n1 c1,.slice a2 n2 c2]) (V.laid x p p [key] [y])∧Below w.heap.size w w':=by
  replace h:=h.weak (S':=fun b=>b < w.heap.size) (fun b hb _=>hb);replace h':=h'.weak (S':=fun b=>b < w.heap.size) (fun b hb _=>hb);have hpl:=V.room_le (x.keys.take (min x.keys.length x.list.length)) key;rw [hroom,List.length_take] at hpl;have hwl:=V.wt_laid x p p [key] [y];have hkl:=V.klen_wt x;obtain ⟨kv,lv,rfl,h2,h8,ht⟩:=id h.open;obtain ⟨kvy,lvy,rfl,hy2,hy8,_⟩:=id h'.open;obtain ⟨k,n,t,ks,l⟩:=x;simp only at *;subst h5;obtain ⟨a1,c1,rfl,q1,_,hks,_⟩:=id h2;obtain ⟨a2,c2,_,rfl,q2,_⟩:=id h8;obtain ⟨b1,d1,rfl,_⟩:=id hy2;obtain ⟨b2,d2,_,rfl,_⟩:=id hy8;obtain ⟨m,hm⟩:∃ m,min ks.length l.length=m:=⟨_,rfl⟩;have hpl':p≤m:=by omega
  have hm32:m≤4294967296:=by omega
  have HM:=hide hm;have HP:=hide hp;have HRO:=hide hroom;have HK:=hide hks;have HWL:=hide hwl;have HWX:=hide hwx;have HKL:=hide hkl;clear hm hp hks hwl hkl hpl hwx hroom;go_enter Tryz.func44,Tryz.ntmps44
  go_wp2_with fail
  refine (placeOf_any (h.below (bthen (below_alloc w _) (bthen (below_alloc _ _) (below_alloc _ _)))) key pz HP.out).mono ?_;rintro e w1 ⟨rfl,bw1⟩;have pa:BoxF w1 w.heap.size _ _ _ _ _:=((boxF_at w _ _ _ _ _ 27 _ rfl).keep (bthen (below_alloc _ _) (below_alloc _ _))).keep bw1;have pb:BoxF w1 (w.heap.size+1) _ _ _ _ _:=((boxF_at _ _ _ _ _ _ 27 _ (by simp)).keep (below_alloc _ _)).keep bw1;have pr:BoxF w1 (w.heap.size+2) _ _ _ _ _:=(boxF_at _ _ _ _ _ _ 27 _ (by simp)).keep bw1;have bb:=bthen (bthen (below_alloc w _) (bthen (below_alloc _ _) (below_alloc _ _))) bw1;have sz:w.heap.size+3≤w1.heap.size:=by have:=bw1.size;simpa using this
  clear bw1;obtain ⟨⟨x0,x1,x2,x3,x4⟩,f0,f1,f2,f3,f4⟩:=id pa
  go_wp2_with fail
  refine (roomFor_any (h.below bb) (by have:=HWX.out;omega) key p HRO.out).mono ?_;rintro e w1' ⟨rfl,bw1'⟩;clear x0 x1 x2 x3 x4 f0 f1 f2 f3 f4;replace pa:=pa.keep bw1';replace pb:=pb.keep bw1';replace pr:=pr.keep bw1';replace bb:=bthen bb bw1';replace sz:=Nat.le_trans sz bw1'.size;clear bw1';obtain ⟨⟨x0,x1,x2,x3,x4⟩,f0,f1,f2,f3,f4⟩:=id pa
  go_wp2_with fail
  refine (pairs_any _ _ _ _ _ _ _ _ _ _ q1 q2 m HM.out).mono ?_;rintro e w2 ⟨rfl,bw2⟩;clear x0 x1 x2 x3 x4 f0 f1 f2 f3 f4;replace pa:=pa.keep bw2;replace pb:=pb.keep bw2;replace pr:=pr.keep bw2;replace bb:=bthen bb bw2;replace sz:=Nat.le_trans sz bw2.size;have sz2:=sz;clear bw2
  go_wp2_with fail
  have hmk:m≤ks.length:=by have:=HM.out;omega
  have hml:m≤l.length:=by have:=HM.out;omega
  have rk:Raw w2 (fun b=>b < w.heap.size) (.slice a1 m c1) 1 m ((ks.take m).map .string):=by
    have:=(raw_of_strs (h2.below bb)).front hmk
    rwa [Nat.mul_one,← List.map_take] at this
  refine (putS_any a1 m c1 _ p p _ 1 [.string key] _ (fun _=>True) ((rk.weak (fun _ _ _=>trivial)).below (below_alloc _ _)) (raw_one_str _ key _ _ rfl trivial) (by omega) (by omega) hm32 (by decide)).mono ?_;rintro e w3 ⟨a3,n3,c3,rfl,hr3,bw3⟩;replace bw3:=bthen (below_alloc _ _) bw3;replace pa:=pa.keep bw3;replace pb:=pb.keep bw3;replace pr:=pr.keep bw3;replace bb:=bthen bb bw3;replace sz:=Nat.le_trans sz bw3.size;clear bw3 rk;obtain ⟨⟨x0,x1,x2,x3,x4⟩,f0,f1,f2,f3,f4⟩:=id pa;have pb':=pb.other (g':=w.heap.size) (o':=3) (by omega) (.slice a3 n3 c3);obtain ⟨⟨y0,y1,y2,y3,y4⟩,_⟩:=id pb'
  go_wp2_with fail
  have pa':=pa.set3 (.slice a3 n3 c3);have pr':=pr.other (g':=w.heap.size) (o':=3) (by omega) (.slice a3 n3 c3);have bb':=below_set (o:=3) bb (Nat.le_refl _) (.slice a3 n3 c3);have sz':w.heap.size+3≤(w3.setCell ⟨w.heap.size,3,none⟩ (.slice a3 n3 c3)).heap.size:=by rw [size_set];exact sz
  have hr3':=(hr3.weak (S':=fun b=>w.heap.size+3≤b) (fun b _ hb=>by simp at hb;omega)).keep (keeps_set (o:=3) (g:=w.heap.size) (.slice a3 n3 c3) (by omega));have e3:w3.heap.size=(w3.setCell ⟨w.heap.size,3,none⟩ (.slice a3 n3 c3)).heap.size:=(size_set _ _ _).symm;rw [e3];clear sz2 x0 x1 x2 x3 x4 f0 f1 f2 f3 f4 y0 y1 y2 y3 y4 pa pb pr bb hr3 sz e3;generalize w3.setCell ⟨w.heap.size,3,none⟩ (.slice a3 n3 c3)=W3 at *;obtain ⟨es,rl0,hes⟩:=raw_of_isL (h8.below bb')
  have rl:Raw W3 (fun b=>b < w.heap.size) (.slice a2 m c2) 5 m (cellsQ (es.take m)):=by
    have:=rl0.front hml
    rwa [cellsQ_take _ _ (by rw [hes.1];exact hml)] at this
  have hesm:(es.take m).length=m:=by rw [List.length_take,hes.1];omega
  refine (putV_any a2 m c2 _ p p _ 1 _ _ (fun _=>True) ((rl.weak (fun _ _ _=>trivial)).below (below_alloc _ _)) (raw_one_val _ _ _ _ _ _ _ _ _ _ _ _ rfl trivial) (by omega) (by omega) hm32 (by decide)).mono ?_;rintro e w4 ⟨a4,n4,c4,rfl,hr4,bw4⟩;rw [cellsQ_take _ _ (by omega),cellsQ_drop _ _ (by omega),← cellsQ_append,← cellsQ_append] at hr4;replace bw4:=bthen (below_alloc _ _) bw4;have pa:=pa'.keep bw4;have pr:=pr'.keep bw4;have bb:=bthen bb' bw4;have sz:=Nat.le_trans sz' bw4.size;have hr3:=hr3'.below bw4;have hes4:=hes.keep (Keeps.of_below bw4);clear pa' pb' pr' hr3' rl rl0 hes;obtain ⟨⟨x0,x1,x2,x3,x4⟩,f0,f1,f2,f3,f4⟩:=id pa;obtain ⟨⟨z0,z1,z2,z3,z4⟩,_⟩:=id (pa.set4 (.slice a4 n4 c4))
  go_wp2_with fail
  have pr':=pr.other (g':=w.heap.size) (o':=4) (by omega) (.slice a4 n4 c4);have bb4:=below_set (o:=4) bb (Nat.le_refl _) (.slice a4 n4 c4);have kp:Keeps (fun b=>b≠w.heap.size) w4 (w4.setCell ⟨w.heap.size,4,none⟩ (.slice a4 n4 c4)):=keeps_set (o:=4) (g:=w.heap.size) (.slice a4 n4 c4) (by simp);have sz4:w.heap.size+3≤(w4.setCell ⟨w.heap.size,4,none⟩ (.slice a4 n4 c4)).heap.size:=by rw [size_set];exact sz
  have hx:Is (w4.setCell ⟨w.heap.size,4,none⟩ (.slice a4 n4 c4)) (fun _=>True) (.agg #[.int .i64 5,.int .i64 n,.string t,.slice a3 n3 c3,.slice a4 n4 c4]) (V.laid ⟨5,n,t,ks,l⟩ p p [key] [y]):=by
    refine Is.shut (x:=V.laid ⟨5,n,t,ks,l⟩ p p [key] [y]) ?_ ?_ ht
    · have e1:(List.map Value.string (List.take m ks)).take (p * 1) ++ [Value.string key] ++ (List.map Value.string (List.take m ks)).drop (p * 1)=(V.splice (ks.take m) p p [key]).map Value.string:=by
        simp only [V.splice,List.map_append,List.map_take,List.map_drop,Nat.mul_one,List.map_cons,List.map_nil]
      rw [e1] at hr3;simp only [V.laid,HM.out];refine strs_of_raw ((hr3.weak (S':=fun b=>b≠w.heap.size) (fun b _ hb=>by omega)).keep kp |>.weak (fun _ _ _=>trivial)) ?_;intro u hu;simp only [V.splice,List.mem_append,List.mem_singleton] at hu;rcases hu with (hu | rfl) | hu
      · exact HK.out u (List.mem_of_mem_take (List.mem_of_mem_take hu))
      · exact Nat.le_trans hkey (by decide)
      · exact HK.out u (List.mem_of_mem_take (List.mem_of_mem_drop hu))
    · simp only [V.laid,HM.out]
      have hy4:Is w4 (fun b=>b < w.heap.size) (aggQ (.int .i64 y.kind,.int .i64 y.num,.string y.text,.slice b1 y.keys.length d1,.slice b2 y.list.length d2)) y:=h'.below bb;have k1:Els w4 (fun b=>b≠w.heap.size) (es.take m) (l.take m):=(hes4.take m).weak (fun b _ hb=>Nat.ne_of_lt hb);have k2:=(k1.take p).append (Els.one (hy4.weak (S':=fun b=>b≠w.heap.size) (fun b _ hb=>Nat.ne_of_lt hb)));have k3:=k2.append (k1.drop p);refine isL_of_raw (Raw.weak (Raw.keep (hr4.weak (S':=fun b=>b≠w.heap.size) (fun b _ hb=>by simp at hb;omega)) kp) (fun _ _ _=>trivial)) (Els.weak (Els.keep k3 kp) (fun _ _ _=>trivial))
  clear x0 x1 x2 x3 x4 f0 f1 f2 f3 f4 z0 z1 z2 z3 z4 pa pr bb hr3 hr4 kp hes4 sz sz';generalize w4.setCell ⟨w.heap.size,4,none⟩ (.slice a4 n4 c4)=W4 at *;refine (copyF_any hx (Nat.le_trans HWL.out (by have:=HWX.out;have e1:V.wtK [key]=1+key.size:=(by simp [V.wtK]);have e2:V.wtL [y]=V.wt y:=(by rw [V.wtL_cons,V.wtL_nil];omega);omega))).mono ?_;rintro e w5 ⟨k5,n5,t5,a5,m5,c5,a6,m6,c6,rfl,his,bw5⟩;have pr:=pr'.keep bw5;obtain ⟨⟨y0,y1,y2,y3,y4⟩,g0,g1,g2,g3,g4⟩:=id pr
  go_wp2_with fail
  obtain ⟨u0,u1,u2,u3,u4⟩:=Box5.all pr.1 (.int .i64 k5) (.int .i64 n5) (.string t5) (.slice a5 m5 c5) (.slice a6 m6 c6);refine bodyPost_ret (v:=.agg #[.int .i64 k5,.int .i64 n5,.string t5,.slice a5 m5 c5,.slice a6 m6 c6]) (by simp [results,Tryz.results44,go_sem,u0,u1,u2,u3,u4]) rfl ?_;refine ⟨k5,n5,t5,a5,m5,c5,a6,m6,c6,rfl,?_,?_⟩
  · have kp5:=keeps5 w5 (w.heap.size+1) (.int .i64 k5) (.int .i64 n5) (.string t5) (.slice a5 m5 c5) (.slice a6 m6 c6)
    exact (his.weak (S':=Own w5 (w.heap.size+1+2)) (fun b _ hb=>⟨by have:=hb.1;omega,hb.2⟩)).ownTo kp5 (fun b _ hf=>((((hf.set _ _).set _ _).set _ _).set _ _).set _ _) (by omega)
  · have le2:w.heap.size≤w.heap.size+2:=by omega
    exact (((((bthen bb4 bw5).setCell le2 _).setCell le2 _).setCell le2 _).setCell le2 _).setCell le2 _
set_option maxHeartbeats 8000000 in
theorem with_other {v vy:Value} {x y:V} {w:World} {S S':Nat→Prop} (h:Is w S v x) (h':Is w S' vy y) (hwx:V.wt x≤1000000000) (hwy:V.wt y≤1000000000) (key:ByteArray) (hkey:key.size≤1000000000) (h5:¬ x.kind=5) :
    Calls Tryz.prog 44 #[v,.string key,vy] w fun e w'=>∃ k n t a1 n1 c1 a2 n2 c2,e=.returned (.agg #[.int .i64 k,.int .i64 n,.string t,.slice a1 n1 c1,.slice a2 n2 c2])∧Is w' (Own w' w.heap.size) (.agg #[.int .i64 k,.int .i64 n,.string t,.slice a1 n1 c1,.slice a2 n2 c2]) (V.laid V.none5 0 0 [key] [y])∧Below w.heap.size w w':=by
  replace h:=h.weak (S':=fun b=>b < w.heap.size) (fun b hb _=>hb);replace h':=h'.weak (S':=fun b=>b < w.heap.size) (fun b hb _=>hb);have hwl:=V.wt_laid V.none5 0 0 [key] [y];obtain ⟨kv,lv,rfl,h2o,h8o,_⟩:=id h.open;obtain ⟨kvy,lvy,rfl,hy2,hy8,_⟩:=id h'.open;obtain ⟨_,_,rfl,_⟩:=id h2o;obtain ⟨_,_,_,rfl,_⟩:=id h8o;obtain ⟨b1,d1,rfl,_⟩:=id hy2;obtain ⟨b2,d2,_,rfl,_⟩:=id hy8;have hx5:(x.kind != 5)=true:=by simp [h5]
  have HWL:=hide hwl;clear hwl h5 h2o h8o h;have h:∀ W:World,Is W (fun b=>b < w.heap.size) (.agg #[.int .i64 5,.int .i64 0,.string ⟨#[]⟩,.slice none 0 0,.slice none 0 0]) V.none5:=fun W=>is_plain W _ 5 0 ⟨#[]⟩ (by decide)
  have h2:Strs w (fun b=>b < w.heap.size) (.slice none 0 0) []:=strs_nil _ _;have h8:IsL w (fun b=>b < w.heap.size) (.slice none 0 0) []:=isL_nil _ _;have HK:Hid (∀ k ∈ ([]:List ByteArray),k.size≤maxLen):=fun k hk=>absurd hk (by simp)
  have HM:Hid (min ([]:List ByteArray).length ([]:List V).length=0):=rfl;have HP:Hid (V.place V.none5 key=-1):=rfl;have HRO:Hid (V.room (V.none5.keys.take (min V.none5.keys.length V.none5.list.length)) key=0):=rfl;have q1:0≤0:=Nat.le_refl _;have hm32:(0:Nat)≤4294967296:=Nat.zero_le _;have ht:(⟨#[]⟩:ByteArray).size≤maxLen:=by decide
  go_enter Tryz.func44,Tryz.ntmps44
  go_wp2_with fail
  refine (placeOf_any (h _) key (-1) HP.out).mono ?_;rintro e w1 ⟨rfl,bw1⟩;have pa:BoxF w1 w.heap.size _ _ _ _ _:=((boxF_at w _ _ _ _ _ 27 _ rfl).keep (bthen (below_alloc _ _) (below_alloc _ _))).keep bw1;have pb:BoxF w1 (w.heap.size+1) _ _ _ _ _:=((boxF_at _ _ _ _ _ _ 27 _ (by simp)).keep (below_alloc _ _)).keep bw1;have pr:BoxF w1 (w.heap.size+2) _ _ _ _ _:=(boxF_at _ _ _ _ _ _ 27 _ (by simp)).keep bw1;have bb:=bthen (bthen (below_alloc w _) (bthen (below_alloc _ _) (below_alloc _ _))) bw1;have sz:w.heap.size+3≤w1.heap.size:=by have:=bw1.size;simpa using this
  clear bw1;obtain ⟨⟨x0,x1,x2,x3,x4⟩,f0,f1,f2,f3,f4⟩:=id pa
  go_wp2_with fail
  refine (roomFor_any (h _) (by rw [wt_none5];decide) key 0 HRO.out).mono ?_;rintro e w1' ⟨rfl,bw1'⟩;clear x0 x1 x2 x3 x4 f0 f1 f2 f3 f4;replace pa:=pa.keep bw1';replace pb:=pb.keep bw1';replace pr:=pr.keep bw1';replace bb:=bthen bb bw1';replace sz:=Nat.le_trans sz bw1'.size;clear bw1';obtain ⟨⟨x0,x1,x2,x3,x4⟩,f0,f1,f2,f3,f4⟩:=id pa
  go_wp2_with fail
  refine (pairs_any _ _ _ _ _ _ _ _ _ _ q1 q1 0 HM.out).mono ?_;rintro e w2 ⟨rfl,bw2⟩;clear x0 x1 x2 x3 x4 f0 f1 f2 f3 f4;replace pa:=pa.keep bw2;replace pb:=pb.keep bw2;replace pr:=pr.keep bw2;replace bb:=bthen bb bw2;replace sz:=Nat.le_trans sz bw2.size;have sz2:=sz;clear bw2
  go_wp2_with fail
  have hmk:0≤([]:List ByteArray).length:=Nat.le_refl _;have hml:0≤([]:List V).length:=Nat.le_refl _
  have rk:Raw w2 (fun b=>b < w.heap.size) (.slice none 0 0) 1 0 ((([]:List ByteArray).take 0).map .string):=by
    have:=(raw_of_strs (h2.below bb)).front hmk
    rwa [Nat.mul_one,← List.map_take] at this
  refine (putS_any none 0 0 _ 0 0 _ 1 [.string key] _ (fun _=>True) ((rk.weak (fun _ _ _=>trivial)).below (below_alloc _ _)) (raw_one_str _ key _ _ rfl trivial) (by omega) (by omega) hm32 (by decide)).mono ?_;rintro e w3 ⟨a3,n3,c3,rfl,hr3,bw3⟩;replace bw3:=bthen (below_alloc _ _) bw3;replace pa:=pa.keep bw3;replace pb:=pb.keep bw3;replace pr:=pr.keep bw3;replace bb:=bthen bb bw3;replace sz:=Nat.le_trans sz bw3.size;clear bw3 rk;obtain ⟨⟨x0,x1,x2,x3,x4⟩,f0,f1,f2,f3,f4⟩:=id pa;have pb':=pb.other (g':=w.heap.size) (o':=3) (by omega) (.slice a3 n3 c3);obtain ⟨⟨y0,y1,y2,y3,y4⟩,_⟩:=id pb'
  go_wp2_with fail
  have pa':=pa.set3 (.slice a3 n3 c3);have pr':=pr.other (g':=w.heap.size) (o':=3) (by omega) (.slice a3 n3 c3);have bb':=below_set (o:=3) bb (Nat.le_refl _) (.slice a3 n3 c3);have sz':w.heap.size+3≤(w3.setCell ⟨w.heap.size,3,none⟩ (.slice a3 n3 c3)).heap.size:=by rw [size_set];exact sz
  have hr3':=(hr3.weak (S':=fun b=>w.heap.size+3≤b) (fun b _ hb=>by simp at hb;omega)).keep (keeps_set (o:=3) (g:=w.heap.size) (.slice a3 n3 c3) (by omega));have e3:w3.heap.size=(w3.setCell ⟨w.heap.size,3,none⟩ (.slice a3 n3 c3)).heap.size:=(size_set _ _ _).symm;rw [e3];clear sz2 x0 x1 x2 x3 x4 f0 f1 f2 f3 f4 y0 y1 y2 y3 y4 pa pb pr bb hr3 sz e3;generalize w3.setCell ⟨w.heap.size,3,none⟩ (.slice a3 n3 c3)=W3 at *;obtain ⟨es,rl0,hes⟩:=raw_of_isL (h8.below bb')
  have rl:Raw W3 (fun b=>b < w.heap.size) (.slice none 0 0) 5 0 (cellsQ (es.take 0)):=by
    have:=rl0.front hml
    rwa [cellsQ_take _ _ (by rw [hes.1];exact hml)] at this
  have hesm:(es.take 0).length=0:=by rw [List.length_take,hes.1];omega
  refine (putV_any none 0 0 _ 0 0 _ 1 _ _ (fun _=>True) ((rl.weak (fun _ _ _=>trivial)).below (below_alloc _ _)) (raw_one_val _ _ _ _ _ _ _ _ _ _ _ _ rfl trivial) (by omega) (by omega) hm32 (by decide)).mono ?_;rintro e w4 ⟨a4,n4,c4,rfl,hr4,bw4⟩;rw [cellsQ_take _ _ (by omega),cellsQ_drop _ _ (by omega),← cellsQ_append,← cellsQ_append] at hr4;replace bw4:=bthen (below_alloc _ _) bw4;have pa:=pa'.keep bw4;have pr:=pr'.keep bw4;have bb:=bthen bb' bw4;have sz:=Nat.le_trans sz' bw4.size;have hr3:=hr3'.below bw4;have hes4:=hes.keep (Keeps.of_below bw4);clear pa' pb' pr' hr3' rl rl0 hes;obtain ⟨⟨x0,x1,x2,x3,x4⟩,f0,f1,f2,f3,f4⟩:=id pa;obtain ⟨⟨z0,z1,z2,z3,z4⟩,_⟩:=id (pa.set4 (.slice a4 n4 c4))
  go_wp2_with fail
  have pr':=pr.other (g':=w.heap.size) (o':=4) (by omega) (.slice a4 n4 c4);have bb4:=below_set (o:=4) bb (Nat.le_refl _) (.slice a4 n4 c4);have kp:Keeps (fun b=>b≠w.heap.size) w4 (w4.setCell ⟨w.heap.size,4,none⟩ (.slice a4 n4 c4)):=keeps_set (o:=4) (g:=w.heap.size) (.slice a4 n4 c4) (by simp);have sz4:w.heap.size+3≤(w4.setCell ⟨w.heap.size,4,none⟩ (.slice a4 n4 c4)).heap.size:=by rw [size_set];exact sz
  have hx:Is (w4.setCell ⟨w.heap.size,4,none⟩ (.slice a4 n4 c4)) (fun _=>True) (.agg #[.int .i64 5,.int .i64 0,.string ⟨#[]⟩,.slice a3 n3 c3,.slice a4 n4 c4]) (V.laid V.none5 0 0 [key] [y]):=by
    refine Is.shut (x:=V.laid V.none5 0 0 [key] [y]) ?_ ?_ ht
    · have e1:(List.map Value.string (List.take 0 ([]:List ByteArray))).take (0 * 1) ++ [Value.string key] ++ (List.map Value.string (List.take 0 ([]:List ByteArray))).drop (0 * 1)=(V.splice (([]:List ByteArray).take 0) 0 0 [key]).map Value.string:=by
        simp only [V.splice,List.map_append,List.map_take,List.map_drop,Nat.mul_one,List.map_cons,List.map_nil]
      rw [e1] at hr3;simp only [V.laid,V.none5,HM.out];refine strs_of_raw ((hr3.weak (S':=fun b=>b≠w.heap.size) (fun b _ hb=>by omega)).keep kp |>.weak (fun _ _ _=>trivial)) ?_;intro u hu;simp only [V.splice,List.mem_append,List.mem_singleton] at hu;rcases hu with (hu | rfl) | hu
      · exact HK.out u (List.mem_of_mem_take (List.mem_of_mem_take hu))
      · exact Nat.le_trans hkey (by decide)
      · exact HK.out u (List.mem_of_mem_take (List.mem_of_mem_drop hu))
    · simp only [V.laid,V.none5,HM.out]
      have hy4:Is w4 (fun b=>b < w.heap.size) (aggQ (.int .i64 y.kind,.int .i64 y.num,.string y.text,.slice b1 y.keys.length d1,.slice b2 y.list.length d2)) y:=h'.below bb;have k1:Els w4 (fun b=>b≠w.heap.size) (es.take 0) (([]:List V).take 0):=(hes4.take 0).weak (fun b _ hb=>Nat.ne_of_lt hb);have k2:=(k1.take 0).append (Els.one (hy4.weak (S':=fun b=>b≠w.heap.size) (fun b _ hb=>Nat.ne_of_lt hb)));have k3:=k2.append (k1.drop 0);refine isL_of_raw (Raw.weak (Raw.keep (hr4.weak (S':=fun b=>b≠w.heap.size) (fun b _ hb=>by simp at hb;omega)) kp) (fun _ _ _=>trivial)) (Els.weak (Els.keep k3 kp) (fun _ _ _=>trivial))
  clear x0 x1 x2 x3 x4 f0 f1 f2 f3 f4 z0 z1 z2 z3 z4 pa pr bb hr3 hr4 kp hes4 sz sz';generalize w4.setCell ⟨w.heap.size,4,none⟩ (.slice a4 n4 c4)=W4 at *;refine (copyF_any hx (Nat.le_trans HWL.out (by have e0:V.wt V.none5=1:=wt_none5;have e1:V.wtK [key]=1+key.size:=(by simp [V.wtK]);have e2:V.wtL [y]=V.wt y:=(by rw [V.wtL_cons,V.wtL_nil];omega);omega))).mono ?_;rintro e w5 ⟨k5,n5,t5,a5,m5,c5,a6,m6,c6,rfl,his,bw5⟩;have pr:=pr'.keep bw5;obtain ⟨⟨y0,y1,y2,y3,y4⟩,g0,g1,g2,g3,g4⟩:=id pr
  go_wp2_with fail
  obtain ⟨u0,u1,u2,u3,u4⟩:=Box5.all pr.1 (.int .i64 k5) (.int .i64 n5) (.string t5) (.slice a5 m5 c5) (.slice a6 m6 c6);refine bodyPost_ret (v:=.agg #[.int .i64 k5,.int .i64 n5,.string t5,.slice a5 m5 c5,.slice a6 m6 c6]) (by simp [results,Tryz.results44,go_sem,u0,u1,u2,u3,u4]) rfl ?_;refine ⟨k5,n5,t5,a5,m5,c5,a6,m6,c6,rfl,?_,?_⟩
  · have kp5:=keeps5 w5 (w.heap.size+1) (.int .i64 k5) (.int .i64 n5) (.string t5) (.slice a5 m5 c5) (.slice a6 m6 c6)
    exact (his.weak (S':=Own w5 (w.heap.size+1+2)) (fun b _ hb=>⟨by have:=hb.1;omega,hb.2⟩)).ownTo kp5 (fun b _ hf=>((((hf.set _ _).set _ _).set _ _).set _ _).set _ _) (by omega)
  · have le2:w.heap.size≤w.heap.size+2:=by omega
    exact (((((bthen bb4 bw5).setCell le2 _).setCell le2 _).setCell le2 _).setCell le2 _).setCell le2 _
theorem withF_any {v vy:Value} {x y:V} {w:World} {S S':Nat→Prop} (h:Is w S v x) (h':Is w S' vy y) (hwx:V.wt x≤1000000000) (hwy:V.wt y≤1000000000) (key:ByteArray) (hkey:key.size≤1000000000) :
    Calls Tryz.prog 44 #[v,.string key,vy] w fun e w'=>∃ k n t a1 n1 c1 a2 n2 c2,e=.returned (.agg #[.int .i64 k,.int .i64 n,.string t,.slice a1 n1 c1,.slice a2 n2 c2])∧Is w' (Own w' w.heap.size) (.agg #[.int .i64 k,.int .i64 n,.string t,.slice a1 n1 c1,.slice a2 n2 c2]) (V.withV x key y)∧Below w.heap.size w w':=by
  by_cases h5:x.kind=5
  · have e:V.withV x key y=V.with5 x key y:=by unfold V.withV;rw [if_pos h5]
    rw [e];unfold V.with5
    by_cases hp:0≤V.place x key
    · rw [if_pos hp]
      exact with5_hit h h' hwx hwy key hkey h5 _ (by omega)
    · rw [if_neg hp]
      exact with5_miss h h' hwx hwy key hkey h5 _ rfl (by omega) _ rfl
  · have e:V.withV x key y=V.laid V.none5 0 0 [key] [y]:=by
      unfold V.withV;rw [if_neg h5];rfl
    rw [e];exact with_other h h' hwx hwy key hkey h5
theorem with_any {v vy:Value} {x y:V} {w:World} {S S':Nat→Prop} (h:Is w S v x) (h':Is w S' vy y) (hwx:V.wt x≤1000000000) (hwy:V.wt y≤1000000000) (key:ByteArray) (hkey:key.size≤1000000000) :
    Calls Tryz.prog 44 #[v,.string key,vy] w fun e w'=>∃ k n t a1 n1 c1 a2 n2 c2,e=.returned (.agg #[.int .i64 k,.int .i64 n,.string t,.slice a1 n1 c1,.slice a2 n2 c2])∧Is w' (fun b=>w.heap.size≤b) (.agg #[.int .i64 k,.int .i64 n,.string t,.slice a1 n1 c1,.slice a2 n2 c2]) (V.withV x key y)∧Below w.heap.size w w':=by
  refine (withF_any h h' hwx hwy key hkey).mono ?_;rintro e w' ⟨k,n,t,a1,n1,c1,a2,n2,c2,rfl,his,b⟩;exact ⟨k,n,t,a1,n1,c1,a2,n2,c2,rfl,his.weak (fun b _ hb=>hb.1),b⟩
end Go.Proofs.YtapcmbbhhclepaaGreatDoor
namespace Go.Proofs.YtapcmbbhhclepaaGreatDoor
open Go.RowKit
theorem mono_is9 {P:Nat→Prop} {X:V}:Mono (fun lo hi v w1=>∃ (k8 m8:Int) (t8:ByteArray) (s8:Option Addr) (l8 i8:Nat) (s9:Option Addr) (l9 i9:Nat),v=.agg #[.int .i64 k8,.int .i64 m8,.string t8,.slice s8 l8 i8,.slice s9 l9 i9]∧Is w1 P (.agg #[.int .i64 k8,.int .i64 m8,.string t8,.slice s8 l8 i8,.slice s9 l9 i9]) X):=by
  intro lo hi v w w' h hb;obtain ⟨k8,m8,t8,s8,l8,i8,s9,l9,i9,e,h⟩:=h;exact ⟨k8,m8,t8,s8,l8,i8,s9,l9,i9,e,h.below hb⟩
theorem keeps45 (w:World) (g1 g2:Nat) {P:Nat→Prop} {v0 v1 v2 v3 x0 x1 x2 x3 x4:Value}:Keeps (fun b=>P b∧b≠g1∧b≠g2) w (((((((((w.setCell ⟨g1,0,none⟩ v0).setCell ⟨g1,1,none⟩ v1).setCell ⟨g1,2,none⟩ v2).setCell ⟨g1,3,none⟩ v3).setCell ⟨g2,0,none⟩ x0).setCell ⟨g2,1,none⟩ x1).setCell ⟨g2,2,none⟩ x2).setCell ⟨g2,3,none⟩ x3).setCell ⟨g2,4,none⟩ x4):=fun b hb _=>by
  have h1:∀ o:Nat,b≠(⟨g1,o,none⟩:Addr).block:=fun o=>hb.2.1
  have h2:∀ o:Nat,b≠(⟨g2,o,none⟩:Addr).block:=fun o=>hb.2.2
  rw [Below.heap_setCell _ _ _ _ (h2 4),Below.heap_setCell _ _ _ _ (h2 3),Below.heap_setCell _ _ _ _ (h2 2),Below.heap_setCell _ _ _ _ (h2 1),Below.heap_setCell _ _ _ _ (h2 0),Below.heap_setCell _ _ _ _ (h1 3),Below.heap_setCell _ _ _ _ (h1 2),Below.heap_setCell _ _ _ _ (h1 1),Below.heap_setCell _ _ _ _ (h1 0)]
end Go.Proofs.YtapcmbbhhclepaaGreatDoor
namespace Go.Proofs.YtapcmbbhhclepaaGreatDoor
open Go.RowKit
def ToldP (B:Nat) (s:ByteArray) (d:Nat) (acc:List (ByteArray×V)) (o:Except Cn.Er ((ByteArray×V)×List UInt8)) (e':Ending) (w':World):Prop :=
  ∃ (a':Nat) (k n:Int) (t:ByteArray) (a1:Option Addr) (n1 c1:Nat) (a2:Option Addr) (n2 c2:Nat) (y:V),e'=.returned (.tuple #[St s a' (Cn.code o) d,.agg #[.int .i64 k,.int .i64 n,.string t,.slice a1 n1 c1,.slice a2 n2 c2]])∧At s a' (Cn.left o) ∧
    Is w' (fun b=>B≤b) (.agg #[.int .i64 k,.int .i64 n,.string t,.slice a1 n1 c1,.slice a2 n2 c2]) y∧∀ p r,o=.ok (p,r)→y=Cn.objV (acc ++ [p])
end Go.Proofs.YtapcmbbhhclepaaGreatDoor
namespace Go.Proofs.YtapcmbbhhclepaaGreatDoor
open Go.RowKit
namespace Cn
def objO (o:Except Er (List (ByteArray×V)×List UInt8)):Except Er (V×List UInt8):=match o with | .error e=>.error e | .ok x=>.ok (objV x.1,x.2)
theorem pmany_obj (P:List UInt8→Except Er (V×List UInt8)) (v:List UInt8) (h:(v.head? == some 125)=false):pmany P 125 v=objO (serO P (v.length+1) v []):=by
  unfold pmany;rw [if_neg (by decide)];cases v with
  | nil=>rfl
  | cons b t =>
    have hb:b≠125:=by simpa using h
    split
    · rename_i heq;injection heq with h1 h2;exact absurd h1 hb
    · rfl
theorem fitO_snoc {d:Nat} {acc:List (ByteArray×V)} {p:ByteArray×V} (ha:FitO d acc) (hp:FitP d (acc.map (·.1)) p):FitO d (acc ++ [p]):=by
  refine ⟨fun q hm=>?_,?_⟩
  · rcases List.mem_append.1 hm with hm | hm
    · exact ha.1 q hm
    · rw [List.mem_singleton] at hm
      rw [hm];exact ⟨hp.1,hp.2.1⟩
  · rw [List.map_append,List.nodup_append]
    refine ⟨ha.2,by simp,?_⟩;intro a haa b hb;simp only [List.map_cons,List.map_nil,List.mem_singleton] at hb;rw [hb];rintro rfl;exact hp.2.2 haa
theorem tot_snoc (acc:List (ByteArray×V)) (p:ByteArray×V):tot ((acc ++ [p]).map pairRow)=tot (acc.map pairRow)+pairB p:=by
  rw [List.map_append,tot_append,List.map_cons,List.map_nil,tot_cons,tot_nil];rfl
end Cn
def HeldO (G:Nat) (wr:World) (vv:Value) (y:V):Prop:=Is wr (fun b=>G+4≤b) vv y
theorem HeldO.below {G:Nat} {wr w':World} {vv:Value} {y:V} (h:HeldO G wr vv y) (b:Below wr.heap.size wr w'):HeldO G w' vv y:=Is.below h b
theorem HeldO.set {G:Nat} {wr:World} {vv:Value} {y:V} (h:HeldO G wr vv y) {g o:Nat} (v:Value) (hg:g < G+4):HeldO G (wr.setCell ⟨g,o,none⟩ v) vv y :=
  Is.keep h (fun b hb _=>Below.heap_setCell _ _ _ _ (by simp only;omega))
theorem HeldO.set4 {G:Nat} {wr:World} {vv:Value} {y:V} (h:HeldO G wr vv y) {g:Nat} (v0 v1 v2 v3:Value) (hg:g < G+4):HeldO G ((((wr.setCell ⟨g,0,none⟩ v0).setCell ⟨g,1,none⟩ v1).setCell ⟨g,2,none⟩ v2).setCell ⟨g,3,none⟩ v3) vv y :=
  (((h.set v0 hg).set v1 hg).set v2 hg).set v3 hg
theorem HeldO.set5 {G:Nat} {wr:World} {vv:Value} {y:V} (h:HeldO G wr vv y) {g:Nat} (v0 v1 v2 v3 v4:Value) (hg:g < G+4):HeldO G (((((wr.setCell ⟨g,0,none⟩ v0).setCell ⟨g,1,none⟩ v1).setCell ⟨g,2,none⟩ v2).setCell ⟨g,3,none⟩ v3).setCell ⟨g,4,none⟩ v4) vv y :=
  ((((h.set v0 hg).set v1 hg).set v2 hg).set v3 hg).set v4 hg
theorem hl_finO {G:Nat} {w:World} {vv:Value} {y:V} (h:HeldO G w vv y) {v0 v1 v2 v3 x0 x1 x2 x3 x4:Value} :
    Is (((((((((w.setCell ⟨G+1,0,none⟩ v0).setCell ⟨G+1,1,none⟩ v1).setCell ⟨G+1,2,none⟩ v2).setCell ⟨G+1,3,none⟩ v3).setCell ⟨G+2,0,none⟩ x0).setCell ⟨G+2,1,none⟩ x1).setCell ⟨G+2,2,none⟩ x2).setCell ⟨G+2,3,none⟩ x3).setCell ⟨G+2,4,none⟩ x4).drew (fun b=>G≤b) vv y :=
  Is.weak ((((((((((h.set v0 (by omega)).set v1 (by omega)).set v2 (by omega)).set v3 (by omega)).set x0 (by omega)).set x1 (by omega)).set x2 (by omega)).set x3 (by omega)).set x4 (by omega)).below (Below.refl _ _).drew) (fun b _ hb=>by omega)
theorem B5.past5 {w:World} {g g':Nat} {c0 c1 c2 c3 c4:Value} (h:B5 w g c0 c1 c2 c3 c4) (hg:g≠g') (v0 v1 v2 v3 v4:Value):B5 (((((w.setCell ⟨g',0,none⟩ v0).setCell ⟨g',1,none⟩ v1).setCell ⟨g',2,none⟩ v2).setCell ⟨g',3,none⟩ v3).setCell ⟨g',4,none⟩ v4) g c0 c1 c2 c3 c4 :=
  ((((h.other v0 hg).other v1 hg).other v2 hg).other v3 hg).other v4 hg
end Go.Proofs.YtapcmbbhhclepaaGreatDoor
namespace Go.Proofs.YtapcmbbhhclepaaGreatDoor
open Go.RowKit
def EvF:Fact:=fun lo hi v w=>∃ a,v=.slice a 10 10∧Hid (Strs w (fun _=>True) (.slice a 10 10) lEvent)
theorem mono_ev:Mono EvF:=by
  rintro lo hi v w w' ⟨a,h1,h2⟩ b;exact ⟨a,h1,hide (h2.out.below b)⟩
def TakenF (B:Nat) (x:V):Fact:=fun lo hi v w=>∃ ka kn kc la ln lc,v=.agg #[.int .i64 5,.int .i64 0,.string ⟨#[]⟩,.slice ka kn kc,.slice la ln lc]∧Hid (Is w (fun b=>b < B∨(lo≤b∧b < hi)) (.agg #[.int .i64 5,.int .i64 0,.string ⟨#[]⟩,.slice ka kn kc,.slice la ln lc]) x)
theorem mono_taken (B:Nat) (x:V):Mono (TakenF B x):=by
  rintro lo hi v w w' ⟨a1,a2,a3,a4,a5,a6,h1,h2⟩ b;exact ⟨a1,a2,a3,a4,a5,a6,h1,hide (h2.out.below b)⟩
def AnyF (x:V):Fact:=fun lo hi v w=>∃ k n t a1 n1 c1 a2 n2 c2,v=.agg #[.int .i64 k,.int .i64 n,.string t,.slice a1 n1 c1,.slice a2 n2 c2]∧Hid (Is w (fun _=>True) (.agg #[.int .i64 k,.int .i64 n,.string t,.slice a1 n1 c1,.slice a2 n2 c2]) x)
theorem mono_any (x:V):Mono (AnyF x):=by
  rintro lo hi v w w' ⟨k,n,t,a1,n1,c1,a2,n2,c2,h1,h2⟩ b;exact ⟨k,n,t,a1,n1,c1,a2,n2,c2,h1,hide (h2.out.below b)⟩
def BoxZ:Fact:=fun lo hi v w=>v=.pointer (some ⟨lo,0,none⟩)∧lo < hi∧Hid (B5 w lo (.int .i64 0) (.int .i64 0) (.string ⟨#[]⟩) (.slice none 0 0) (.slice none 0 0))
theorem mono_boxZ:Mono BoxZ:=by
  rintro lo hi v w w' ⟨h1,h2,h3⟩ b;exact ⟨h1,h2,hide (h3.out.keep b)⟩
theorem boxZ_fact (w:World):BoxZ w.heap.size (w.alloc (.cells #[.int .i64 0,.int .i64 0,.string ⟨#[]⟩,.slice none 0 0,.slice none 0 0] 27)).heap.size (.pointer (some ⟨w.heap.size,0,none⟩)) (w.alloc (.cells #[.int .i64 0,.int .i64 0,.string ⟨#[]⟩,.slice none 0 0,.slice none 0 0] 27)) :=
  ⟨rfl,by simp,hide (b5_new _ _ _ _ _ _ _ rfl)⟩
theorem keeps_chain {S:Nat→Prop} {w:World} {g:Nat} (h:¬ S g) (v0 v1 v2 v3 v4:Value):Keeps S w (((((w.setCell ⟨g,0,none⟩ v0).setCell ⟨g,1,none⟩ v1).setCell ⟨g,2,none⟩ v2).setCell ⟨g,3,none⟩ v3).setCell ⟨g,4,none⟩ v4):=fun b hb _=>by
  have hne:∀ o:Nat,b≠(⟨g,o,none⟩:Addr).block:=fun o e=>h (by simp only at e;rw [← e];exact hb)
  rw [Below.heap_setCell _ _ _ _ (hne 4),Below.heap_setCell _ _ _ _ (hne 3),Below.heap_setCell _ _ _ _ (hne 2),Below.heap_setCell _ _ _ _ (hne 1),Below.heap_setCell _ _ _ _ (hne 0)]
set_option maxHeartbeats 4000000 in
theorem redact_any {v:Value} {x:V} {w:World} {S:Nat→Prop} (h:Is w S v x) (hwt:V.wt x≤100000000) :
    Calls Tryz.prog 18 #[v] w fun e w'=>∃ k n t a1 n1 c1 a2 n2 c2,e=.returned (.agg #[.int .i64 k,.int .i64 n,.string t,.slice a1 n1 c1,.slice a2 n2 c2])∧Is w' (fun b=>w.heap.size≤b) (.agg #[.int .i64 k,.int .i64 n,.string t,.slice a1 n1 c1,.slice a2 n2 c2]) (Xr.redact x)∧Below w.heap.size w w':=by
  obtain ⟨kv,lv,rfl,h2,h8,_⟩:=id h.open;obtain ⟨a1,c1,rfl,_⟩:=id h2;obtain ⟨a2,c2,_,rfl,_⟩:=id h8;clear h2 h8;have HW:Hid (V.wt x≤4294967296):=hide (by omega);have HWT:=hide hwt;clear hwt;have bA:=below_alloc w (.cells #[.int .i64 x.kind,.int .i64 x.num,.string x.text,.slice a1 x.keys.length c1,.slice a2 x.list.length c2] 27);have bB:=below_alloc (w.alloc (.cells #[.int .i64 x.kind,.int .i64 x.num,.string x.text,.slice a1 x.keys.length c1,.slice a2 x.list.length c2] 27)) (.cells #[.int .i64 0,.int .i64 0,.string ⟨#[]⟩,.slice none 0 0,.slice none 0 0] 27);have b0:=bthen bA bB;have h':=h.weak (S':=fun b=>b < w.heap.size) (fun b hb _=>hb);have HI:=hide (h'.below b0);have B0:=hide b0;have x0:=hide ((b5_new w (.int .i64 x.kind) (.int .i64 x.num) (.string x.text) (.slice a1 x.keys.length c1) (.slice a2 x.list.length c2) w.heap.size rfl).keep bB);have u0:=hide (b5_new (w.alloc (.cells #[.int .i64 x.kind,.int .i64 x.num,.string x.text,.slice a1 x.keys.length c1,.slice a2 x.list.length c2] 27)) (.int .i64 0) (.int .i64 0) (.string ⟨#[]⟩) (.slice none 0 0) (.slice none 0 0) (w.heap.size+1) (by simp));have n0:Hid (w.heap.size+2≤((w.alloc (.cells #[.int .i64 x.kind,.int .i64 x.num,.string x.text,.slice a1 x.keys.length c1,.slice a2 x.list.length c2] 27)).alloc (.cells #[.int .i64 0,.int .i64 0,.string ⟨#[]⟩,.slice none 0 0,.slice none 0 0] 27)).heap.size):=hide (by simp);obtain ⟨w0,hw0⟩:∃ w0,w0=(w.alloc (.cells #[.int .i64 x.kind,.int .i64 x.num,.string x.text,.slice a1 x.keys.length c1,.slice a2 x.list.length c2] 27)).alloc (.cells #[.int .i64 0,.int .i64 0,.string ⟨#[]⟩,.slice none 0 0,.slice none 0 0] 27):=⟨_,rfl⟩;rw [← hw0] at B0 HI x0 u0 n0;have W0:=hide hw0;clear bA bB b0 h h' hw0;obtain ⟨p0,p1,p2,p3,p4⟩:=x0.out.cells
  by_cases h5:x.kind=5
  · have hR:Xr.redact x=if (Xr.content x).kind=5 then V.withV (Xr.taken x lEvent) kContent (Xr.ofContent (Xr.content x) (Xr.kindOf x)) else Xr.taken x lEvent:=by unfold Xr.redact;rw [if_pos h5]
    rw [hR];have H5:=hide h5;have hcy:(V.get x kContent).getD V.nul=Xr.content x:=rfl;have hyw:V.wt (Xr.content x)≤V.wt x:=Xr.wt_content x;generalize Xr.content x=y at hcy hyw ⊢;have HCY:=hide hcy;have HYW:=hide hyw;clear hcy hyw;obtain ⟨R,hRR⟩:∃ R,(if y.kind=5 then V.withV (Xr.taken x lEvent) kContent (Xr.ofContent y (Xr.kindOf x)) else Xr.taken x lEvent)=R:=⟨_,rfl⟩;rw [hRR];have HRR:=hide hRR;clear hRR hR h5;go_enter Tryz.func18,Tryz.ntmps18
    go_upto_region 1 with fail
    rw [← W0.out];have h5:=H5.out
    go_upto_region 3 with fail
    clear p0 p1 p2 p3 p4 h5;refine' wp_region_facts [(fun _ _ v _=>v=(.agg #[.int .i64 x.kind,.int .i64 x.num,.string x.text,.slice a1 x.keys.length c1,.slice a2 x.list.length c2])),EvF,(TakenF w.heap.size (Xr.taken x lEvent)),BoxZ] (by kernel_rfl) rfl ?hA (by kernel_rfl) (by kernel_rfl) (by kernel_rfl) rfl ?mono ?steps ?last
    case hA =>
      intro vs;simp only [puts,Act.put,List.setIfInBounds_toArray,List.set_cons_zero,List.set_cons_succ,Nat.zero_add,Nat.reduceAdd];rfl
    case mono=>exact ⟨mono_eq _,mono_ev,mono_taken _ _,mono_boxZ,trivial⟩
    case steps =>
      intro Q';refine And.intro ?_ <| And.intro ?_ <| And.intro ?_ <| And.intro ?_ <| trivial
      all_goals
        intro vs lo hi w' hM hd K' hK;dsimp only at hK ⊢;simp only [Act.put,List.setIfInBounds_toArray,List.set_cons_zero,List.set_cons_succ] at hK
      · obtain ⟨p0,p1,p2,p3,p4⟩:=(x0.out.keep hM).cells
        go_simp;exact hK.out _ _ rfl (Below.refl _ _)
      · go_simp
        refine (ofEvent_any _).mono ?_;rintro e w7 ⟨a7,rfl,hs,b7⟩;exact hK.out _ _ ⟨_,rfl,hide (hs.weak (fun _ _ _=>trivial))⟩ b7
      · have e0:vs 0=(.agg #[.int .i64 x.kind,.int .i64 x.num,.string x.text,.slice a1 x.keys.length c1,.slice a2 x.list.length c2]):=hd 0 (by kernel_rfl)
        obtain ⟨a1,e1,HS1⟩:=hd 1 (by kernel_rfl);simp only [e0,e1] at hK ⊢;clear e0 e1;go_simp;refine (taken_any _ _ _ _ _ _ _ _ _ x lEvent _ _ _ _ w.heap.size (fun _=>True) (by have h1:=n0.out;have h2:=hM.size;omega) (HI.out.below hM) HW.out HS1.out).mono ?_;rintro e w7 ⟨ka,kn,kc,la,ln,lc,rfl,hT,b7⟩;exact hK.out _ _ ⟨_,_,_,_,_,_,rfl,hide (hT.weak (fun b hb hs=>hs.elim .inl (fun h=>.inr ⟨h,hb⟩)))⟩ b7
      · go_simp
        exact hK.out _ _ (boxZ_fact _) (below_alloc _ _)
    case last =>
      intro vs lo hi w' hM hlo hap hall K' Q' hK;obtain ⟨_,_,h2,h3,_⟩:=hall;obtain ⟨ka,kn,kc,la,ln,lc,e2,HT⟩:=h2;obtain ⟨e3,hlt,HBX⟩:=h3;have hap':=hap 2 3 (by decide) (by decide) (by decide);have hz3:=(hlo 3 (by decide)).1;have hh3:=(hlo 3 (by decide)).2;dsimp only;simp only [e2,e3];generalize lo 3=g3 at HBX hlt hap' hz3 ⊢;generalize hi 3=gh at hlt hap' hh3;clear e2 e3 hap hlo;obtain ⟨y0,y1,y2,y3,y4⟩:=HBX.out.cells;have fu0:=HBX.out.free 0;have fu1:=HBX.out.free 1;have fu2:=HBX.out.free 2;have fu3:=HBX.out.free 3;have fu4:=HBX.out.free 4;go_simp;refine hK.out _ _ ?_;clear y0 y1 y2 y3 y4 fu0 fu1 fu2 fu3 fu4 hK;have hn0:=n0.out;have hx:w.heap.size < g3:=by omega
      have hx1:w.heap.size+1 < g3:=by omega
      have B3:=hide (HBX.out.all (.int .i64 5) (.int .i64 0) (.string ⟨#[]⟩) (.slice ka kn kc) (.slice la ln lc));have X3:=hide ((x0.out.keep hM).past5 (g':=g3) (by omega) (.int .i64 5) (.int .i64 0) (.string ⟨#[]⟩) (.slice ka kn kc) (.slice la ln lc));have U3:=hide ((u0.out.keep hM).past5 (g':=g3) (by omega) (.int .i64 5) (.int .i64 0) (.string ⟨#[]⟩) (.slice ka kn kc) (.slice la ln lc));have K3:∀ {S:Nat→Prop},¬ S g3→Keeps S w' (((((w'.setCell ⟨g3,0,none⟩ (.int .i64 5)).setCell ⟨g3,1,none⟩ (.int .i64 0)).setCell ⟨g3,2,none⟩ (.string ⟨#[]⟩)).setCell ⟨g3,3,none⟩ (.slice ka kn kc)).setCell ⟨g3,4,none⟩ (.slice la ln lc)):=fun hS=>keeps_chain hS _ _ _ _ _
      have I3:=hide ((HI.out.below hM).keep (K3 (by show ¬ (g3 < w.heap.size);omega)));have T3:=hide (HT.out.keep (K3 (by show ¬ (g3 < w.heap.size∨(lo 2≤g3∧g3 < hi 2));omega)));have L3:=hide (bthen B0.out (hM.trans (below5 (by omega) (.int .i64 5) (.int .i64 0) (.string ⟨#[]⟩) (.slice ka kn kc) (.slice la ln lc))));have N3:Hid (g3 < (((((w'.setCell ⟨g3,0,none⟩ (.int .i64 5)).setCell ⟨g3,1,none⟩ (.int .i64 0)).setCell ⟨g3,2,none⟩ (.string ⟨#[]⟩)).setCell ⟨g3,3,none⟩ (.slice ka kn kc)).setCell ⟨g3,4,none⟩ (.slice la ln lc)).heap.size):=hide (by simp;omega);clear K3 hap' hlt hh3 HT HBX;generalize (((((w'.setCell ⟨g3,0,none⟩ (.int .i64 5)).setCell ⟨g3,1,none⟩ (.int .i64 0)).setCell ⟨g3,2,none⟩ (.string ⟨#[]⟩)).setCell ⟨g3,3,none⟩ (.slice ka kn kc)).setCell ⟨g3,4,none⟩ (.slice la ln lc))=w3 at B3 X3 U3 I3 T3 L3 N3 ⊢;clear hM x0 u0 HI B0;obtain ⟨p0,p1,p2,p3,p4⟩:=X3.out.cells
      go_wp2_with fail
      clear p0 p1 p2 p3 p4;refine (getX_all I3.out kContent HW.out).mono ?_;rintro e w4 ⟨k,n,t,d1,n1,e1,d2,n2,e2,is,rfl,_,his,b4⟩;rw [HCY.out] at his;obtain ⟨kv,lv,hv,hks,hls,_⟩:=his.open;obtain ⟨ax,cx,hks2,_⟩:=hks;obtain ⟨ay,cy,_,hls2,_⟩:=hls;subst hks2 hls2;simp only [Value.agg.injEq,Array.mk.injEq,List.cons.injEq,and_true,Value.int.injEq,Value.string.injEq,true_and,Value.slice.injEq] at hv;obtain ⟨rfl,rfl,rfl,⟨rfl,rfl,rfl⟩,rfl,rfl,rfl⟩:=hv;have b45:=below_alloc w4 (.cells #[.int .i64 y.kind,.int .i64 y.num,.string y.text,.slice d1 y.keys.length e1,.slice d2 y.list.length e2] 27);have b5:=bthen b4 b45;have X5:=hide (X3.out.keep b5);have U5:=hide (U3.out.keep b5);have B5b:=hide (B3.out.keep b5);have I5:=hide (I3.out.below b5);have T5:=hide (T3.out.below b5);have L5:=hide (bthen L3.out b5);have YI:=hide (his.below b45);have Y5:=hide (b5_new w4 (.int .i64 y.kind) (.int .i64 y.num) (.string y.text) (.slice d1 y.keys.length e1) (.slice d2 y.list.length e2) _ rfl);have N5:Hid (w.heap.size+2≤(w4.alloc (.cells #[.int .i64 y.kind,.int .i64 y.num,.string y.text,.slice d1 y.keys.length e1,.slice d2 y.list.length e2] 27)).heap.size):=hide (by have:=b4.size;have:=N3.out;simp;omega);have N5b:Hid (g3 < (w4.alloc (.cells #[.int .i64 y.kind,.int .i64 y.num,.string y.text,.slice d1 y.keys.length e1,.slice d2 y.list.length e2] 27)).heap.size):=hide (by have:=b4.size;have:=N3.out;simp;omega);have YW:Hid (V.wt y≤4294967296):=hide (by have:=HW.out;have:=HYW.out;omega);have KM:Hid ((Xr.kindOf x).size≤maxLen):=hide (by have:=Xr.kindOf_size x;have:=HW.out;unfold maxLen;omega);have TW:Hid (V.wt (Xr.taken x lEvent)≤1000000000):=hide (by have:=Xr.wt_taken x lEvent;have:=HWT.out;omega);have OW:Hid (V.wt (Xr.ofContent y (Xr.kindOf x))≤1000000000):=hide (by have:=Xr.wt_ofContent y (Xr.kindOf x);have:=HWT.out;have:=HYW.out;omega);clear b45 b5 b4 his hx hx1 hz3 hn0
      go_upto_region 5 with fail
      generalize w4.alloc (.cells #[.int .i64 y.kind,.int .i64 y.num,.string y.text,.slice d1 y.keys.length e1,.slice d2 y.list.length e2] 27)=w5 at X5 U5 B5b I5 T5 L5 YI Y5 N5 N5b ⊢;generalize w4.heap.size=g4 at Y5 ⊢
      by_cases hc:y.kind=5
      · have hRR:=HRR.out
        rw [if_pos hc] at hRR;have HC:=hide hc;have HRS:=hide hRR;clear hRR;obtain ⟨p0,p1,p2,p3,p4⟩:=Y5.out.cells
        go_upto_region 7 with fail
        clear p0 p1 p2 p3 p4 hc;refine' wp_region_facts [(fun _ _ v _=>v=(.agg #[.int .i64 5,.int .i64 0,.string ⟨#[]⟩,.slice ka kn kc,.slice la ln lc])),(fun _ _ v _=>v=(.agg #[.int .i64 y.kind,.int .i64 y.num,.string y.text,.slice d1 y.keys.length e1,.slice d2 y.list.length e2])),(fun _ _ v _=>v=(.agg #[.int .i64 x.kind,.int .i64 x.num,.string x.text,.slice a1 x.keys.length c1,.slice a2 x.list.length c2])),(fun _ _ v _=>v=(.string (Xr.kindOf x))),(AnyF (Xr.ofContent y (Xr.kindOf x))),(WithF (V.withV (Xr.taken x lEvent) kContent (Xr.ofContent y (Xr.kindOf x))))] (by kernel_rfl) rfl ?hA (by kernel_rfl) (by kernel_rfl) (by kernel_rfl) rfl ?mono ?steps ?last
        case hA =>
          intro vs;simp only [puts,Act.put,List.setIfInBounds_toArray,List.set_cons_zero,List.set_cons_succ,Nat.zero_add,Nat.reduceAdd];rfl
        case mono=>exact ⟨mono_eq _,mono_eq _,mono_eq _,mono_eq _,mono_any _,mono_with _,trivial⟩
        case steps =>
          intro Q';refine And.intro ?_ <| And.intro ?_ <| And.intro ?_ <| And.intro ?_ <| And.intro ?_ <| And.intro ?_ <| trivial
          all_goals
            intro vs lo hi w' hM hd K' hK;dsimp only at hK ⊢;simp only [Act.put,List.setIfInBounds_toArray,List.set_cons_zero,List.set_cons_succ] at hK
          · obtain ⟨p0,p1,p2,p3,p4⟩:=(B5b.out.keep hM).cells
            go_simp;exact hK.out _ _ rfl (Below.refl _ _)
          · obtain ⟨p0,p1,p2,p3,p4⟩:=(Y5.out.keep hM).cells
            go_simp;exact hK.out _ _ rfl (Below.refl _ _)
          · obtain ⟨p0,p1,p2,p3,p4⟩:=(X5.out.keep hM).cells
            go_simp;exact hK.out _ _ rfl (Below.refl _ _)
          · have e2:vs 2=(.agg #[.int .i64 x.kind,.int .i64 x.num,.string x.text,.slice a1 x.keys.length c1,.slice a2 x.list.length c2]):=hd 2 (by kernel_rfl)
            simp only [e2] at hK ⊢;clear e2;go_simp;refine (kindOf_any (I5.out.below hM) HW.out).mono ?_;rintro e w7 ⟨rfl,b7⟩;exact hK.out _ _ rfl b7
          · have e1:vs 1=(.agg #[.int .i64 y.kind,.int .i64 y.num,.string y.text,.slice d1 y.keys.length e1,.slice d2 y.list.length e2]):=hd 1 (by kernel_rfl)
            have e3:vs 3=(.string (Xr.kindOf x)):=hd 3 (by kernel_rfl);simp only [e1,e3] at hK ⊢;clear e1 e3;go_simp;refine (ofContent_any (YI.out.below hM) YW.out (Xr.kindOf x) KM.out).mono ?_;rintro e w7 ⟨k7,n7,t7,a17,n17,c17,a27,n27,c27,rfl,h7,b7⟩;exact hK.out _ _ ⟨_,_,_,_,_,_,_,_,_,rfl,hide h7⟩ b7
          · have e0:vs 0=(.agg #[.int .i64 5,.int .i64 0,.string ⟨#[]⟩,.slice ka kn kc,.slice la ln lc]):=hd 0 (by kernel_rfl)
            obtain ⟨k4,n4,t4,a14,n14,c14,a24,n24,c24,e4,H4⟩:=hd 4 (by kernel_rfl);simp only [e0,e4] at hK ⊢;clear e0 e4;go_simp;refine (with_any (T5.out.below hM) H4.out TW.out OW.out kContent (by decide)).mono ?_;rintro e w7 ⟨k7,n7,t7,a17,n17,c17,a27,n27,c27,rfl,h7,b7⟩;exact hK.out _ _ (with_fact h7) b7
        case last =>
          intro vs lo hi w' hM hlo hap hall K' Q' hK;obtain ⟨_,_,_,_,_,h5',_⟩:=hall;obtain ⟨k5,n5,t5,a15,n15,c15,a25,n25,c25,e5',H5⟩:=h5';have hz5:=(hlo 5 (by decide)).1;dsimp only;simp only [e5'];clear e5' hap hlo;obtain ⟨y0,y1,y2,y3,y4⟩:=(U5.out.keep hM).cells;have fu0:=(U5.out.keep hM).free 0;have fu1:=(U5.out.keep hM).free 1;have fu2:=(U5.out.keep hM).free 2;have fu3:=(U5.out.keep hM).free 3;have fu4:=(U5.out.keep hM).free 4;go_simp;refine hK.out _ _ ?_;clear hK
          try go_wp2_with fail
          have hu:=(U5.out.keep hM).all (.int .i64 k5) (.int .i64 n5) (.string t5) (.slice a15 n15 c15) (.slice a25 n25 c25);clear y0 y1 y2 y3 y4 fu0 fu1 fu2 fu3 fu4;obtain ⟨p0,p1,p2,p3,p4⟩:=hu.cells;have l5:=L5.out.size;have n5':=N5.out;refine bodyPost_ret (v:=.agg #[.int .i64 k5,.int .i64 n5,.string t5,.slice a15 n15 c15,.slice a25 n25 c25]) (by simp [results,Tryz.results18,go_sem,p0,p1,p2,p3,p4]) rfl ⟨_,_,_,_,_,_,_,_,_,rfl,?_,(bthen L5.out hM).trans (below5 (by omega) _ _ _ _ _)⟩;rw [← HRS.out];exact (H5.out.keep (keeps_chain (by show ¬ (lo 5≤w.heap.size+1∧w.heap.size+1 < hi 5);omega) _ _ _ _ _)).weak (fun b _ hb=>by have h1:lo 5≤b:=hb.1;show w.heap.size≤b;omega)
      · have hRR:=HRR.out
        rw [if_neg hc] at hRR;obtain ⟨p0,p1,p2,p3,p4⟩:=Y5.out.cells;obtain ⟨q0,q1,q2,q3,q4⟩:=B5b.out.cells
        go_wp2_with fail
        clear p0 p1 p2 p3 p4 q0 q1 q2 q3 q4;refine (copy_any T5.out (Nat.le_trans TW.out (by decide))).mono ?_;rintro e w6 ⟨k5,n5,t5,a15,n15,c15,a25,n25,c25,rfl,h7,b7⟩;have U6:=hide (U5.out.keep b7);obtain ⟨q0,q1,q2,q3,q4⟩:=U6.out.cells;have fu0:=U6.out.free 0;have fu1:=U6.out.free 1;have fu2:=U6.out.free 2;have fu3:=U6.out.free 3;have fu4:=U6.out.free 4
        go_wp2_with fail
        have hu:=U6.out.all (.int .i64 k5) (.int .i64 n5) (.string t5) (.slice a15 n15 c15) (.slice a25 n25 c25);clear q0 q1 q2 q3 q4 fu0 fu1 fu2 fu3 fu4;obtain ⟨p0,p1,p2,p3,p4⟩:=hu.cells;have n5':=N5.out;have l5:=b7.size;refine bodyPost_ret (v:=.agg #[.int .i64 k5,.int .i64 n5,.string t5,.slice a15 n15 c15,.slice a25 n25 c25]) (by simp [results,Tryz.results18,go_sem,p0,p1,p2,p3,p4]) rfl ⟨_,_,_,_,_,_,_,_,_,rfl,?_,(bthen L5.out b7).trans (below5 (by omega) _ _ _ _ _)⟩;rw [← hRR];exact (h7.keep (keeps_chain (by show ¬ (w5.heap.size≤w.heap.size+1);omega) _ _ _ _ _)).weak (fun b _ hb=>by have h1:w5.heap.size≤b:=hb;show w.heap.size≤b;omega)
  · have hR:Xr.redact x=V.nul:=by unfold Xr.redact;rw [if_neg h5]
    rw [hR];have H5:=hide h5;clear hR h5;go_enter Tryz.func18,Tryz.ntmps18
    go_upto_region 1 with fail
    rw [← W0.out];have h5:=H5.out;obtain ⟨q0,q1,q2,q3,q4⟩:=u0.out.cells;have fu0:=u0.out.free 0;have fu1:=u0.out.free 1;have fu2:=u0.out.free 2;have fu3:=u0.out.free 3;have fu4:=u0.out.free 4
    go_wp2_with fail
    have hu:=u0.out.all (.int .i64 0) (.int .i64 0) (.string ⟨#[]⟩) (.slice none 0 0) (.slice none 0 0);clear q0 q1 q2 q3 q4 fu0 fu1 fu2 fu3 fu4 p0 p1 p2 p3 p4;obtain ⟨p0,p1,p2,p3,p4⟩:=hu.cells;refine bodyPost_ret (v:=.agg #[.int .i64 0,.int .i64 0,.string ⟨#[]⟩,.slice none 0 0,.slice none 0 0]) (by simp [results,Tryz.results18,go_sem,p0,p1,p2,p3,p4]) rfl ⟨_,_,_,_,_,_,_,_,_,rfl,is_plain _ _ 0 0 ⟨#[]⟩ (by decide),B0.out.trans (below5 (by omega) _ _ _ _ _)⟩
end Go.Proofs.YtapcmbbhhclepaaGreatDoor
