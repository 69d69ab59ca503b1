/-
  What this claim takes of the earlier layers' texts: VConc XDefs XKept XTaken CRefA.
-/
import Derived.Test.YtapcmbbhhclepaaGreatDoorB7
import Derived.Lib.AppendZeros
import Derived.Laws.AppendOwnNone
import Derived.Maps.Own
import Derived.Maps.OwnOps
import Derived.Maps.Views
import Derived.Lib.Builder
set_option linter.unusedVariables false
set_option linter.unusedSimpArgs false
set_option maxRecDepth 100000
namespace Go.Proofs.YtapcmbbhhclepaaGreatDoor
open Go.RowKit
theorem hide {p:Prop} (h:p):Hid p:=h
def Raw (w:World) (S:Nat→Prop) (v:Value) (sz m:Nat) (cs:List Value):Prop :=
  ∃ a cap,v=.slice a m cap∧m≤cap∧cap≤maxLen∧cs.length=m * sz∧(∀ u ∈ cs,u.oneCell'=true)∧Cells w S a (m * sz) (fun i=>cs.getD i undef)
theorem Raw.keep {w w':World} {S:Nat→Prop} {v:Value} {sz m:Nat} {cs:List Value} (h:Raw w S v sz m cs) (k:Keeps S w w'):Raw w' S v sz m cs:=by
  obtain ⟨a,cap,h1,h2,h3,h4,h5,h6⟩:=h
  exact ⟨a,cap,h1,h2,h3,h4,h5,h6.keep k⟩
theorem Raw.below {w w':World} {S:Nat→Prop} {v:Value} {sz m:Nat} {cs:List Value} (h:Raw w S v sz m cs) (k:Below w.heap.size w w'):Raw w' S v sz m cs:=h.keep (Keeps.of_below k)
theorem Raw.of_own {w:World} {base:Nat} {e:TypeId} {sz:Nat} {v:Value} {n:Nat} {xs:List Value} (h:w.ownsRow base e sz v n xs) (h1:∀ u ∈ xs,u.oneCell'=true):Raw w (fun b=>base≤b) v sz n xs:=by
  have hl:=h.1
  rcases id h.2 with ⟨rfl,rfl⟩ | ⟨g,cap,cur,rfl,hb,hg,hnc,hcm,hcs,ht⟩
  · exact ⟨none,0,rfl,Nat.le_refl _,by decide,hl,h1,fun hh=>absurd hh (by simp)⟩
  · refine ⟨_,cap,rfl,hnc,hcm,hl,h1,fun _=>⟨g,0,rfl,hb,fun i hi=>?_⟩⟩
    have hx:xs[i]? = some (xs.getD i undef):=by
      rw [List.getElem?_eq_getElem (by omega)];simp [List.getD,List.getElem?_eq_getElem (show i < xs.length by omega)]
    have:=h.cells (g:=g) rfl i _ hx
    rw [← this]
    congr 1
    unfold Addr.add
    split <;> simp_all
theorem append_zero {P:Program} {w:World} (t ty e:TypeId) (i:TypeInfo) (ht:P.underlying t=some (.slice e)) (hi:P.info? e=some i) (base size:Nat)
    (v:Value) (n:Nat) (xs:List Value) (hown:w.ownsRow base e size v n xs) (a:Option Addr) (c:Nat) :
    (Builtin.append_ #[t,t] ty #[v,.slice a 0 c]).run P w=.ok v w:=by
  rcases hown.2 with ⟨rfl,rfl⟩ | ⟨g,cap,cur,rfl,_,_,hnc,_⟩
  · cases a <;> simp [Builtin.append_,run_underlying ht,sizeOf,typeInfo,hi,Builtin.lenOf,Builtin.firstCells,loadCells,loadCellsFrom]
  · cases a <;> simp [Builtin.append_,run_underlying ht,sizeOf,typeInfo,hi,Builtin.lenOf,Builtin.firstCells,hnc,storeCells,loadCells,loadCellsFrom]
theorem own_shape {w:World} {base:Nat} {e:TypeId} {sz:Nat} {v:Value} {n:Nat} {xs:List Value} (h:w.ownsRow base e sz v n xs):∃ a c,v=.slice a n c:=by
  rcases h.2 with ⟨rfl,rfl⟩ | ⟨g,cap,cur,rfl,_⟩
  · exact ⟨_,_,rfl⟩
  · exact ⟨_,_,rfl⟩
theorem own_block {w:World} {base:Nat} {e:TypeId} {sz:Nat} {v:Value} {n:Nat} {xs:List Value} (h:w.ownsRow base e sz v n xs):∀ k,v.ownBlock=some k→base≤k:=fun k hk=>(h.lt k hk).1
def total (ms:List (Nat×List Value)):Nat:=(ms.map (·.1)).sum
def flat (ms:List (Nat×List Value)):List Value:=ms.flatMap (·.2)
theorem total_take (ms:List (Nat×List Value)) (j:Nat) (h:j < ms.length):total (ms.take (j+1))=total (ms.take j)+ms[j].1:=by
  unfold total;rw [List.take_succ_eq_append_getElem h,List.map_append,List.map_cons,List.map_nil,List.sum_append,List.sum_cons,List.sum_nil,Nat.add_zero]
theorem flat_take (ms:List (Nat×List Value)) (j:Nat) (h:j < ms.length):flat (ms.take (j+1))=flat (ms.take j) ++ ms[j].2:=by
  unfold flat;rw [List.take_succ_eq_append_getElem h,List.flatMap_append,List.flatMap_cons,List.flatMap_nil,List.append_nil]
theorem total_le (ms:List (Nat×List Value)) (j:Nat):total (ms.take j)≤total ms:=by
  have:total ms=total (ms.take j)+total (ms.drop j):=by
    unfold total;rw [← List.sum_append,← List.map_append,List.take_append_drop]
  omega
theorem append_part {P:Program} {w:World} (t ty e:TypeId) (z:Value) (size bytes:Nat) (ht:P.underlying t=some (.slice e)) (hinfo:(P.info? e).map (fun i=>(i.zero,i.size,i.bytes))=some (some z,size,bytes)) (hzs:z.cells.size=size) (hsz:0 < size)
    (base:Nat) (v:Value) (n:Nat) (xs:List Value) (hown:w.ownsRow base e size v n xs) {S:Nat→Prop} {x:Value} {m:Nat} {cs:List Value} (hx:Raw w S x size m cs)
    (h63:n+m≤maxLen) (hbytes:(n+m) * bytes≤140737488355328) (hbase:base≤w.heap.size) :
    ∃ v' w',(Builtin.append_ #[t,t] ty #[v,x]).run P w=.ok v' w'∧w'.ownsRow base e size v' (n+m) (xs ++ cs)∧w.grownBy w' v.ownBlock:=by
  obtain ⟨i0,hi,hz0,hz1,hz2⟩:=info_parts hinfo
  obtain ⟨a,cap,rfl,h1,h2,h3,h4,h5⟩:=hx
  by_cases hm:m=0
  · subst hm
    have:cs=[]:=List.eq_nil_of_length_eq_zero (by omega)
    subst this
    refine ⟨v,w,append_zero t ty e i0 ht hi base size v n xs hown a cap,?_,⟨rfl,rfl,rfl,Nat.le_refl _,fun _ _ _=>rfl⟩⟩
    rw [List.append_nil];exact hown
  · obtain ⟨b,off,rfl,_,hc⟩:=h5 (Nat.mul_pos (by omega) hsz)
    obtain ⟨v',w',q1,q2,q3,_⟩:=run_append_own w base t ty e i0 z size bytes ht hi hz0 hz1 hz2 hzs hsz v n xs hown ⟨b,off,none⟩ m cap cs h3 (fun j u hu=>by
      obtain ⟨hj,hju⟩:=List.getElem?_eq_some_iff.1 hu
      have e1:(⟨b,off,none⟩:Addr).add j=⟨b,off+j,none⟩:=by unfold Addr.add;split <;> simp_all
      rw [e1,hc j (by omega)]
      simp [List.getD,hu]) h4 h63 hbytes hbase
    exact ⟨v',w',q1,q2,q3⟩
theorem growS_any (n:Nat) (w:World) (hn:n≤17179869184) :
    Calls Tryz.prog 130 #[.slice none 0 0,.int .i64 n] w fun e w'=>∃ a m c,e=.returned (.slice a m c)∧w'.ownsRow w.heap.size 9 1 (.slice a m c) 0 []∧Below w.heap.size w w':=by
  by_cases h0:n=0
  · subst h0
    go_enter Tryz.func130,Tryz.ntmps130
    go_wp2
    go_ret
    exact ⟨_,_,_,rfl,World.ownsRow_nil _ _ _ _,Below.refl _ _⟩
  · obtain ⟨i0,hi,hz0,hz1,hz2⟩:=info_parts info_str
    have hr:=Lib.run_append_nil_zeros (P:=Tryz.prog) w 24 3 24 9 i0 _ .i64 .i64 Tryz.underlying24 Tryz.underlying3 hi hz0 n (by omega) (by omega) (by omega) (by rw [hz2];omega)
    have hc:=grownCap_ge w n 0 9
    have hm:=grownCap_le_maxLen w n 0 9 (Nat.le_trans hn (by decide))
    obtain ⟨cap,hcap⟩:∃ c,grownCap w n 0 9=c:=⟨_,rfl⟩
    rw [hcap] at hr hc hm
    obtain ⟨cur,hcur⟩:∃ c,Builtin.zeroCells (Value.string ⟨#[]⟩).cells n ++ Builtin.zeroCells (Value.string ⟨#[]⟩).cells (cap - n)=c:=⟨_,rfl⟩
    have hcs:cur.size=cap * 1:=by
      rw [← hcur,Array.size_append,size_zeroCells,size_zeroCells,← Nat.add_mul]
      have e1:(Value.string ⟨#[]⟩).cells.size=1:=rfl
      rw [e1];congr 1;omega
    rw [hcur] at hr
    have HR:Hid _:=hr
    clear hr hcur hcap
    have hpos:0 < n:=by omega
    have s0:=slice_front_str none 0 0 0 (Nat.le_refl _)
    have s1:=slice_front_str (some ⟨w.heap.size,0,none⟩) n cap 0 (Nat.zero_le _)
    go_enter Tryz.func130,Tryz.ntmps130
    go_wp2_with (at_builtin;refine Lib.wpList_append_run _ rfl (.tmp 20) (.tmp 21) 24 3 rfl _ _ (by simp [Act.eval,Act.put]) (by simp [Act.eval,Act.put]) _ _ HR.out ?_)
    go_ret
    refine ⟨_,_,_,rfl,?_,?_⟩
    · exact World.ownsRow_made w.drew cur cap (Nat.le_refl _) hm hcs
    · exact ((Below.refl _ _).drew).alloc (Nat.le_refl _) _
set_option maxHeartbeats 4000000 in
theorem concatS_any (a:Option Addr) (cap:Nat) (vs:Nat→Value) (ms:List (Nat×List Value)) (w:World) (S:Nat→Prop)
    (hc:Cells w S a ms.length vs) (hp:∀ i (h:i < ms.length),Raw w S (vs i) 1 ms[i].1 ms[i].2) (hlen:ms.length≤4294967296) (hsum:total ms≤17179869184) :
    Calls Tryz.prog 107 #[.slice a ms.length cap] w fun e w'=>∃ a' m' c',e=.returned (.slice a' m' c')∧Raw w' (fun b=>w.heap.size≤b) (.slice a' m' c') 1 (total ms) (flat ms)∧Below w.heap.size w w':=by
  have HC:=hide hc
  have HP:=hide hp
  clear hc hp
  go_enter Tryz.func107,Tryz.ntmps107
  go_wp2_with fail
  go_loopg [3,11] ms.length (fun g s i wr=>∃ j:Nat,j+g=ms.length∧i=.int .i64 j∧s=.int .i64 (total (ms.take j):Nat)∧w=wr)
  case atStart=>exact ⟨0,by omega,rfl,rfl,rfl⟩
  case round =>
    obtain ⟨j,hj,rfl,rfl,rfl⟩:=hrel
    by_cases hlt:j < ms.length
    · obtain ⟨b,off,rfl,_,hcell⟩:=HC.out (by omega)
      obtain ⟨aj,cj,hvs,hm1,hm2,_⟩:=HP.out j hlt
      have ej:=hcell j hlt
      rw [hvs] at ej
      have ht1:=total_take ms j hlt
      have ht2:=total_le ms (j+1)
      obtain ⟨mj,hmj⟩:∃ m,ms[j].1=m:=⟨_,rfl⟩
      rw [hmj] at ej ht1 hm1
      obtain ⟨T,hT⟩:∃ T,total (ms.take j)=T:=⟨_,rfl⟩
      rw [hT] at ht1
      have hTm:T+mj≤17179869184:=by omega
      have H1:Hid _:=ht1
      have H2:Hid _:=ht2
      clear hcell hvs hm2 hmj ht1 ht2
      rw [hT]
      clear hT
      go_wp2_with fail
      go_roundg (gk - 1)
      case measure=>omega
      case rel =>
        refine ⟨j+1,by omega,rfl,?_,rfl⟩
        rw [H1.out]
        rfl
    · have hje:j=ms.length:=by omega
      subst hje
      rw [List.take_length]
      clear hj hlt
      go_wp2_with fail
      refine (growS_any _ _ hsum).mono ?_
      rintro e w1 ⟨ga,gm,gc,rfl,hown,b1⟩
      have HO:=hide hown
      clear hown
      go_wp2_with fail
      go_loopg [6,27] ms.length (fun g nv i wr=>∃ (j:Nat) (na:Option Addr) (nm nc:Nat),j+g=ms.length∧i=.int .i64 j∧nv=.slice na nm nc∧Hid (wr.ownsRow w.heap.size 9 1 (.slice na nm nc) (total (ms.take j)) (flat (ms.take j)))∧Below w.heap.size w wr)
      case atStart =>
        refine ⟨0,ga,gm,gc,by omega,rfl,rfl,?_,b1⟩
        unfold Hid
        simp only [List.take_zero,total,flat,List.map_nil,List.sum_nil,List.flatMap_nil]
        exact HO.out
      case round =>
        obtain ⟨j,na,nm,nc,hj,rfl,rfl,HN,bj⟩:=hrel
        by_cases hlt:j < ms.length
        · obtain ⟨b,off,rfl,_,hcell⟩:=Cells.keep HC.out (Keeps.of_below bj) (by omega)
          have hpj:=(HP.out j hlt).below bj
          obtain ⟨aj,cj,hvs,_⟩:=id hpj
          have ej:=hcell j hlt
          rw [hvs] at ej hpj
          have ht1:=total_take ms j hlt
          have ht2:=total_le ms (j+1)
          obtain ⟨v',w',hr,hown',hg⟩:=append_part 24 24 9 _ 1 16 Tryz.underlying24 info_str rfl (by decide) w.heap.size _ _ _ HN.out hpj (by unfold maxLen;omega) (by omega) bj.size
          obtain ⟨na',nc',rfl⟩:=own_shape hown'
          have HR:=hide hr
          have HO':=hide hown'
          have HG:=hide hg
          have H1:Hid _:=ht1
          have H2:Hid _:=ht2
          clear hr hown' hg ht1 ht2 hcell hvs hpj
          go_wp2_with (at_builtin;refine Lib.wpList_append_run _ rfl (.tmp 31) (.tmp 32) 24 24 rfl _ _ (by simp [Act.eval,Act.put]) (by simp [Act.eval,Act.put]) _ _ HR.out ?_)
          go_roundg (gk - 1)
          case measure=>omega
          case rel =>
            refine ⟨j+1,_,_,_,by omega,rfl,rfl,?_,bj.grown HG.out bj.size (own_block HN.out)⟩
            unfold Hid
            rw [H1.out,flat_take ms j hlt]
            exact HO'.out
        · have hje:j=ms.length:=by omega
          subst hje
          rw [List.take_length] at HN
          go_wp2
          go_ret
          refine ⟨_,_,_,rfl,Raw.of_own HN.out ?_,bj⟩
          intro u hu
          obtain ⟨p,hp1,hp2⟩:=List.mem_flatMap.1 hu
          obtain ⟨i,hi,rfl⟩:=List.getElem_of_mem hp1
          obtain ⟨_,_,_,_,_,_,h1,_⟩:=HP.out i hi
          exact h1 u hp2
theorem growV_any (n:Nat) (w:World) (hn:n≤17179869184) :
    Calls Tryz.prog 131 #[.slice none 0 0,.int .i64 n] w fun e w'=>∃ a m c,e=.returned (.slice a m c)∧w'.ownsRow w.heap.size 27 5 (.slice a m c) 0 []∧Below w.heap.size w w':=by
  by_cases h0:n=0
  · subst h0
    go_enter Tryz.func131,Tryz.ntmps131
    go_wp2
    go_ret
    exact ⟨_,_,_,rfl,World.ownsRow_nil _ _ _ _,Below.refl _ _⟩
  · obtain ⟨i0,hi,hz0,hz1,hz2⟩:=info_parts info_val
    have hr:=Lib.run_append_nil_zeros (P:=Tryz.prog) w 25 3 25 27 i0 _ .i64 .i64 Tryz.underlying25 Tryz.underlying3 hi hz0 n (by omega) (by omega) (by omega) (by rw [hz2];omega)
    have hc:=grownCap_ge w n 0 27
    have hm:=grownCap_le_maxLen w n 0 27 (Nat.le_trans hn (by decide))
    obtain ⟨cap,hcap⟩:∃ c,grownCap w n 0 27=c:=⟨_,rfl⟩
    rw [hcap] at hr hc hm
    obtain ⟨cur,hcur⟩:∃ c,Builtin.zeroCells (Value.agg #[.int .i64 0,.int .i64 0,.string ⟨#[]⟩,.slice none 0 0,.slice none 0 0]).cells n ++ Builtin.zeroCells (Value.agg #[.int .i64 0,.int .i64 0,.string ⟨#[]⟩,.slice none 0 0,.slice none 0 0]).cells (cap - n)=c:=⟨_,rfl⟩
    have hcs:cur.size=cap * 5:=by
      rw [← hcur,Array.size_append,size_zeroCells,size_zeroCells,← Nat.add_mul]
      have e1:(Value.agg #[.int .i64 0,.int .i64 0,.string ⟨#[]⟩,.slice none 0 0,.slice none 0 0]).cells.size=5:=rfl
      rw [e1];congr 1;omega
    rw [hcur] at hr
    have HR:Hid _:=hr
    clear hr hcur hcap
    have hpos:0 < n:=by omega
    have s0:=slice_front_val none 0 0 0 (Nat.le_refl _)
    have s1:=slice_front_val (some ⟨w.heap.size,0,none⟩) n cap 0 (Nat.zero_le _)
    go_enter Tryz.func131,Tryz.ntmps131
    go_wp2_with (at_builtin;refine Lib.wpList_append_run _ rfl (.tmp 20) (.tmp 21) 25 3 rfl _ _ (by simp [Act.eval,Act.put]) (by simp [Act.eval,Act.put]) _ _ HR.out ?_)
    go_ret
    refine ⟨_,_,_,rfl,?_,?_⟩
    · exact World.ownsRow_made w.drew cur cap (Nat.le_refl _) hm hcs
    · exact ((Below.refl _ _).drew).alloc (Nat.le_refl _) _
set_option maxHeartbeats 4000000 in
theorem concatV_any (a:Option Addr) (cap:Nat) (vs:Nat→Value) (ms:List (Nat×List Value)) (w:World) (S:Nat→Prop)
    (hc:Cells w S a ms.length vs) (hp:∀ i (h:i < ms.length),Raw w S (vs i) 5 ms[i].1 ms[i].2) (hlen:ms.length≤4294967296) (hsum:total ms≤17179869184) :
    Calls Tryz.prog 108 #[.slice a ms.length cap] w fun e w'=>∃ a' m' c',e=.returned (.slice a' m' c')∧Raw w' (fun b=>w.heap.size≤b) (.slice a' m' c') 5 (total ms) (flat ms)∧Below w.heap.size w w':=by
  have HC:=hide hc
  have HP:=hide hp
  clear hc hp
  go_enter Tryz.func108,Tryz.ntmps108
  go_wp2_with fail
  go_loopg [3,11] ms.length (fun g s i wr=>∃ j:Nat,j+g=ms.length∧i=.int .i64 j∧s=.int .i64 (total (ms.take j):Nat)∧w=wr)
  case atStart=>exact ⟨0,by omega,rfl,rfl,rfl⟩
  case round =>
    obtain ⟨j,hj,rfl,rfl,rfl⟩:=hrel
    by_cases hlt:j < ms.length
    · obtain ⟨b,off,rfl,_,hcell⟩:=HC.out (by omega)
      obtain ⟨aj,cj,hvs,hm1,hm2,_⟩:=HP.out j hlt
      have ej:=hcell j hlt
      rw [hvs] at ej
      have ht1:=total_take ms j hlt
      have ht2:=total_le ms (j+1)
      obtain ⟨mj,hmj⟩:∃ m,ms[j].1=m:=⟨_,rfl⟩
      rw [hmj] at ej ht1 hm1
      obtain ⟨T,hT⟩:∃ T,total (ms.take j)=T:=⟨_,rfl⟩
      rw [hT] at ht1
      have hTm:T+mj≤17179869184:=by omega
      have H1:Hid _:=ht1
      have H2:Hid _:=ht2
      clear hcell hvs hm2 hmj ht1 ht2
      rw [hT]
      clear hT
      go_wp2_with fail
      go_roundg (gk - 1)
      case measure=>omega
      case rel =>
        refine ⟨j+1,by omega,rfl,?_,rfl⟩
        rw [H1.out]
        rfl
    · have hje:j=ms.length:=by omega
      subst hje
      rw [List.take_length]
      clear hj hlt
      go_wp2_with fail
      refine (growV_any _ _ hsum).mono ?_
      rintro e w1 ⟨ga,gm,gc,rfl,hown,b1⟩
      have HO:=hide hown
      clear hown
      go_wp2_with fail
      go_loopg [6,27] ms.length (fun g nv i wr=>∃ (j:Nat) (na:Option Addr) (nm nc:Nat),j+g=ms.length∧i=.int .i64 j∧nv=.slice na nm nc∧Hid (wr.ownsRow w.heap.size 27 5 (.slice na nm nc) (total (ms.take j)) (flat (ms.take j)))∧Below w.heap.size w wr)
      case atStart =>
        refine ⟨0,ga,gm,gc,by omega,rfl,rfl,?_,b1⟩
        unfold Hid
        simp only [List.take_zero,total,flat,List.map_nil,List.sum_nil,List.flatMap_nil]
        exact HO.out
      case round =>
        obtain ⟨j,na,nm,nc,hj,rfl,rfl,HN,bj⟩:=hrel
        by_cases hlt:j < ms.length
        · obtain ⟨b,off,rfl,_,hcell⟩:=Cells.keep HC.out (Keeps.of_below bj) (by omega)
          have hpj:=(HP.out j hlt).below bj
          obtain ⟨aj,cj,hvs,_⟩:=id hpj
          have ej:=hcell j hlt
          rw [hvs] at ej hpj
          have ht1:=total_take ms j hlt
          have ht2:=total_le ms (j+1)
          obtain ⟨v',w',hr,hown',hg⟩:=append_part 25 25 27 _ 5 80 Tryz.underlying25 info_val rfl (by decide) w.heap.size _ _ _ HN.out hpj (by unfold maxLen;omega) (by omega) bj.size
          obtain ⟨na',nc',rfl⟩:=own_shape hown'
          have HR:=hide hr
          have HO':=hide hown'
          have HG:=hide hg
          have H1:Hid _:=ht1
          have H2:Hid _:=ht2
          clear hr hown' hg ht1 ht2 hcell hvs hpj
          go_wp2_with (at_builtin;refine Lib.wpList_append_run _ rfl (.tmp 31) (.tmp 32) 25 25 rfl _ _ (by simp [Act.eval,Act.put]) (by simp [Act.eval,Act.put]) _ _ HR.out ?_)
          go_roundg (gk - 1)
          case measure=>omega
          case rel =>
            refine ⟨j+1,_,_,_,by omega,rfl,rfl,?_,bj.grown HG.out bj.size (own_block HN.out)⟩
            unfold Hid
            rw [H1.out,flat_take ms j hlt]
            exact HO'.out
        · have hje:j=ms.length:=by omega
          subst hje
          rw [List.take_length] at HN
          go_wp2
          go_ret
          refine ⟨_,_,_,rfl,Raw.of_own HN.out ?_,bj⟩
          intro u hu
          obtain ⟨p,hp1,hp2⟩:=List.mem_flatMap.1 hu
          obtain ⟨i,hi,rfl⟩:=List.getElem_of_mem hp1
          obtain ⟨_,_,_,_,_,_,h1,_⟩:=HP.out i hi
          exact h1 u hp2
end Go.Proofs.YtapcmbbhhclepaaGreatDoor
namespace Go.Proofs.YtapcmbbhhclepaaGreatDoor
def kMember:ByteArray:=⟨#[109,46,114,111,111,109,46,109,101,109,98,101,114]⟩
def kPower:ByteArray:=⟨#[109,46,114,111,111,109,46,112,111,119,101,114,95,108,101,118,101,108,115]⟩
def kJoin:ByteArray:=⟨#[109,46,114,111,111,109,46,106,111,105,110,95,114,117,108,101,115]⟩
def kAcl:ByteArray:=⟨#[109,46,114,111,111,109,46,115,101,114,118,101,114,95,97,99,108]⟩
def lMember:List ByteArray:=[⟨#[109,101,109,98,101,114,115,104,105,112]⟩]
def lPower:List ByteArray:=[⟨#[98,97,110]⟩,⟨#[101,118,101,110,116,115]⟩,⟨#[101,118,101,110,116,115,95,100,101,102,97,117,108,116]⟩,⟨#[105,110,118,105,116,101]⟩,⟨#[107,105,99,107]⟩,⟨#[115,116,97,116,101,95,100,101,102,97,117,108,116]⟩,⟨#[117,115,101,114,115]⟩,⟨#[117,115,101,114,115,95,100,101,102,97,117,108,116]⟩]
def lJoin:List ByteArray:=[⟨#[106,111,105,110,95,114,117,108,101]⟩]
def lAcl:List ByteArray:=[⟨#[97,108,108,111,119]⟩,⟨#[100,101,110,121]⟩]
def keptL (kind:ByteArray):List ByteArray:=if kind.data.toList=kMember.data.toList then lMember else if kind.data.toList=kPower.data.toList then lPower else if kind.data.toList=kJoin.data.toList then lJoin else if kind.data.toList=kAcl.data.toList then lAcl else []
def kCreate:ByteArray:=⟨#[109,46,114,111,111,109,46,99,114,101,97,116,101]⟩
def keptB (kind key:ByteArray):Bool:=(kind.toList == kCreate.toList) || Lib.containsS (keptL kind) key
namespace Xr
def stays (stay:List ByteArray) (ps:List (ByteArray×V)):List (ByteArray×V):=ps.filter (fun p=>Lib.containsS stay p.1)
def taken (x:V) (stay:List ByteArray):V:=⟨5,0,⟨#[]⟩,(stays stay (x.keys.zip x.list)).map (·.1),(stays stay (x.keys.zip x.list)).map (·.2)⟩
theorem stays_snoc (stay:List ByteArray) (ps:List (ByteArray×V)) (p:ByteArray×V):stays stay (ps ++ [p])=if Lib.containsS stay p.1 then stays stay ps ++ [p] else stays stay ps:=by
  unfold stays
  rw [List.filter_append]
  cases h:Lib.containsS stay p.1 <;> simp [h]
end Xr
def kType:ByteArray:=⟨#[116,121,112,101]⟩
def kContent:ByteArray:=⟨#[99,111,110,116,101,110,116]⟩
def Xr.kindOf (x:V):ByteArray:=if ((V.get x kType).getD V.nul).kind=3 then ((V.get x kType).getD V.nul).text else ⟨#[]⟩
def lEvent:List ByteArray:=[⟨#[97,117,116,104,95,101,118,101,110,116,115]⟩,⟨#[99,111,110,116,101,110,116]⟩,⟨#[100,101,112,116,104]⟩,⟨#[104,97,115,104,101,115]⟩,⟨#[111,114,105,103,105,110,95,115,101,114,118,101,114,95,116,115]⟩,⟨#[112,114,101,118,95,101,118,101,110,116,115]⟩,⟨#[114,111,111,109,95,105,100]⟩,⟨#[115,101,110,100,101,114]⟩,⟨#[115,116,97,116,101,95,107,101,121]⟩,⟨#[116,121,112,101]⟩]
def Xr.ofContent (x:V) (kind:ByteArray):V:=if (kind.toList == kCreate.toList)=true then x else Xr.taken x (keptL kind)
end Go.Proofs.YtapcmbbhhclepaaGreatDoor
namespace Go.Proofs.YtapcmbbhhclepaaGreatDoor
open Go.RowKit Go.Maps
abbrev HR:Value→Option (DataW Value×List MemPlace):=fun v=>some (.held v,[])
abbrev keyL (s:ByteArray):Lit:=.string s.data.toList
theorem law9:Keyed Tryz.prog 9:=string_keyed Tryz.underlying9
theorem keyed (s:ByteArray) (h:s.size≤maxLen):keyOf Tryz.prog 9 (.string s)=some (keyL s):=WideMaps.keyOf_string_mk Tryz.underlying9 h
theorem upd (w:World) (b n:Nat) (D:DataW Value) (h:w.ownsMap Tryz.prog 9 HR b n D) (hn:n < 100) (key:ByteArray) (hk:key.size≤maxLen) (v:Value) :
    ∃ w',(Instr.mapUpdate 48 (.map (some b)) (.string key) v).run Tryz.prog w=.ok () w'∧w'.ownsMap Tryz.prog 9 HR b (n+1) (D.put (keyL key) (.held v))∧w.grownBy w' (some b) :=
  h.update law9 Tryz.underlying48 (by unfold maxLen;omega) (keyed key hk) rfl
theorem stay0 {W W':World} {b:Nat} {o:Obj} (g:(W.alloc o).grownBy W' (some b)) (hb:W.heap.size≠b):W'.heap[W.heap.size]? = some o:=by
  rw [g.block W.heap.size (by simp) (by simpa using hb)]
  show (W.alloc o).heap[W.heap.size]? = _
  simp only [World.alloc,Array.getElem?_push_size]
theorem stay {W W':World} {b k:Nat} {o x:Obj} (h:W.heap[k]? = some x) (g:(W.alloc o).grownBy W' (some b)) (hk:k≠b):W'.heap[k]? = some x:=by
  have hl:=(Array.getElem?_eq_some_iff.1 h).1
  rw [g.block k (by simp;omega) (by simpa using hk),Below.heap_alloc _ _ _ hl]
  exact h
set_option maxHeartbeats 1000000 in
theorem kept_any (w:World) :
    Calls Tryz.prog 38 #[] w fun e w'=>∃ b1 b2 b3 b4,e=.returned (.map (some w.heap.size))∧w'.ownsMap Tryz.prog 9 HR w.heap.size 4 (((((DataW.map []).put (keyL kMember) (.held (.slice (some ⟨b1,0,none⟩) 1 1))).put (keyL kPower) (.held (.slice (some ⟨b2,0,none⟩) 8 8))).put (keyL kJoin) (.held (.slice (some ⟨b3,0,none⟩) 1 1))).put (keyL kAcl) (.held (.slice (some ⟨b4,0,none⟩) 2 2))) ∧
      w'.heap[b1]? = some (.cells (lMember.map Value.string).toArray 9)∧w'.heap[b2]? = some (.cells (lPower.map Value.string).toArray 9)∧w'.heap[b3]? = some (.cells (lJoin.map Value.string).toArray 9)∧w'.heap[b4]? = some (.cells (lAcl.map Value.string).toArray 9)∧w.heap.size≤w'.heap.size∧Below w.heap.size w w':=by
  have hmm:=@run_makeMap Tryz.prog
  have o0:=World.ownsMap_made w Tryz.prog 9 HR
  obtain ⟨w2,r1,o1,g1⟩:=upd _ _ _ _ (o0.alloc (.cells (lMember.map Value.string).toArray 9)) (by omega) kMember (by decide) (.slice (some ⟨w.heap.size+1,0,none⟩) 1 1)
  obtain ⟨w3,r2,o2,g2⟩:=upd _ _ _ _ (o1.alloc (.cells (lPower.map Value.string).toArray 9)) (by omega) kPower (by decide) (.slice (some ⟨w2.heap.size,0,none⟩) 8 8)
  obtain ⟨w4,r3,o3,g3⟩:=upd _ _ _ _ (o2.alloc (.cells (lJoin.map Value.string).toArray 9)) (by omega) kJoin (by decide) (.slice (some ⟨w3.heap.size,0,none⟩) 1 1)
  obtain ⟨w5,r4,o4,g4⟩:=upd _ _ _ _ (o3.alloc (.cells (lAcl.map Value.string).toArray 9)) (by omega) kAcl (by decide) (.slice (some ⟨w4.heap.size,0,none⟩) 2 2)
  simp only [lMember,lPower,lJoin,lAcl,List.map_cons,List.map_nil,kMember,kPower,kJoin,kAcl] at r1 r2 r3 r4
  have O4:=hide o4
  have G1:=hide g1
  have G2:=hide g2
  have G3:=hide g3
  have G4:=hide g4
  clear o0 o1 o2 o3 o4 g1 g2 g3 g4
  go_enter Tryz.func38,Tryz.ntmps38
  go_wp2_with fail
  go_ret
  have s1:=G1.out.size
  have s2:=G2.out.size
  have s3:=G3.out.size
  have s4:=G4.out.size
  simp at s1 s2 s3 s4
  have h1:=stay0 G1.out (by simp)
  rw [show (w.alloc (.map #[] 0)).heap.size=w.heap.size+1 by simp] at h1
  have h2:=stay0 G2.out (by omega)
  have h3:=stay0 G3.out (by omega)
  have h4:=stay0 G4.out (by omega)
  have lt:∀ {W:World} {k:Nat} {o:Obj},W.heap[k]? = some o→k < W.heap.size:=fun h=>(Array.getElem?_eq_some_iff.1 h).1
  refine ⟨w.heap.size+1,w2.heap.size,w3.heap.size,w4.heap.size,rfl,O4.out,stay (stay (stay h1 G2.out (by omega)) G3.out (by omega)) G4.out (by omega),stay (stay h2 G3.out (by omega)) G4.out (by omega),stay h3 G4.out (by omega),h4,by omega,?_⟩
  have bb:∀ {A W W':World} {o:Obj},Below w.heap.size A W→w.heap.size≤W.heap.size→(W.alloc o).grownBy W' (some w.heap.size)→Below w.heap.size A W':=fun h hl g=>(h.alloc hl _).grown g (by simp;omega) (fun k hk=>by cases hk;exact Nat.le_refl _)
  exact bb (bb (bb (bb (below_alloc w (.map #[] 0)) (by simp) G1.out) (by omega) G2.out) (by omega) G3.out) (by omega) G4.out
theorem strs_heap {w:World} {b n:Nat} {l:List ByteArray} (h:w.heap[b]? = some (.cells (l.map Value.string).toArray 9)) (hn:n=l.length) (hl:l.length≤100) (hs:∀ k ∈ l,k.size≤maxLen) (S:Nat→Prop) (hS:S b):Strs w S (.slice (some ⟨b,0,none⟩) n n) l:=by
  subst hn
  refine ⟨_,_,rfl,Nat.le_refl _,by unfold maxLen;omega,hs,fun _=>⟨b,0,rfl,hS,fun i hi=>?_⟩⟩
  rw [Lib.cell_of_heap h]
  simp [List.getD,hi]
theorem lookup_any (w:World) (b b1 b2 b3 b4 B:Nat) (h:w.ownsMap Tryz.prog 9 HR b 4 (((((DataW.map []).put (keyL kMember) (.held (.slice (some ⟨b1,0,none⟩) 1 1))).put (keyL kPower) (.held (.slice (some ⟨b2,0,none⟩) 8 8))).put (keyL kJoin) (.held (.slice (some ⟨b3,0,none⟩) 1 1))).put (keyL kAcl) (.held (.slice (some ⟨b4,0,none⟩) 2 2))))
    (h1:w.heap[b1]? = some (.cells (lMember.map Value.string).toArray 9)) (h2:w.heap[b2]? = some (.cells (lPower.map Value.string).toArray 9)) (h3:w.heap[b3]? = some (.cells (lJoin.map Value.string).toArray 9)) (h4:w.heap[b4]? = some (.cells (lAcl.map Value.string).toArray 9))
    (key:ByteArray) (hk:key.size≤maxLen) :
    ∃ a n c,(Instr.lookup 48 (.map (some b)) (.string key) false).run Tryz.prog w=.ok (.slice a n c) w∧Strs w (fun _=>True) (.slice a n c) (keptL key):=by
  obtain ⟨v,ps,hrun,hv⟩:=h.lookup law9 Tryz.underlying48 (z:=.slice none 0 0) (by kernel_rfl) rfl (keyed key hk)
  have hd:DataW.held v=_:=congrArg Prod.fst (Option.some.inj hv)
  have hkey:∀ {A:ByteArray},keyL key=keyL A ↔ key.data.toList=A.data.toList:=⟨fun e=>by injection e,fun e=>by unfold keyL;rw [e]⟩
  have m0:IsMap (DataW.map []:DataW Value):=⟨[],rfl⟩
  have hk0:∀ A:ByteArray,WideAt.IsKeyLit (keyL A):=fun _=>trivial
  have mp:∀ {D:DataW Value} (A:ByteArray) (x:DataW Value),IsMap D→IsMap (D.put (keyL A) x):=fun A x ⟨es,e⟩=>by subst e;exact ⟨_,rfl⟩
  have m1:=mp kMember (.held (.slice (some ⟨b1,0,none⟩) 1 1)) m0
  have m2:=mp kPower (.held (.slice (some ⟨b2,0,none⟩) 8 8)) m1
  have m3:=mp kJoin (.held (.slice (some ⟨b3,0,none⟩) 1 1)) m2
  have end_:∀ {a:Option Addr} {n c:Nat} {L:List ByteArray},v=.slice a n c→Strs w (fun _=>True) (.slice a n c) L→keptL key=L→∃ a n c,(Instr.lookup 48 (.map (some b)) (.string key) false).run Tryz.prog w=.ok (.slice a n c) w∧Strs w (fun _=>True) (.slice a n c) (keptL key):=fun e hs hL=>by
    subst e
    exact ⟨_,_,_,hrun,by rw [hL];exact hs⟩
  by_cases e4:key.data.toList=kAcl.data.toList
  · rw [hkey.2 e4,atKey_put_same m3 (hk0 _)] at hd
    exact end_ (DataW.held.inj hd) (strs_heap h4 rfl (by decide) (by decide) _ trivial) (by
      unfold keptL
      rw [e4,if_neg (by decide),if_neg (by decide),if_neg (by decide),if_pos rfl])
  rw [atKey_put_other (fun e=>e4 (hkey.1 e))] at hd
  by_cases e3:key.data.toList=kJoin.data.toList
  · rw [hkey.2 e3,atKey_put_same m2 (hk0 _)] at hd
    exact end_ (DataW.held.inj hd) (strs_heap h3 rfl (by decide) (by decide) _ trivial) (by
      unfold keptL
      rw [e3,if_neg (by decide),if_neg (by decide),if_pos rfl])
  rw [atKey_put_other (fun e=>e3 (hkey.1 e))] at hd
  by_cases e2:key.data.toList=kPower.data.toList
  · rw [hkey.2 e2,atKey_put_same m1 (hk0 _)] at hd
    exact end_ (DataW.held.inj hd) (strs_heap h2 rfl (by decide) (by decide) _ trivial) (by
      unfold keptL
      rw [e2,if_neg (by decide),if_pos rfl])
  rw [atKey_put_other (fun e=>e2 (hkey.1 e))] at hd
  by_cases e1:key.data.toList=kMember.data.toList
  · rw [hkey.2 e1,atKey_put_same m0 (hk0 _)] at hd
    exact end_ (DataW.held.inj hd) (strs_heap h1 rfl (by decide) (by decide) _ trivial) (by
      unfold keptL
      rw [if_pos e1])
  rw [atKey_put_other (fun e=>e1 (hkey.1 e))] at hd
  exact end_ (DataW.held.inj hd) (strs_nil w _) (by
    unfold keptL
    rw [if_neg e1,if_neg e2,if_neg e3,if_neg e4])
end Go.Proofs.YtapcmbbhhclepaaGreatDoor
namespace Go.Proofs.YtapcmbbhhclepaaGreatDoor
open Go.RowKit
theorem contains_any {w:World} {S:Nat→Prop} {a:Option Addr} {n c:Nat} {l:List ByteArray} (h:Strs w S (.slice a n c) l) (x:ByteArray) :
    Calls Tryz.prog 37 #[.slice a n c,.string x] w fun e w'=>e=.returned (.bool (Lib.containsS l x))∧w'=w:=by
  obtain ⟨rfl,h2,h3,_,hc⟩:=h.out
  by_cases hl:0 < l.length
  · obtain ⟨b,off,rfl,_,hcell⟩:=hc hl
    refine (Tryz.slices_Contains_string b off l.length c l x w (Nat.le_refl _) (by unfold maxLen at h3;omega) hcell).mono ?_
    rintro e w' ⟨he,hw⟩
    rw [List.take_length] at he
    exact ⟨he,hw⟩
  · have h0:l=[]:=List.length_eq_zero_iff.1 (by omega)
    subst h0
    exact Tryz.slices_Contains_string_empty a c x w
set_option maxHeartbeats 1000000 in
theorem Kept_any (kind key:ByteArray) (w:World) (hk:kind.size≤maxLen) :
    Calls Tryz.prog 15 #[.string kind,.string key] w fun e w'=>e=.returned (.bool (keptB kind key))∧Below w.heap.size w w':=by
  obtain ⟨q,hq⟩:∃ q,(kind.toList == kCreate.toList)=q:=⟨_,rfl⟩
  unfold keptB
  rw [hq]
  have e:kCreate.toList=[109,46,114,111,111,109,46,99,114,101,97,116,101]:=by kernel_rfl
  rw [e] at hq
  clear e
  cases q with
  | true =>
    go_enter Tryz.func15,Tryz.ntmps15
    go_wp2_with fail
    go_ret
    exact ⟨rfl,Below.refl _ _⟩
  | false =>
    go_enter Tryz.func15,Tryz.ntmps15
    go_wp2_with fail
    refine (kept_any w).mono ?_
    rintro e w1 ⟨b1,b2,b3,b4,rfl,hown,h1,h2,h3,h4,_,hb⟩
    obtain ⟨a,n,c,hrun,hs⟩:=lookup_any w1 _ b1 b2 b3 b4 0 hown h1 h2 h3 h4 kind hk
    have HS:=hide hs
    have HB:=hide hb
    clear hown h1 h2 h3 h4 hs hb
    go_wp2_with fail
    refine (contains_any HS.out key).mono ?_
    rintro e w2 ⟨rfl,rfl⟩
    go_wp2_with fail
    go_ret
    exact ⟨rfl,HB.out⟩
end Go.Proofs.YtapcmbbhhclepaaGreatDoor
namespace Go.Proofs.YtapcmbbhhclepaaGreatDoor
open Go.RowKit
abbrev St (s:ByteArray) (a:Nat) (e:Int) (d:Nat):Value:=.agg #[.string s,.int .i64 (a:Int),.int .i64 e,.int .i64 (d:Int)]
def B4 (w:World) (g:Nat) (c0 c1 c2 c3:Value):Prop:=w.heap[g]? = some (.cells #[c0,c1,c2,c3] 65 (0,0))
theorem B4.cells {w:World} {g:Nat} {c0 c1 c2 c3:Value} (h:B4 w g c0 c1 c2 c3):w.cell? ⟨g,0,none⟩=some c0∧w.cell? ⟨g,1,none⟩=some c1∧w.cell? ⟨g,2,none⟩=some c2∧w.cell? ⟨g,3,none⟩=some c3:=by
  refine ⟨?_,?_,?_,?_⟩ <;> (rw [Lib.cell_of_heap h];rfl)
theorem B4.free {w:World} {g:Nat} {c0 c1 c2 c3:Value} (h:B4 w g c0 c1 c2 c3) (o:Nat):w.frozen? ⟨g,o,none⟩=false:=Lib.frozen_of_heap h o
theorem b4_new (w:World) (c0 c1 c2 c3:Value) (g:Nat) (hg:g=w.heap.size):B4 (w.alloc (.cells #[c0,c1,c2,c3] 65)) g c0 c1 c2 c3:=by
  subst hg
  show (w.alloc _).heap[w.heap.size]? = _
  simp only [World.alloc,Array.getElem?_push_size]
theorem B4.keep {w w':World} {g:Nat} {c0 c1 c2 c3:Value} (h:B4 w g c0 c1 c2 c3) (k:Below w.heap.size w w'):B4 w' g c0 c1 c2 c3:=by
  unfold B4
  rw [k.block g (Array.getElem?_eq_some_iff.1 h).1]
  exact h
theorem B4.other {w:World} {g g' o:Nat} {c0 c1 c2 c3:Value} (h:B4 w g c0 c1 c2 c3) (v:Value) (hg:g≠g'):B4 (w.setCell ⟨g',o,none⟩ v) g c0 c1 c2 c3:=by
  unfold B4
  simp only [World.setCell]
  rw [Array.getElem?_modify,if_neg (fun e=>hg e.symm)]
  exact h
theorem B4.set0 {w:World} {g:Nat} {c0 c1 c2 c3:Value} (h:B4 w g c0 c1 c2 c3) (v:Value):B4 (w.setCell ⟨g,0,none⟩ v) g v c1 c2 c3:=by
  unfold B4 at h ⊢
  simp [World.setCell,Array.getElem?_modify,h]
theorem B4.set1 {w:World} {g:Nat} {c0 c1 c2 c3:Value} (h:B4 w g c0 c1 c2 c3) (v:Value):B4 (w.setCell ⟨g,1,none⟩ v) g c0 v c2 c3:=by
  unfold B4 at h ⊢
  simp [World.setCell,Array.getElem?_modify,h]
theorem B4.set2 {w:World} {g:Nat} {c0 c1 c2 c3:Value} (h:B4 w g c0 c1 c2 c3) (v:Value):B4 (w.setCell ⟨g,2,none⟩ v) g c0 c1 v c3:=by
  unfold B4 at h ⊢
  simp [World.setCell,Array.getElem?_modify,h]
theorem B4.set3 {w:World} {g:Nat} {c0 c1 c2 c3:Value} (h:B4 w g c0 c1 c2 c3) (v:Value):B4 (w.setCell ⟨g,3,none⟩ v) g c0 c1 c2 v:=by
  unfold B4 at h ⊢
  simp [World.setCell,Array.getElem?_modify,h]
def At (s:ByteArray) (a:Nat) (u:List UInt8):Prop:=a≤s.size∧s.data.toList.drop a=u
theorem At.len {s:ByteArray} {a:Nat} {u:List UInt8} (h:At s a u):a+u.length=s.size:=by
  have h1:=h.1
  have h2:s.data.toList.length=s.size:=by simp
  rw [← h.2,List.length_drop]
  omega
theorem At.byte {s:ByteArray} {a:Nat} {b:UInt8} {t:List UInt8} (h:At s a (b :: t)):∃ hl:a < s.size,s[a]'hl=b:=by
  have hl:=h.len
  rw [List.length_cons] at hl
  have hl2:a < s.size:=by omega
  refine ⟨hl2,?_⟩
  have h3:s.data.toList[a]? = some b:=by
    have:=congrArg (fun l=>l[0]?) h.2
    simpa [List.getElem?_drop] using this
  rw [Array.getElem?_toList] at h3
  obtain ⟨h4,h5⟩:=Array.getElem?_eq_some_iff.1 h3
  exact h5
theorem At.next {s:ByteArray} {a:Nat} {b:UInt8} {t:List UInt8} (h:At s a (b :: t)):At s (a+1) t:=by
  have hl:=h.len
  rw [List.length_cons] at hl
  refine ⟨by omega,?_⟩
  rw [← List.drop_drop,h.2]
  rfl
theorem At.of_drop {s:ByteArray} {a:Nat} {u:List UInt8} (h:At s a u) (n:Nat) (hn:n≤u.length):At s (a+n) (u.drop n):=by
  have hl:=h.len
  refine ⟨by omega,?_⟩
  rw [← List.drop_drop,h.2]
set_option maxHeartbeats 1000000 in
theorem fail_any (s:ByteArray) (a:Nat) (e n:Int) (d:Nat) (w:World) :
    Calls Tryz.prog 63 #[St s a e d,.int .i64 n] w fun e' w'=>e'=.returned (St s a n d)∧Below w.heap.size w w':=by
  go_enter Tryz.func63,Tryz.ntmps63
  go_wp2_with fail
  obtain ⟨c0,c1,c2,c3⟩:=(b4_new (w.alloc (.cells #[.string s,.int .i64 (a:Int),.int .i64 n,.int .i64 (d:Int)] 65)) (.string s) (.int .i64 (a:Int)) (.int .i64 n) (.int .i64 (d:Int)) (w.heap.size+1) (by simp)).cells
  exact bodyPost_ret (v:=St s a n d) (by simp [results,Tryz.results63,go_sem,c0,c1,c2,c3]) rfl ⟨rfl,bthen (below_alloc _ _) (below_alloc _ _)⟩
theorem byte_eq (b c:UInt8):((b.toNat:Int) == (c.toNat:Int))=(b == c):=by
  rw [Bool.eq_iff_iff,beq_iff_eq,beq_iff_eq]
  constructor
  · intro h
    exact UInt8.toNat_inj.1 (by omega)
  · rintro rfl
    rfl
set_option maxHeartbeats 1000000 in
theorem is_any (s:ByteArray) (a:Nat) (d:Nat) (c:UInt8) (u:List UInt8) (w:World) (h:At s a u) (hs:s.size≤4294967296) (q:Bool) (hq:(u.head? == some c)=q) :
    Calls Tryz.prog 94 #[St s a 0 d,.int .u8 (c.toNat:Int)] w fun e' w'=>e'=.returned (.bool q)∧Below w.heap.size w w':=by
  cases u with
  | nil =>
    have hl:=h.len
    rw [List.length_nil] at hl
    have h1:¬ a < s.size:=by omega
    have h2:q=false:=by rw [← hq];rfl
    subst h2
    clear hq h hl
    go_enter Tryz.func94,Tryz.ntmps94
    go_wp2_with fail
    go_ret
    exact ⟨rfl,below_alloc _ _⟩
  | cons b t =>
    obtain ⟨hl,hb⟩:=h.byte
    have h2:(((s[a]'hl).toNat:Int) == (c.toNat:Int))=q:=by
      rw [byte_eq,hb,← hq]
      rfl
    have H2:Hid _:=h2
    clear hq h hb h2
    go_enter Tryz.func94,Tryz.ntmps94
    go_wp2_with fail
    rw [H2.out]
    go_ret
    exact ⟨rfl,below_alloc _ _⟩
end Go.Proofs.YtapcmbbhhclepaaGreatDoor
