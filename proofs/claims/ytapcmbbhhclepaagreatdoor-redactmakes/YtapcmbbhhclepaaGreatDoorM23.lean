/-
  What this claim takes of the earlier layers' texts: WRight WPart.
-/
import Derived.Test.YtapcmbbhhclepaaGreatDoorM22
import Derived.BigRegion
set_option linter.unusedVariables false
set_option linter.unusedSimpArgs false
set_option maxRecDepth 100000
namespace Go.Proofs.YtapcmbbhhclepaaGreatDoor
open Go.RowKit
theorem num_ok1 {k n:Int} (h0:0≤k) (h5:k≤5) (hk:(k == 1)=true) (hn:((n == 0) || (n == 1))=true):(!(V.kindOk k && V.numOk k n))=false:=by
  have e:k=1:=by simpa using hk
  subst e;simp [V.kindOk,V.numOk,hn]
theorem num_ok0 {k n:Int} (h0:0≤k) (h5:k≤5) (hn:(n != 0)=false):(!(V.kindOk k && V.numOk k n))=false:=by
  have e:n=0:=by simpa using hn
  subst e;simp [V.kindOk,h0,h5,V.numOk]
theorem num_bad0 {k n:Int} (hn:(n != 0)=true) (h1:(k != 1)=true) (h2:(k != 2)=true):(!(V.kindOk k && V.numOk k n))=true:=by
  have e:n≠0:=by simpa using hn
  have e1:k≠1:=by simpa using h1
  have e2:k≠2:=by simpa using h2
  simp [V.numOk,e,e1,e2]
theorem num_ok2 {k n:Int} (h0:0≤k) (h5:k≤5) (h2:(k != 2)=false) (hA:-9007199254740991≤n) (hB:n≤9007199254740991):(!(V.kindOk k && V.numOk k n))=false:=by
  have e2:k=2:=by simpa using h2
  subst e2;simp [V.kindOk,V.numOk,hA,hB]
theorem num_bad2 {k n:Int} (h2:(k != 2)=false) (h:n < -9007199254740991∨9007199254740991 < n):(!(V.kindOk k && V.numOk k n))=true:=by
  have e2:k=2:=by simpa using h2
  subst e2;simp [V.kindOk,V.numOk];omega
theorem num_bad1 {k n:Int} (hn:(n != 0)=true) (h1:(k == 1)=true) (h2:(n != 1)=true):(!(V.kindOk k && V.numOk k n))=true:=by
  have e:n≠0:=by simpa using hn
  have e1:k=1:=by simpa using h1
  have e2:n≠1:=by simpa using h2
  simp [V.numOk,e,e1,e2]
theorem ors_false {k n:Int} (h0:0≤k) (h5:k≤5) (hA:-9007199254740991≤n) (hB:n≤9007199254740991):(decide (k < 0) || decide (5 < k) || decide (n < -9007199254740991) || decide (9007199254740991 < n))=false:=by
  rw [decide_eq_false (by omega),decide_eq_false (by omega),decide_eq_false (by omega),decide_eq_false (by omega)];rfl
theorem textOk3 {k:Int} {t:ByteArray} (hk:k=3) (ht:t.toList.isEmpty=false):V.textOk k t=V.utf t:=by simp [V.textOk,hk,ht]
theorem num_badk {k n:Int} (h:k < 0∨5 < k):(!(V.kindOk k && V.numOk k n))=true:=by
  have e:V.kindOk k=false:=by simp [V.kindOk];omega
  simp [e]
set_option maxHeartbeats 8000000 in
set_option maxRecDepth 100000 in
theorem refRight_any (d:Nat):∀ (v:Value) (x:V) (w:World) (S:Nat→Prop),IsD w S d v x→V.wt x≤4294967296 →
    Calls Tryz.prog 22 #[v] w fun e w'=>e=.returned (.bool (V.right x))∧Below w.heap.size w w':=by
  induction d with
  | zero=>intro v x w S h;exact h.elim
  | succ d ih =>
    intro v x w S h hwt;obtain ⟨kv,a,cap,c,rfl,h2,h3,h4,h5,h6,h7⟩:=h;obtain ⟨k,n,t,ks,l⟩:=x;simp only at *;rw [V.wt_mk] at hwt;have hlen:l.length≤4294967296:=Nat.le_trans (V.wtL_len l) (by omega);have hlenk:ks.length≤4294967296:=Nat.le_trans (V.wtK_len ks) (by omega);have HW:=hide hwt;clear hwt;obtain ⟨a1,c1,rfl,_⟩:=id h2;rw [V.right_mk];go_enter Tryz.func22,Tryz.ntmps22
    go_upto_region 1 with fail
    go_cut [51] (fun s wc=>s=.bool (!(V.kindOk k && V.numOk k n))∧wc=w.alloc (.cells #[.int .i64 k,.int .i64 n,.string t,.slice a1 ks.length c1,.slice a l.length cap] 27))
    case first =>
      by_cases c1':0≤k
      · by_cases c2':k≤5
        · cases b1:(n != 0) with
          | false =>
            have hn:n=0:=by simpa using b1
            have hA:-9007199254740991≤n:=by omega
            have hB:n≤9007199254740991:=by omega
            have HN:=hide hn;clear hn;cases b4:(k == 1) with
            | true =>
              go_wp2_with fail
              go_meet
              exact ⟨congrArg Value.bool ((ors_false c1' c2' hA hB).trans (num_ok1 c1' c2' b4 (by rw [HN.out];rfl)).symm),rfl⟩
            | false =>
              go_wp2_with fail
              go_meet
              exact ⟨congrArg Value.bool ((ors_false c1' c2' hA hB).trans (num_ok0 c1' c2' b1).symm),rfl⟩
          | true =>
            cases b2:(k != 1) with
            | true =>
              have b4:(k == 1)=false:=by simpa using b2
              cases b3:(k != 2) with
              | true =>
                go_wp2_with fail
                go_meet
                exact ⟨congrArg Value.bool (num_bad0 b1 b2 b3).symm,rfl⟩
              | false =>
                by_cases hA:-9007199254740991≤n
                · by_cases hB:n≤9007199254740991
                  · go_wp2_with fail
                    go_meet
                    exact ⟨congrArg Value.bool ((ors_false c1' c2' hA hB).trans (num_ok2 c1' c2' b3 hA hB).symm),rfl⟩
                  · go_wp2_with fail
                    go_meet
                    exact ⟨congrArg Value.bool (num_bad2 b3 (.inr (by omega))).symm,rfl⟩
                · go_wp2_with fail
                  go_meet
                  exact ⟨congrArg Value.bool (num_bad2 b3 (.inl (by omega))).symm,rfl⟩
            | false =>
              have b4:(k == 1)=true:=by simpa using b2
              cases b5:(n != 1) with
              | true =>
                go_wp2_with fail
                go_meet
                exact ⟨congrArg Value.bool (num_bad1 b1 b4 b5).symm,rfl⟩
              | false =>
                have hn:n=1:=by simpa using b5
                have hA:-9007199254740991≤n:=by omega
                have hB:n≤9007199254740991:=by omega
                have HN:=hide hn;clear hn
                go_wp2_with fail
                go_meet
                exact ⟨congrArg Value.bool ((ors_false c1' c2' hA hB).trans (num_ok1 c1' c2' b4 (by rw [HN.out];rfl)).symm),rfl⟩
        · go_wp2_with fail
          go_meet
          exact ⟨congrArg Value.bool (num_badk (.inr (by omega))).symm,rfl⟩
      · go_wp2_with fail
        go_meet
        exact ⟨congrArg Value.bool (num_badk (.inl (by omega))).symm,rfl⟩
    case rest =>
      obtain ⟨rfl,rfl⟩:=hcut;cases hkn:(V.kindOk k && V.numOk k n) with
      | false =>
        go_wp2_with fail
        go_ret
        refine ⟨ret_bool ?_,below_alloc _ _⟩;rw [hkn];simp only [Bool.false_and]
      | true =>
        have HKN:=hide hkn;clear hkn;have hbx:=box5_new w (.int .i64 k) (.int .i64 n) (.string t) (.slice a1 ks.length c1) (.slice a l.length cap) 27
        go_upto_region 3 with fail
        go_cut [65] (fun s wc=>s=.bool (!(V.textOk k t))∧Below w.heap.size w wc∧Box5 wc w.heap.size (.int .i64 k) (.int .i64 n) (.string t) (.slice a1 ks.length c1) (.slice a l.length cap))
        case first =>
          cases hte:t.toList.isEmpty with
          | true =>
            go_wp2_with fail
            go_meet
            exact ⟨by simp [V.textOk,hte],below_alloc _ _,hbx⟩
          | false =>
            cases b3:(k != 3) with
            | true =>
              go_wp2_with fail
              go_meet
              have:k≠3:=by simpa using b3
              exact ⟨by simp [V.textOk,hte,this],below_alloc _ _,hbx⟩
            | false =>
              go_wp2_with fail
              refine (refCheck_is _ _ _ h5 rfl).mono ?_;rintro e w1 ⟨rfl,b1⟩
              go_wp2_with fail
              go_meet
              have:k=3:=by simpa using b3
              exact ⟨congrArg Value.bool (by rw [textOk3 this hte];rw [Bool.eq_iff_iff];simp [V.utf]),bthen (below_alloc _ _) b1,hbx.keep b1⟩
        case rest =>
          clear hbx;obtain ⟨rfl,bc,hbx⟩:=hcut;cases htx:V.textOk k t with
          | false =>
            go_wp2_with fail
            go_ret
            refine ⟨ret_bool ?_,bc⟩;rw [htx,Bool.and_false,Bool.false_and,Bool.false_and,Bool.false_and]
          | true =>
            have HTX:=hide htx;clear htx;have bcw:=bc;obtain ⟨x0,x1,x2,x3,x4⟩:=id hbx
            go_upto_region 5 with fail
            go_cut [94] (fun s wc=>s=.bool (!(V.keysOk k ks l.length))∧Below w.heap.size w wc∧Box5 wc w.heap.size (.int .i64 k) (.int .i64 n) (.string t) (.slice a1 ks.length c1) (.slice a l.length cap))
            case first =>
              cases b5:(k != 5) with
              | true =>
                have b5':(k == 5)=false:=by simpa using b5
                have hk5:k≠5:=by simpa using b5
                have HK5:=hide hk5;clear hk5
                by_cases hke:0 < ks.length
                · have hke':(0:Int) < (ks.length:Int):=by omega
                  go_wp2_with fail
                  go_meet
                  refine ⟨congrArg Value.bool ?_,bc,hbx⟩;unfold V.keysOk;rw [if_neg HK5.out];cases ks with
                  | nil=>simp at hke
                  | cons _ _=>rfl
                · have hke':decide (0 < ks.length)=false:=decide_eq_false hke
                  go_wp2_with fail
                  go_meet
                  refine ⟨congrArg Value.bool ?_,bc,hbx⟩;unfold V.keysOk;rw [if_neg HK5.out];cases ks with
                  | nil=>rfl
                  | cons _ _=>simp at hke
              | false =>
                have b5':(k == 5)=true:=by simpa using b5
                have hk5:k=5:=by simpa using b5
                have HK5:=hide hk5;clear hk5
                by_cases hle:ks.length=l.length
                · have HLE:=hide hle
                  have hne:((ks.length:Int) != (l.length:Int))=false:=by simp;omega
                  clear hle
                  go_wp2_with fail
                  refine (refKeys_any (h2.below bc) hlenk _ rfl).mono ?_;rintro e w1 ⟨rfl,b1⟩
                  go_wp2_with fail
                  go_meet
                  refine ⟨congrArg Value.bool ?_,bthen bc b1,hbx.keep b1⟩;unfold V.keysOk;rw [if_pos HK5.out,decide_eq_true HLE.out,Bool.and_true]
                · have HLE:=hide hle
                  have hne:((ks.length:Int) != (l.length:Int))=true:=by simp;omega
                  clear hle
                  go_wp2_with fail
                  go_meet
                  refine ⟨congrArg Value.bool ?_,bc,hbx⟩;unfold V.keysOk;rw [if_pos HK5.out,decide_eq_false HLE.out,Bool.and_false];rfl
            case rest =>
              clear hbx bc x0 x1 x2 x3 x4;obtain ⟨rfl,bc,hbx⟩:=hcut;cases hky:V.keysOk k ks l.length with
              | false =>
                go_wp2_with fail
                go_ret
                refine ⟨ret_bool ?_,bc⟩;rw [hky,Bool.and_false,Bool.false_and,Bool.false_and]
              | true =>
                have HKY:=hide hky;clear hky;obtain ⟨x0,x1,x2,x3,x4⟩:=id hbx
                go_upto_region 7 with fail
                go_cut [103] (fun s wc=>s=.bool (decide (k < 4) && decide (0 < l.length))∧Below w.heap.size w wc∧Box5 wc w.heap.size (.int .i64 k) (.int .i64 n) (.string t) (.slice a1 ks.length c1) (.slice a l.length cap))
                case first =>
                  by_cases hk4:k < 4
                  · go_wp2_with fail
                    go_meet
                    exact ⟨congrArg Value.bool (by rw [decide_eq_true hk4,Bool.true_and]),bc,hbx⟩
                  · go_wp2_with fail
                    go_meet
                    exact ⟨congrArg Value.bool (by rw [decide_eq_false (by omega),Bool.false_and]),bc,hbx⟩
                case rest =>
                  clear hbx bc x0 x1 x2 x3 x4;obtain ⟨rfl,bc,hbx⟩:=hcut;cases hk4:(decide (k < 4) && decide (0 < l.length)) with
                  | true =>
                    go_wp2_with fail
                    go_ret
                    refine ⟨ret_bool ?_,bc⟩;simp only [Bool.and_eq_true,decide_eq_true_eq] at hk4;have e1:(k == 4)=false:=by rw [beq_eq_false_iff_ne];omega
                    have e2:(k == 5)=false:=by rw [beq_eq_false_iff_ne];omega
                    have e3:l.isEmpty=false:=by
                      cases l with
                      | nil=>simp at hk4
                      | cons _ _=>rfl
                    rw [e1,e2,e3,Bool.or_false,Bool.or_false,Bool.and_false]
                  | false =>
                    have hlast:V.kindOk k=true→((k == 4) || (k == 5) || l.isEmpty)=true:=by
                      intro hko;simp only [V.kindOk,Bool.and_eq_true,decide_eq_true_eq] at hko
                      by_cases h4':k < 4
                      · rw [decide_eq_true h4',Bool.true_and] at hk4
                        have:l=[]:=List.eq_nil_of_length_eq_zero (by have:=of_decide_eq_false hk4;omega)
                        subst this;simp
                      · have:k=4∨k=5:=by omega
                        rcases this with rfl | rfl <;> simp
                    have HLA:=hide hlast;have HK4:=hide hk4;clear hlast
                    go_wp2_with fail
                    clear hk4
                    go_loopg [3] l.length (fun g i wr=>∃ j:Nat,j+g=l.length∧i=.int .i64 j∧Hid ((l.take j).all V.right=true)∧Below w.heap.size w wr∧Box5 wr w.heap.size (.int .i64 k) (.int .i64 n) (.string t) (.slice a1 ks.length c1) (.slice a l.length cap))
                    case atStart=>exact ⟨0,by omega,rfl,rfl,bc,hbx⟩
                    case round =>
                      clear hbx bc;obtain ⟨j,hj,rfl,HA,bj,hbox⟩:=hrel;obtain ⟨x0,x1,x2,x3,x4⟩:=id hbox
                      by_cases hlt:j < l.length
                      · obtain ⟨b,off,k',n',t',a1',n1',c1',a2',n2',c2',rfl,hel,e0,e1,e2,e3,e4⟩:=elem_open h6 bj hlt (h7 j hlt)
                        have hwx:=V.wtL_mem (List.getElem_mem hlt);have H1:=hide hwx;clear hwx;cases hrx:V.right l[j] with
                        | true =>
                          have HX:=hide hrx;clear hrx
                          go_wp2_with fail
                          refine (ih _ _ _ S hel (Nat.le_trans H1.out (by have:=HW.out;omega))).mono ?_;rintro e w2 ⟨rfl,b2⟩;rw [HX.out];have hbox':=hbox.keep b2
                          go_wp2
                          go_roundg (gk - 1)
                          case measure=>omega
                          case rel =>
                            refine ⟨j+1,by omega,rfl,?_,bthen bj b2,hbox'⟩;unfold Hid;rw [List.take_succ_eq_append_getElem hlt,List.all_append,HA.out];simp [HX.out]
                        | false =>
                          have HX:=hide hrx;clear hrx
                          go_wp2_with fail
                          refine (ih _ _ _ S hel (Nat.le_trans H1.out (by have:=HW.out;omega))).mono ?_;rintro e w2 ⟨rfl,b2⟩;rw [HX.out]
                          go_wp2
                          go_ret
                          refine ⟨ret_bool ?_,bthen bj b2⟩
                          have q:l.all V.right=false:=by
                            rw [List.all_eq_false];exact ⟨l[j],List.getElem_mem hlt,by simp [HX.out]⟩
                          rw [q,Bool.and_false,Bool.false_and]
                      · have hje:j=l.length:=by omega
                        subst hje;have HA':l.all V.right=true:=by have:=HA.out;rwa [List.take_length] at this
                        have HAA:=hide HA';clear HA'
                        go_wp2
                        go_ret
                        refine ⟨ret_bool ?_,bj⟩;have hkn:=HKN.out
                        have hko:V.kindOk k=true:=by
                          rw [Bool.and_eq_true] at hkn;exact hkn.1
                        rw [hkn,HTX.out,HKY.out,HAA.out,HLA.out hko];rfl
theorem refRight_is {v:Value} {x:V} {w:World} {S:Nat→Prop} (h:Is w S v x) (hwt:V.wt x≤4294967296) (r:Bool) (hn:V.right x=r) :
    Calls Tryz.prog 22 #[v] w fun e w'=>e=.returned (.bool r)∧Below w.heap.size w w':=by
  subst hn;obtain ⟨d,h⟩:=h;exact refRight_any d v x w S h hwt
end Go.Proofs.YtapcmbbhhclepaaGreatDoor
namespace Go.Proofs.YtapcmbbhhclepaaGreatDoor
open Go.RowKit
namespace V
def part (zs:List Int) (len:Nat) (k:Int):V :=
  if (valV zs len).list.isEmpty || !(valV zs len).right then nul else (valV zs len).list.getD (k.toNat % (valV zs len).list.length) nul
theorem wt_part (zs:List Int) (len:Nat) (k:Int):wt (part zs len k)≤4000:=by
  unfold part;have hn:wt nul=1:=by unfold nul;rw [wt_mk];rfl
  split
  · omega
  · have h1:=wt_val zs len
    simp only [List.getD];cases h:(valV zs len).list[k.toNat % (valV zs len).list.length]? with
    | none=>simp only [Option.getD_none];omega
    | some x =>
      have hm:=List.mem_of_getElem? h;have h2:=wtL_mem hm;have h3:=wtL_list (valV zs len);simp only [Option.getD_some];omega
theorem right_nul:right nul=true:=by
  unfold nul;rw [right_mk];have e2:textOk 0 ⟨#[]⟩=true:=by unfold textOk;rw [Lib.toList_data];rfl
  rw [e2];rfl
theorem right_part (zs:List Int) (len:Nat) (k:Int):right (part zs len k)=true:=by
  unfold part
  split
  · exact right_nul
  · rename_i h
    simp only [Bool.or_eq_true,Bool.not_eq_true',not_or,Bool.not_eq_true,Bool.not_eq_false] at h;have hr:=h.2
    have hl:0 < (valV zs len).list.length:=by
      rcases Nat.eq_zero_or_pos (valV zs len).list.length with e | e
      · have:=List.eq_nil_of_length_eq_zero e
        rw [this] at h;simp at h
      · exact e
    have hlt:k.toNat % (valV zs len).list.length < (valV zs len).list.length:=Nat.mod_lt _ hl;have e:(valV zs len).list.getD (k.toNat % (valV zs len).list.length) nul=(valV zs len).list[k.toNat % (valV zs len).list.length]:=by simp [List.getD,hlt]
    rw [e]
    have hall:(valV zs len).list.all right=true:=by
      generalize valV zs len=x at hr;obtain ⟨kk,n,t,ks,l⟩:=x;rw [right_mk] at hr;simp only [Bool.and_eq_true] at hr;exact hr.1.2
    exact List.all_eq_true.1 hall _ (List.getElem_mem hlt)
end V
theorem isRow_keep {w w':World} {a:Option Addr} {len cap:Nat} {zs:List Int} (h:IsRow .u8 w a len cap zs) (k:Below w.heap.size w w'):IsRow .u8 w' a len cap zs:=by
  rcases h with h | ⟨x,ha,hl,hm,hz,hcell,hwz⟩
  · exact .inl h
  · exact .inr ⟨x,ha,hl,hm,hz,fun i hi=>by rw [k.cell (p:=x.add i) (World.block_lt_of_cell? w _ (hcell i hi))];exact hcell i hi,hwz⟩
set_option maxHeartbeats 4000000 in
set_option maxRecDepth 100000 in
theorem part_any (a:Option Addr) (len cap:Nat) (zs:List Int) (k:Int) (w:World) (h:IsRow .u8 w a len cap zs) (hk0:0≤k) (hk1:k≤255) :
    Calls Tryz.prog 14 #[.slice a len cap,.int .u8 k] w fun e w'=>∃ k2 n t a1 n1 c1 a2 n2 c2,e=.returned (.agg #[.int .i64 k2,.int .i64 n,.string t,.slice a1 n1 c1,.slice a2 n2 c2])∧Is w' (fun b=>w.heap.size≤b) (.agg #[.int .i64 k2,.int .i64 n,.string t,.slice a1 n1 c1,.slice a2 n2 c2]) (V.part zs len k)∧Below w.heap.size w w':=by
  have HH:=hide h;clear h;go_enter Tryz.func14,Tryz.ntmps14
  go_wp2_with fail
  refine (val_any a len cap zs _ (isRow_keep HH.out (below_alloc _ _))).mono ?_;rintro e w1 ⟨va,vn,vc,rfl,hv,b1⟩;have hw:=V.wt_val zs len;obtain ⟨r1,r2,r3,r4,rfl⟩:=hv.parts;clear r1 r2 r3 r4;have hl:=V.len_wt (V.valV zs len);obtain ⟨X,hX⟩:∃ X,V.valV zs len=X:=⟨_,rfl⟩;rw [hX] at hv hw hl;rw [hX];have hp:V.part zs len k=if X.list.isEmpty || !X.right then V.nul else X.list.getD (k.toNat % X.list.length) V.nul:=by unfold V.part;rw [hX]
  have HP:=hide hp;have HV:=hide hv;have HW:=hide hw;have hl2:X.list.length≤4000:=by omega
  have pr:BoxF w1 w.heap.size _ _ _ _ _:=(boxF_at w _ _ _ _ _ 27 _ rfl).keep b1;have bb:=bthen (below_alloc w _) b1;clear hp hv hw hl hX b1;obtain ⟨LV,hLV⟩:∃ l,X.list=l:=⟨_,rfl⟩;rw [hLV];rw [hLV] at hl2;have HLV:=hide hLV;clear hLV
  by_cases h0:LV.length=0
  · have hb:((LV.length:Int) == 0)=true:=by simp [h0]
    have H0:=hide h0;clear h0;obtain ⟨⟨y0,y1,y2,y3,y4⟩,g0,g1,g2,g3,g4⟩:=id (pr.keep (below_alloc w1 (.cells #[.int .i64 4,.int .i64 0,.string ⟨#[]⟩,.slice none 0 0,.slice va LV.length vc] 27)))
    go_wp2_with fail
    obtain ⟨u0,u1,u2,u3,u4⟩:=Box5.all (pr.keep (below_alloc w1 (.cells #[.int .i64 4,.int .i64 0,.string ⟨#[]⟩,.slice none 0 0,.slice va LV.length vc] 27))).1 (.int .i64 0) (.int .i64 0) (.string ⟨#[]⟩) (.slice none 0 0) (.slice none 0 0);refine bodyPost_ret (v:=.agg #[.int .i64 0,.int .i64 0,.string ⟨#[]⟩,.slice none 0 0,.slice none 0 0]) (by simp [results,Tryz.results14,go_sem,u0,u1,u2,u3,u4]) rfl ?_;refine ⟨0,0,⟨#[]⟩,none,0,0,none,0,0,rfl,?_,(((((bthen bb (below_alloc _ _)).setCell (Nat.le_refl _) _).setCell (Nat.le_refl _) _).setCell (Nat.le_refl _) _).setCell (Nat.le_refl _) _).setCell (Nat.le_refl _) _⟩
    have e:V.part zs len k=V.nul:=by
      rw [HP.out,HLV.out,List.eq_nil_of_length_eq_zero H0.out];rfl
    rw [e];exact is_plain _ _ 0 0 ⟨#[]⟩ (by decide)
  · have hb:((LV.length:Int) == 0)=false:=by rw [beq_eq_false_iff_ne];omega
    have hne:LV.isEmpty=false:=by
      cases LV with
      | nil=>simp at h0
      | cons _ _=>rfl
    have HNE:=hide hne;clear hne
    have hvv:Is (w1.alloc (.cells #[.int .i64 4,.int .i64 0,.string ⟨#[]⟩,.slice none 0 0,.slice va LV.length vc] 27)) (fun b=>w.heap.size+1≤b) (.agg #[.int .i64 4,.int .i64 0,.string ⟨#[]⟩,.slice none 0 0,.slice va LV.length vc]) X:=by
      have:=HV.out
      rw [HLV.out] at this;exact (this.weak (fun b _ hb=>by simpa using hb)).below (below_alloc _ _)
    cases hr:X.right with
    | false =>
      have HR:=hide hr;clear hr
      go_wp2_with fail
      refine (refRight_is hvv (Nat.le_trans HW.out (by decide)) false HR.out).mono ?_;rintro e w2 ⟨rfl,b2⟩;have pr2:=(pr.keep (below_alloc _ _)).keep b2;obtain ⟨⟨y0,y1,y2,y3,y4⟩,g0,g1,g2,g3,g4⟩:=id pr2
      go_wp2_with fail
      obtain ⟨u0,u1,u2,u3,u4⟩:=Box5.all pr2.1 (.int .i64 0) (.int .i64 0) (.string ⟨#[]⟩) (.slice none 0 0) (.slice none 0 0);refine bodyPost_ret (v:=.agg #[.int .i64 0,.int .i64 0,.string ⟨#[]⟩,.slice none 0 0,.slice none 0 0]) (by simp [results,Tryz.results14,go_sem,u0,u1,u2,u3,u4]) rfl ?_;refine ⟨0,0,⟨#[]⟩,none,0,0,none,0,0,rfl,?_,(((((bthen bb (bthen (below_alloc _ _) b2)).setCell (Nat.le_refl _) _).setCell (Nat.le_refl _) _).setCell (Nat.le_refl _) _).setCell (Nat.le_refl _) _).setCell (Nat.le_refl _) _⟩;have e:V.part zs len k=V.nul:=by rw [HP.out,HR.out];simp
      rw [e];exact is_plain _ _ 0 0 ⟨#[]⟩ (by decide)
    | true =>
      have HR:=hide hr;clear hr
      go_wp2_with fail
      refine (refRight_is hvv (Nat.le_trans HW.out (by decide)) true HR.out).mono ?_;rintro e w2 ⟨rfl,b2⟩;have pr2:=(pr.keep (below_alloc _ _)).keep b2;have pv2:=(boxF_at w1 (.int .i64 4) (.int .i64 0) (.string ⟨#[]⟩) (.slice none 0 0) (.slice va LV.length vc) 27 _ rfl).keep b2;have hvv2:=hvv.below b2;have hs1:w.heap.size < w1.heap.size:=cell_size pr.1.1;obtain ⟨p,hp⟩:∃ p,k.toNat % LV.length=p:=⟨_,rfl⟩;have hpl:p < LV.length:=by rw [← hp];exact Nat.mod_lt _ (by omega)
      obtain ⟨kv3,lv3,hq3,_,hl3,_⟩:=hvv2.open;simp only [Value.agg.injEq,Array.mk.injEq,List.cons.injEq,and_true] at hq3;obtain ⟨r1,r2,r3,r4,rfl⟩:=hq3;clear r1 r2 r3 r4;rw [HLV.out] at hl3;obtain ⟨b,off,k3,m3,t3,a13,n13,c13,a23,n23,c23,rfl,hel,q0,q1,q2,q3,q4⟩:=isL_open hl3 (Below.refl _ _) hpl
      have hpI:k % (LV.length:Int)=(p:Int):=by
        rw [← hp];have:(k.toNat:Int)=k:=Int.toNat_of_nonneg hk0
        rw [Int.natCast_emod,this]
      have hpt:k.tmod (LV.length:Int)=(p:Int):=by rw [Int.tmod_eq_emod_of_nonneg hk0];exact hpI
      have hkw:IntKind.i64.wrap k=k:=by rw [IntKind.wrap_i64];omega
      have hlz:((LV.length:Int) == 0)=false:=hb;have hlz':¬ (LV.length:Int)=0:=by omega
      have hpw:IntKind.i64.wrap (p:Int)=(p:Int):=by rw [IntKind.wrap_i64];omega
      have HEL:=hide hel;obtain ⟨⟨y0,y1,y2,y3,y4⟩,g0,g1,g2,g3,g4⟩:=id pr2;obtain ⟨⟨v0,v1,v2,v3,v4⟩,_⟩:=id pv2;have HPP:=hide hp;clear hel hvv hvv2 hl3 hp;have hpL:(p:Int) < (LV.length:Int):=by omega
      go_wp2_with fail
      go_region
      go_wp2_with fail
      obtain ⟨u0,u1,u2,u3,u4⟩:=Box5.all pr2.1 (.int .i64 k3) (.int .i64 m3) (.string t3) (.slice a13 n13 c13) (.slice a23 n23 c23);refine bodyPost_ret (v:=.agg #[.int .i64 k3,.int .i64 m3,.string t3,.slice a13 n13 c13,.slice a23 n23 c23]) (by simp [results,Tryz.results14,go_sem,u0,u1,u2,u3,u4]) rfl ?_;refine ⟨k3,m3,t3,a13,n13,c13,a23,n23,c23,rfl,?_,?_⟩
      · have kp:=keeps_set5 (S:=fun b=>w.heap.size+1≤b) (w:=w2) (g:=w.heap.size) (o:=0) (.int .i64 k3) (.int .i64 m3) (.string t3) (.slice a13 n13 c13) (.slice a23 n23 c23) (by omega)
        have e:V.part zs len k=LV[p]:=by
          rw [HP.out,HR.out,HLV.out,HNE.out];simp only [Bool.not_true,Bool.or_self,Bool.false_eq_true,if_false];simp [List.getD,HPP.out,List.getElem?_eq_getElem hpl]
        rw [e];refine Is.weak (S:=fun b=>w.heap.size+1≤b) (Is.keep (w:=w2) HEL.out ?_) (fun b _ hb=>Nat.le_of_succ_le hb);exact fun b hb hl=>kp b hb hl
      · exact ((((((bthen bb (bthen (below_alloc _ _) b2)).setCell (Nat.le_refl _) _).setCell (Nat.le_refl _) _).setCell (Nat.le_refl _) _).setCell (Nat.le_refl _) _).setCell (Nat.le_refl _) _).drew
end Go.Proofs.YtapcmbbhhclepaaGreatDoor
