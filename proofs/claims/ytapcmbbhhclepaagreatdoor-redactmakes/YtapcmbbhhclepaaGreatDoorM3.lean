/-
  What this claim takes of the earlier layers' texts: DWrite DSum DLaw DApp DTailsM SWalks SChunk.
-/
import Derived.Test.YtapcmbbhhclepaaGreatDoorM2
import Derived.Deep.WholeRow
import Derived.OpenShut
import Derived.Lib.EndianBits
set_option linter.unusedVariables false
set_option linter.unusedSimpArgs false
set_option maxRecDepth 100000
namespace Go.Proofs.YtapcmbbhhclepaaGreatDoor.Dig
open Go.RowKit Go.Shelf
attribute [local go_sem] Oper.semAt_some
def Hs (w:World) (g:Nat) (bs:List Int):Prop:=∃ s r,Blk w g 128 (hc s r bs.length)∧s.length=8∧r.length=64∧(∀ i:Nat,0≤r[i]?.getD 0∧r[i]?.getD 0≤255)∧(bs≠[]→s=Dg.sumOf bs)∧r.take (bs.length % 64)=bs.drop (bs.length - bs.length % 64)
theorem run_store_sum (w:World) (g:Nat) (s s' r:List Int) (n:Int) (hs:s.length=8) (hs':s'.length=8) (hb:Blk w g 128 (hc s r n)) :
    (storeCells ⟨g,0,none⟩ (wds s').toList).run Tryz.prog w=.ok () (w.setRow g (hc s' r n)):=by
  have h:=run_storeCells_at Tryz.prog g 0 128 (wds s').toList 0 (hc s r n) w hb (by simp [wds_size,hc_size];omega) (fun v hv=>(Array.all_eq_true_iff_forall_mem.1 (wds_one s')) v (by simpa using hv))
  have e:(((hc s r n).toList.take (0+0) ++ (wds s').toList ++ (hc s r n).toList.drop (0+0+(wds s').toList.length)).toArray)=hc s' r n:=by
    obtain ⟨a,b,c,d,e,f,g,i,rfl⟩:=Dg.eight hs;obtain ⟨a',b',c',d',e',f',g',i',rfl⟩:=Dg.eight hs';simp [hc,wds,hr]
  rw [e] at h;exact h
set_option maxRecDepth 100000 in
set_option maxHeartbeats 2000000 in
theorem write_any (g:Nat) (bs b:List Int) (a:Option Addr) (len cap:Nat) (w:World) (hH:Hs w g bs) (hB:IsB w a len cap b) (ho:Off g a len) (hg:0≠g) (hC:Cubes w) (hmax:bs.length+len≤1152921504606846976) :
    Calls Tryz.prog 92 #[.pointer (some ⟨g,0,none⟩),.slice a len cap] w fun e w'=>e=.returned (.int .i64 len)∧But g w w'∧Hs w' g (bs ++ b):=by
  obtain ⟨s,r,hb,hs,hr',h8,hsum,htk⟩:=hH;obtain ⟨n,hn⟩:∃ n,n=bs.length:=⟨_,rfl⟩;rw [← hn] at hb hmax;refine (callsIn_wide (n:=3)).1 (callsIn_of_wp_marks Tryz.func92 rfl trivial ?_ rfl);refine wpIn_wide.2 ?_;simp only [Tryz.ntmps92,List.size_toArray,List.length_cons,List.length_nil,Nat.reduceAdd,Nat.reduceSub,Array.replicate_succ,Array.replicate_zero,List.push_toArray,List.append_toArray,List.nil_append,List.cons_append]
  go_upto_region 1 with fail
  have hb0:Below w.heap.size w (w.alloc (.cells #[.pointer (some ⟨g,0,none⟩)] 99)):=(Below.refl _ _).alloc (Nat.le_refl _) _;have hbx:=blk_new w 99 #[.pointer (some ⟨g,0,none⟩)];have hgl:=hb.lt;obtain ⟨N,hN⟩:∃ N,N=w.heap.size:=⟨_,rfl⟩;rw [← hN] at hbx hgl ⊢;have HB0:=hide hb0;have hb1:=hb.below' hb0;have hB1:=hB.below hb0;have hC1:=hC.below' hb0;clear hb hB hC hb0;generalize w.alloc (.cells #[.pointer (some ⟨g,0,none⟩)] 99)=w1 at hbx HB0 hb1 hB1 hC1 ⊢;have hx1:=hbx.cell 0;simp only [List.getElem?_toArray,List.getElem?_cons_zero] at hx1;have hl1:=(hb1.cell 72).trans (hc_long hs hr');have HX:=hide hbx;have HB1:=hide hb1;have HI1:=hide hB1;have HC1:=hide hC1;have HN:=hide hN;have Hn:=hide hn;have Hs8:=hide hs;have Hr64:=hide hr';have H8:=hide h8;have HSum:=hide hsum;have HTk:=hide htk;have HO:=hide ho;have HG:=hide hg;clear hbx hb1 hB1 hC1 hN hn hs hr' h8 hsum htk ho hg
  go_upto_if 13 with fail
  go_cut [] from 13 to 17 (fun wc=>Hid (∃ r',Blk wc g 128 (hc (Dg.sumOf bs) r' n)∧r'.length=64∧(∀ i:Nat,0≤r'[i]?.getD 0∧r'[i]?.getD 0≤255)∧r'.take (n % 64)=bs.drop (n - n % 64)∧But g w1 wc))
  case first =>
    by_cases h0:n=0
    · have h0b:((n:Int) == 0)=true:=by simp [h0]
      have H0:=hide h0;have H0:=hide h0;have H0:=hide h0;have H0:=hide h0;have H0:=hide h0;have H0:=hide h0;have H0:=hide h0;have H0:=hide h0;have H0:=hide h0;have H0:=hide h0;have H0:=hide h0;have H0:=hide h0;have H0:=hide h0;clear h0
      go_upto_region 4 with fail
      clear h0b;generalize ((n:Int) == 0)=bz;refine' wp_region_facts [(fun _ _ v _=>v=(.pointer (some ⟨g,0,none⟩))),(fun _ _ v _=>v=(.agg (wds Dg.start))),(fun _ _ v _=>v=(.pointer (some ⟨g,0,none⟩))),(fun _ _ v _=>v=(.pointer (some ⟨g,0,none⟩)))] (by kernel_rfl) rfl ?hA (by kernel_rfl) (by kernel_rfl) (by kernel_rfl) rfl ?mono ?steps ?last
      case hA =>
        intro vs;simp only [puts,Act.put,List.setIfInBounds_toArray,List.set_cons_zero,List.set_cons_succ,Nat.zero_add,Nat.reduceAdd];rfl
      case mono=>exact ⟨mono_eq _,mono_eq _,mono_eq _,mono_eq _,trivial⟩
      case steps =>
        intro Q';refine And.intro ?_ <| And.intro ?_ <| And.intro ?_ <| And.intro ?_ <| trivial
        all_goals
          intro vs lo hi w' hM hd K' hK;dsimp only at hK ⊢;simp only [Act.put,List.setIfInBounds_toArray,List.set_cons_zero,List.set_cons_succ] at hK
        · have q0:=(hM.cell (p:=⟨N,0,none⟩) HX.out.lt).trans hx1
          go_simp;exact hK.out _ _ rfl (Below.refl _ _)
        · go_simp
          refine (start_any _).mono ?_;rintro e w7 ⟨rfl,b7⟩;exact hK.out _ _ rfl b7
        · have e0:vs 0=(.pointer (some ⟨g,0,none⟩)):=hd 0 (by kernel_rfl)
          simp only [e0] at hK ⊢;clear e0;go_simp;exact hK.out _ _ rfl (Below.refl _ _)
        · have e2:vs 2=(.pointer (some ⟨g,0,none⟩)):=hd 2 (by kernel_rfl)
          simp only [e2] at hK ⊢;clear e2;go_simp;exact hK.out _ _ rfl (Below.refl _ _)
      case last =>
        intro vs lo hi w' hM hlo hap hall K' Q' hK;have h1:vs 1=(.agg (wds Dg.start)):=hall.2.1;have h3:vs 3=(.pointer (some ⟨g,0,none⟩)):=hall.2.2.2.1;dsimp only;simp only [h1,h3];clear h1 h3 hall hap hlo;have hb2:=HB1.out.below' hM;have hst:=run_store_sum _ g s Dg.start r n Hs8.out rfl hb2;have hsz:(wds Dg.start).size=8:=rfl;go_simp;refine hK.out _ _ ?_;clear hK hst hsz;have b3:But g w1 (w'.setRow g (hc Dg.start r n)):=(But.of_below hM).row _;have hb3:=hb2.row (hc Dg.start r n)
        go_wp2_with fail
        go_meet
        case rel =>
          have hbe:bs=[]:=List.eq_nil_of_length_eq_zero (by rw [← Hn.out];exact H0.out);refine ⟨r,?_,Hr64.out,H8.out,?_,b3⟩
          · rw [hbe]
            exact hb3
          · rw [H0.out,hbe]
            rfl
    · have h0b:((n:Int) == 0)=false:=by simp;omega
      go_wp2_with fail
      go_meet
      case rel =>
        have hbe:bs≠[]:=fun e=>h0 (by rw [Hn.out,e];rfl)
        refine ⟨r,?_,Hr64.out,H8.out,by rw [Hn.out];exact HTk.out,But.refl _ _⟩;rw [← HSum.out hbe];exact HB1.out
  case rest =>
    obtain ⟨r2,hb2,hr2,h82,htk2,hbut2⟩:=hcut.out;clear hcut hx1 hl1 HB1 H8 HTk HSum Hs8 Hr64;have hx2:wc.cell? ⟨N,0,none⟩=some (.pointer (some ⟨g,0,none⟩)):=(hbut2.other HX.out (by omega)).cell 0;have HI2:Hid (IsB wc a len cap b):=HI1.out.but hbut2 HO.out;have HC2:Hid (Cubes wc):=HC1.out.but hbut2 HG.out;have HX2:Hid (Blk wc N 99 #[.pointer (some ⟨g,0,none⟩)]):=hbut2.other HX.out (by omega);have HB2:=hide hb2;have Hr2:=hide hr2;have H82:=hide h82;have HT2:=hide htk2;have HU2:=hide hbut2;clear hb2 hr2 h82 htk2 hbut2 HX HI1 HC1
    go_upto_region 5 with fail
    go_cut [5] from 18 to 20 (fun v wd=>∃ a' len' cap',v=.slice a' len' cap'∧Hid (∃ q r',q.length=len'∧q.length≤b.length∧IsB wd a' len' cap' q∧Off g a' len'∧Blk wd g 128 (hc (Dg.sums Dg.start (bs ++ b) ((n+b.length - q.length) / 64)) r' n)∧r'.length=64∧(∀ i:Nat,0≤r'[i]?.getD 0∧r'[i]?.getD 0≤255) ∧
        (bs ++ b).drop (n+b.length - q.length)=q∧((n+b.length - q.length) % 64=0∨(q=[]∧r'.take ((n+b.length) % 64)=(bs ++ b).drop (n+b.length - (n+b.length) % 64)))∧But g wc wd))
    case first =>
      go_wp2_with fail
      have hbl:=HI2.out.1
      by_cases hk0:n % 64=0
      · refine (fill_zero g _ r2 n a len cap _ (Dg.sumOf_length bs) Hr2.out HB2.out (by omega) (by omega) (by omega)).mono ?_
        rintro e w' ⟨rfl,rfl⟩
        go_wp2_with fail
        go_meet
        case rel =>
          refine ⟨a,len,cap,rfl,b,r2,hbl,Nat.le_refl _,HI2.out,HO.out,?_,Hr2.out,H82.out,?_,.inl (by omega),But.refl _ _⟩
          · rw [Nat.add_sub_cancel,Dg.sums_front _ _ _ _ (by rw [← Hn.out];omega)]
            have:=HB2.out
            unfold Dg.sumOf at this;rw [← Hn.out] at this;exact this
          · rw [Nat.add_sub_cancel,Hn.out]
            simp
      · obtain ⟨k,hk⟩:∃ k,k=n % 64:=⟨_,rfl⟩
        by_cases hlt:k+len < 64
        · refine (fill_part g _ r2 b n k a len cap _ (Dg.sumOf_length bs) Hr2.out HB2.out (by omega) (by omega) (by omega) (by omega) HI2.out hlt).mono ?_
          rintro e w' ⟨rfl,b3,hb3⟩;have HK:=hide hk;clear hk
          go_wp2_with fail
          go_meet
          case rel =>
            have hk:=HK.out;refine ⟨_,0,_,rfl,[],splice r2 b k,rfl,Nat.zero_le _,?_,(by have:=HO.out.cut len cap;rw [Nat.sub_self] at this;exact this),?_,?_,splice_bytes H82.out HI2.out.2.2.2.1 k,?_,?_,b3⟩
            · have:=(HI2.out.but b3 HO.out).cut (m:=len) (Nat.le_refl _)
              rw [Nat.sub_self,List.drop_eq_nil_of_le (by omega)] at this;exact this
            · have e1:Dg.sumOf bs=Dg.sums Dg.start (bs ++ b) ((n+b.length - ([]:List Int).length) / 64):=by
                have:=Dg.sumOf_more bs b (by rw [← Hn.out];omega)
                rw [← this];unfold Dg.sumOf;rw [List.length_append,← Hn.out];rfl
              rw [← e1];exact hb3
            · exact (splice_length _ _ _ (by rw [Hr2.out];omega)).trans Hr2.out
            · rw [List.drop_eq_nil_of_le (by simp [← Hn.out])]
            · refine .inr ⟨rfl,?_⟩
              have e2:(n+b.length) % 64=k+b.length:=by omega
              rw [e2,List.drop_append_of_le_length (by rw [← Hn.out];omega),show n+b.length - (k+b.length)=n - n % 64 by omega,← HT2.out,← hk];unfold splice;rw [List.append_assoc,List.take_append,List.take_take,List.length_take,Hr2.out,show min (k+b.length) k=k by omega,show k+b.length - min k 64=b.length by omega,List.take_append_of_le_length (Nat.le_refl _),List.take_length]
        · refine (fill_full g _ r2 b n k a len cap _ (Dg.sumOf_length bs) Hr2.out HB2.out (by omega) (by omega) (by omega) (by omega) HI2.out (by omega) HG.out HC2.out H82.out).mono ?_
          rintro e w' ⟨rfl,b3,hb3⟩;have HK:=hide hk;clear hk
          go_wp2_with fail
          go_meet
          case rel =>
            have hk:=HK.out;have hkk:k < 64:=by omega
            have hsp:splice r2 (b.take (64 - k)) k=bs.drop (n - n % 64) ++ b.take (64 - k):=by
              unfold splice;rw [show r2.drop (k+(b.take (64 - k)).length)=[] from List.drop_eq_nil_of_le (by rw [List.length_take,Hr2.out];omega),List.append_nil,show r2.take k=bs.drop (n - n % 64) by rw [hk];exact HT2.out]
            have hbb:bs ++ b=(bs ++ b.take (64 - k)) ++ b.drop (64 - k):=by rw [List.append_assoc,List.take_append_drop]
            have hdl:(b.drop (64 - k)).length=b.length - (64 - k):=by simp
            have hnn:n+b.length - (b.drop (64 - k)).length=n+(64 - k):=by rw [hdl];omega
            refine ⟨_,_,_,rfl,b.drop (64 - k),splice r2 (b.take (64 - k)) k,by rw [hdl,hbl],by rw [hdl];omega,(HI2.out.but b3 HO.out).cut (by omega),HO.out.cut _ _,?_,?_,splice_bytes H82.out (fun i=>take_bytes HI2.out.2.2.2.1 _ i) k,?_,.inl (by rw [hnn];omega),b3⟩
            · rw [hnn]
              have e1:=Dg.sumOf_block bs (b.take (64 - k)) (by rw [← Hn.out,List.length_take];omega);rw [← Hn.out,← hsp] at e1;rw [← e1] at hb3;unfold Dg.sumOf at hb3;rw [List.length_append,← Hn.out,List.length_take,show min (64 - k) b.length=64 - k by omega,← Dg.sums_front _ _ (b.drop (64 - k)) _ (by rw [List.length_append,← Hn.out,List.length_take];omega),← hbb] at hb3;exact hb3
            · exact (splice_length _ _ _ (by rw [Hr2.out,List.length_take];omega)).trans Hr2.out
            · rw [hnn,hbb,List.drop_append,List.drop_eq_nil_of_le (by rw [List.length_append,← Hn.out,List.length_take];omega),List.length_append,← Hn.out,List.length_take,show n+(64 - k) - (n+min (64 - k) b.length)=0 by omega]
              rfl
    case rest =>
      obtain ⟨a',len',cap',rfl,hd⟩:=hcut;obtain ⟨q,r3,hql,hqb,hI3,hO3,hb3,hr3,h83,hdr,hcase,hbut3⟩:=hd.out;have hbl:=HI2.out.1;have hx3:wc.cell? ⟨N,0,none⟩=some (.pointer (some ⟨g,0,none⟩)):=(hbut3.other HX2.out (by omega)).cell 0;have hS8:(Dg.sums Dg.start (bs ++ b) ((n+b.length - q.length) / 64)).length=8:=Dg.sums_length _ _ _;have HS8:=hide hS8;have hl3:=(hb3.cell 72).trans (hc_long hS8 hr3);have hf3:=hb3.frozen 72;have HX3:Hid (Blk wc N 99 #[.pointer (some ⟨g,0,none⟩)]):=hbut3.other HX2.out (by omega);have HC3:Hid (Cubes wc):=HC2.out.but hbut3 HG.out;have HU3:Hid (But g w1 wc):=HU2.out.trans hbut3;have HB3:=hide hb3;have HI3:=hide hI3;have HO3:=hide hO3;have Hr3:=hide hr3;have H83:=hide h83;have HDr:=hide hdr;have HCs:=hide hcase;have Hql:=hide hql;have Hqb:=hide hqb;have Hbl:=hide hbl;clear hd hql hqb hI3 hO3 hb3 hr3 h83 hdr hcase hbut3 hbl hS8 HX2 HC2 HU2 HB2 HI2 H82 HT2 Hr2 hx2
      go_upto_region 7 with fail
      clear hx3 hl3 hf3;have hb4:=HB3.out.set 72 (.int .u64 ((n:Int)+(len:Int)));rw [hc_setLong HS8.out Hr3.out] at hb4;have u4:But g wc (wc.setCell ⟨g,72,none⟩ (.int .u64 ((n:Int)+(len:Int)))):=(But.refl _ _).set 72 _;have HI4:Hid (IsB (wc.setCell ⟨g,72,none⟩ (.int .u64 ((n:Int)+(len:Int)))) a' len' cap' q):=HI3.out.but u4 HO3.out;have HC4:Hid (Cubes (wc.setCell ⟨g,72,none⟩ (.int .u64 ((n:Int)+(len:Int))))):=HC3.out.but u4 HG.out;have HX4:Hid (Blk (wc.setCell ⟨g,72,none⟩ (.int .u64 ((n:Int)+(len:Int)))) N 99 #[.pointer (some ⟨g,0,none⟩)]):=u4.other HX3.out (by omega);have HU4:Hid (But g w1 (wc.setCell ⟨g,72,none⟩ (.int .u64 ((n:Int)+(len:Int))))):=HU3.out.trans u4;have HB4:=hide hb4;clear hb4 u4 HI3 HC3 HX3 HU3 HB3;generalize wc.setCell ⟨g,72,none⟩ (.int .u64 ((n:Int)+(len:Int)))=w4 at HB4 HI4 HC4 HX4 HU4 ⊢
      go_wp2_with (go_at_call 87;refine (callsIn_wide.1 (chunk_any 3 _ _ _ _)).mono ?_;rintro e w' ⟨rfl,rfl⟩)
      have b5:Below w4.heap.size w4 ((w4.alloc (.cells #[.slice a' len' cap'] 22)).alloc (.cells #[.int .i64 64] 3)):=((Below.refl _ _).alloc (Nat.le_refl _) _).alloc (by simp) _;have hs5:((w4.alloc (.cells #[.slice a' len' cap'] 22)).alloc (.cells #[.int .i64 64] 3)).heap.size=w4.heap.size+2:=by simp
      have hk1:((w4.alloc (.cells #[.slice a' len' cap'] 22)).alloc (.cells #[.int .i64 64] 3)).cell? ⟨w4.heap.size,0,none⟩=some (.slice a' len' cap'):=((blk_new w4 22 #[.slice a' len' cap']).below' ((Below.refl _ _).alloc (Nat.le_refl _) _)).cell 0
      have hk2:((w4.alloc (.cells #[.slice a' len' cap'] 22)).alloc (.cells #[.int .i64 64] 3)).cell? ⟨w4.heap.size+1,0,none⟩=some (.int .i64 64):=by
        have:=(blk_new (w4.alloc (.cells #[.slice a' len' cap'] 22)) 3 #[.int .i64 64]).cell 0
        rw [World.size_alloc] at this;exact this
      have hgl4:=HB4.out.lt;have HB5:=hide (HB4.out.below' b5);have HI5:=hide (HI4.out.below b5);have HC5:=hide (HC4.out.below' b5);have HX5:=hide (HX4.out.below' b5);have HU5:=hide (HU4.out.then b5);have hNl:N < w4.heap.size:=HX4.out.lt;generalize (w4.alloc (.cells #[.slice a' len' cap'] 22)).alloc (.cells #[.int .i64 64] 3)=w5 at hs5 hk1 hk2 HB5 HI5 HC5 HX5 HU5 ⊢;clear HB4 HI4 HC4 HX4 HU4 b5;obtain ⟨Bs,hBs⟩:∃ Bs,Bs=w4.heap.size:=⟨_,rfl⟩;rw [← hBs] at hs5 hk1 hk2 hgl4 hNl ⊢;clear hBs;obtain ⟨S,hS⟩:∃ S,S=Dg.sums Dg.start (bs ++ b) ((n+b.length - q.length) / 64):=⟨_,rfl⟩;rw [← hS] at HB5 HS8;have HSS:=hide hS;clear hS
      obtain ⟨cb,co,hcc⟩:∃ cb co,0 < len'→a'=some ⟨cb,co,none⟩∧Rd w5 cb co q∧cb≠g:=by
        rcases Nat.eq_zero_or_pos len' with h | h
        · exact ⟨0,0,fun h'=>by omega⟩
        · obtain ⟨_,h2,_,_,⟨_,h3⟩ | ⟨x,hx,hR⟩⟩:=HI5.out
          · omega
          · obtain ⟨cb,co,rfl,hR2⟩:=hR h
            exact ⟨cb,co,fun _=>⟨hx,hR2,HO3.out h _ hx⟩⟩
      have HCC:=hide hcc;clear hcc;refine (wpIn_wide (n:=3)).1 ?_
      refine' wpIn_rangeFunc_ownG rfl (by omega) (gf:=118) (lb:=#[.pointer (some ⟨Bs,0,none⟩),.pointer (some ⟨Bs+1,0,none⟩)]) rfl trivial (enters_of Tryz.func118 (by kernel_rfl) rfl)
        (chunk_stops 2 (by omega) Bs (Bs+1) cb co a' len' cap' HI5.out.2.1 (by have:=Hql.out;have:=Hqb.out;have:=Hbl.out;omega) w5 (fun h=>(HCC.out h).1) hk1 hk2)
        (fun h k=>⟨k.1.trans h.1,k.2.trans h.2⟩) (fun W l o o' hl ho hc hw=>⟨World.putObj_heap_other (by omega),World.putObj_heap_other (by omega)⟩) (Below.refl _ _) (fun _=>rfl)
        (fun pre W=>(∀ x ∈ pre,64 * (x.val+1)≤q.length)∧Blk W g 128 (hc (pre.foldl (fun s x=>Dg.block s ((q.drop (64 * x.val)).take 64)) S) r3 ((n:Int)+(len:Int)))∧But g w5 W)
        (fun c pre W=>∃ p x,pre=p ++ [x]∧(∀ y ∈ p,64 * (y.val+1)≤q.length)∧q.length < 64 * (x.val+1)∧c=.exit 0∧Blk W g 128 (hc (p.foldl (fun s x=>Dg.block s ((q.drop (64 * x.val)).take 64)) S) (splice r3 (q.drop (64 * x.val)) 0) ((n:Int)+(len:Int)))∧But g w5 W)
        (fun s W W' row hs hg' hr=>⟨hs.1,hs.2.1.grown hg' (fun r e=>(hr r e).2),hs.2.2.grown hg' (fun r e=>(hr r e).1)⟩)
        (fun c s W W' row hs hg' hr=>by
          obtain ⟨p,x,h1,h2,h3,h4,h5,h6⟩:=hs
          exact ⟨p,x,h1,h2,h3,h4,h5.grown hg' (fun r e=>(hr r e).2),h6.grown hg' (fun r e=>(hr r e).1)⟩)
        ⟨fun x hx=>(by cases hx),HB5.out,But.refl _ _⟩ _ ?assign ?body ?done ?stop
      case assign =>
        intro l x W K hK
        gi_wp2
        exact hK
      case body =>
        rintro l pre x W ⟨hfull,hbW,hbu⟩ hlen;have hx64:64 * x.val < len':=by have:=x.isLt;unfold nch at this;omega
        obtain ⟨ha',hRd,hcbg⟩:=HCC.out (by omega);obtain ⟨j,hj⟩:∃ j,j=x.val:=⟨_,rfl⟩;rw [← hj] at hx64;obtain ⟨m,hm⟩:∃ m,m=min 64 (len' - 64 * j):=⟨_,rfl⟩;have hcv:chV cb co len' x.val=.slice (some ⟨cb,co+64 * j,none⟩) m m:=by rw [← hj,hm];rfl
        have hql:=Hql.out;have hcl:((q.drop (64 * j)).take 64).length=m:=by rw [List.length_take,List.length_drop,hm,hql]
        have hRc:Rd W cb (co+64 * j) ((q.drop (64 * j)).take 64):=fun i hi=>by
          rw [hcl] at hi;have:=(hRd.but hbu hcbg) (64 * j+i) (by omega)
          rw [List.getElem?_take,if_pos (by omega),List.getElem?_drop,Nat.add_assoc];exact this
        have h8c:∀ i:Nat,0≤((q.drop (64 * j)).take 64)[i]?.getD 0∧((q.drop (64 * j)).take 64)[i]?.getD 0≤255:=fun i=>take_bytes (fun i=>by rw [List.getElem?_drop];exact HI5.out.2.2.2.1 _) 64 i
        have hxW:W.cell? ⟨N,0,none⟩=some (.pointer (some ⟨g,0,none⟩)):=(hbu.other HX5.out (by omega)).cell 0
        have hF8:(pre.foldl (fun s x=>Dg.block s ((q.drop (64 * x.val)).take 64)) S).length=8:=by
          have:∀ (p:List (Fin (nch len'))) (s:List Int),s.length=8→(p.foldl (fun s x=>Dg.block s ((q.drop (64 * x.val)).take 64)) s).length=8:=by
            intro p
            induction p with
            | nil=>intro s h;exact h
            | cons y p ih=>intro s h;exact ih _ ((Dg.block_length _ _).trans h)
          exact this pre S HS8.out
        obtain ⟨F,hFe⟩:∃ F,F=pre.foldl (fun s x=>Dg.block s ((q.drop (64 * x.val)).take 64)) S:=⟨_,rfl⟩;rw [← hFe] at hbW hF8;have HCl:=hide hcl;have HM:=hide hm;have HJ:=hide hj;have HF:=hide hFe;have HFu:=hide hfull;have HF8:=hide hF8;have HbW:=hide hbW;have HRc:=hide hRc;have H8c:=hide h8c;have Hbu:=hide hbu;have HRd:=hide hRd;have HCb:=hide hcbg;simp only [hcv];clear hcv hcl hm hj hFe hfull hF8 hbW hRc h8c hbu hRd hcbg ha' hql
        by_cases hsh:m < 64
        · have hIc:IsB W (some ⟨cb,co+64 * j,none⟩) m m (q.drop (64 * j)):=by
            have hql:=Hql.out;have hm:=HM.out;have hdt:(q.drop (64 * j)).take 64=q.drop (64 * j):=List.take_of_length_le (by rw [List.length_drop,hql];omega);have h1:=HRc.out;have h2:=H8c.out;rw [hdt] at h1 h2;exact ⟨by rw [List.length_drop,hql];omega,Nat.le_refl _,by omega,h2,.inr ⟨_,rfl,fun _=>⟨_,_,rfl,h1⟩⟩⟩
          have hcp:=run_copy_isB W g F r3 (q.drop (64 * j)) ((n:Int)+(len:Int)) 0 64 64 m m m (some ⟨cb,co+64 * j,none⟩) HF8.out Hr3.out HbW.out hIc (Nat.min_eq_left (by omega)).symm (by omega);rw [List.take_of_length_le (by rw [hIc.1];exact Nat.le_refl _)] at hcp;clear hIc
          gi_wp2
          refine ⟨((But.refl g W).row _).keepsFrom HbW.out _,pre,x,rfl,HFu.out,?_,rfl,?_,Hbu.out.row _⟩
          · have:=HM.out
            have:=HJ.out
            have:=Hql.out
            omega
          · have:=HbW.out.row (hc F (splice r3 (q.drop (64 * j)) 0) ((n:Int)+(len:Int)))
            rw [HF.out,HJ.out] at this;rw [HF.out,HJ.out];exact this
        · have hm64:m=64:=by have:=HM.out;omega
          subst hm64
          gi_wp2_with fail
          refine ⟨trivial,?_⟩;refine (CallsIn.inRound l (callsIn_wide.2 (add_any g 128 cb (co+64 * j) 64 F ((q.drop (64 * j)).take 64) (hr r3 ((n:Int)+(len:Int))) W HF8.out HbW.out HG.out (HC5.out.but Hbu.out HG.out) HCl.out (Nat.le_refl _) HRc.out H8c.out))).mono ?_;rintro e w7 ⟨⟨v7,rfl⟩,b7,hb7⟩
          gi_wp2_with fail
          have hW5:=Hbu.out.size;refine ⟨b7.keepsFrom HbW.out _,⟨b7.block _ (by omega) (by omega),b7.block _ (by omega) (by omega)⟩,fun y hy=>?_,?_,Hbu.out.trans b7⟩
          · rcases List.mem_append.1 hy with hy | hy
            · exact HFu.out y hy
            · rw [List.mem_singleton] at hy
              subst hy;have:=HM.out
              have:=HJ.out
              have:=Hql.out
              omega
          · rw [List.foldl_append,← HF.out]
            show Blk w7 g 128 (hc (Dg.block F ((q.drop (64 * x.val)).take 64)) r3 ((n:Int)+(len:Int)))
            rw [← HJ.out];exact hb7
      case done =>
        rintro D xs W hD hxs ⟨hfull,hbW,hbu⟩ hK;rw [hxs,upto_fold q S _ _ (Nat.le_refl _)] at hbW
        have hqe:q.length=64 * nch len':=by
          have hql:=Hql.out;rcases Nat.eq_zero_or_pos len' with h | h
          · rw [hql,h];rfl
          · have hn1:nch len' - 1 < nch len':=by unfold nch;omega
            have:=hfull ⟨nch len' - 1,hn1⟩ (by rw [hxs];unfold upto;rw [List.take_of_length_le (by simp)];exact List.mem_finRange _)
            simp only at this;unfold nch at this ⊢;omega
        have HHs:Hid (Hs (W.putObj D (.deferred none)) g (bs ++ b)):=by
          have hqb:=Hqb.out;have hal:(bs ++ b).length=n+b.length:=by rw [List.length_append,Hn.out]
          have hb8:=hbW.grown (grownBy_putObj' W D (.deferred none)) (fun r e=>by cases e;exact ⟨_,hK,rfl⟩);have hnl:((n:Int)+(len:Int))=((bs ++ b).length:Int):=by rw [hal,Hbl.out];simp
          rw [hnl] at hb8
          have hsum:Dg.sums S q (nch len')=Dg.sumOf (bs ++ b):=by
            rcases HCs.out with h | ⟨h,_⟩
            · have:=Dg.sums_split (bs ++ b) q (by rw [hal];omega) (by rw [hal];exact HDr.out) (by rw [hal];exact h)
              rw [hal,← HSS.out,show q.length / 64=nch len' by omega] at this;exact this
            · have h0:nch len'=0:=by rw [h] at hqe;simp at hqe;omega
              rw [h0,HSS.out,h];unfold Dg.sumOf;rw [hal];rfl
          rw [hsum] at hb8;refine ⟨_,_,hb8,Dg.sumOf_length _,Hr3.out,H83.out,fun _=>rfl,?_⟩;rw [hal];rcases HCs.out with h | ⟨_,h⟩
          · have hz:(n+b.length) % 64=0:=by omega
            rw [hz,List.take_zero,Nat.sub_zero,List.drop_eq_nil_of_le (by rw [hal];exact Nat.le_refl _)]
          · exact h
        have HBF:Hid (But g w (W.putObj D (.deferred none))):=((But.of_below HB0.out).trans (HU5.out.trans hbu)).grown (grownBy_putObj' W D (.deferred none)) (fun r e=>by cases e;have:=HU5.out.size;have:=HB0.out.size;omega);clear hfull hbW hbu hqe
        go_wp2_with fail
        refine ⟨by simp,.inl ⟨_,_,rfl,run_takeDeferred hK,?_⟩⟩;exact ⟨_,results_tmp rfl _ _ _,rfl,HBF.out,HHs.out⟩
      case stop =>
        rintro D c pre W hD ⟨k,hk,hpre⟩ ⟨p,x,hpx,hfull,hshort,rfl,hbW,hbu⟩ hK;refine wpIn_wide.2 ?_
        have hk0:0 < k:=by
          rcases Nat.eq_zero_or_pos k with h | h
          · subst h
            rw [hpx] at hpre;have:=congrArg List.length hpre
            simp [upto] at this
          · exact h
        obtain ⟨k',rfl⟩:∃ k',k=k'+1:=⟨k - 1,by omega⟩;rw [hpx,upto_succ hk] at hpre;obtain ⟨hp1,hp2⟩:=List.append_inj' hpre rfl;have hxk:x.val=k':=by have:=List.singleton_inj.1 hp2;rw [this]
        rw [hp1,upto_fold q S _ _ (by omega),hxk] at hbW;rw [hxk] at hshort;have hql:=Hql.out;have hk64:64 * k' < len':=by unfold nch at hk;omega
        have HHs:Hid (Hs (W.putObj D (.deferred none)) g (bs ++ b)):=by
          have hqb:=Hqb.out;have hal:(bs ++ b).length=n+b.length:=by rw [List.length_append,Hn.out]
          have hb8:=hbW.grown (grownBy_putObj' W D (.deferred none)) (fun r e=>by cases e;exact ⟨_,hK,rfl⟩);have hnl:((n:Int)+(len:Int))=((bs ++ b).length:Int):=by rw [hal,Hbl.out];simp
          rw [hnl] at hb8
          have hA:(n+b.length - q.length) % 64=0:=by
            rcases HCs.out with h | ⟨h,_⟩
            · exact h
            · rw [h] at hql;simp at hql;omega
          have hsum:Dg.sums S q k'=Dg.sumOf (bs ++ b):=by
            have:=Dg.sums_split (bs ++ b) q (by rw [hal];omega) (by rw [hal];exact HDr.out) (by rw [hal];exact hA)
            rw [hal,← HSS.out,show q.length / 64=k' by omega] at this;exact this
          rw [hsum] at hb8;have hdl:(q.drop (64 * k')).length=q.length - 64 * k':=by rw [List.length_drop]
          refine ⟨_,_,hb8,Dg.sumOf_length _,(splice_length _ _ _ (by rw [hdl,Hr3.out];omega)).trans Hr3.out,splice_bytes H83.out (fun i=>by rw [List.getElem?_drop];exact HI5.out.2.2.2.1 _) 0,fun _=>rfl,?_⟩;have hz:(n+b.length) % 64=q.length - 64 * k':=by omega
          rw [hal,hz,show n+b.length - (q.length - 64 * k')=(n+b.length - q.length)+64 * k' by omega,← List.drop_drop,HDr.out];unfold splice;rw [List.take_zero,List.nil_append,List.take_append_of_le_length (by rw [hdl];exact Nat.le_refl _),List.take_of_length_le (by rw [hdl];exact Nat.le_refl _)]
        have HBF:Hid (But g w (W.putObj D (.deferred none))):=((But.of_below HB0.out).trans (HU5.out.trans hbu)).grown (grownBy_putObj' W D (.deferred none)) (fun r e=>by cases e;have:=HU5.out.size;have:=HB0.out.size;omega);clear hfull hbW hbu hshort hpre hpx hp1 hp2 hxk
        go_wp2_with fail
        refine ⟨by simp,.inl ⟨_,_,rfl,run_takeDeferred hK,?_⟩⟩;exact ⟨_,results_tmp rfl _ _ _,rfl,HBF.out,HHs.out⟩
end Go.Proofs.YtapcmbbhhclepaaGreatDoor.Dig
namespace Go.Proofs.YtapcmbbhhclepaaGreatDoor.Dig
open Go.RowKit
theorem hs_new {w:World} {g:Nat} (h:Blk w g 128 (hc (List.replicate 8 0) (List.replicate 64 0) 0)):Hs w g [] :=
  ⟨_,_,h,rfl,rfl,fun i=>by rw [List.getElem?_replicate];split <;> simp,fun h=>absurd rfl h,rfl⟩
theorem Hs.below {w w':World} {g:Nat} {bs:List Int} (h:Hs w g bs) (b:Below w.heap.size w w'):Hs w' g bs:=by
  obtain ⟨s,r,h1,h2⟩:=h;exact ⟨s,r,h1.below' b,h2⟩
theorem Hs.lt {w:World} {g:Nat} {bs:List Int} (h:Hs w g bs):g < w.heap.size:=by
  obtain ⟨s,r,h1,h2⟩:=h;exact h1.lt
theorem infoHasher:(Tryz.prog.info? 128).map (fun i=>(i.zero,i.size))=some (some (.agg (hc (List.replicate 8 0) (List.replicate 64 0) 0)),73):=by kernel_rfl
theorem own_isB {w:World} {base g m c:Nat} {l:List Int} (h:w.ownsRow base 5 1 (.slice (some ⟨g,0,none⟩) m c) m (l.map b8)) (hl:Dg.B8 l) (hc:c≤9223372036854775807):IsB w (some ⟨g,0,none⟩) m c l∧base≤g∧g < w.heap.size:=by
  obtain ⟨h1,h2⟩:=h;rcases h2 with ⟨h2,_⟩ | ⟨g',cap,cur,hv,hg,hh,hn,hm,hs,ht⟩
  · cases h2
  · simp only [Value.slice.injEq,Option.some.injEq,Addr.mk.injEq] at hv
    obtain ⟨⟨rfl,_,_⟩,_,rfl⟩:=hv;have hlen:l.length=m:=by simpa using h1
    refine ⟨⟨hlen,hn,hc,hl,.inr ⟨_,rfl,fun _=>⟨g,0,rfl,fun i hi=>?_⟩⟩⟩,hg,(Array.getElem?_eq_some_iff.1 hh).1⟩;rw [Nat.zero_add,cell_of_row w g i cur 5 _ hh];have e:(cur.toList.take (m * 1))[i]? = (l.map b8)[i]? := by rw [ht]
    rw [List.getElem?_take,if_pos (by omega),Array.getElem?_toList,List.getElem?_map,List.getElem?_eq_getElem hi] at e;rw [e,List.getElem?_eq_getElem hi];rfl
theorem own_base {w:World} {b b' e size n:Nat} {v:Value} {xs:List Value} (h:w.ownsRow b e size v n xs) (hb:b'≤b):w.ownsRow b' e size v n xs:=by
  obtain ⟨h1,h2⟩:=h;refine ⟨h1,?_⟩;rcases h2 with h2 | ⟨g,cap,cur,hv,hg,r⟩
  · exact .inl h2
  · exact .inr ⟨g,cap,cur,hv,Nat.le_trans hb hg,r⟩
theorem hs_whole {w:World} {g:Nat} {bs:List Int} (h:Hs w g bs) (hn:bs≠[]):∃ r,Blk w g 128 (wds (Dg.sumOf bs) ++ r):=by
  obtain ⟨s,r,h1,_,_,_,h2,_⟩:=h;rw [h2 hn] at h1;exact ⟨_,h1⟩
set_option maxRecDepth 100000 in
set_option maxHeartbeats 2000000 in
theorem sum_any (g:Nat) (bs:List Int) (w:World) (hH:Hs w g bs) (hC:Cubes w) (hmax:bs.length≤1125899906842624) :
    Calls Tryz.prog 93 #[.pointer (some ⟨g,0,none⟩)] w fun e w'=>∃ g',e=.returned (.slice (some ⟨g',0,none⟩) 32 32) ∧
      w'.ownsRow w.heap.size 5 1 (.slice (some ⟨g',0,none⟩) 32 32) 32 ((Dg.sha bs).map b8)∧Below w.heap.size w w':=by
  obtain ⟨hz,hz2⟩:=zero_of_info infoHasher;obtain ⟨Z,hZ⟩:∃ Z,Z=hc (List.replicate 8 0) (List.replicate 64 0) 0:=⟨_,rfl⟩;have hZs:Z.size=73:=by rw [hZ,hc_size];rfl
  rw [← hZ] at hz;obtain ⟨s,r,h1,h2,h3,h4⟩:=hH;have hC73:(hc s r bs.length).size=73:=by rw [hc_size,h2,h3]
  obtain ⟨C,hCe⟩:∃ C,C=hc s r bs.length:=⟨_,rfl⟩
  have hone:C.all (·.oneCell')=true:=by
    rw [hCe,Array.all_eq_true_iff_forall_mem];intro x hx;unfold hc at hx;rcases Array.mem_append.1 hx with hx | hx
    · exact (Array.all_eq_true_iff_forall_mem.1 (wds_one s)) x hx
    · simp only [hr,List.mem_toArray,List.mem_append,List.mem_map,List.mem_singleton] at hx
      rcases hx with ⟨y,_,rfl⟩ | rfl <;> rfl
  rw [← hCe] at h1 hC73;have HE:=hide hCe;have HC:=hide hC;have H2:=hide h2;have H3:=hide h3;have H4:=hide h4;have H1:=hide h1;clear hC hZ hCe h2 h3 h4 h1;go_enter Tryz.func93,Tryz.ntmps93
  go_upto_region 3 with fail
  have hg1:=H1.out.below' ((Below.refl w.heap.size w).alloc (Nat.le_refl _) (.cells Z 128));have hn1:=blk_new w 128 Z;have hb1:=(Below.refl w.heap.size w).alloc (Nat.le_refl _) (.cells Z 128);have HB1:=hide hb1;have Hg1:=hide hg1;have Hn1:=hide hn1;clear hb1 hg1 hn1 hz;have hgl:=H1.out.lt;generalize w.alloc (.cells Z 128)=w1 at HB1 Hg1 Hn1 ⊢;obtain ⟨N,hN⟩:∃ N,N=w.heap.size:=⟨_,rfl⟩;rw [← hN] at Hn1 hgl ⊢;have HN:=hide hN;clear hN
  go_upto_region 4 with (first
    | (refine wpList_load_row rfl 128 _ rfl g rfl 128 C (0,0) _ Hg1.out Tryz.underlying128 rfl (by rw [hC73];exact hz2) ?_)
    | (refine wpList_store_row rfl 128 _ _ rfl N C rfl rfl 128 Z Hn1.out (by rw [hC73];exact hz2) (by rw [hC73,hZs]) hone ?_))
  have hb2:=Hn1.out.row C;have HB2:Hid (Below w.heap.size w (w1.setRow N C)):=HB1.out.trans ((But.row (.refl _ _) C).to_below HB1.out.size (by rw [HN.out];exact Nat.le_refl _));have HC2:Hid (Cubes (w1.setRow N C)):=HC.out.below HB2.out HC.out.lt;have HH2:Hid (Hs (w1.setRow N C) N bs):=⟨s,r,by rw [HE.out] at hb2 ⊢;exact hb2,H2.out,H3.out,H4.out⟩;clear hb2 Hn1 Hg1 HB1;generalize w1.setRow N C=w2 at HB2 HC2 HH2 ⊢
  -- here: w2,HH2:Hs w2 N bs;HB2:Below w.heap.size w w2;HC2:Cubes w2;HN:N=w.heap.size
  obtain ⟨s2,r2,hb2,hs2,hr2,h82,hsum2,htk2⟩:=HH2.out;have hl2:=(hb2.cell 72).trans (hc_long hs2 hr2);clear hb2 hs2 hr2 h82 hsum2 htk2;obtain ⟨n,hn⟩:∃ n,n=bs.length:=⟨_,rfl⟩;rw [← hn] at hl2 hmax;have Hn:=hide hn;clear hn
  go_wp2_with (go_at_call 122;refine (tail_any (n:Int) _ (by omega) (by omega)).mono ?_;rintro e w3 ⟨gt,m,hm,rfl,hown3,b3⟩)
  clear hl2;have hm':=hm.out;have hnz:=Dg.noughts_le (n:Int);have hmb:m≤72:=by rw [hm',Dg.tail_length];omega
  obtain ⟨hI3,hgt,hgt2⟩:=own_isB hown3 (Dg.b8_of_mem (Dg.tail_mem _)) (by omega);have hNlt:=HH2.out.lt;refine (write_any N bs (Dg.tail n) (some ⟨gt,0,none⟩) m m _ (HH2.out.below b3) hI3 (fun _ x hx=>by cases hx;show gt≠N;omega) (by have:=HC.out.lt;have:=HN.out;omega) (HC2.out.below' b3) (by rw [← Hn.out];omega)).mono ?_;rintro e w4 ⟨rfl,b4,hH4⟩;have hb4:Below w.heap.size w w4:=(bthen HB2.out b3).trans (b4.to_below (bthen HB2.out b3).size (by rw [HN.out];exact Nat.le_refl _));obtain ⟨r4,hB4⟩:=hs_whole hH4 (by simp [Dg.tail]);have HB4:=hide hB4;have Hb4:=hide hb4;clear hB4 hb4 hH4 b4 hI3 hown3 hm hm' hnz
  go_wp2_with fail
  refine (bytes_any N _ _ r4 _ (Dg.sumOf_length _) HB4.out (Dg.sumOf_w32 _)).mono ?_;rintro e w5 ⟨g5,rfl,hown5,b5⟩
  go_wp2_with fail
  go_ret
  refine ⟨g5,rfl,?_,bthen Hb4.out b5⟩;have e:(Dg.sumOf (bs ++ Dg.tail n)).flatMap (Dg.be · 4)=Dg.sha bs:=by rw [Hn.out];rfl
  rw [e] at hown5;exact own_base hown5 Hb4.out.size
theorem digestSum_any (bs:List Int) (a:Option Addr) (len cap:Nat) (w:World) (hB:IsB w a len cap bs) (hC:Cubes w) (hmax:len≤1125899906842624) :
    Calls Tryz.prog 59 #[.slice a len cap] w fun e w'=>∃ g',e=.returned (.slice (some ⟨g',0,none⟩) 32 32) ∧
      w'.ownsRow w.heap.size 5 1 (.slice (some ⟨g',0,none⟩) 32 32) 32 ((Dg.sha bs).map b8)∧Below w.heap.size w w':=by
  have HB:=hide hB;have HC:=hide hC;clear hB hC;go_enter Tryz.func59,Tryz.ntmps59
  go_wp2_with fail
  refine (new_any _).mono ?_;rintro e w1 ⟨rfl,b1,hn⟩;have HH1:=hide (hs_new hn);have HB1:=hide b1;clear hn b1
  go_wp2_with fail
  refine (write_any w.heap.size [] bs a len cap _ HH1.out (HB.out.below HB1.out) (HB.out.off (Nat.le_refl _)) (by have:=HC.out.lt;omega) (HC.out.below' HB1.out) (by simp;omega)).mono ?_;rintro e w2 ⟨rfl,b2,hH2⟩;have HB2:Hid (Below w.heap.size w w2):=HB1.out.trans (b2.to_below HB1.out.size (Nat.le_refl _));have HH2:=hide hH2;clear hH2 b2
  go_wp2_with fail
  refine (sum_any w.heap.size bs _ HH2.out (HC.out.below' HB2.out) (by rw [HB.out.1];exact hmax)).mono ?_;rintro e w3 ⟨g3,rfl,hown3,b3⟩
  go_wp2_with fail
  go_ret
  exact ⟨g3,rfl,own_base hown3 HB2.out.size,bthen HB2.out b3⟩
end Go.Proofs.YtapcmbbhhclepaaGreatDoor.Dig
namespace Go.Proofs.YtapcmbbhhclepaaGreatDoor.Dig
open Go.RowKit
theorem digestI (bs:List Int) (a:Option Addr) (len cap:Nat) (w:World) (hB:IsB w a len cap bs) (hC:Cubes w) (hmax:len≤1125899906842624) :
    Calls Tryz.prog 59 #[.slice a len cap] w fun e w'=>∃ g',e=.returned (.slice (some ⟨g',0,none⟩) 32 32)∧IsB w' (some ⟨g',0,none⟩) 32 32 (Dg.sha bs)∧w.heap.size≤g'∧Below w.heap.size w w' :=
  (digestSum_any bs a len cap w hB hC hmax).mono fun e w' ⟨g',he,ho,hb⟩=>by
    obtain ⟨h1,h2,_⟩:=own_isB ho (Dg.b8_of_mem (Dg.sha_mem _)) (by omega);exact ⟨g',he,h1,h2,hb⟩
end Go.Proofs.YtapcmbbhhclepaaGreatDoor.Dig
namespace Go.Proofs.YtapcmbbhhclepaaGreatDoor.Dig
open Go.RowKit
theorem append_zero {P:Program} {w:World} (t ty e:TypeId) (i:TypeInfo) (ht:P.underlying t=some (.slice e)) (hi:P.info? e=some i) (base size:Nat)
    (v:Value) (n:Nat) (xs:List Value) (hown:w.ownsRow base e size v n xs) (a:Option Addr) (c:Nat) :
    (Builtin.append_ #[t,t] ty #[v,.slice a 0 c]).run P w=.ok v w:=by
  rcases hown.2 with ⟨rfl,rfl⟩ | ⟨g,cap,cur,rfl,_,_,hnc,_⟩
  · cases a <;> simp [Builtin.append_,run_underlying ht,sizeOf,typeInfo,hi,Builtin.lenOf,Builtin.firstCells,loadCells,loadCellsFrom]
  · cases a <;> simp [Builtin.append_,run_underlying ht,sizeOf,typeInfo,hi,Builtin.lenOf,Builtin.firstCells,hnc,storeCells,loadCells,loadCellsFrom]
theorem own_shape {w:World} {base:Nat} {e:TypeId} {sz:Nat} {v:Value} {n:Nat} {xs:List Value} (h:w.ownsRow base e sz v n xs):∃ a c,v=.slice a n c:=by
  rcases h.2 with ⟨rfl,rfl⟩ | ⟨g,cap,cur,rfl,_⟩
  · exact ⟨_,_,rfl⟩
  · exact ⟨_,_,rfl⟩
theorem append_isB {w:World} (base:Nat) (v:Value) (n:Nat) (l:List Int) (hown:w.ownsRow base 5 1 v n (l.map b8)) {a:Option Addr} {m cap:Nat} {bs:List Int} (hB:IsB w a m cap bs) (hnm:n+m≤1000000) (hbase:base≤w.heap.size) :
    ∃ a' c' w',(Builtin.append_ #[22,22] 22 #[v,.slice a m cap]).run Tryz.prog w=.ok (.slice a' (n+m) c') w'∧w'.ownsRow base 5 1 (.slice a' (n+m) c') (n+m) ((l ++ bs).map b8)∧w.grownBy w' v.ownBlock:=by
  obtain ⟨i0,hi,hz0,hz1,hz2⟩:=info_parts infoByte;obtain ⟨h1,h2,h3,h4,h5⟩:=hB
  by_cases hm:m=0
  · subst hm
    have:bs=[]:=List.eq_nil_of_length_eq_zero h1
    subst this;obtain ⟨a',c',rfl⟩:=own_shape hown;refine ⟨a',c',w,append_zero 22 22 5 i0 Tryz.underlying22 hi base 1 _ n _ hown a cap,?_,⟨rfl,rfl,rfl,Nat.le_refl _,fun _ _ _=>rfl⟩⟩;rw [List.append_nil];exact hown
  · rcases h5 with ⟨_,h5⟩ | ⟨x,rfl,h6⟩
    · omega
    obtain ⟨b,o,rfl,hR⟩:=h6 (by omega)
    obtain ⟨v',w',q1,q2,q3,_⟩:=run_append_own w base 22 22 5 i0 (.int .u8 0) 1 1 Tryz.underlying22 hi hz0 hz1 hz2 rfl (by decide) v n _ hown ⟨b,o,none⟩ m cap (bs.map b8) (by simp [h1]) (fun j u hu=>by
      have hj:j < bs.length:=by have:=(List.getElem?_eq_some_iff.1 hu).1;simpa using this
      have e1:(⟨b,o,none⟩:Addr).add j=⟨b,o+j,none⟩:=by unfold Addr.add;split <;> simp_all
      refine Eq.trans (congrArg _ e1) ((hR j hj).trans ?_);rw [List.getElem?_map,List.getElem?_eq_getElem hj] at hu;rw [← hu,List.getElem?_eq_getElem hj]
      rfl) (fun u hu=>by simp only [List.mem_map] at hu;obtain ⟨y,_,rfl⟩:=hu;rfl) (by simp [maxLen];omega) (by omega) hbase
    obtain ⟨a',c',rfl⟩:=own_shape q2;rw [← List.map_append] at q2;exact ⟨a',c',w',q1,q2,q3⟩
theorem wpList_append_run {P:Program} {w:World} {ops:Array Oper} {rest:List Oper} {o:Oper} {a:Act} {Q:Exit→Act→World→Prop} (hgd:o.guard=none) (s x:Operand) (t:TypeId)
    (ho:o.op=.call { callee:=.builtin .append,args:=#[s,x],argTypes:=#[t,t] }) (v y:Value) (hs:a.eval s=v) (hx:a.eval x=y) {v':Value} {w':World} (hrun:(Builtin.append_ #[t,t] o.type #[v,y]).run P w=.ok v' w')
    (h:wpList P ops Q rest (a.put o.dst v') w'):wpList P ops Q (o :: rest) a w:=by
  refine wpList_plain hgd fun K hK'=>?_
  unfold Oper.wp;simp [execOp,ho,resolve,invoke,builtin,hs,hx,hrun,Result.andThen];exact hK' _ _ h
theorem own_isB' {w:World} {base m:Nat} {a:Option Addr} {c:Nat} {l:List Int} (h:w.ownsRow base 5 1 (.slice a m c) m (l.map b8)) (hl:Dg.B8 l):IsB w a m c l∧(∀ x,a=some x→base≤x.block):=by
  obtain ⟨h1,h2⟩:=h;have hlen:l.length=m:=by simpa using h1
  rcases h2 with ⟨h2,h3⟩ | ⟨g',cap,cur,hv,hg,hh,hn,hm,hs,ht⟩
  · simp only [Value.slice.injEq] at h2
    obtain ⟨rfl,rfl,rfl⟩:=h2;exact ⟨⟨hlen,Nat.le_refl _,by omega,hl,.inl ⟨rfl,rfl⟩⟩,fun x hx=>by cases hx⟩
  · simp only [Value.slice.injEq] at hv
    obtain ⟨rfl,_,rfl⟩:=hv;refine ⟨⟨hlen,hn,by simpa [maxLen] using hm,hl,.inr ⟨_,rfl,fun _=>⟨g',0,rfl,fun i hi=>?_⟩⟩⟩,fun x hx=>by cases hx;exact hg⟩;rw [Nat.zero_add,cell_of_row w g' i cur 5 _ hh];have e:(cur.toList.take (m * 1))[i]? = (l.map b8)[i]? := by rw [ht]
    rw [List.getElem?_take,if_pos (by omega),Array.getElem?_toList,List.getElem?_map,List.getElem?_eq_getElem hi] at e;rw [e,List.getElem?_eq_getElem hi];rfl
end Go.Proofs.YtapcmbbhhclepaaGreatDoor.Dig
namespace Go.Proofs.YtapcmbbhhclepaaGreatDoor.Dig
open Go.RowKit
theorem bits_or_comm (k:IntKind) (x y:Int):bits .or k x y=bits .or k y x:=by simp [bits,BitVec.or_comm]
end Go.Proofs.YtapcmbbhhclepaaGreatDoor.Dig
namespace Go.Proofs.YtapcmbbhhclepaaGreatDoor.Dig
open Go.RowKit
theorem or32 (i:Nat) (x y:Int) (hx₀:0≤x) (hx:x % 2 ^ i=0) (hx₁:x < 4294967296) (hy₀:0≤y) (hy:y < 2 ^ i) (hy₁:y < 4294967296):bits .or .u32 x y=x+y :=
  bits_join .u32 32 (by decide) wraps_u32 i x y hx₀ hx (by simpa using hx₁) hy₀ hy (by simpa using hy₁)
theorem tog_take (w:Nat):∀ (l:List Int) (i k:Nat),k < l.length→Sl.tog w (l.take (k+1)) i=Sl.tog w (l.take k) i+l[k]?.getD 0 * 2 ^ (24 - w * (i+k+1))
  | [],i,k,h=>by simp at h
  | x :: l,i,0,h=>by simp [Sl.tog]
  | x :: l,i,k+1,h=>by
    have:=tog_take w l (i+1) k (by simpa using h)
    simp only [List.take_succ_cons,Sl.tog,this,List.getElem?_cons_succ];rw [show i+1+k+1=i+(k+1)+1 by omega];omega
set_option maxHeartbeats 1000000 in
theorem together8 (bs:List Int) (a:Option Addr) (len cap:Nat) (w:World) (hB:IsB w a len cap bs) (hl:len≤3) :
    Calls Tryz.prog 88 #[.slice a len cap,.int .i64 8] w fun e w'=>e=.returned (.int .u32 (Sl.tog 8 bs 0))∧w'=w:=by
  have HB:=hide hB;clear hB;go_enter Tryz.func88,Tryz.ntmps88
  go_wp2_with fail
  go_loop [5,10] (fun s i=>∃ (k:Nat) (x:Int),k≤len∧i=.int .i64 k∧s=.int .u32 x∧Hid (x=Sl.tog 8 (bs.take k) 0∧0≤x∧x < 16777216∧x % 2 ^ (24 - 8 * k)=0)) (fun _ i=>len - (intOf i).toNat)
  case atStart=>exact ⟨0,0,by omega,rfl,rfl,by simp [Sl.tog],by omega,by omega,by decide⟩
  case round =>
    obtain ⟨k,x,hk,rfl,rfl,HX⟩:=hrel
    by_cases hlt:k < len
    · obtain ⟨h1,h2,h3,h4,h5⟩:=HB.out
      rcases h5 with ⟨_,h5⟩ | ⟨y,rfl,h6⟩
      · omega
      · obtain ⟨b,o,rfl,hR⟩:=h6 (by omega)
        have hc:=hR k (by omega);have h8:=h4 k;have ht:=tog_take 8 bs 0 k (by omega);obtain ⟨v,hv⟩:∃ v,v=bs[k]?.getD 0:=⟨_,rfl⟩;rw [← hv] at hc h8 ht;have HT:=hide ht;clear hv h1 h4 h6 hR ht;have hkn:k=0∨k=1∨k=2:=by omega
        rcases hkn with rfl | rfl | rfl
        · simp only [Nat.add_zero] at hc
          go_wp2_with fail
          go_round
          case rel =>
            obtain ⟨e1,e2,e3,e4⟩:=HX.out;have e4':x % 16777216=0:=by simpa using e4
            have e0:bits .or .u32 x (v * 65536)=x+v * 65536:=or32 24 _ _ (by omega) (by simpa using e4) (by omega) (by omega) (by simp;omega) (by omega);refine ⟨1,x+v * 65536,by omega,rfl,?_,?_,by omega,by omega,?_⟩
            · first | rw [e0] | (rw [← e0];simp)
            · rw [HT.out,← e1]
              simp
            · first | (simp;done) | (simp;omega)
          case measure=>simp [intOf];omega
        · go_wp2_with fail
          go_round
          case rel =>
            obtain ⟨e1,e2,e3,e4⟩:=HX.out;have e4':x % 65536=0:=by simpa using e4
            have e0:bits .or .u32 x (v * 256)=x+v * 256:=or32 16 _ _ (by omega) (by simpa using e4) (by omega) (by omega) (by simp;omega) (by omega);refine ⟨2,x+v * 256,by omega,rfl,?_,?_,by omega,by omega,?_⟩
            · first | rw [e0] | (rw [← e0];simp)
            · rw [HT.out,← e1]
              simp
            · first | (simp;done) | (simp;omega)
          case measure=>simp [intOf];omega
        · go_wp2_with fail
          go_round
          case rel =>
            obtain ⟨e1,e2,e3,e4⟩:=HX.out;have e4':x % 256=0:=by simpa using e4
            have e0:bits .or .u32 x (v * 1)=x+v * 1:=or32 8 _ _ (by omega) (by simpa using e4) (by omega) (by omega) (by simp;omega) (by omega);refine ⟨3,x+v * 1,by omega,rfl,?_,?_,by omega,by omega,?_⟩
            · first | rw [e0] | (rw [← e0];simp)
            · rw [HT.out,← e1]
              simp
            · first | (simp;done) | (simp;omega)
          case measure=>simp [intOf];omega
    · go_wp2_with fail
      go_ret
      obtain ⟨e1,e2,e3,e4⟩:=HX.out;rw [List.take_of_length_le (by rw [HB.out.1];omega)] at e1;rw [e1];exact ⟨rfl,rfl⟩
theorem ret_u32 {a b:Int} (h:a=b):Ending.returned (.int .u32 a)=.returned (.int .u32 b):=by rw [h]
set_option maxHeartbeats 1000000 in
theorem piece6 (x:Int) (i:Nat) (w:World) (h0:0≤x) (h1:x < 16777216) (hi:i < 4) :
    Calls Tryz.prog 90 #[.int .u32 x,.int .i64 i,.int .i64 6] w fun e w'=>e=.returned (.int .u32 (Sl.piece x i 6))∧∃ n,w'=w.drewN n:=by
  have hin:i=0∨i=1∨i=2∨i=3:=by omega
  rcases hin with rfl | rfl | rfl | rfl
  · go_enter Tryz.func90,Tryz.ntmps90
    go_wp2_with fail
    go_quiet (fail)
    go_wp2_with fail
    go_ret
    refine ⟨ret_u32 ?_,_,rfl⟩;simp [Sl.piece]
  · go_enter Tryz.func90,Tryz.ntmps90
    go_wp2_with fail
    go_quiet (fail)
    go_wp2_with fail
    go_ret
    refine ⟨ret_u32 ?_,_,rfl⟩;simp [Sl.piece]
  · go_enter Tryz.func90,Tryz.ntmps90
    go_wp2_with fail
    go_quiet (fail)
    go_wp2_with fail
    go_ret
    refine ⟨ret_u32 ?_,_,rfl⟩;simp [Sl.piece]
  · go_enter Tryz.func90,Tryz.ntmps90
    go_wp2_with fail
    go_quiet (fail)
    go_wp2_with fail
    go_ret
    refine ⟨ret_u32 ?_,_,rfl⟩;simp [Sl.piece]
end Go.Proofs.YtapcmbbhhclepaaGreatDoor.Dig
namespace Go.Proofs.YtapcmbbhhclepaaGreatDoor.Dig
open Go.RowKit Go.Shelf
attribute [local go_sem] Oper.semAt_some
def nch3 (len:Nat):Nat:=(len+2) / 3
def chV3 (b o len k:Nat):Value:=.slice (some ⟨b,o+3 * k,none⟩) (min 3 (len - 3 * k)) (min 3 (len - 3 * k))
set_option maxRecDepth 100000 in
set_option maxHeartbeats 2000000 in
theorem chunk1_in3 (n:Nat) (hn:1≤n) (l Bs Bn b o len cap:Nat) (hlc:len≤cap) (hcap:len≤1152921504606846976) (J Jx:List (Fin (nch3 len))→World→Prop) (hJ:∀ s W m,J s W→J s (W.drewN m))
    (hY:∀ pre x W,J pre W→pre.length < nch3 len→YieldAt Fence.wide (n - 1) Tryz.prog l #[chV3 b o len x.val] W fun e W'=>(e=.returned (.bool true)∧J (pre ++ [x]) W'∧Kp2 Bs Bn W W')∨(e=.returned (.bool false)∧Jx (pre ++ [x]) W'))
    (W:World) (hBs:W.cell? ⟨Bs,0,none⟩=some (.slice (some ⟨b,o,none⟩) len cap)) (hBn:W.cell? ⟨Bn,0,none⟩=some (.int .i64 3)) (h0:J [] W) :
    CallsIn Fence.wide n Tryz.prog 118 #[.func (.yield l) #[] #[],.pointer (some ⟨Bs,0,none⟩),.pointer (some ⟨Bn,0,none⟩)] W fun e W'=>(∃ v,e=.returned v) ∧
      ((∃ ys,ys=upto (nch3 len) (nch3 len)∧J ys W')∨(∃ pre,(∃ k,k≤nch3 len∧pre=upto (nch3 len) k)∧Jx pre W')):=by
  refine callsIn_of_wp Tryz.func118 rfl trivial ?_ rfl;simp only [Tryz.ntmps118,List.size_toArray,List.length_cons,List.length_nil,Nat.reduceAdd,Nat.reduceSub,Array.replicate_succ,Array.replicate_zero,List.push_toArray,List.append_toArray,List.nil_append,List.cons_append]
  gi_wp2
  gi_loopw [4] (fun i wr=>∃ k q:Nat,k≤nch3 len∧Hid (q=3 * k)∧i=.int .i64 q∧J (upto (nch3 len) k) wr∧Kp2 Bs Bn W wr) (fun i _=>len+3 - (intOf i).toNat)
  case atStart=>exact ⟨0,0,Nat.zero_le _,rfl,rfl,h0,rfl,rfl⟩
  case round =>
    obtain ⟨k,q,hk,Hq,rfl,hJs,hnx⟩:=hrel;have hB1:wr.cell? ⟨Bs,0,none⟩=some (.slice (some ⟨b,o,none⟩) len cap):=(World.cell?_of_block (w:=W) hnx.1).trans hBs;have hB2:wr.cell? ⟨Bn,0,none⟩=some (.int .i64 3):=(World.cell?_of_block (w:=W) hnx.2).trans hBn
    by_cases hlt:q < len
    · have hkn:k < nch3 len:=by have:=Hq.out;unfold nch3;omega
      have hct:∀ w,(Instr.sliceAt 22 (.slice (some ⟨b,o,none⟩) len cap) (some (.int .i64 q)) none none).run Tryz.prog w=.ok (.slice (cutA (some ⟨b,o,none⟩) q cap) (len - q) (cap - q)) w:=fun w=>run_slice_cut w _ len cap q (by omega) hlc
      gi_wp2
      gi_quiet (fail)
      obtain ⟨m,hm⟩:∃ m,m=min 3 (len - q):=⟨_,rfl⟩;have hmn:(if ((len - q:Nat):Int) < 3 then ((len - q:Nat):Int) else 3)=(m:Int):=by rw [hm];split <;> omega
      have hmn2:min ((len - q:Nat):Int) 3=(m:Int):=by rw [hm];omega
      have hmn3:min (3:Int) ((len - q:Nat):Int)=(m:Int):=by rw [hm];omega
      first | simp only [hmn] | simp only [hmn2] | simp only [hmn3]
      have hm0:0 < m:=by omega
      have hqm:q+m≤len:=by omega
      have hm3:m≤3:=by omega
      have HCV:Hid (chV3 b o len k=.slice (some ⟨b,o+q,none⟩) m m):=by
        have:=Hq.out
        show chV3 b o len k=_
        unfold chV3;rw [← this,← hm]
      have HM:=hide hm;have hJ2:=hJ _ _ nq hJs;have hK2:Kp2 Bs Bn W (wr.drewN nq):=hnx;replace hB1:(wr.drewN nq).cell? ⟨Bs,0,none⟩=some (.slice (some ⟨b,o,none⟩) len cap):=hB1;replace hB2:(wr.drewN nq).cell? ⟨Bn,0,none⟩=some (.int .i64 3):=hB2;clear hmn hm hct hJs hnx;generalize wr.drewN nq=w2 at hJ2 hK2 hB1 hB2 ⊢;have hs3:=run_slice_three w2 b o len cap q m hlt hlc hqm hm0;obtain ⟨fn,tmps,assign,body,hy,hR⟩:=hY _ ⟨k,hkn⟩ w2 hJ2 (by rw [upto_length hk];exact hkn);rw [HCV.out] at hy
      gi_wp2
      refine hR.mono ?_;rintro e W3 (⟨rfl,hJ3,hk3⟩ | ⟨rfl,hJx3⟩)
      · have hB2':W3.cell? ⟨Bn,0,none⟩=some (.int .i64 3):=(World.cell?_of_block (w:=w2) hk3.2).trans hB2
        gi_wp2
        go_roundw
        case rel=>exact ⟨k+1,q+3,hkn,by have:=Hq.out;show q+3=3 * (k+1);omega,by go_num,by rw [upto_succ hkn];exact hJ3,hk3.1.trans hK2.1,hk3.2.trans hK2.2⟩
        case measure=>simp [intOf];omega
      · gi_wp2
        refine bodyPost_ret (results_none rfl _ _ _) rfl ?_;exact ⟨⟨_,rfl⟩,.inr ⟨_,⟨k+1,hkn,(upto_succ hkn).symm⟩,hJx3⟩⟩
    · have hkn:k=nch3 len:=by have:=Hq.out;unfold nch3 at hk ⊢;omega
      gi_wp2
      go_end0
      exact ⟨⟨_,rfl⟩,.inl ⟨_,rfl,hkn ▸ hJs⟩⟩
set_option maxHeartbeats 1000000 in
theorem chunk1_none3 (n:Nat) (hn:1≤n) (l Bs Bn:Nat) (a:Option Addr) (cap:Nat) (P:World→Prop) (W:World) (hBs:W.cell? ⟨Bs,0,none⟩=some (.slice a 0 cap)) (h0:P W) :
    CallsIn Fence.wide n Tryz.prog 118 #[.func (.yield l) #[] #[],.pointer (some ⟨Bs,0,none⟩),.pointer (some ⟨Bn,0,none⟩)] W fun e W'=>(∃ v,e=.returned v)∧P W':=by
  refine callsIn_of_wp Tryz.func118 rfl trivial ?_ rfl;simp only [Tryz.ntmps118,List.size_toArray,List.length_cons,List.length_nil,Nat.reduceAdd,Nat.reduceSub,Array.replicate_succ,Array.replicate_zero,List.push_toArray,List.append_toArray,List.nil_append,List.cons_append]
  gi_wp2
  gi_loopw [4] (fun i wr=>i=.int .i64 0∧wr=W) (fun _ _=>0)
  case atStart=>exact ⟨rfl,rfl⟩
  case round =>
    obtain ⟨rfl,rfl⟩:=hrel
    gi_wp2
    go_end0
    exact ⟨⟨_,rfl⟩,h0⟩
set_option maxHeartbeats 1000000 in
theorem chunk_any3 (n:Nat) (a:Option Addr) (len cap:Nat) (w:World) :
    CallsIn Fence.wide n Tryz.prog 87 #[.slice a len cap,.int .i64 3] w fun e w'=>e=.returned (.func (.func 118) #[] #[.pointer (some ⟨w.heap.size,0,none⟩),.pointer (some ⟨w.heap.size+1,0,none⟩)]) ∧
      w'=(w.alloc (.cells #[.slice a len cap] 22)).alloc (.cells #[.int .i64 3] 3):=by
  refine callsIn_of_wp Tryz.func87 rfl trivial ?_ rfl;simp only [Tryz.ntmps87,List.size_toArray,List.length_cons,List.length_nil,Nat.reduceAdd,Nat.reduceSub,Array.replicate_succ,Array.replicate_zero,List.push_toArray,List.append_toArray,List.nil_append,List.cons_append]
  gi_wp2
  go_ret
  exact ⟨rfl,rfl⟩
theorem chunk_stops3 (n:Nat) (hn:1≤n) (Bs Bn cb co:Nat) (a:Option Addr) (len cap:Nat) (hlc:len≤cap) (hcap:len≤1152921504606846976) (w:World) (ha:0 < len→a=some ⟨cb,co,none⟩)
    (hBs:w.cell? ⟨Bs,0,none⟩=some (.slice a len cap)) (hBn:w.cell? ⟨Bn,0,none⟩=some (.int .i64 3)) :
    SeqStopsK Fence.wide n Tryz.prog 118 #[.pointer (some ⟨Bs,0,none⟩),.pointer (some ⟨Bn,0,none⟩)] (fun x:Fin (nch3 len)=>#[chV3 cb co len x.val]) (Kp2 Bs Bn) (fun ys=>ys=upto (nch3 len) (nch3 len)) (fun pre=>∃ k,k≤nch3 len∧pre=upto (nch3 len) k) (nch3 len) w:=fun l J Jx W hW hJ hJx hY h0=>by
  have h1:=(hW.cell (p:=⟨Bs,0,none⟩) (block_lt_of_cell hBs)).trans hBs;have h2:=(hW.cell (p:=⟨Bn,0,none⟩) (block_lt_of_cell hBn)).trans hBn;rcases Nat.eq_zero_or_pos len with hl | hl
  · subst hl
    refine (chunk1_none3 n hn l Bs Bn a cap (J []) W h1 h0).mono ?_;rintro e W' ⟨he,hj⟩;exact ⟨he,.inl ⟨[],rfl,hj⟩⟩
  · rw [ha hl] at h1
    refine (chunk1_in3 n hn l Bs Bn cb co len cap hlc hcap J Jx (fun s W m hs=>hJ s W _ none hs ⟨rfl,rfl,rfl,Nat.le_refl _,fun _ _ _=>rfl⟩ (fun r e=>by cases e)) hY W h1 h2 h0).mono ?_;rintro e W' ⟨he,⟨ys,hy,hj⟩ | ⟨pre,hk,hj⟩⟩
    · exact ⟨he,.inl ⟨ys,hy,hj⟩⟩
    · exact ⟨he,.inr ⟨pre,hk,hj⟩⟩
end Go.Proofs.YtapcmbbhhclepaaGreatDoor.Dig
