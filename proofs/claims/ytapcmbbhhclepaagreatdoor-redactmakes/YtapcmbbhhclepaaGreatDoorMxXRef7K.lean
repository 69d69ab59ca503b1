/-
  THE WALKS of heliastref07's Has and Kept (layer 7).
-/
import Derived.Test.YtapcmbbhhclepaaGreatDoorMxXRef7
import Derived.Deep.LoopGhost
set_option linter.unusedVariables false
set_option linter.unusedSimpArgs false
set_option maxRecDepth 100000
namespace Go.Proofs.YtapcmbbhhclepaaGreatDoor
open Go.RowKit

namespace Xr
theorem one_in (k key:ByteArray):Lib.containsS [k] key=(key.toList == k.toList):=by
  rw [Bool.eq_iff_iff,Lib.containsS_iff,List.mem_singleton,beq_iff_eq];exact ⟨fun h=>by rw [h],fun h=>V.ba_ext h⟩
theorem two_in (k l key:ByteArray):Lib.containsS [k,l] key=((key.toList == k.toList) || (key.toList == l.toList)):=by
  rw [Bool.eq_iff_iff,Lib.containsS_iff,Bool.or_eq_true,beq_iff_eq,beq_iff_eq,List.mem_cons,List.mem_singleton];exact ⟨fun h=>h.imp (fun e=>by rw [e]) (fun e=>by rw [e]),fun h=>h.imp (fun e=>V.ba_ext e) (fun e=>V.ba_ext e)⟩
theorem kept_l {kind K key:ByteArray} {l:List ByteArray} (h:(kind.toList == K.toList)=true) (h1:(K.toList == kCreate.toList)=false) (h2:keptL K=l):keptB kind key=Lib.containsS l key:=by
  obtain rfl:kind=K:=V.ba_ext (by simpa using h);unfold keptB;rw [h1,h2,Bool.false_or]
theorem kept_c {kind key:ByteArray} (h:(kind.toList == kCreate.toList)=true):keptB kind key=true:=by
  unfold keptB;rw [h,Bool.true_or]
theorem kept_n {kind key:ByteArray} (h1:(kind.toList == kCreate.toList)=false) (h2:(kind.toList == kMember.toList)=false) (h3:(kind.toList == kPower.toList)=false) (h4:(kind.toList == kJoin.toList)=false) (h5:(kind.toList == kAcl.toList)=false):keptB kind key=false:=by
  have ne:∀ {K:ByteArray},(kind.toList == K.toList)=false→¬ kind.data.toList=K.data.toList:=fun {K} h e=>by
    rw [Lib.toList_data,Lib.toList_data,e] at h;simp at h
  unfold keptB keptL;rw [h1,if_neg (ne h2),if_neg (ne h3),if_neg (ne h4),if_neg (ne h5),Bool.false_or];rfl
end Xr

set_option maxHeartbeats 1000000 in
theorem ref7Has_any {a:Option Addr} {n cap:Nat} {ks:List ByteArray} {w:World} {S:Nat→Prop} (h:Strs w S (.slice a n cap) ks) (key:ByteArray) (hl:ks.length≤1000) :
    Calls Tryz.prog 39 #[.slice a n cap,.string key] w fun e w'=>e=.returned (.bool (Lib.containsS ks key))∧Below w.heap.size w w':=by
  obtain ⟨hn,hc1,hc2,hz,hc⟩:=h.out;subst hn;have HC:=hide hc;have HL:=hide hl;have hkm:ks.length≤maxLen:=Nat.le_trans hc1 hc2;clear h hz hc hc1 hc2;go_enter Tryz.func39,Tryz.ntmps39
  go_wp2_with fail
  go_loopg [5] ks.length (fun gg i wr=>∃ j:Nat,j+gg=ks.length∧i=.int .i64 j∧Hid (Below w.heap.size w wr)∧Hid (¬ key ∈ ks.take j))
  case atStart=>exact ⟨0,by omega,rfl,hide (Below.refl _ _),hide (by simp)⟩
  case round =>
    obtain ⟨j,hj,rfl,H1,HN⟩:=hrel
    by_cases hlt:j < ks.length
    · obtain ⟨kb,ko,KK,hka,hKK,ek⟩:=str_at' HC.out H1.out (i:=j) hlt
      subst hka;have hK2:KK=ks[j]'hlt:=by rw [hKK.out];simp [List.getD,hlt]
      have HK2:=hide hK2;clear hKK hK2;obtain ⟨q,hq⟩:∃ q,(KK.toList == key.toList)=q:=⟨_,rfl⟩;cases q with
      | true =>
        have hin:Lib.containsS ks key=true:=(Lib.containsS_iff _ _).2 (by rw [← V.ba_ext (a:=KK) (b:=key) (by simpa using hq),HK2.out];exact List.getElem_mem hlt);have HIN:=hide hin;clear hin
        go_wp2_with fail
        go_ret
        exact ⟨by rw [HIN.out];rfl,H1.out⟩
      | false =>
        have HN2:Hid (¬ key ∈ ks.take (j+1)):=hide (by
          rw [List.take_succ_eq_append_getElem hlt,List.mem_append,List.mem_singleton];rintro (h | h)
          · exact HN.out h
          · rw [HK2.out,← h] at hq;simp at hq)
        go_wp2_with fail
        go_roundg (gk - 1)
        case measure=>omega
        case rel=>exact ⟨j+1,by omega,rfl,H1,HN2⟩
    · have hje:j=ks.length:=by omega
      have hin:Lib.containsS ks key=false:=by
        rw [Bool.eq_false_iff];intro hh;have h2:=HN.out;rw [hje,List.take_length] at h2;exact h2 ((Lib.containsS_iff _ _).1 hh)
      have HIN:=hide hin;clear hin hje
      go_wp2_with fail
      go_ret
      exact ⟨by rw [HIN.out];rfl,H1.out⟩

set_option maxHeartbeats 2000000 in
theorem ref7Kept_any (kind key:ByteArray) (w:World) :
    Calls Tryz.prog 16 #[.string kind,.string key] w fun e w'=>e=.returned (.bool (keptB kind key))∧Below w.heap.size w w':=by
  obtain ⟨q1,h1⟩:∃ q,(kind.toList == [109,46,114,111,111,109,46,99,114,101,97,116,101])=q:=⟨_,rfl⟩;have H1:Hid ((kind.toList == kCreate.toList)=q1):=hide (by rw [show kCreate.toList=[109,46,114,111,111,109,46,99,114,101,97,116,101] from by kernel_rfl];exact h1);obtain ⟨q2,h2⟩:∃ q,(kind.toList == [109,46,114,111,111,109,46,109,101,109,98,101,114])=q:=⟨_,rfl⟩;have H2:Hid ((kind.toList == kMember.toList)=q2):=hide (by rw [show kMember.toList=[109,46,114,111,111,109,46,109,101,109,98,101,114] from by kernel_rfl];exact h2);obtain ⟨q3,h3⟩:∃ q,(kind.toList == [109,46,114,111,111,109,46,112,111,119,101,114,95,108,101,118,101,108,115])=q:=⟨_,rfl⟩;have H3:Hid ((kind.toList == kPower.toList)=q3):=hide (by rw [show kPower.toList=[109,46,114,111,111,109,46,112,111,119,101,114,95,108,101,118,101,108,115] from by kernel_rfl];exact h3);obtain ⟨q4,h4⟩:∃ q,(kind.toList == [109,46,114,111,111,109,46,106,111,105,110,95,114,117,108,101,115])=q:=⟨_,rfl⟩;have H4:Hid ((kind.toList == kJoin.toList)=q4):=hide (by rw [show kJoin.toList=[109,46,114,111,111,109,46,106,111,105,110,95,114,117,108,101,115] from by kernel_rfl];exact h4);obtain ⟨q5,h5⟩:∃ q,(kind.toList == [109,46,114,111,111,109,46,115,101,114,118,101,114,95,97,99,108])=q:=⟨_,rfl⟩;have H5:Hid ((kind.toList == kAcl.toList)=q5):=hide (by rw [show kAcl.toList=[109,46,114,111,111,109,46,115,101,114,118,101,114,95,97,99,108] from by kernel_rfl];exact h5);obtain ⟨R,hR⟩:∃ R,keptB kind key=R:=⟨_,rfl⟩;rw [hR];have HR:=hide hR;clear hR;cases q1 with
  | true =>
    have e:R=true:=by rw [← HR.out];exact Xr.kept_c H1.out
    have E:=hide e;clear e h2 h3 h4 h5;go_enter Tryz.func16,Tryz.ntmps16
    go_wp2_with fail
    go_ret
    exact ⟨by rw [E.out];rfl,Below.refl _ _⟩
  | false =>
    cases q2 with
    | true =>
      have e:(key.toList == [109,101,109,98,101,114,115,104,105,112])=R:=by rw [← HR.out,Xr.kept_l (l:=lMember) H2.out (by kernel_rfl) (by kernel_rfl)];unfold lMember;rw [Xr.one_in];rw [show ((⟨#[109,101,109,98,101,114,115,104,105,112]⟩:ByteArray).toList)=[109,101,109,98,101,114,115,104,105,112] from by kernel_rfl]
      clear h3 h4 h5;go_enter Tryz.func16,Tryz.ntmps16
      go_wp2_with fail
      go_ret
      exact ⟨rfl,Below.refl _ _⟩
    | false =>
      cases q3 with
      | true =>
        have e:Lib.containsS lPower key=R:=by rw [← HR.out,Xr.kept_l (l:=lPower) H3.out (by kernel_rfl) (by kernel_rfl)]
        have E:=hide e;have bR:=below_alloc w (.cells (lPower.map Value.string).toArray 9);have SR:=hide (strs_new w lPower (by decide) (by decide) (fun _=>True) trivial);have e8:lPower.length=8:=rfl;rw [e8] at SR;simp only [lPower,List.map_cons,List.map_nil] at bR;have SR1:=hide (show Strs (w.alloc (.cells #[.string ⟨#[98,97,110]⟩,.string ⟨#[101,118,101,110,116,115]⟩,.string ⟨#[101,118,101,110,116,115,95,100,101,102,97,117,108,116]⟩,.string ⟨#[105,110,118,105,116,101]⟩,.string ⟨#[107,105,99,107]⟩,.string ⟨#[115,116,97,116,101,95,100,101,102,97,117,108,116]⟩,.string ⟨#[117,115,101,114,115]⟩,.string ⟨#[117,115,101,114,115,95,100,101,102,97,117,108,116]⟩] 9)) (fun _=>True) (.slice (some ⟨w.heap.size,0,none⟩) 8 8) lPower from SR.out);clear e e8 h4 h5 SR;go_enter Tryz.func16,Tryz.ntmps16
        go_wp2_with fail
        refine (ref7Has_any SR1.out key (by decide)).mono ?_;rintro e w1 ⟨rfl,b1⟩;rw [E.out]
        go_wp2_with fail
        go_ret
        exact ⟨rfl,bthen bR b1⟩
      | false =>
        cases q4 with
        | true =>
          have e:(key.toList == [106,111,105,110,95,114,117,108,101])=R:=by rw [← HR.out,Xr.kept_l (l:=lJoin) H4.out (by kernel_rfl) (by kernel_rfl)];unfold lJoin;rw [Xr.one_in];rw [show ((⟨#[106,111,105,110,95,114,117,108,101]⟩:ByteArray).toList)=[106,111,105,110,95,114,117,108,101] from by kernel_rfl]
          clear h5;go_enter Tryz.func16,Tryz.ntmps16
          go_wp2_with fail
          go_ret
          exact ⟨rfl,Below.refl _ _⟩
        | false =>
          cases q5 with
          | true =>
            have e:((key.toList == [97,108,108,111,119]) || (key.toList == [100,101,110,121]))=R:=by rw [← HR.out,Xr.kept_l (l:=lAcl) H5.out (by kernel_rfl) (by kernel_rfl)];unfold lAcl;rw [Xr.two_in];rw [show ((⟨#[97,108,108,111,119]⟩:ByteArray).toList)=[97,108,108,111,119] from by kernel_rfl,show ((⟨#[100,101,110,121]⟩:ByteArray).toList)=[100,101,110,121] from by kernel_rfl]
            obtain ⟨q6,h6⟩:∃ q,(key.toList == [97,108,108,111,119])=q:=⟨_,rfl⟩;rw [h6] at e;cases q6 with
            | true =>
              have E:Hid (R=true):=hide (by rw [← e];rfl);clear e;go_enter Tryz.func16,Tryz.ntmps16
              go_wp2_with fail
              go_ret
              exact ⟨by rw [E.out];rfl,Below.refl _ _⟩
            | false =>
              rw [Bool.false_or] at e;go_enter Tryz.func16,Tryz.ntmps16
              go_wp2_with fail
              go_ret
              exact ⟨rfl,Below.refl _ _⟩
          | false =>
            have e:R=false:=by rw [← HR.out];exact Xr.kept_n H1.out H2.out H3.out H4.out H5.out
            have E:=hide e;clear e;go_enter Tryz.func16,Tryz.ntmps16
            go_wp2_with fail
            go_ret
            exact ⟨by rw [E.out];rfl,Below.refl _ _⟩
end Go.Proofs.YtapcmbbhhclepaaGreatDoor
