/-
  THE WALK of the law RedactNone (layer 7).
-/
import Derived.Test.YtapcmbbhhclepaaGreatDoorS23
import Derived.Deep.DeepCutAuto
import Derived.Deep.CutBlock
set_option linter.unusedVariables false
set_option linter.unusedSimpArgs false
set_option maxRecDepth 100000
namespace Go.Proofs.YtapcmbbhhclepaaGreatDoor
open Go.RowKit

namespace Xr
theorem redact_no5 {x : V} (h : x.kind ≠ 5) : redact x = V.nul := by unfold redact; rw [if_neg h]
theorem hashed_no5 {x : V} (h : x.kind ≠ 5) : hashed x = false := by
  have e : told x = V.nul := by
    unfold told
    rw [V.get_no5 h]
    simp only [Option.getD_none]
    rw [V.get_no5 (by show ¬ ((0 : Int) = 5); decide)]
    rfl
  unfold hashed
  rw [e]
  rfl
theorem kept_q (s : ByteArray) : keptB (s ++ ⟨#[63]⟩) s = false := by
  have hl : (s ++ ⟨#[63]⟩).data.toList = s.data.toList ++ [63] := by rw [ByteArray.data_append]; simp
  have no : ∀ (k : ByteArray) (t : List UInt8) (c : UInt8),k.data.toList = t ++ [c] → c ≠ 63 → (s ++ ⟨#[63]⟩).data.toList ≠ k.data.toList := fun k t c hk hc e => by
    rw [hl,hk] at e
    have h1 := congrArg List.getLast? e
    simp at h1
    exact hc h1.symm
  have e1 : ((s ++ ⟨#[63]⟩ : ByteArray).toList == kCreate.toList) = false := by
    rw [Lib.toList_data,Lib.toList_data]
    have := no kCreate [109,46,114,111,111,109,46,99,114,101,97,116] 101 rfl (by decide)
    simpa using this
  have e2 : keptL (s ++ ⟨#[63]⟩) = [] := by
    unfold keptL
    rw [if_neg (no kMember [109,46,114,111,111,109,46,109,101,109,98,101] 114 rfl (by decide)),if_neg (no kPower [109,46,114,111,111,109,46,112,111,119,101,114,95,108,101,118,101,108] 115 rfl (by decide)),if_neg (no kJoin [109,46,114,111,111,109,46,106,111,105,110,95,114,117,108,101] 115 rfl (by decide)),if_neg (no kAcl [109,46,114,111,111,109,46,115,101,114,118,101,114,95,97,99] 108 rfl (by decide))]
  unfold keptB
  rw [e1,e2,Bool.false_or]
  have : ¬ Lib.containsS ([] : List ByteArray) s = true := by rw [Lib.containsS_iff]; simp
  simpa using this
theorem kept_create (s : ByteArray) : keptB ⟨#[109,46,114,111,111,109,46,99,114,101,97,116,101]⟩ s = true := by
  unfold keptB
  have e : ((⟨#[109,46,114,111,111,109,46,99,114,101,97,116,101]⟩ : ByteArray).toList == kCreate.toList) = true := by kernel_rfl
  rw [e]
  rfl
end Xr

def NoneOk (w wc : World) (g : Nat) (k n : Int) (t : ByteArray) (a1 : Option Addr) (n1 c1 : Nat) (a2 : Option Addr) (n2 c2 : Nat) (y : V) : Prop :=
  Below w.heap.size w wc ∧ B5 wc g (.int .i64 k) (.int .i64 n) (.string t) (.slice a1 n1 c1) (.slice a2 n2 c2) ∧ Is wc (fun _ => True) (.agg #[.int .i64 k,.int .i64 n,.string t,.slice a1 n1 c1,.slice a2 n2 c2]) y ∧ y.kind ≠ 5 ∧ V.right y = true ∧ V.wt y ≤ 100 ∧ Xr.cost y ≤ 1000
theorem none_plain {w wc w2 : World} {g : Nat} (k n : Int) (t : ByteArray) (hb : Below w.heap.size w wc) (hw : w2 = wc.alloc (.cells #[.int .i64 k,.int .i64 n,.string t,.slice none 0 0,.slice none 0 0] 27)) (hg : g = wc.heap.size) (hk : k ≠ 5) (ht : t.size ≤ 1) (hr : V.right ⟨k,n,t,[],[]⟩ = true) : NoneOk w w2 g k n t none 0 0 none 0 0 ⟨k,n,t,[],[]⟩ := by
  subst hw hg
  refine ⟨bthen hb (below_alloc _ _),b5_new _ _ _ _ _ _ _ rfl,is_plain _ _ k n t (Nat.le_trans ht (by decide)),hk,hr,?_,?_⟩
  · rw [V.wt_mk]; simp only [V.wtK,V.wtL_nil]; omega
  · rw [Xr.cost_mk]; simp only [Xr.costK,Xr.costL_nil]; omega

def listN : V := ⟨4,0,⟨#[]⟩,[],[V.nul]⟩
theorem listN_right : V.right listN = true := by
  unfold listN V.nul
  simp only [V.right_mk,List.all_cons,List.all_nil]
  kernel_rfl
theorem none_list {w w2 : World} {o : Obj} {g : Nat} (hw : w2 = ((w.alloc (.cells #[.int .i64 0,.int .i64 0,.string ⟨#[]⟩,.slice none 0 0,.slice none 0 0] 27)).alloc o).alloc (.cells #[.int .i64 4,.int .i64 0,.string ⟨#[]⟩,.slice none 0 0,.slice (some ⟨w.heap.size,0,none⟩) 1 1] 27)) (hg : g = w.heap.size + 1 + 1) : NoneOk w w2 g 4 0 ⟨#[]⟩ none 0 0 (some ⟨w.heap.size,0,none⟩) 1 1 listN := by
  subst hw hg
  refine ⟨bthen (below_alloc _ _) (bthen (below_alloc _ _) (below_alloc _ _)),b5_new _ _ _ _ _ _ _ (by simp),?_,by show ¬ ((4 : Int) = 5); decide,listN_right,?_,?_⟩
  · refine (Is.shut (x := listN) (w := w.alloc (.cells #[.int .i64 0,.int .i64 0,.string ⟨#[]⟩,.slice none 0 0,.slice none 0 0] 27)) (strs_nil _ _) ?_ (by decide)).below (bthen (below_alloc _ _) (below_alloc _ _))
    have hr := Row.cells (row_new w #[.int .i64 0,.int .i64 0,.string ⟨#[]⟩,.slice none 0 0,.slice none 0 0] 27 _ rfl) (S := fun _ => True) trivial (n := 5) (Nat.le_refl _)
    refine ⟨_,_,_,rfl,Nat.le_refl _,by decide,hr,?_⟩
    intro i hi
    have : i = 0 := by have h2 : i < 1 := hi; omega
    subst this
    exact is_plain _ _ 0 0 ⟨#[]⟩ (by decide)
  · unfold listN V.nul
    simp only [V.wt_mk,V.wtL_cons,V.wtL_nil,V.wtK]
    decide
  · unfold listN V.nul
    simp only [Xr.cost_mk,Xr.costL_cons,Xr.costL_nil,Xr.costK]
    decide

set_option maxHeartbeats 2000000 in
theorem redactNone_walk (n : Int) (s : ByteArray) (k : Int) (w0 : (Lit.int .i64 n).wf = true) (w1 : s.size ≤ maxLen) (w2 : (Lit.int .u8 k).wf = true) (w : World) (hT : Tabs w) :
    Calls Tryz.prog 9 #[.int .i64 n,.string s,.int .u8 k] w fun e w' => e = .returned (.bool true) ∧ Below w.heap.size w w' := by
  have HT := hide hT
  clear hT
  obtain ⟨hk0,hk1⟩ := wf_u8 w2
  by_cases h50 : 50 < s.size
  · go_enter Tryz.func9,Tryz.ntmps9
    go_wp2_with fail
    refine (xknown_any w HT.out).mono ?_
    rintro e w3 ⟨rfl,b3⟩
    go_wp2_with fail
    go_ret
    exact ⟨rfl,b3⟩
  · go_enter Tryz.func9,Tryz.ntmps9
    go_upto_region 3 with fail
    go_cut [7] (fun sv wc => ∃ g k n t a1 n1 c1 a2 n2 c2 y,sv = .pointer (some ⟨g,0,none⟩) ∧ Hid (NoneOk w wc g k n t a1 n1 c1 a2 n2 c2 y))
    case first =>
      have hp : k % 5 = 0 ∨ k % 5 = 1 ∨ k % 5 = 2 ∨ k % 5 = 3 ∨ k % 5 = 4 := by omega
      have hbb : ∀ o1 o2 : Obj,Below w.heap.size w ((w.alloc o1).alloc o2) := fun o1 o2 => bthen (below_alloc _ _) (below_alloc _ _)
      have hk2 : V.numOk 1 (k % 2) = true := by
        have : k % 2 = 0 ∨ k % 2 = 1 := by omega
        rcases this with e | e <;> rw [e] <;> rfl
      have hn2 : V.numOk 2 (n.tmod 1000) = true := by
        have h1 : (n.tmod 1000).natAbs < 1000 := by rw [Int.natAbs_tmod]; exact Nat.mod_lt _ (by decide)
        unfold V.numOk
        rw [if_neg (by omega),if_pos rfl]
        simp only [Bool.and_eq_true,decide_eq_true_eq]
        omega
      rcases hp with hp | hp | hp | hp | hp
      · go_wp2_with fail
        go_meet
        exact ⟨_,_,_,_,_,_,_,_,_,_,_,rfl,hide (none_plain 0 0 ⟨#[]⟩ (hbb _ _) rfl (by simp) (by decide) (by decide) (V.right_bare 0 0 (by decide) (by decide)))⟩
      · go_wp2_with fail
        go_meet
        exact ⟨_,_,_,_,_,_,_,_,_,_,_,rfl,hide (none_plain 1 (k % 2) ⟨#[]⟩ (hbb _ _) rfl (by simp) (by decide) (by decide) ((V.right_bare 1 (k % 2) (by decide) (by decide)).trans hk2))⟩
      · go_wp2_with fail
        go_meet
        exact ⟨_,_,_,_,_,_,_,_,_,_,_,rfl,hide (none_plain 2 (n.tmod 1000) ⟨#[]⟩ (hbb _ _) rfl (by simp) (by decide) (by decide) ((V.right_bare 2 (n.tmod 1000) (by decide) (by decide)).trans hn2))⟩
      · go_wp2_with fail
        go_meet
        exact ⟨_,_,_,_,_,_,_,_,_,_,_,rfl,hide (none_plain 3 0 ⟨#[120]⟩ (hbb _ _) rfl (by simp) (by decide) (by decide) (V.right_str (s := ⟨#[120]⟩) (by kernel_rfl)))⟩
      · go_wp2_with fail
        go_meet
        exact ⟨_,_,_,_,_,_,_,_,_,_,_,rfl,hide (none_list rfl (by simp))⟩
    case rest =>
      obtain ⟨w3,rfl⟩ : ∃ w3,w3 = wc := ⟨_,rfl⟩
      obtain ⟨g,k3,n3,t3,a1,n1,c1,a2,n2,c2,y,rfl,HOK⟩ := hcut
      have L3 := hide HOK.out.1
      have X3 := hide HOK.out.2.1
      have I3 := hide HOK.out.2.2.1
      have Y5 := hide HOK.out.2.2.2.1
      have YR := hide HOK.out.2.2.2.2.1
      have YW := hide HOK.out.2.2.2.2.2.1
      have YC := hide HOK.out.2.2.2.2.2.2
      have T3 := hide (HT.out.below L3.out)
      clear HOK
      go_wp2_with fail
      refine (xknown_any w3 T3.out).mono ?_
      rintro e w4 ⟨rfl,b4⟩
      have L4 := hide (bthen L3.out b4)
      have T4 := hide (T3.out.below b4)
      have X4 := hide (X3.out.keep b4)
      have I4 := hide (I3.out.below b4)
      clear b4
      obtain ⟨p0,p1,p2,p3,p4⟩ := X4.out.cells
      go_wp2_with fail
      clear p0 p1 p2 p3 p4
      refine (redact_any I4.out (Nat.le_trans YW.out (by decide))).mono ?_
      rintro e w5 ⟨k5,m5,t5,s5,n5,c5,s6,n6,c6,rfl,h5,b5⟩
      have L5 := hide (bthen L4.out b5)
      have T5 := hide (T4.out.below b5)
      have X5 := hide (X4.out.keep b5)
      have I5 := hide (I4.out.below b5)
      have R5 := hide h5
      clear b5 h5
      go_wp2_with fail
      refine (refSame_any R5.out (is_plain w5 (fun _ => True) 0 0 ⟨#[]⟩ (by decide)) (by rw [Xr.redact_no5 Y5.out,Xr.wt_nul]; decide) (by rw [V.wt_mk]; decide) true ⟨fun _ => Xr.redact_no5 Y5.out,fun _ => rfl⟩).mono ?_
      rintro e w6 ⟨rfl,b6⟩
      have L6 := hide (bthen L5.out b6)
      have T6 := hide (T5.out.below b6)
      have X6 := hide (X5.out.keep b6)
      have I6 := hide (I5.out.below b6)
      clear b6
      obtain ⟨p0,p1,p2,p3,p4⟩ := X6.out.cells
      go_wp2_with fail
      clear p0 p1 p2 p3 p4
      refine (hashed_any I6.out YR.out (Nat.le_trans YW.out (by decide)) (Nat.le_trans YC.out (by decide)) T6.out).mono ?_
      rintro e w7 ⟨rfl,b7⟩
      rw [Xr.hashed_no5 Y5.out]
      have L7 := hide (bthen L6.out b7)
      clear b7
      go_wp2_with fail
      refine (Kept_any _ _ w7 (by simp only [ByteArray.size_append]; have h1 : (⟨#[63]⟩ : ByteArray).size = 1 := rfl; unfold maxLen; omega)).mono ?_
      rintro e w8 ⟨rfl,b8⟩
      rw [Xr.kept_q s]
      have L8 := hide (bthen L7.out b8)
      clear b8
      go_wp2_with fail
      refine (Kept_any _ _ w8 (by decide)).mono ?_
      rintro e w9 ⟨rfl,b9⟩
      rw [Xr.kept_create s]
      go_wp2_with fail
      go_ret
      exact ⟨rfl,bthen L8.out b9⟩
end Go.Proofs.YtapcmbbhhclepaaGreatDoor
