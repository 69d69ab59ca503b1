/-
  THE WALK of the law RedactContent (layer 7).
-/
import Derived.Test.YtapcmbbhhclepaaGreatDoorSxXBody
import Derived.Test.YtapcmbbhhclepaaGreatDoorSxXCostB
import Derived.Test.YtapcmbbhhclepaaGreatDoorS23
set_option linter.unusedVariables false
set_option linter.unusedSimpArgs false
set_option maxRecDepth 100000
namespace Go.Proofs.YtapcmbbhhclepaaGreatDoor
open Go.RowKit

theorem ancB_le {L : List Oper} (hbk : backB 0 L = true) : ∀ (f k j : Nat),ancB L f k j = true → j ≤ k
  | 0, k, j, h => by have e : k = j := by simpa [ancB] using h
                     omega
  | f + 1,k,j,h => by
    rw [ancB] at h
    rcases Bool.or_eq_true .. ▸ h with h | h
    · have e : k = j := by simpa using h
      omega
    · cases ho : L[k]? with
      | none => rw [ho] at h; cases h
      | some o =>
        rw [ho] at h
        obtain ⟨d,hd,h2⟩ := List.any_eq_true.1 h
        have h3 := (Bool.and_eq_true ..).mp h2
        obtain ⟨e,he,h5,h6⟩ := depB_spec h3.1
        have h7 := backB_at L 0 hbk k o ho e he h6
        have h8 := ancB_le hbk f d j h3.2
        omega
theorem ownM_apart {L : List Oper} {lo hi : Nat → Nat} (hbk : backB 0 L = true) {k g : Nat} (kb : Nat) (hkb : k < kb) (hap : ∀ j,j ≤ k → hi j ≤ lo kb ∨ hi kb ≤ lo j) (hg : lo kb ≤ g ∧ g < hi kb) : ¬ ownM L lo hi k g := by
  rintro ⟨f,j,h1,h2,h3⟩
  have := hap j (ancB_le hbk f k j h1)
  omega
theorem ownM_alone {L : List Oper} {lo hi : Nat → Nat} {k : Nat} {o : Oper} (ho : L[k]? = some o) (hn : o.after = #[]) {b : Nat} (h : ownM L lo hi k b) : lo k ≤ b ∧ b < hi k := by
  obtain ⟨f,j,h1,h2,h3⟩ := h
  have e : k = j := by
    cases f with
    | zero => simpa [ancB] using h1
    | succ f =>
      rw [ancB,ho] at h1
      have h4 : ∀ d,depB o d = false := fun d => by simp [depB,hn]
      simpa [h4] using h1
  subst e
  exact ⟨h2,h3⟩
theorem ownM_box {L : List Oper} {lo hi : Nat → Nat} (kb : Nat) {k g : Nat} {o : Oper} (hm : ownM L lo hi kb g) (hbk : backB 0 L = true) (ho : L[kb]? = some o) (hn : o.after = #[]) (hkb : k < kb) (hap : ∀ j,j ≤ k → hi j ≤ lo kb ∨ hi kb ≤ lo j) : ¬ ownM L lo hi k g ∧ lo kb ≤ g ∧ g < hi kb :=
  ⟨ownM_apart hbk kb hkb hap (ownM_alone ho hn hm),ownM_alone ho hn hm⟩
def ValM (G : Nat) (x : V) : FactM := fun M v w => ∃ k n t a1 n1 c1 a2 n2 c2,v = .agg #[.int .i64 k,.int .i64 n,.string t,.slice a1 n1 c1,.slice a2 n2 c2] ∧ Hid (Is w (fun b => b < G ∨ M b) (.agg #[.int .i64 k,.int .i64 n,.string t,.slice a1 n1 c1,.slice a2 n2 c2]) x)
theorem monoM_val (G : Nat) (x : V) : MonoM (ValM G x) := by
  rintro M M' v w w' ⟨k,n,t,a1,n1,c1,a2,n2,c2,h1,h2⟩ hs b
  exact ⟨k,n,t,a1,n1,c1,a2,n2,c2,h1,hide ((h2.out.below b).weak (fun b _ hb => hb.imp id (hs b)))⟩
def BoxM : FactM := fun M v w => ∃ g,v = .pointer (some ⟨g,0,none⟩) ∧ M g ∧ Hid (B5 w g (.int .i64 0) (.int .i64 0) (.string ⟨#[]⟩) (.slice none 0 0) (.slice none 0 0))
theorem monoM_box : MonoM BoxM := by
  rintro M M' v w w' ⟨g,h1,h2,h3⟩ hs b
  exact ⟨g,h1,hs g h2,hide (h3.out.keep b)⟩
theorem B5.lt {w : World} {g : Nat} {c0 c1 c2 c3 c4 : Value} (h : B5 w g c0 c1 c2 c3 c4) : g < w.heap.size := (Array.getElem?_eq_some_iff.1 h).1
def kZZ : ByteArray := ⟨#[122,122]⟩
namespace Xr
theorem kindN_size (k : Int) : (kindN k).size ≤ 20 := key_small kindsL 20 (by decide) _
theorem kindN_utf (k : Int) : V.utf (kindN k) = true := utf_list kindsL (by kernel_rfl) _
theorem kept_no {KD key : ByteArray} {l : List ByteArray} (h1 : (KD.toList == kCreate.toList) = false) (h2 : keptL KD = l) (h3 : l.all (fun x => !(x.data.toList == key.data.toList)) = true) : keptB KD key = false := by
  unfold keptB
  rw [h1,h2,Bool.false_or]
  have : ¬ Lib.containsS l key = true := by
    rw [Lib.containsS_iff]
    intro hm
    have := List.all_eq_true.1 h3 key hm
    simp at this
  simpa using this
theorem bodyX_cost (zs : List Int) (len : Nat) (k : Int) (i : Nat) : cost (bodyX zs len k i) ≤ 6400 := by
  unfold bodyX
  split
  · rw [cost_str]; have := key_small words5 10 (by decide) (zs.getD i 0 / 10 % 5).toNat; omega
  · split
    · rw [cost_str]; have := key_small words3 10 (by decide) (zs.getD i 0 / 10 % 3).toNat; omega
    · split
      · exact cost_part _ _ _
      · rw [cost_num]; omega
theorem bodyTo_cost (zs : List Int) (len : Nat) (k : Int) : ∀ i,cost (bodyTo zs len k i) ≤ 24 + 6500 * i
  | 0 => by show cost V.none5 ≤ _; unfold V.none5; rw [cost_mk]; decide
  | i + 1 => by
    have h1 := bodyTo_cost zs len k i
    have h2 := cost_with (bodyTo zs len k i) (bodyKeys.getD (zs.getD i 0 % 10).toNat ByteArray.empty) (bodyX zs len k i)
    have h3 := bodyX_cost zs len k i
    have h4 := bodyKey_size (zs.getD i 0 % 10).toNat
    simp only [bodyTo]
    omega
theorem body_cost (zs : List Int) (len : Nat) (k : Int) : cost (body zs len k) ≤ 40000 := by have := bodyTo_cost zs len k (min 6 len); unfold body; omega
theorem body_wt (zs : List Int) (len : Nat) (k : Int) : V.wt (body zs len k) ≤ 25000 := by have := bodyTo_wt zs len k (min 6 len); unfold body; omega
theorem body_right {zs : List Int} (h : ∀ n ∈ zs,(Lit.int .u8 n).wf = true) (len : Nat) (k : Int) : V.right (body zs len k) = true := bodyTo_right h len k _
theorem body_5 (zs : List Int) (len : Nat) (k : Int) : (body zs len k).kind = 5 := bodyTo_5 zs len k _
/-- a body,and its kind,in an event -/
def evV (B : V) (KD : ByteArray) : V := V.withV (V.withV ⟨0,0,⟨#[]⟩,[],[]⟩ kContent B) kType ⟨3,0,KD,[],[]⟩
theorem evV_right {B : V} {KD : ByteArray} (hB : V.right B = true) (hK : V.utf KD = true) : V.right (evV B KD) = true ∧ (evV B KD).kind = 5 := by
  have h1 := V.one_key kContent B
  have h2 : V.withV ⟨0,0,⟨#[]⟩,[],[]⟩ kContent B = ⟨5,0,⟨#[]⟩,[kContent],[B]⟩ := h1
  unfold evV
  rw [h2]
  exact ⟨V.right_with (V.one_right utf_content hB) rfl utf_type (V.right_str hK),V.kind5_with _ _ _⟩
theorem evV_get {B : V} {KD : ByteArray} (hB : V.right B = true) (hK : V.utf KD = true) (o : ByteArray) : V.get (evV B KD) o = if o = kType then some (V.str KD) else if o = kContent then some B else none := by
  have h1 := V.one_key kContent B
  have h2 : V.withV ⟨0,0,⟨#[]⟩,[],[]⟩ kContent B = ⟨5,0,⟨#[]⟩,[kContent],[B]⟩ := h1
  unfold evV
  have h3 := V.get_with (V.one_right utf_content hB) rfl utf_type (V.right_str hK) o
  unfold V.str at h3
  rw [h2,h3]
  by_cases e : o = kType
  · rw [if_pos e,if_pos e]; rfl
  · rw [if_neg e,if_neg e]
    by_cases e2 : o = kContent
    · rw [if_pos e2,e2,V.one_get]
    · rw [if_neg e2,V.get_miss 0 _ o rfl (by simpa using e2)]
theorem evV_size {B : V} {KD : ByteArray} (hB : V.wt B ≤ 25000) (hc : cost B ≤ 40000) (hK : KD.size ≤ 20) : V.wt (evV B KD) ≤ 26000 ∧ cost (evV B KD) ≤ 41000 := by
  have e7 : kContent.size = 7 := rfl
  have e4 : kType.size = 4 := rfl
  have w0 : V.wt ⟨0,0,⟨#[]⟩,[],[]⟩ = 1 := by rw [V.wt_mk]; decide
  have c0 : cost ⟨0,0,⟨#[]⟩,[],[]⟩ = 24 := by rw [cost_mk]; decide
  have ws : V.wt ⟨3,0,KD,[],[]⟩ = 1 + KD.size := wt_str KD
  have cs : cost ⟨3,0,KD,[],[]⟩ = 24 + 6 * KD.size := cost_str KD
  have h1 := V.wt_with_le ⟨0,0,⟨#[]⟩,[],[]⟩ kContent B
  have h2 := V.wt_with_le (V.withV ⟨0,0,⟨#[]⟩,[],[]⟩ kContent B) kType ⟨3,0,KD,[],[]⟩
  have h3 := cost_with ⟨0,0,⟨#[]⟩,[],[]⟩ kContent B
  have h4 := cost_with (V.withV ⟨0,0,⟨#[]⟩,[],[]⟩ kContent B) kType ⟨3,0,KD,[],[]⟩
  unfold evV
  omega
theorem evV_kind {B : V} {KD : ByteArray} (hB : V.right B = true) (hK : V.utf KD = true) : kindOf (evV B KD) = KD := by
  unfold kindOf
  rw [evV_get hB hK,if_pos rfl]
  rfl
/-- what of a content is not kept is not seen -/
theorem keep_with {B P : V} {KD key : ByteArray} (hB : V.right B = true) (h5 : B.kind = 5) (hP : V.right P = true) (hk : V.utf key = true) (hn : keptB KD key = false) : keep KD (V.withV B key P) = keep KD B := by
  have h1 := V.right_with hB h5 hk hP
  have h2 := V.kind5_with B key P
  unfold keep
  rw [if_pos h2,if_pos h5]
  have r1 := ofContent_right h1 h2 KD
  have r2 := ofContent_right hB h5 KD
  refine V.ext5 r1.1 r2.1 r1.2 r2.2 (fun o => ?_)
  rw [get_ofContent h1 h2,get_ofContent hB h5,V.get_with hB h5 hk hP]
  by_cases e : o = key
  · subst e
    rw [hn]
    simp
  · rw [if_neg e]
structure Fa (B VV : V) (KD : ByteArray) : Prop where
  br : V.right B = true
  b5 : B.kind = 5
  bw : V.wt B ≤ 25000
  bc : cost B ≤ 40000
  vr : V.right VV = true
  v5 : VV.kind = 5
  vw : V.wt VV ≤ 26000
  vc : cost VV ≤ 41000
  sr : V.right (sealed VV) = true
  s5 : (sealed VV).kind = 5
  sw : V.wt (sealed VV) ≤ 53000
  sc : cost (sealed VV) ≤ 42000
  sh : hashed (sealed VV) = true
  kd : kindOf VV = KD
  nz : keptB KD kZZ = false
  vv : VV = evV B KD
  ku : V.utf KD = true
theorem content_facts {zs : List Int} (hz : ∀ n ∈ zs,(Lit.int .u8 n).wf = true) (len : Nat) (k j : Int) (hj0 : 1 ≤ j) (hj1 : j ≤ 4) (B : V) (hB : body zs len k = B) (KD : ByteArray) (hK : kindN j = KD) (VV : V) (hV : V.withV (V.withV ⟨0,0,⟨#[]⟩,[],[]⟩ kContent B) kType ⟨3,0,KD,[],[]⟩ = VV) : Fa B VV KD := by
  have br : V.right B = true := by rw [← hB]; exact body_right hz len k
  have b5 : B.kind = 5 := by rw [← hB]; exact body_5 zs len k
  have bw : V.wt B ≤ 25000 := by rw [← hB]; exact body_wt zs len k
  have bc : cost B ≤ 40000 := by rw [← hB]; exact body_cost zs len k
  have ku : V.utf KD = true := by rw [← hK]; exact kindN_utf j
  have ks : KD.size ≤ 20 := by rw [← hK]; exact kindN_size j
  have vv : VV = evV B KD := hV.symm
  have e1 := evV_right br ku
  have e2 := evV_size (KD := KD) bw bc ks
  rw [← vv] at e1 e2
  have s1 := sealed_right' e1.1 e1.2
  have s2 := wt_sealed VV
  have s3 := cost_sealed VV
  have nz : keptB KD kZZ = false := by
    rw [← hK]
    have : j = 1 ∨ j = 2 ∨ j = 3 ∨ j = 4 := by omega
    rcases this with rfl | rfl | rfl | rfl
    · exact kept_no (l := lMember) (by kernel_rfl) (by kernel_rfl) (by kernel_rfl)
    · exact kept_no (l := lPower) (by kernel_rfl) (by kernel_rfl) (by kernel_rfl)
    · exact kept_no (l := lJoin) (by kernel_rfl) (by kernel_rfl) (by kernel_rfl)
    · exact kept_no (l := lAcl) (by kernel_rfl) (by kernel_rfl) (by kernel_rfl)
  exact ⟨br,b5,bw,bc,e1.1,e1.2,e2.1,e2.2,s1.1,s1.2,by omega,by omega,hashed_sealed e1.1 e1.2,by rw [vv]; exact evV_kind br ku,nz,vv,ku⟩
structure Fb (B VV P : V) (KD : ByteArray) : Prop extends Fa B VV KD where
  xr : V.right (V.withV (sealed VV) kContent (V.withV B kZZ P)) = true
  xw : V.wt (V.withV (sealed VV) kContent (V.withV B kZZ P)) ≤ 90000
  xc : cost (V.withV (sealed VV) kContent (V.withV B kZZ P)) ≤ 90000
  yr : V.right (sealed (V.withV (sealed VV) kContent (V.withV B kZZ P))) = true
  yw : V.wt (sealed (V.withV (sealed VV) kContent (V.withV B kZZ P))) ≤ 190000
  yc : cost (sealed (V.withV (sealed VV) kContent (V.withV B kZZ P))) ≤ 91000
  yh : hashed (sealed (V.withV (sealed VV) kContent (V.withV B kZZ P))) = true
  rr : redact (V.withV (sealed VV) kContent (V.withV B kZZ P)) = redact (sealed VV)
  rxw : V.wt (redact (V.withV (sealed VV) kContent (V.withV B kZZ P))) ≤ 4294967296
  rsw : V.wt (redact (sealed VV)) ≤ 4294967296
theorem Fa.more {B VV : V} {KD : ByteArray} (F : Fa B VV KD) (z1 : List Int) (len1 : Nat) (k : Int) : Fb B VV (V.part z1 len1 k) KD := by
  have pr := V.right_part z1 len1 k
  have pw := V.wt_part z1 len1 k
  have pc := cost_part z1 len1 k
  generalize V.part z1 len1 k = P at pr pw pc ⊢
  have uz : V.utf kZZ = true := by kernel_rfl
  have cr := V.right_with F.br F.b5 uz pr
  have xr := V.right_with F.sr F.s5 utf_content cr
  have x5 := V.kind5_with (sealed VV) kContent (V.withV B kZZ P)
  have e2 : kZZ.size = 2 := rfl
  have e7 : kContent.size = 7 := rfl
  have w1 := V.wt_with_le B kZZ P
  have w2 := V.wt_with_le (sealed VV) kContent (V.withV B kZZ P)
  have c1 := cost_with B kZZ P
  have c2 := cost_with (sealed VV) kContent (V.withV B kZZ P)
  have h1 := F.bw
  have h2 := F.bc
  have h3 := F.sw
  have h4 := F.sc
  have y1 := sealed_right' xr x5
  have y2 := wt_sealed (V.withV (sealed VV) kContent (V.withV B kZZ P))
  have y3 := cost_sealed (V.withV (sealed VV) kContent (V.withV B kZZ P))
  have r1 := wt_redact (V.withV (sealed VV) kContent (V.withV B kZZ P))
  have r2 := wt_redact (sealed VV)
  have gs : ∀ o,V.get (sealed VV) o = if o = kHashes then some (sumV (hash VV)) else V.get VV o := get_sealed F.vr F.v5 (utf_hash VV)
  have gx : ∀ o,V.get (V.withV (sealed VV) kContent (V.withV B kZZ P)) o = if o = kContent then some (V.withV B kZZ P) else V.get (sealed VV) o := V.get_with F.sr F.s5 utf_content cr
  have gc : V.get (sealed VV) kContent = some B := by
    rw [gs,if_neg hashes_ne.symm,F.vv,evV_get F.br F.ku,if_neg type_ne.symm,if_pos rfl]
  have kx : kindOf (V.withV (sealed VV) kContent (V.withV B kZZ P)) = KD := by
    rw [← F.kd]
    exact kindOf_congr (by rw [gx,if_neg type_ne,gs,if_neg type_hashes])
  refine ⟨F,xr,by omega,by omega,y1.1,by omega,by omega,hashed_sealed xr x5,?_,by omega,by omega⟩
  refine redact_congr xr F.sr x5 F.s5 (fun o _ e => by rw [gx,if_neg e]) ?_
  rw [gx,if_pos rfl,gc,kx]
  simp only [Option.map_some]
  rw [keep_with F.br F.b5 pr uz F.nz]
end Xr

set_option maxHeartbeats 4000000 in
theorem redactContent_walk (a0 : Option Addr) (len0 cap0 : Nat) (z0 : List Int) (a1 : Option Addr) (len1 cap1 : Nat) (z1 : List Int) (a2 : Int) (w : World) (w0 : IsRow .u8 w a0 len0 cap0 z0) (w1 : IsRow .u8 w a1 len1 cap1 z1) (w2 : (Lit.int .u8 a2).wf = true) (hT : Tabs w) :
    Calls Tryz.prog 8 #[.slice a0 len0 cap0,.slice a1 len1 cap1,.int .u8 a2] w fun e w' => e = .returned (.bool true) ∧ Below w.heap.size w w' := by
  have HT := hide hT
  have HR0 := hide w0
  have HR1 := hide w1
  obtain ⟨hk0,hk1⟩ := wf_u8 w2
  have hz0 := (IsRow.view w0).2.2.1
  have HZ0 := hide hz0
  clear hT w0 w1 w2 hz0
  go_enter Tryz.func8,Tryz.ntmps8
  go_wp2_with fail
  refine (body_any a0 len0 cap0 z0 a2 w HR0.out hk0 hk1).mono ?_
  rintro e v1 ⟨bk,bn,bt,ba1,bn1,bc1,ba2,bn2,bc2,rfl,h1,b1⟩
  have bA := below_alloc v1 (.cells #[.int .i64 bk,.int .i64 bn,.string bt,.slice ba1 bn1 bc1,.slice ba2 bn2 bc2] 27)
  have bb := bthen b1 bA
  have L := hide bb
  have IB := hide ((h1.below bA).weak (S' := fun _ => True) (fun _ _ _ => trivial))
  have XB := hide (b5_new v1 (.int .i64 bk) (.int .i64 bn) (.string bt) (.slice ba1 bn1 bc1) (.slice ba2 bn2 bc2) _ rfl)
  replace HT := hide (HT.out.below bb)
  replace HR0 := hide (isRow_keep HR0.out bb)
  replace HR1 := hide (isRow_keep HR1.out bb)
  clear h1 bA b1 bb
  obtain ⟨B,hB⟩ : ∃ B,Xr.body z0 len0 a2 = B := ⟨_,rfl⟩
  rw [hB] at IB
  have HB := hide hB
  clear hB
  go_upto_region 2 with fail
  generalize v1.alloc (.cells #[.int .i64 bk,.int .i64 bn,.string bt,.slice ba1 bn1 bc1,.slice ba2 bn2 bc2] 27) = w1 at HT HR0 HR1 L IB XB ⊢
  generalize v1.heap.size = gB at XB ⊢
  go_wp2_with fail
  refine (kind_any _ _ (by omega) (by omega)).mono ?_
  rintro e w2 ⟨rfl,bb⟩
  replace L := hide (bthen L.out bb)
  replace HT := hide (HT.out.below bb)
  replace IB := hide (IB.out.below bb)
  replace XB := hide (XB.out.keep bb)
  replace HR0 := hide (isRow_keep HR0.out bb)
  replace HR1 := hide (isRow_keep HR1.out bb)
  clear bb
  obtain ⟨KD,hKD⟩ : ∃ K,Xr.kindN (1 + a2 % 4) = K := ⟨_,rfl⟩
  rw [hKD]
  have HKD := hide hKD
  have hks := Xr.kindN_size (1 + a2 % 4)
  rw [hKD] at hks
  have HKS := hide hks
  clear hKD hks
  obtain ⟨p0,p1,p2,p3,p4⟩ := XB.out.cells
  go_wp2_with fail
  clear p0 p1 p2 p3 p4
  refine (refWith_all (is_plain w2 (fun _ => True) 0 0 ⟨#[]⟩ (by decide)) IB.out (by rw [V.wt_mk]; decide) kContent (by decide)).mono ?_
  rintro e w3 ⟨uk,un,ut,ua1,un1,uc1,ua2,un2,uc2,rfl,h1,bb⟩
  replace L := hide (bthen L.out bb)
  replace HT := hide (HT.out.below bb)
  replace IB := hide (IB.out.below bb)
  replace XB := hide (XB.out.keep bb)
  replace HR0 := hide (isRow_keep HR0.out bb)
  replace HR1 := hide (isRow_keep HR1.out bb)
  have IU := hide h1
  clear h1 bb
  go_wp2_with fail
  refine (refStr_any KD _).mono ?_
  rintro e w4 ⟨rfl,bb⟩
  replace L := hide (bthen L.out bb)
  replace HT := hide (HT.out.below bb)
  replace IB := hide (IB.out.below bb)
  replace IU := hide (IU.out.below bb)
  replace XB := hide (XB.out.keep bb)
  replace HR0 := hide (isRow_keep HR0.out bb)
  replace HR1 := hide (isRow_keep HR1.out bb)
  clear bb
  have HWB := hide (Xr.body_wt z0 len0 a2)
  rw [HB.out] at HWB
  have hwu : V.wt (V.withV ⟨0,0,⟨#[]⟩,[],[]⟩ kContent B) ≤ 1000000 := by have h1 := V.wt_with_le ⟨0,0,⟨#[]⟩,[],[]⟩ kContent B; have h2 := HWB.out; have e1 : kContent.size = 7 := rfl; have e2 : V.wt ⟨0,0,⟨#[]⟩,[],[]⟩ = 1 := (by rw [V.wt_mk]; decide); omega
  have HWU := hide hwu
  clear hwu
  go_wp2_with fail
  refine (refWith_all IU.out (is_plain w4 (fun _ => True) 3 0 KD (Nat.le_trans HKS.out (by decide))) (Nat.le_trans HWU.out (by decide)) kType (by decide)).mono ?_
  rintro e v5 ⟨vk,vn,vt,va1,vn1,vc1,va2,vn2,vc2,rfl,h1,b1⟩
  have bA := below_alloc v5 (.cells #[.int .i64 vk,.int .i64 vn,.string vt,.slice va1 vn1 vc1,.slice va2 vn2 vc2] 27)
  have bb := bthen b1 bA
  replace L := hide (bthen L.out bb)
  replace HT := hide (HT.out.below bb)
  replace IB := hide (IB.out.below bb)
  replace XB := hide (XB.out.keep bb)
  replace HR0 := hide (isRow_keep HR0.out bb)
  replace HR1 := hide (isRow_keep HR1.out bb)
  have IV := hide (h1.below bA)
  have XV := hide (b5_new v5 (.int .i64 vk) (.int .i64 vn) (.string vt) (.slice va1 vn1 vc1) (.slice va2 vn2 vc2) _ rfl)
  clear h1 bA b1 bb IU
  obtain ⟨VV,hVV⟩ : ∃ v,V.withV (V.withV ⟨0,0,⟨#[]⟩,[],[]⟩ kContent B) kType ⟨3,0,KD,[],[]⟩ = v := ⟨_,rfl⟩
  rw [hVV] at IV
  have HF := hide (Xr.content_facts HZ0.out len0 a2 (1 + a2 % 4) (by omega) (by omega) B HB.out KD HKD.out VV hVV)
  clear hVV
  go_upto_region 4 with fail
  generalize v5.alloc (.cells #[.int .i64 vk,.int .i64 vn,.string vt,.slice va1 vn1 vc1,.slice va2 vn2 vc2] 27) = w5 at HT HR0 HR1 L IB IV XB XV ⊢
  generalize v5.heap.size = gV at XV ⊢
  obtain ⟨p0,p1,p2,p3,p4⟩ := XV.out.cells
  go_wp2_with fail
  clear p0 p1 p2 p3 p4
  refine (sealed_any IV.out HF.out.vr (Nat.le_trans HF.out.vw (by decide)) (Nat.le_trans HF.out.vc (by decide)) HT.out).mono ?_
  rintro e v6 ⟨sk,sn,st,sa1,sn1,sc1,sa2,sn2,sc2,rfl,h1,b1⟩
  have bA := below_alloc v6 (.cells #[.int .i64 sk,.int .i64 sn,.string st,.slice sa1 sn1 sc1,.slice sa2 sn2 sc2] 27)
  have bb := bthen b1 bA
  replace L := hide (bthen L.out bb)
  replace HT := hide (HT.out.below bb)
  replace IB := hide (IB.out.below bb)
  replace XB := hide (XB.out.keep bb)
  replace HR0 := hide (isRow_keep HR0.out bb)
  replace HR1 := hide (isRow_keep HR1.out bb)
  have IS := hide ((h1.below bA).weak (S' := fun _ => True) (fun _ _ _ => trivial))
  have XS := hide (b5_new v6 (.int .i64 sk) (.int .i64 sn) (.string st) (.slice sa1 sn1 sc1) (.slice sa2 sn2 sc2) _ rfl)
  clear h1 bA b1 bb IV XV
  go_upto_region 5 with fail
  generalize v6.alloc (.cells #[.int .i64 sk,.int .i64 sn,.string st,.slice sa1 sn1 sc1,.slice sa2 sn2 sc2] 27) = w6 at HT HR0 HR1 L IB IS XB XS ⊢
  generalize v6.heap.size = gS at XS ⊢
  obtain ⟨G,hGG⟩ : ∃ G,G = w6.heap.size := ⟨_,rfl⟩
  have HG : Hid (G = w6.heap.size) := hide hGG
  have JB := hide (IB.out.weak (S' := fun b => b < G) (fun b hb _ => by rw [hGG]; exact hb))
  have JS := hide (IS.out.weak (S' := fun b => b < G) (fun b hb _ => by rw [hGG]; exact hb))
  have HGS : Hid (gS < G) := hide (by rw [hGG]; exact XS.out.lt)
  clear hGG
  replace HF := hide (HF.out.more z1 len1 a2)
  refine' wp_region_factsM [(fun _ v _ => v = (.agg #[.int .i64 sk,.int .i64 sn,.string st,.slice sa1 sn1 sc1,.slice sa2 sn2 sc2])),(fun _ v _ => v = (.agg #[.int .i64 bk,.int .i64 bn,.string bt,.slice ba1 bn1 bc1,.slice ba2 bn2 bc2])),(fun _ v _ => v = (.slice a1 len1 cap1)),(fun _ v _ => v = (.int .u8 a2)),(ValM G (V.part z1 len1 a2)),(ValM G (V.withV B kZZ (V.part z1 len1 a2))),(ValM G (V.withV (Xr.sealed VV) kContent (V.withV B kZZ (V.part z1 len1 a2)))),BoxM] (by kernel_rfl) rfl ?hA (by kernel_rfl) (by kernel_rfl) (by kernel_rfl) rfl ?mono ?steps ?last
  case hA =>
    intro vs
    simp only [puts,Act.put,List.setIfInBounds_toArray,List.set_cons_zero,List.set_cons_succ,Nat.zero_add,Nat.reduceAdd]
    rfl
  case mono => exact ⟨monoM_eq _,monoM_eq _,monoM_eq _,monoM_eq _,monoM_val _ _,monoM_val _ _,monoM_val _ _,monoM_box,trivial⟩
  case steps =>
    intro Q'
    refine And.intro ?_ ?_
    · intro vs MM w' hM hd K' hK
      dsimp only at hK ⊢
      simp only [Act.put,List.setIfInBounds_toArray,List.set_cons_zero,List.set_cons_succ] at hK
      obtain ⟨p0,p1,p2,p3,p4⟩ := (XS.out.keep hM).cells
      go_simp
      exact hK.out _ _ rfl (Below.refl _ _)
    refine And.intro ?_ ?_
    · intro vs MM w' hM hd K' hK
      dsimp only at hK ⊢
      simp only [Act.put,List.setIfInBounds_toArray,List.set_cons_zero,List.set_cons_succ] at hK
      obtain ⟨p0,p1,p2,p3,p4⟩ := (XB.out.keep hM).cells
      go_simp
      exact hK.out _ _ rfl (Below.refl _ _)
    refine And.intro ?_ ?_
    · intro vs MM w' hM hd K' hK
      dsimp only at hK ⊢
      simp only [Act.put,List.setIfInBounds_toArray,List.set_cons_zero,List.set_cons_succ] at hK
      go_simp
      exact hK.out _ _ rfl (Below.refl _ _)
    refine And.intro ?_ ?_
    · intro vs MM w' hM hd K' hK
      dsimp only at hK ⊢
      simp only [Act.put,List.setIfInBounds_toArray,List.set_cons_zero,List.set_cons_succ] at hK
      go_simp
      exact hK.out _ _ rfl (Below.refl _ _)
    refine And.intro ?_ ?_
    · intro vs MM w' hM hd K' hK
      dsimp only at hK ⊢
      simp only [Act.put,List.setIfInBounds_toArray,List.set_cons_zero,List.set_cons_succ] at hK
      have e2 : vs 2 = (.slice a1 len1 cap1) := hd 2 (by kernel_rfl)
      have e3 : vs 3 = (.int .u8 a2) := hd 3 (by kernel_rfl)
      simp only [e2,e3] at hK ⊢
      clear e2 e3
      go_simp
      refine (part_any a1 len1 cap1 z1 a2 w' (isRow_keep HR1.out hM) hk0 hk1).mono ?_
      rintro e w7 ⟨k7,n7,t7,a17,n17,c17,a27,n27,c27,rfl,h7,b7⟩
      exact hK.out _ _ ⟨_,_,_,_,_,_,_,_,_,rfl,hide (h7.weak (fun b hb hs => .inr (.inr ⟨hs,hb⟩)))⟩ b7
    refine And.intro ?_ ?_
    · intro vs MM w' hM hd K' hK
      dsimp only at hK ⊢
      simp only [Act.put,List.setIfInBounds_toArray,List.set_cons_zero,List.set_cons_succ] at hK
      have e1 : vs 1 = (.agg #[.int .i64 bk,.int .i64 bn,.string bt,.slice ba1 bn1 bc1,.slice ba2 bn2 bc2]) := hd 1 (by kernel_rfl)
      obtain ⟨k4,n4,t4,a14,n14,c14,a24,n24,c24,e4,H4⟩ := hd 4 (by kernel_rfl)
      simp only [e1,e4] at hK ⊢
      clear e1 e4
      go_simp
      refine (refWith_any5 ((JB.out.below hM).weak (S' := fun b => b < G ∨ MM 4 b) (fun b _ hb => .inl hb)) H4.out (Nat.le_trans HWB.out (by decide)) kZZ (by decide) HF.out.b5).mono ?_
      rintro e w7 ⟨k7,n7,t7,a17,n17,c17,a27,n27,c27,rfl,h7,b7⟩
      exact hK.out _ _ ⟨_,_,_,_,_,_,_,_,_,rfl,hide (h7.weak (fun b hb hs => by
        rcases hs with (h9 | h9) | h9
        · exact .inl h9
        · exact .inr (.inl ⟨4,by kernel_rfl,h9⟩)
        · exact .inr (.inr ⟨h9,hb⟩)))⟩ b7
    refine And.intro ?_ ?_
    · intro vs MM w' hM hd K' hK
      dsimp only at hK ⊢
      simp only [Act.put,List.setIfInBounds_toArray,List.set_cons_zero,List.set_cons_succ] at hK
      have e0 : vs 0 = (.agg #[.int .i64 sk,.int .i64 sn,.string st,.slice sa1 sn1 sc1,.slice sa2 sn2 sc2]) := hd 0 (by kernel_rfl)
      obtain ⟨k5,n5,t5,a15,n15,c15,a25,n25,c25,e5,H5⟩ := hd 5 (by kernel_rfl)
      simp only [e0,e5] at hK ⊢
      clear e0 e5
      go_simp
      refine (refWith_any5 ((JS.out.below hM).weak (S' := fun b => b < G ∨ MM 5 b) (fun b _ hb => .inl hb)) H5.out (Nat.le_trans HF.out.sw (by decide)) kContent (by decide) HF.out.s5).mono ?_
      rintro e w7 ⟨k7,n7,t7,a17,n17,c17,a27,n27,c27,rfl,h7,b7⟩
      exact hK.out _ _ ⟨_,_,_,_,_,_,_,_,_,rfl,hide (h7.weak (fun b hb hs => by
        rcases hs with (h9 | h9) | h9
        · exact .inl h9
        · exact .inr (.inl ⟨5,by kernel_rfl,h9⟩)
        · exact .inr (.inr ⟨h9,hb⟩)))⟩ b7
    refine And.intro ?_ ?_
    · intro vs MM w' hM hd K' hK
      dsimp only at hK ⊢
      simp only [Act.put,List.setIfInBounds_toArray,List.set_cons_zero,List.set_cons_succ] at hK
      go_simp
      exact hK.out _ _ ⟨_,rfl,.inr ⟨Nat.le_refl _,by simp⟩,hide (b5_new _ _ _ _ _ _ _ rfl)⟩ (below_alloc _ _)
    exact trivial
  case last =>
    intro vs lo hi w' hM hlo hap hall K' Q' hK
    obtain ⟨_,_,_,_,_,_,h6,h7,_⟩ := hall
    obtain ⟨k6,n6,t6,a16,n16,c16,a26,n26,c26,e6,H6⟩ := h6
    obtain ⟨g7,e7,hg7,HX7⟩ := h7
    dsimp only
    simp only [e6,e7]
    have hz7 := (hlo 7 (by decide)).1
    obtain ⟨hno,hg8,hg9⟩ := ownM_box 7 (k := 6) hg7 (by kernel_rfl) rfl rfl (by decide) (fun j hj => hap j 7 (Nat.lt_of_le_of_lt hj (by decide)) (by decide) (by omega))
    have hgG : G ≤ g7 := by have := HG.out; omega
    obtain ⟨y0,y1,y2,y3,y4⟩ := HX7.out.cells
    have fu0 := HX7.out.free 0
    have fu1 := HX7.out.free 1
    have fu2 := HX7.out.free 2
    have fu3 := HX7.out.free 3
    have fu4 := HX7.out.free 4
    go_simp
    refine hK.out _ _ ?_
    clear hK y0 y1 y2 y3 y4 fu0 fu1 fu2 fu3 fu4 e6 e7
    have hxs := XS.out.lt
    have hgs := HGS.out
    have IX := hide ((H6.out.keep (keeps_chain (S := fun b => b < G ∨ ownM _ lo hi 6 b) (w := w') (g := g7) (fun h => h.elim (fun h1 => absurd h1 (by omega)) hno) (.int .i64 k6) (.int .i64 n6) (.string t6) (.slice a16 n16 c16) (.slice a26 n26 c26))).weak (S' := fun _ => True) (fun _ _ _ => trivial))
    have XX := hide (HX7.out.all (.int .i64 k6) (.int .i64 n6) (.string t6) (.slice a16 n16 c16) (.slice a26 n26 c26))
    have XS2 := hide ((XS.out.keep hM).past5 (g' := g7) (by omega) (.int .i64 k6) (.int .i64 n6) (.string t6) (.slice a16 n16 c16) (.slice a26 n26 c26))
    have IS2 := hide (((JS.out.below hM).keep (keeps_chain (by show ¬ (g7 < G); omega) (.int .i64 k6) (.int .i64 n6) (.string t6) (.slice a16 n16 c16) (.slice a26 n26 c26))).weak (S' := fun _ => True) (fun _ _ _ => trivial))
    have L2 : Hid (Below w.heap.size w (((((w'.setCell ⟨g7,0,none⟩ (.int .i64 k6)).setCell ⟨g7,1,none⟩ (.int .i64 n6)).setCell ⟨g7,2,none⟩ (.string t6)).setCell ⟨g7,3,none⟩ (.slice a16 n16 c16)).setCell ⟨g7,4,none⟩ (.slice a26 n26 c26))) := hide ((bthen L.out hM).trans (below5 (B := w.heap.size) (g := g7) (w := w') (by have := L.out.size; have := HG.out; omega) (.int .i64 k6) (.int .i64 n6) (.string t6) (.slice a16 n16 c16) (.slice a26 n26 c26)))
    have b9 : Below w6.heap.size w6 (((((w'.setCell ⟨g7,0,none⟩ (.int .i64 k6)).setCell ⟨g7,1,none⟩ (.int .i64 n6)).setCell ⟨g7,2,none⟩ (.string t6)).setCell ⟨g7,3,none⟩ (.slice a16 n16 c16)).setCell ⟨g7,4,none⟩ (.slice a26 n26 c26)) := hM.trans (below5 (B := w6.heap.size) (g := g7) (w := w') (by have := HG.out; omega) (.int .i64 k6) (.int .i64 n6) (.string t6) (.slice a16 n16 c16) (.slice a26 n26 c26))
    have T2 := hide (HT.out.below b9)
    clear hM hlo hap hg7 hno HX7 H6 IS XS JS XB IB JB HR0 HR1 L HT b9
    generalize (((((w'.setCell ⟨g7,0,none⟩ (.int .i64 k6)).setCell ⟨g7,1,none⟩ (.int .i64 n6)).setCell ⟨g7,2,none⟩ (.string t6)).setCell ⟨g7,3,none⟩ (.slice a16 n16 c16)).setCell ⟨g7,4,none⟩ (.slice a26 n26 c26)) = w8 at IX XX XS2 IS2 L2 T2 ⊢
    go_upto_region 6 with fail
    obtain ⟨ID,hid⟩ : ∃ i,Xr.ident (V.withV (Xr.sealed VV) kContent (V.withV B kZZ (V.part z1 len1 a2))) = i := ⟨_,rfl⟩
    have HID := hide hid
    have hid2 : Xr.ident (Xr.sealed VV) = ID := by rw [← hid]; exact (Xr.ident_congr HF.out.rr).symm
    have HID2 := hide hid2
    have HQ : Hid ((ID.toList == ID.toList) = true) := hide (by simp)
    clear hid hid2
    refine' wp_region_facts [(fun _ _ v _ => v = (.bool true)),(fun _ _ v _ => v = (.bool true)),(fun _ _ v _ => v = (.agg #[.int .i64 k6,.int .i64 n6,.string t6,.slice a16 n16 c16,.slice a26 n26 c26])),(fun _ _ v _ => v = (.string ID)),(fun _ _ v _ => v = (.agg #[.int .i64 sk,.int .i64 sn,.string st,.slice sa1 sn1 sc1,.slice sa2 sn2 sc2])),(fun _ _ v _ => v = (.string ID)),(fun _ _ v _ => v = (.bool true)),(fun _ _ v _ => v = (.bool true)),(fun _ _ v _ => v = (.bool true)),(fun _ _ v _ => v = (.agg #[.int .i64 sk,.int .i64 sn,.string st,.slice sa1 sn1 sc1,.slice sa2 sn2 sc2])),(fun _ _ v _ => v = (.bool true)),(fun _ _ v _ => v = (.bool true)),(fun _ _ v _ => v = (.bool true)),(fun _ _ v _ => v = (.agg #[.int .i64 k6,.int .i64 n6,.string t6,.slice a16 n16 c16,.slice a26 n26 c26])),(AnyF (Xr.sealed (V.withV (Xr.sealed VV) kContent (V.withV B kZZ (V.part z1 len1 a2))))),(fun _ _ v _ => v = (.bool true)),(fun _ _ v _ => v = (.bool true)),(fun _ _ v _ => v = (.bool true)),(fun _ _ v _ => v = (.agg #[.int .i64 k6,.int .i64 n6,.string t6,.slice a16 n16 c16,.slice a26 n26 c26])),(AnyF (Xr.redact (V.withV (Xr.sealed VV) kContent (V.withV B kZZ (V.part z1 len1 a2))))),(fun _ _ v _ => v = (.agg #[.int .i64 sk,.int .i64 sn,.string st,.slice sa1 sn1 sc1,.slice sa2 sn2 sc2])),(AnyF (Xr.redact (Xr.sealed VV))),(fun _ _ v _ => v = (.bool true)),(fun _ _ v _ => v = (.bool true))] (by kernel_rfl) rfl ?hA (by kernel_rfl) (by kernel_rfl) (by kernel_rfl) rfl ?mono ?steps ?last
    case hA =>
      intro vs
      simp only [puts,Act.put,List.setIfInBounds_toArray,List.set_cons_zero,List.set_cons_succ,Nat.zero_add,Nat.reduceAdd]
      rfl
    case mono => exact ⟨mono_eq _,mono_eq _,mono_eq _,mono_eq _,mono_eq _,mono_eq _,mono_eq _,mono_eq _,mono_eq _,mono_eq _,mono_eq _,mono_eq _,mono_eq _,mono_eq _,mono_any _,mono_eq _,mono_eq _,mono_eq _,mono_eq _,mono_any _,mono_eq _,mono_any _,mono_eq _,mono_eq _,trivial⟩
    case steps =>
      intro Q'
      refine And.intro ?_ ?_
      · intro vs lo hi w' hM hd K' hK
        dsimp only at hK ⊢
        simp only [Act.put,List.setIfInBounds_toArray,List.set_cons_zero,List.set_cons_succ] at hK
        go_simp
        refine (xknown_any _ (T2.out.below hM)).mono ?_
        rintro e w7 ⟨rfl,b7⟩
        exact hK.out _ _ rfl b7
      refine And.intro ?_ ?_
      · intro vs lo hi w' hM hd K' hK
        dsimp only at hK ⊢
        simp only [Act.put,List.setIfInBounds_toArray,List.set_cons_zero,List.set_cons_succ] at hK
        have e0 : vs 0 = (.bool true) := hd 0 (by kernel_rfl)
        simp only [e0] at hK ⊢
        clear e0
        go_simp
        exact hK.out _ _ rfl (Below.refl _ _)
      refine And.intro ?_ ?_
      · intro vs lo hi w' hM hd K' hK
        dsimp only at hK ⊢
        simp only [Act.put,List.setIfInBounds_toArray,List.set_cons_zero,List.set_cons_succ] at hK
        have e1 : vs 1 = (.bool true) := hd 1 (by kernel_rfl)
        simp only [e1] at hK ⊢
        clear e1
        obtain ⟨p0,p1,p2,p3,p4⟩ := (XX.out.keep hM).cells
        go_simp
        exact hK.out _ _ rfl (Below.refl _ _)
      refine And.intro ?_ ?_
      · intro vs lo hi w' hM hd K' hK
        dsimp only at hK ⊢
        simp only [Act.put,List.setIfInBounds_toArray,List.set_cons_zero,List.set_cons_succ] at hK
        have e2 : vs 2 = (.agg #[.int .i64 k6,.int .i64 n6,.string t6,.slice a16 n16 c16,.slice a26 n26 c26]) := hd 2 (by kernel_rfl)
        have e1 : vs 1 = (.bool true) := hd 1 (by kernel_rfl)
        simp only [e2,e1] at hK ⊢
        clear e2 e1
        go_simp
        refine (id_any (IX.out.below hM) HF.out.xr (Nat.le_trans HF.out.xw (by decide)) (Nat.le_trans HF.out.xc (by decide)) (T2.out.below hM)).mono ?_
        rintro e w7 ⟨rfl,b7⟩
        rw [HID.out]
        exact hK.out _ _ rfl b7
      refine And.intro ?_ ?_
      · intro vs lo hi w' hM hd K' hK
        dsimp only at hK ⊢
        simp only [Act.put,List.setIfInBounds_toArray,List.set_cons_zero,List.set_cons_succ] at hK
        have e1 : vs 1 = (.bool true) := hd 1 (by kernel_rfl)
        simp only [e1] at hK ⊢
        clear e1
        obtain ⟨p0,p1,p2,p3,p4⟩ := (XS2.out.keep hM).cells
        go_simp
        exact hK.out _ _ rfl (Below.refl _ _)
      refine And.intro ?_ ?_
      · intro vs lo hi w' hM hd K' hK
        dsimp only at hK ⊢
        simp only [Act.put,List.setIfInBounds_toArray,List.set_cons_zero,List.set_cons_succ] at hK
        have e4 : vs 4 = (.agg #[.int .i64 sk,.int .i64 sn,.string st,.slice sa1 sn1 sc1,.slice sa2 sn2 sc2]) := hd 4 (by kernel_rfl)
        have e1 : vs 1 = (.bool true) := hd 1 (by kernel_rfl)
        simp only [e4,e1] at hK ⊢
        clear e4 e1
        go_simp
        refine (id_any (IS2.out.below hM) HF.out.sr (Nat.le_trans HF.out.sw (by decide)) (Nat.le_trans HF.out.sc (by decide)) (T2.out.below hM)).mono ?_
        rintro e w7 ⟨rfl,b7⟩
        rw [HID2.out]
        exact hK.out _ _ rfl b7
      refine And.intro ?_ ?_
      · intro vs lo hi w' hM hd K' hK
        dsimp only at hK ⊢
        simp only [Act.put,List.setIfInBounds_toArray,List.set_cons_zero,List.set_cons_succ] at hK
        have e3 : vs 3 = (.string ID) := hd 3 (by kernel_rfl)
        have e5 : vs 5 = (.string ID) := hd 5 (by kernel_rfl)
        have e1 : vs 1 = (.bool true) := hd 1 (by kernel_rfl)
        simp only [e3,e5,e1] at hK ⊢
        clear e3 e5 e1
        have hq := HQ.out
        go_simp
        exact hK.out _ _ rfl (Below.refl _ _)
      refine And.intro ?_ ?_
      · intro vs lo hi w' hM hd K' hK
        dsimp only at hK ⊢
        simp only [Act.put,List.setIfInBounds_toArray,List.set_cons_zero,List.set_cons_succ] at hK
        have e1 : vs 1 = (.bool true) := hd 1 (by kernel_rfl)
        have e6 : vs 6 = (.bool true) := hd 6 (by kernel_rfl)
        simp only [e1,e6] at hK ⊢
        clear e1 e6
        go_simp
        exact hK.out _ _ rfl (Below.refl _ _)
      refine And.intro ?_ ?_
      · intro vs lo hi w' hM hd K' hK
        dsimp only at hK ⊢
        simp only [Act.put,List.setIfInBounds_toArray,List.set_cons_zero,List.set_cons_succ] at hK
        have e7 : vs 7 = (.bool true) := hd 7 (by kernel_rfl)
        simp only [e7] at hK ⊢
        clear e7
        go_simp
        exact hK.out _ _ rfl (Below.refl _ _)
      refine And.intro ?_ ?_
      · intro vs lo hi w' hM hd K' hK
        dsimp only at hK ⊢
        simp only [Act.put,List.setIfInBounds_toArray,List.set_cons_zero,List.set_cons_succ] at hK
        have e8 : vs 8 = (.bool true) := hd 8 (by kernel_rfl)
        simp only [e8] at hK ⊢
        clear e8
        obtain ⟨p0,p1,p2,p3,p4⟩ := (XS2.out.keep hM).cells
        go_simp
        exact hK.out _ _ rfl (Below.refl _ _)
      refine And.intro ?_ ?_
      · intro vs lo hi w' hM hd K' hK
        dsimp only at hK ⊢
        simp only [Act.put,List.setIfInBounds_toArray,List.set_cons_zero,List.set_cons_succ] at hK
        have e9 : vs 9 = (.agg #[.int .i64 sk,.int .i64 sn,.string st,.slice sa1 sn1 sc1,.slice sa2 sn2 sc2]) := hd 9 (by kernel_rfl)
        have e8 : vs 8 = (.bool true) := hd 8 (by kernel_rfl)
        simp only [e9,e8] at hK ⊢
        clear e9 e8
        go_simp
        refine (hashed_any (IS2.out.below hM) HF.out.sr (Nat.le_trans HF.out.sw (by decide)) (Nat.le_trans HF.out.sc (by decide)) (T2.out.below hM)).mono ?_
        rintro e w7 ⟨rfl,b7⟩
        rw [HF.out.sh]
        exact hK.out _ _ rfl b7
      refine And.intro ?_ ?_
      · intro vs lo hi w' hM hd K' hK
        dsimp only at hK ⊢
        simp only [Act.put,List.setIfInBounds_toArray,List.set_cons_zero,List.set_cons_succ] at hK
        have e8 : vs 8 = (.bool true) := hd 8 (by kernel_rfl)
        have e10 : vs 10 = (.bool true) := hd 10 (by kernel_rfl)
        simp only [e8,e10] at hK ⊢
        clear e8 e10
        go_simp
        exact hK.out _ _ rfl (Below.refl _ _)
      refine And.intro ?_ ?_
      · intro vs lo hi w' hM hd K' hK
        dsimp only at hK ⊢
        simp only [Act.put,List.setIfInBounds_toArray,List.set_cons_zero,List.set_cons_succ] at hK
        have e11 : vs 11 = (.bool true) := hd 11 (by kernel_rfl)
        simp only [e11] at hK ⊢
        clear e11
        go_simp
        exact hK.out _ _ rfl (Below.refl _ _)
      refine And.intro ?_ ?_
      · intro vs lo hi w' hM hd K' hK
        dsimp only at hK ⊢
        simp only [Act.put,List.setIfInBounds_toArray,List.set_cons_zero,List.set_cons_succ] at hK
        have e12 : vs 12 = (.bool true) := hd 12 (by kernel_rfl)
        simp only [e12] at hK ⊢
        clear e12
        obtain ⟨p0,p1,p2,p3,p4⟩ := (XX.out.keep hM).cells
        go_simp
        exact hK.out _ _ rfl (Below.refl _ _)
      refine And.intro ?_ ?_
      · intro vs lo hi w' hM hd K' hK
        dsimp only at hK ⊢
        simp only [Act.put,List.setIfInBounds_toArray,List.set_cons_zero,List.set_cons_succ] at hK
        have e13 : vs 13 = (.agg #[.int .i64 k6,.int .i64 n6,.string t6,.slice a16 n16 c16,.slice a26 n26 c26]) := hd 13 (by kernel_rfl)
        have e12 : vs 12 = (.bool true) := hd 12 (by kernel_rfl)
        simp only [e13,e12] at hK ⊢
        clear e13 e12
        go_simp
        refine (sealed_any (IX.out.below hM) HF.out.xr (Nat.le_trans HF.out.xw (by decide)) (Nat.le_trans HF.out.xc (by decide)) (T2.out.below hM)).mono ?_
        rintro e w7 ⟨k7,n7,t7,a17,n17,c17,a27,n27,c27,rfl,h7,b7⟩
        exact hK.out _ _ ⟨_,_,_,_,_,_,_,_,_,rfl,hide (h7.weak (fun _ _ _ => trivial))⟩ b7
      refine And.intro ?_ ?_
      · intro vs lo hi w' hM hd K' hK
        dsimp only at hK ⊢
        simp only [Act.put,List.setIfInBounds_toArray,List.set_cons_zero,List.set_cons_succ] at hK
        obtain ⟨k14,n14,t14,a114,n114,c114,a214,n214,c214,e14,H14⟩ := hd 14 (by kernel_rfl)
        have e12 : vs 12 = (.bool true) := hd 12 (by kernel_rfl)
        simp only [e14,e12] at hK ⊢
        clear e14 e12
        go_simp
        refine (hashed_any H14.out HF.out.yr (Nat.le_trans HF.out.yw (by decide)) (Nat.le_trans HF.out.yc (by decide)) (T2.out.below hM)).mono ?_
        rintro e w7 ⟨rfl,b7⟩
        rw [HF.out.yh]
        exact hK.out _ _ rfl b7
      refine And.intro ?_ ?_
      · intro vs lo hi w' hM hd K' hK
        dsimp only at hK ⊢
        simp only [Act.put,List.setIfInBounds_toArray,List.set_cons_zero,List.set_cons_succ] at hK
        have e12 : vs 12 = (.bool true) := hd 12 (by kernel_rfl)
        have e15 : vs 15 = (.bool true) := hd 15 (by kernel_rfl)
        simp only [e12,e15] at hK ⊢
        clear e12 e15
        go_simp
        exact hK.out _ _ rfl (Below.refl _ _)
      refine And.intro ?_ ?_
      · intro vs lo hi w' hM hd K' hK
        dsimp only at hK ⊢
        simp only [Act.put,List.setIfInBounds_toArray,List.set_cons_zero,List.set_cons_succ] at hK
        have e16 : vs 16 = (.bool true) := hd 16 (by kernel_rfl)
        simp only [e16] at hK ⊢
        clear e16
        go_simp
        exact hK.out _ _ rfl (Below.refl _ _)
      refine And.intro ?_ ?_
      · intro vs lo hi w' hM hd K' hK
        dsimp only at hK ⊢
        simp only [Act.put,List.setIfInBounds_toArray,List.set_cons_zero,List.set_cons_succ] at hK
        have e17 : vs 17 = (.bool true) := hd 17 (by kernel_rfl)
        simp only [e17] at hK ⊢
        clear e17
        obtain ⟨p0,p1,p2,p3,p4⟩ := (XX.out.keep hM).cells
        go_simp
        exact hK.out _ _ rfl (Below.refl _ _)
      refine And.intro ?_ ?_
      · intro vs lo hi w' hM hd K' hK
        dsimp only at hK ⊢
        simp only [Act.put,List.setIfInBounds_toArray,List.set_cons_zero,List.set_cons_succ] at hK
        have e18 : vs 18 = (.agg #[.int .i64 k6,.int .i64 n6,.string t6,.slice a16 n16 c16,.slice a26 n26 c26]) := hd 18 (by kernel_rfl)
        have e17 : vs 17 = (.bool true) := hd 17 (by kernel_rfl)
        simp only [e18,e17] at hK ⊢
        clear e18 e17
        go_simp
        refine (redact_any (IX.out.below hM) (Nat.le_trans HF.out.xw (by decide))).mono ?_
        rintro e w7 ⟨k7,n7,t7,a17,n17,c17,a27,n27,c27,rfl,h7,b7⟩
        exact hK.out _ _ ⟨_,_,_,_,_,_,_,_,_,rfl,hide (h7.weak (fun _ _ _ => trivial))⟩ b7
      refine And.intro ?_ ?_
      · intro vs lo hi w' hM hd K' hK
        dsimp only at hK ⊢
        simp only [Act.put,List.setIfInBounds_toArray,List.set_cons_zero,List.set_cons_succ] at hK
        have e17 : vs 17 = (.bool true) := hd 17 (by kernel_rfl)
        simp only [e17] at hK ⊢
        clear e17
        obtain ⟨p0,p1,p2,p3,p4⟩ := (XS2.out.keep hM).cells
        go_simp
        exact hK.out _ _ rfl (Below.refl _ _)
      refine And.intro ?_ ?_
      · intro vs lo hi w' hM hd K' hK
        dsimp only at hK ⊢
        simp only [Act.put,List.setIfInBounds_toArray,List.set_cons_zero,List.set_cons_succ] at hK
        have e20 : vs 20 = (.agg #[.int .i64 sk,.int .i64 sn,.string st,.slice sa1 sn1 sc1,.slice sa2 sn2 sc2]) := hd 20 (by kernel_rfl)
        have e17 : vs 17 = (.bool true) := hd 17 (by kernel_rfl)
        simp only [e20,e17] at hK ⊢
        clear e20 e17
        go_simp
        refine (redact_any (IS2.out.below hM) (Nat.le_trans HF.out.sw (by decide))).mono ?_
        rintro e w7 ⟨k7,n7,t7,a17,n17,c17,a27,n27,c27,rfl,h7,b7⟩
        exact hK.out _ _ ⟨_,_,_,_,_,_,_,_,_,rfl,hide (h7.weak (fun _ _ _ => trivial))⟩ b7
      refine And.intro ?_ ?_
      · intro vs lo hi w' hM hd K' hK
        dsimp only at hK ⊢
        simp only [Act.put,List.setIfInBounds_toArray,List.set_cons_zero,List.set_cons_succ] at hK
        obtain ⟨k19,n19,t19,a119,n119,c119,a219,n219,c219,e19,H19⟩ := hd 19 (by kernel_rfl)
        obtain ⟨k21,n21,t21,a121,n121,c121,a221,n221,c221,e21,H21⟩ := hd 21 (by kernel_rfl)
        have e17 : vs 17 = (.bool true) := hd 17 (by kernel_rfl)
        simp only [e19,e21,e17] at hK ⊢
        clear e19 e21 e17
        go_simp
        refine (refSame_any H19.out H21.out HF.out.rxw HF.out.rsw true ⟨fun _ => HF.out.rr,fun _ => rfl⟩).mono ?_
        rintro e w7 ⟨rfl,b7⟩
        exact hK.out _ _ rfl b7
      refine And.intro ?_ ?_
      · intro vs lo hi w' hM hd K' hK
        dsimp only at hK ⊢
        simp only [Act.put,List.setIfInBounds_toArray,List.set_cons_zero,List.set_cons_succ] at hK
        have e17 : vs 17 = (.bool true) := hd 17 (by kernel_rfl)
        have e22 : vs 22 = (.bool true) := hd 22 (by kernel_rfl)
        simp only [e17,e22] at hK ⊢
        clear e17 e22
        go_simp
        exact hK.out _ _ rfl (Below.refl _ _)
      exact trivial
    case last =>
      intro vs lo hi w' hM hlo hap hall K' Q' hK
      have h23 : vs 23 = .bool true := hall.2.2.2.2.2.2.2.2.2.2.2.2.2.2.2.2.2.2.2.2.2.2.2.1
      dsimp only
      simp only [h23]
      clear h23 hall hap hlo
      go_simp
      refine hK.out _ _ ?_
      clear hK
      try go_wp2_with fail
      go_ret
      exact ⟨rfl,bthen L2.out hM⟩
end Go.Proofs.YtapcmbbhhclepaaGreatDoor
