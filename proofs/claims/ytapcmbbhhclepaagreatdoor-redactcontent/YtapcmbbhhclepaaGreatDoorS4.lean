/-
  What this claim takes of the earlier layers' texts: DSum DLaw DApp SWalks SChunk Shelf SText.
-/
import Derived.Test.YtapcmbbhhclepaaGreatDoorS3
import Derived.Deep.WholeRow
import Derived.OpenShut
import Derived.Lib.EndianBits
import Derived.Shelf.Strings.Builder1
import Derived.Shelf.Strings.Builder2
import Derived.Shelf.Small.Wraps
import Derived.Shelf.Strings.BuilderF
import Derived.Shelf.Strings.BuilderK
import Derived.Shelf.Strings.Builder2Cap
import Derived.Shelf.Strconv.Itoa0
import Derived.Shelf.Strconv.Itoa1
import Derived.Shelf.LaysM
import Derived.Shelf.Strconv.Itoa2
import Derived.Shelf.Strconv.Itoa3
import Derived.Shelf.Strconv.Itoa4
import Derived.Shelf.Strconv.Clone
import Derived.Shelf.Strings.BuilderCap
import Derived.Shelf.Slices.Turned
import Derived.Test.YtapcmbbhhclepaaGreatDoorProg
import Derived.Lib.OthersKept
set_option linter.unusedVariables false
set_option linter.unusedSimpArgs false
set_option maxRecDepth 100000
namespace Go.Proofs.YtapcmbbhhclepaaGreatDoor.Dig
open Go.RowKit
theorem hs_new {w : World} {g : Nat} (h : Blk w g 128 (hc (List.replicate 8 0) (List.replicate 64 0) 0)) : Hs w g [] :=
  ⟨_,_,h,rfl,rfl,fun i => by rw [List.getElem?_replicate]; split <;> simp,fun h => absurd rfl h,rfl⟩
theorem Hs.below {w w' : World} {g : Nat} {bs : List Int} (h : Hs w g bs) (b : Below w.heap.size w w') : Hs w' g bs := by
  obtain ⟨s,r,h1,h2⟩ := h
  exact ⟨s,r,h1.below' b,h2⟩
theorem Hs.lt {w : World} {g : Nat} {bs : List Int} (h : Hs w g bs) : g < w.heap.size := by
  obtain ⟨s,r,h1,h2⟩ := h
  exact h1.lt
theorem infoHasher : (Tryz.prog.info? 128).map (fun i => (i.zero,i.size)) = some (some (.agg (hc (List.replicate 8 0) (List.replicate 64 0) 0)),73) := by kernel_rfl
theorem own_isB {w : World} {base g m c : Nat} {l : List Int} (h : w.ownsRow base 5 1 (.slice (some ⟨g,0,none⟩) m c) m (l.map b8)) (hl : Dg.B8 l) (hc : c ≤ 9223372036854775807) : IsB w (some ⟨g,0,none⟩) m c l ∧ base ≤ g ∧ g < w.heap.size := by
  obtain ⟨h1,h2⟩ := h
  rcases h2 with ⟨h2,_⟩ | ⟨g',cap,cur,hv,hg,hh,hn,hm,hs,ht⟩
  · cases h2
  · simp only [Value.slice.injEq,Option.some.injEq,Addr.mk.injEq] at hv
    obtain ⟨⟨rfl,_,_⟩,_,rfl⟩ := hv
    have hlen : l.length = m := by simpa using h1
    refine ⟨⟨hlen,hn,hc,hl,.inr ⟨_,rfl,fun _ => ⟨g,0,rfl,fun i hi => ?_⟩⟩⟩,hg,(Array.getElem?_eq_some_iff.1 hh).1⟩
    rw [Nat.zero_add,cell_of_row w g i cur 5 _ hh]
    have e : (cur.toList.take (m * 1))[i]? = (l.map b8)[i]? := by rw [ht]
    rw [List.getElem?_take,if_pos (by omega),Array.getElem?_toList,List.getElem?_map,List.getElem?_eq_getElem hi] at e
    rw [e,List.getElem?_eq_getElem hi]
    rfl
theorem own_base {w : World} {b b' e size n : Nat} {v : Value} {xs : List Value} (h : w.ownsRow b e size v n xs) (hb : b' ≤ b) : w.ownsRow b' e size v n xs := by
  obtain ⟨h1,h2⟩ := h
  refine ⟨h1,?_⟩
  rcases h2 with h2 | ⟨g,cap,cur,hv,hg,r⟩
  · exact .inl h2
  · exact .inr ⟨g,cap,cur,hv,Nat.le_trans hb hg,r⟩
theorem hs_whole {w : World} {g : Nat} {bs : List Int} (h : Hs w g bs) (hn : bs ≠ []) : ∃ r,Blk w g 128 (wds (Dg.sumOf bs) ++ r) := by
  obtain ⟨s,r,h1,_,_,_,h2,_⟩ := h
  rw [h2 hn] at h1
  exact ⟨_,h1⟩
set_option maxRecDepth 100000 in
set_option maxHeartbeats 2000000 in
theorem sum_any (g : Nat) (bs : List Int) (w : World) (hH : Hs w g bs) (hC : Cubes w) (hmax : bs.length ≤ 1125899906842624) :
    Calls Tryz.prog 93 #[.pointer (some ⟨g,0,none⟩)] w fun e w' => ∃ g',e = .returned (.slice (some ⟨g',0,none⟩) 32 32) ∧
      w'.ownsRow w.heap.size 5 1 (.slice (some ⟨g',0,none⟩) 32 32) 32 ((Dg.sha bs).map b8) ∧ Below w.heap.size w w' := by
  obtain ⟨hz,hz2⟩ := zero_of_info infoHasher
  obtain ⟨Z,hZ⟩ : ∃ Z,Z = hc (List.replicate 8 0) (List.replicate 64 0) 0 := ⟨_,rfl⟩
  have hZs : Z.size = 73 := by rw [hZ,hc_size]; rfl
  rw [← hZ] at hz
  obtain ⟨s,r,h1,h2,h3,h4⟩ := hH
  have hC73 : (hc s r bs.length).size = 73 := by rw [hc_size,h2,h3]
  obtain ⟨C,hCe⟩ : ∃ C,C = hc s r bs.length := ⟨_,rfl⟩
  have hone : C.all (·.oneCell') = true := by
    rw [hCe,Array.all_eq_true_iff_forall_mem]
    intro x hx
    unfold hc at hx
    rcases Array.mem_append.1 hx with hx | hx
    · exact (Array.all_eq_true_iff_forall_mem.1 (wds_one s)) x hx
    · simp only [hr,List.mem_toArray,List.mem_append,List.mem_map,List.mem_singleton] at hx
      rcases hx with ⟨y,_,rfl⟩ | rfl <;> rfl
  rw [← hCe] at h1 hC73
  have HE := hide hCe
  have HC := hide hC
  have H2 := hide h2
  have H3 := hide h3
  have H4 := hide h4
  have H1 := hide h1
  clear hC hZ hCe h2 h3 h4 h1
  go_enter Tryz.func93,Tryz.ntmps93
  go_upto_region 3 with fail
  have hg1 := H1.out.below' ((Below.refl w.heap.size w).alloc (Nat.le_refl _) (.cells Z 128))
  have hn1 := blk_new w 128 Z
  have hb1 := (Below.refl w.heap.size w).alloc (Nat.le_refl _) (.cells Z 128)
  have HB1 := hide hb1
  have Hg1 := hide hg1
  have Hn1 := hide hn1
  clear hb1 hg1 hn1 hz
  have hgl := H1.out.lt
  generalize w.alloc (.cells Z 128) = w1 at HB1 Hg1 Hn1 ⊢
  obtain ⟨N,hN⟩ : ∃ N,N = w.heap.size := ⟨_,rfl⟩
  rw [← hN] at Hn1 hgl ⊢
  have HN := hide hN
  clear hN
  go_upto_region 4 with (first
    | (refine wpList_load_row rfl 128 _ rfl g rfl 128 C (0,0) _ Hg1.out Tryz.underlying128 rfl (by rw [hC73]; exact hz2) ?_)
    | (refine wpList_store_row rfl 128 _ _ rfl N C rfl rfl 128 Z Hn1.out (by rw [hC73]; exact hz2) (by rw [hC73,hZs]) hone ?_))
  have hb2 := Hn1.out.row C
  have HB2 : Hid (Below w.heap.size w (w1.setRow N C)) := HB1.out.trans ((But.row (.refl _ _) C).to_below HB1.out.size (by rw [HN.out]; exact Nat.le_refl _))
  have HC2 : Hid (Cubes (w1.setRow N C)) := HC.out.below HB2.out HC.out.lt
  have HH2 : Hid (Hs (w1.setRow N C) N bs) := ⟨s,r,by rw [HE.out] at hb2 ⊢; exact hb2,H2.out,H3.out,H4.out⟩
  clear hb2 Hn1 Hg1 HB1
  generalize w1.setRow N C = w2 at HB2 HC2 HH2 ⊢
  -- here: w2,HH2 : Hs w2 N bs; HB2 : Below w.heap.size w w2; HC2 : Cubes w2; HN : N = w.heap.size
  obtain ⟨s2,r2,hb2,hs2,hr2,h82,hsum2,htk2⟩ := HH2.out
  have hl2 := (hb2.cell 72).trans (hc_long hs2 hr2)
  clear hb2 hs2 hr2 h82 hsum2 htk2
  obtain ⟨n,hn⟩ : ∃ n,n = bs.length := ⟨_,rfl⟩
  rw [← hn] at hl2 hmax
  have Hn := hide hn
  clear hn
  go_wp2_with (go_at_call 122; refine (tail_any (n : Int) _ (by omega) (by omega)).mono ?_; rintro e w3 ⟨gt,m,hm,rfl,hown3,b3⟩)
  clear hl2
  have hm' := hm.out
  have hnz := Dg.noughts_le (n : Int)
  have hmb : m ≤ 72 := by rw [hm',Dg.tail_length]; omega
  obtain ⟨hI3,hgt,hgt2⟩ := own_isB hown3 (Dg.b8_of_mem (Dg.tail_mem _)) (by omega)
  have hNlt := HH2.out.lt
  refine (write_any N bs (Dg.tail n) (some ⟨gt,0,none⟩) m m _ (HH2.out.below b3) hI3 (fun _ x hx => by cases hx; show gt ≠ N; omega) (by have := HC.out.lt; have := HN.out; omega) (HC2.out.below' b3) (by rw [← Hn.out]; omega)).mono ?_
  rintro e w4 ⟨rfl,b4,hH4⟩
  have hb4 : Below w.heap.size w w4 := (bthen HB2.out b3).trans (b4.to_below (bthen HB2.out b3).size (by rw [HN.out]; exact Nat.le_refl _))
  obtain ⟨r4,hB4⟩ := hs_whole hH4 (by simp [Dg.tail])
  have HB4 := hide hB4
  have Hb4 := hide hb4
  clear hB4 hb4 hH4 b4 hI3 hown3 hm hm' hnz
  go_wp2_with fail
  refine (bytes_any N _ _ r4 _ (Dg.sumOf_length _) HB4.out (Dg.sumOf_w32 _)).mono ?_
  rintro e w5 ⟨g5,rfl,hown5,b5⟩
  go_wp2_with fail
  go_ret
  refine ⟨g5,rfl,?_,bthen Hb4.out b5⟩
  have e : (Dg.sumOf (bs ++ Dg.tail n)).flatMap (Dg.be · 4) = Dg.sha bs := by rw [Hn.out]; rfl
  rw [e] at hown5
  exact own_base hown5 Hb4.out.size
theorem digestSum_any (bs : List Int) (a : Option Addr) (len cap : Nat) (w : World) (hB : IsB w a len cap bs) (hC : Cubes w) (hmax : len ≤ 1125899906842624) :
    Calls Tryz.prog 59 #[.slice a len cap] w fun e w' => ∃ g',e = .returned (.slice (some ⟨g',0,none⟩) 32 32) ∧
      w'.ownsRow w.heap.size 5 1 (.slice (some ⟨g',0,none⟩) 32 32) 32 ((Dg.sha bs).map b8) ∧ Below w.heap.size w w' := by
  have HB := hide hB
  have HC := hide hC
  clear hB hC
  go_enter Tryz.func59,Tryz.ntmps59
  go_wp2_with fail
  refine (new_any _).mono ?_
  rintro e w1 ⟨rfl,b1,hn⟩
  have HH1 := hide (hs_new hn)
  have HB1 := hide b1
  clear hn b1
  go_wp2_with fail
  refine (write_any w.heap.size [] bs a len cap _ HH1.out (HB.out.below HB1.out) (HB.out.off (Nat.le_refl _)) (by have := HC.out.lt; omega) (HC.out.below' HB1.out) (by simp; omega)).mono ?_
  rintro e w2 ⟨rfl,b2,hH2⟩
  have HB2 : Hid (Below w.heap.size w w2) := HB1.out.trans (b2.to_below HB1.out.size (Nat.le_refl _))
  have HH2 := hide hH2
  clear hH2 b2
  go_wp2_with fail
  refine (sum_any w.heap.size bs _ HH2.out (HC.out.below' HB2.out) (by rw [HB.out.1]; exact hmax)).mono ?_
  rintro e w3 ⟨g3,rfl,hown3,b3⟩
  go_wp2_with fail
  go_ret
  exact ⟨g3,rfl,own_base hown3 HB2.out.size,bthen HB2.out b3⟩
end Go.Proofs.YtapcmbbhhclepaaGreatDoor.Dig
namespace Go.Proofs.YtapcmbbhhclepaaGreatDoor.Dig
open Go.RowKit
def IsRow (k : IntKind) (w : World) (a : Option Addr) (len cap : Nat) (zs : List Int) : Prop :=
  (a = none ∧ len = 0 ∧ cap = 0 ∧ zs = []) ∨
  ∃ x,a = some x ∧ len ≤ cap ∧ cap ≤ maxLen ∧ zs.length = cap ∧ (∀ i,i < zs.length → w.cell? (x.add i) = some (.int k (zs.getD i 0))) ∧ ∀ n ∈ zs,(Lit.int k n).wf = true
theorem IsB.front {w : World} {a : Option Addr} {len cap m : Nat} {bs : List Int} (h : IsB w a len cap bs) (hm : m ≤ len) : IsB w a m cap (bs.take m) := by
  obtain ⟨h1,h2,h3,h4,h5⟩ := h
  refine ⟨by rw [List.length_take]; omega,by omega,h3,fun i => take_bytes h4 m i,?_⟩
  rcases h5 with h5 | ⟨x,rfl,h6⟩
  · exact .inl h5
  · refine .inr ⟨x,rfl,fun hl => ?_⟩
    obtain ⟨b,o,rfl,hR⟩ := h6 (by omega)
    refine ⟨b,o,rfl,fun i hi => ?_⟩
    rw [List.length_take] at hi
    rw [List.getElem?_take,if_pos (by omega)]
    exact hR i (by omega)
theorem sumI (g : Nat) (bs : List Int) (w : World) (hH : Hs w g bs) (hC : Cubes w) (hmax : bs.length ≤ 1125899906842624) :
    Calls Tryz.prog 93 #[.pointer (some ⟨g,0,none⟩)] w fun e w' => ∃ g',e = .returned (.slice (some ⟨g',0,none⟩) 32 32) ∧ IsB w' (some ⟨g',0,none⟩) 32 32 (Dg.sha bs) ∧ w.heap.size ≤ g' ∧ Below w.heap.size w w' :=
  (sum_any g bs w hH hC hmax).mono fun e w' ⟨g',he,ho,hb⟩ => by
    obtain ⟨h1,h2,_⟩ := own_isB ho (Dg.b8_of_mem (Dg.sha_mem _)) (by omega)
    exact ⟨g',he,h1,h2,hb⟩
theorem digestI (bs : List Int) (a : Option Addr) (len cap : Nat) (w : World) (hB : IsB w a len cap bs) (hC : Cubes w) (hmax : len ≤ 1125899906842624) :
    Calls Tryz.prog 59 #[.slice a len cap] w fun e w' => ∃ g',e = .returned (.slice (some ⟨g',0,none⟩) 32 32) ∧ IsB w' (some ⟨g',0,none⟩) 32 32 (Dg.sha bs) ∧ w.heap.size ≤ g' ∧ Below w.heap.size w w' :=
  (digestSum_any bs a len cap w hB hC hmax).mono fun e w' ⟨g',he,ho,hb⟩ => by
    obtain ⟨h1,h2,_⟩ := own_isB ho (Dg.b8_of_mem (Dg.sha_mem _)) (by omega)
    exact ⟨g',he,h1,h2,hb⟩
end Go.Proofs.YtapcmbbhhclepaaGreatDoor.Dig
namespace Go.Proofs.YtapcmbbhhclepaaGreatDoor.Dig
open Go.RowKit
theorem own_shape {w : World} {base : Nat} {e : TypeId} {sz : Nat} {v : Value} {n : Nat} {xs : List Value} (h : w.ownsRow base e sz v n xs) : ∃ a c,v = .slice a n c := by
  rcases h.2 with ⟨rfl,rfl⟩ | ⟨g,cap,cur,rfl,_⟩
  · exact ⟨_,_,rfl⟩
  · exact ⟨_,_,rfl⟩
def Wr (w : World) (g n : Nat) : Prop := ∃ cur,Blk w g 5 cur ∧ n ≤ cur.size ∧ ∀ i,i < n → ∃ y,cur[i]? = some (.int .u8 y)
theorem Wr.at {w : World} {g n : Nat} (h : Wr w g n) {i : Nat} (hi : i < n) : ∃ y,w.cell? ⟨g,i,none⟩ = some (.int .u8 y) ∧ w.frozen? ⟨g,i,none⟩ = false := by
  obtain ⟨cur,h1,h2,h3⟩ := h
  obtain ⟨y,hy⟩ := h3 i hi
  exact ⟨y,(h1.cell i).trans hy,h1.frozen i⟩
theorem Wr.set {w : World} {g n : Nat} (h : Wr w g n) (j : Nat) (y : Int) : Wr (w.setCell ⟨g,j,none⟩ (.int .u8 y)) g n := by
  obtain ⟨cur,h1,h2,h3⟩ := h
  refine ⟨_,h1.set j _,by simpa using h2,fun i hi => ?_⟩
  rw [Array.getElem?_setIfInBounds]
  split
  · rename_i e
    subst e
    exact ⟨y,by rw [if_pos (by omega)]⟩
  · exact h3 i hi
theorem Wr.below {w w' : World} {g n : Nat} (h : Wr w g n) (b : Below w.heap.size w w') : Wr w' g n := by
  obtain ⟨cur,h1,h2,h3⟩ := h
  exact ⟨cur,h1.below' b,h2,h3⟩
theorem Wr.but {w w' : World} {g g' n : Nat} (h : Wr w g n) (b : But g' w w') (hg : g ≠ g') : Wr w' g n := by
  obtain ⟨cur,h1,h2,h3⟩ := h
  exact ⟨cur,b.other h1 hg,h2,h3⟩
theorem Hs.but {w w' : World} {g g' : Nat} {bs : List Int} (h : Hs w g bs) (b : But g' w w') (hg : g ≠ g') : Hs w' g bs := by
  obtain ⟨s,r,h1,h2⟩ := h
  exact ⟨s,r,b.other h1 hg,h2⟩
end Go.Proofs.YtapcmbbhhclepaaGreatDoor.Dig
namespace Go.Proofs.YtapcmbbhhclepaaGreatDoor.Dig
open Go.RowKit
theorem or32 (i : Nat) (x y : Int) (hx₀ : 0 ≤ x) (hx : x % 2 ^ i = 0) (hx₁ : x < 4294967296) (hy₀ : 0 ≤ y) (hy : y < 2 ^ i) (hy₁ : y < 4294967296) : bits .or .u32 x y = x + y :=
  bits_join .u32 32 (by decide) wraps_u32 i x y hx₀ hx (by simpa using hx₁) hy₀ hy (by simpa using hy₁)
theorem tog_take (w : Nat) : ∀ (l : List Int) (i k : Nat),k < l.length → Sl.tog w (l.take (k + 1)) i = Sl.tog w (l.take k) i + l[k]?.getD 0 * 2 ^ (24 - w * (i + k + 1))
  | [],i,k,h => by simp at h
  | x :: l,i,0,h => by simp [Sl.tog]
  | x :: l,i,k + 1,h => by
    have := tog_take w l (i + 1) k (by simpa using h)
    simp only [List.take_succ_cons,Sl.tog,this,List.getElem?_cons_succ]
    rw [show i + 1 + k + 1 = i + (k + 1) + 1 by omega]
    omega
set_option maxHeartbeats 1000000 in
theorem together8 (bs : List Int) (a : Option Addr) (len cap : Nat) (w : World) (hB : IsB w a len cap bs) (hl : len ≤ 3) :
    Calls Tryz.prog 88 #[.slice a len cap,.int .i64 8] w fun e w' => e = .returned (.int .u32 (Sl.tog 8 bs 0)) ∧ w' = w := by
  have HB := hide hB
  clear hB
  go_enter Tryz.func88,Tryz.ntmps88
  go_wp2_with fail
  go_loop [5,10] (fun s i => ∃ (k : Nat) (x : Int),k ≤ len ∧ i = .int .i64 k ∧ s = .int .u32 x ∧ Hid (x = Sl.tog 8 (bs.take k) 0 ∧ 0 ≤ x ∧ x < 16777216 ∧ x % 2 ^ (24 - 8 * k) = 0)) (fun _ i => len - (intOf i).toNat)
  case atStart => exact ⟨0,0,by omega,rfl,rfl,by simp [Sl.tog],by omega,by omega,by decide⟩
  case round =>
    obtain ⟨k,x,hk,rfl,rfl,HX⟩ := hrel
    by_cases hlt : k < len
    · obtain ⟨h1,h2,h3,h4,h5⟩ := HB.out
      rcases h5 with ⟨_,h5⟩ | ⟨y,rfl,h6⟩
      · omega
      · obtain ⟨b,o,rfl,hR⟩ := h6 (by omega)
        have hc := hR k (by omega)
        have h8 := h4 k
        have ht := tog_take 8 bs 0 k (by omega)
        obtain ⟨v,hv⟩ : ∃ v,v = bs[k]?.getD 0 := ⟨_,rfl⟩
        rw [← hv] at hc h8 ht
        have HT := hide ht
        clear hv h1 h4 h6 hR ht
        have hkn : k = 0 ∨ k = 1 ∨ k = 2 := by omega
        rcases hkn with rfl | rfl | rfl
        · simp only [Nat.add_zero] at hc
          go_wp2_with fail
          go_round
          case rel =>
            obtain ⟨e1,e2,e3,e4⟩ := HX.out
            have e4' : x % 16777216 = 0 := by simpa using e4
            have e0 : bits .or .u32 x (v * 65536) = x + v * 65536 := or32 24 _ _ (by omega) (by simpa using e4) (by omega) (by omega) (by simp; omega) (by omega)
            refine ⟨1,x + v * 65536,by omega,rfl,?_,?_,by omega,by omega,?_⟩
            · first | rw [e0] | (rw [← e0]; simp)
            · rw [HT.out,← e1]
              simp
            · first | (simp; done) | (simp; omega)
          case measure => simp [intOf]; omega
        · go_wp2_with fail
          go_round
          case rel =>
            obtain ⟨e1,e2,e3,e4⟩ := HX.out
            have e4' : x % 65536 = 0 := by simpa using e4
            have e0 : bits .or .u32 x (v * 256) = x + v * 256 := or32 16 _ _ (by omega) (by simpa using e4) (by omega) (by omega) (by simp; omega) (by omega)
            refine ⟨2,x + v * 256,by omega,rfl,?_,?_,by omega,by omega,?_⟩
            · first | rw [e0] | (rw [← e0]; simp)
            · rw [HT.out,← e1]
              simp
            · first | (simp; done) | (simp; omega)
          case measure => simp [intOf]; omega
        · go_wp2_with fail
          go_round
          case rel =>
            obtain ⟨e1,e2,e3,e4⟩ := HX.out
            have e4' : x % 256 = 0 := by simpa using e4
            have e0 : bits .or .u32 x (v * 1) = x + v * 1 := or32 8 _ _ (by omega) (by simpa using e4) (by omega) (by omega) (by simp; omega) (by omega)
            refine ⟨3,x + v * 1,by omega,rfl,?_,?_,by omega,by omega,?_⟩
            · first | rw [e0] | (rw [← e0]; simp)
            · rw [HT.out,← e1]
              simp
            · first | (simp; done) | (simp; omega)
          case measure => simp [intOf]; omega
    · go_wp2_with fail
      go_ret
      obtain ⟨e1,e2,e3,e4⟩ := HX.out
      rw [List.take_of_length_le (by rw [HB.out.1]; omega)] at e1
      rw [e1]
      exact ⟨rfl,rfl⟩
theorem ret_u32 {a b : Int} (h : a = b) : Ending.returned (.int .u32 a) = .returned (.int .u32 b) := by rw [h]
set_option maxHeartbeats 1000000 in
theorem piece6 (x : Int) (i : Nat) (w : World) (h0 : 0 ≤ x) (h1 : x < 16777216) (hi : i < 4) :
    Calls Tryz.prog 90 #[.int .u32 x,.int .i64 i,.int .i64 6] w fun e w' => e = .returned (.int .u32 (Sl.piece x i 6)) ∧ ∃ n,w' = w.drewN n := by
  have hin : i = 0 ∨ i = 1 ∨ i = 2 ∨ i = 3 := by omega
  rcases hin with rfl | rfl | rfl | rfl
  · go_enter Tryz.func90,Tryz.ntmps90
    go_wp2_with fail
    go_quiet (fail)
    go_wp2_with fail
    go_ret
    refine ⟨ret_u32 ?_,_,rfl⟩
    simp [Sl.piece]
  · go_enter Tryz.func90,Tryz.ntmps90
    go_wp2_with fail
    go_quiet (fail)
    go_wp2_with fail
    go_ret
    refine ⟨ret_u32 ?_,_,rfl⟩
    simp [Sl.piece]
  · go_enter Tryz.func90,Tryz.ntmps90
    go_wp2_with fail
    go_quiet (fail)
    go_wp2_with fail
    go_ret
    refine ⟨ret_u32 ?_,_,rfl⟩
    simp [Sl.piece]
  · go_enter Tryz.func90,Tryz.ntmps90
    go_wp2_with fail
    go_quiet (fail)
    go_wp2_with fail
    go_ret
    refine ⟨ret_u32 ?_,_,rfl⟩
    simp [Sl.piece]
end Go.Proofs.YtapcmbbhhclepaaGreatDoor.Dig
namespace Go.Proofs.YtapcmbbhhclepaaGreatDoor.Dig
open Go.RowKit Go.Shelf
attribute [local go_sem] Oper.semAt_some
def nch3 (len : Nat) : Nat := (len + 2) / 3
def chV3 (b o len k : Nat) : Value := .slice (some ⟨b,o + 3 * k,none⟩) (min 3 (len - 3 * k)) (min 3 (len - 3 * k))
set_option maxRecDepth 100000 in
set_option maxHeartbeats 2000000 in
theorem chunk1_in3 (n : Nat) (hn : 1 ≤ n) (l Bs Bn b o len cap : Nat) (hlc : len ≤ cap) (hcap : len ≤ 1152921504606846976) (J Jx : List (Fin (nch3 len)) → World → Prop) (hJ : ∀ s W m,J s W → J s (W.drewN m))
    (hY : ∀ pre x W,J pre W → pre.length < nch3 len → YieldAt Fence.wide (n - 1) Tryz.prog l #[chV3 b o len x.val] W fun e W' => (e = .returned (.bool true) ∧ J (pre ++ [x]) W' ∧ Kp2 Bs Bn W W') ∨ (e = .returned (.bool false) ∧ Jx (pre ++ [x]) W'))
    (W : World) (hBs : W.cell? ⟨Bs,0,none⟩ = some (.slice (some ⟨b,o,none⟩) len cap)) (hBn : W.cell? ⟨Bn,0,none⟩ = some (.int .i64 3)) (h0 : J [] W) :
    CallsIn Fence.wide n Tryz.prog 118 #[.func (.yield l) #[] #[],.pointer (some ⟨Bs,0,none⟩),.pointer (some ⟨Bn,0,none⟩)] W fun e W' => (∃ v,e = .returned v) ∧
      ((∃ ys,ys = upto (nch3 len) (nch3 len) ∧ J ys W') ∨ (∃ pre,(∃ k,k ≤ nch3 len ∧ pre = upto (nch3 len) k) ∧ Jx pre W')) := by
  refine callsIn_of_wp Tryz.func118 rfl trivial ?_ rfl
  simp only [Tryz.ntmps118,List.size_toArray,List.length_cons,List.length_nil,Nat.reduceAdd,Nat.reduceSub,Array.replicate_succ,Array.replicate_zero,List.push_toArray,List.append_toArray,List.nil_append,List.cons_append]
  gi_wp2
  gi_loopw [4] (fun i wr => ∃ k q : Nat,k ≤ nch3 len ∧ Hid (q = 3 * k) ∧ i = .int .i64 q ∧ J (upto (nch3 len) k) wr ∧ Kp2 Bs Bn W wr) (fun i _ => len + 3 - (intOf i).toNat)
  case atStart => exact ⟨0,0,Nat.zero_le _,rfl,rfl,h0,rfl,rfl⟩
  case round =>
    obtain ⟨k,q,hk,Hq,rfl,hJs,hnx⟩ := hrel
    have hB1 : wr.cell? ⟨Bs,0,none⟩ = some (.slice (some ⟨b,o,none⟩) len cap) := (World.cell?_of_block (w := W) hnx.1).trans hBs
    have hB2 : wr.cell? ⟨Bn,0,none⟩ = some (.int .i64 3) := (World.cell?_of_block (w := W) hnx.2).trans hBn
    by_cases hlt : q < len
    · have hkn : k < nch3 len := by have := Hq.out; unfold nch3; omega
      have hct : ∀ w,(Instr.sliceAt 22 (.slice (some ⟨b,o,none⟩) len cap) (some (.int .i64 q)) none none).run Tryz.prog w = .ok (.slice (cutA (some ⟨b,o,none⟩) q cap) (len - q) (cap - q)) w := fun w => run_slice_cut w _ len cap q (by omega) hlc
      gi_wp2
      gi_quiet (fail)
      obtain ⟨m,hm⟩ : ∃ m,m = min 3 (len - q) := ⟨_,rfl⟩
      have hmn : (if ((len - q : Nat) : Int) < 3 then ((len - q : Nat) : Int) else 3) = (m : Int) := by rw [hm]; split <;> omega
      have hmn2 : min ((len - q : Nat) : Int) 3 = (m : Int) := by rw [hm]; omega
      have hmn3 : min (3 : Int) ((len - q : Nat) : Int) = (m : Int) := by rw [hm]; omega
      first | simp only [hmn] | simp only [hmn2] | simp only [hmn3]
      have hm0 : 0 < m := by omega
      have hqm : q + m ≤ len := by omega
      have hm3 : m ≤ 3 := by omega
      have HCV : Hid (chV3 b o len k = .slice (some ⟨b,o + q,none⟩) m m) := by
        have := Hq.out
        show chV3 b o len k = _
        unfold chV3
        rw [← this,← hm]
      have HM := hide hm
      have hJ2 := hJ _ _ nq hJs
      have hK2 : Kp2 Bs Bn W (wr.drewN nq) := hnx
      replace hB1 : (wr.drewN nq).cell? ⟨Bs,0,none⟩ = some (.slice (some ⟨b,o,none⟩) len cap) := hB1
      replace hB2 : (wr.drewN nq).cell? ⟨Bn,0,none⟩ = some (.int .i64 3) := hB2
      clear hmn hm hct hJs hnx
      generalize wr.drewN nq = w2 at hJ2 hK2 hB1 hB2 ⊢
      have hs3 := run_slice_three w2 b o len cap q m hlt hlc hqm hm0
      obtain ⟨fn,tmps,assign,body,hy,hR⟩ := hY _ ⟨k,hkn⟩ w2 hJ2 (by rw [upto_length hk]; exact hkn)
      rw [HCV.out] at hy
      gi_wp2
      refine hR.mono ?_
      rintro e W3 (⟨rfl,hJ3,hk3⟩ | ⟨rfl,hJx3⟩)
      · have hB2' : W3.cell? ⟨Bn,0,none⟩ = some (.int .i64 3) := (World.cell?_of_block (w := w2) hk3.2).trans hB2
        gi_wp2
        go_roundw
        case rel => exact ⟨k + 1,q + 3,hkn,by have := Hq.out; show q + 3 = 3 * (k + 1); omega,by go_num,by rw [upto_succ hkn]; exact hJ3,hk3.1.trans hK2.1,hk3.2.trans hK2.2⟩
        case measure => simp [intOf]; omega
      · gi_wp2
        refine bodyPost_ret (results_none rfl _ _ _) rfl ?_
        exact ⟨⟨_,rfl⟩,.inr ⟨_,⟨k + 1,hkn,(upto_succ hkn).symm⟩,hJx3⟩⟩
    · have hkn : k = nch3 len := by have := Hq.out; unfold nch3 at hk ⊢; omega
      gi_wp2
      go_end0
      exact ⟨⟨_,rfl⟩,.inl ⟨_,rfl,hkn ▸ hJs⟩⟩
set_option maxHeartbeats 1000000 in
theorem chunk1_none3 (n : Nat) (hn : 1 ≤ n) (l Bs Bn : Nat) (a : Option Addr) (cap : Nat) (P : World → Prop) (W : World) (hBs : W.cell? ⟨Bs,0,none⟩ = some (.slice a 0 cap)) (h0 : P W) :
    CallsIn Fence.wide n Tryz.prog 118 #[.func (.yield l) #[] #[],.pointer (some ⟨Bs,0,none⟩),.pointer (some ⟨Bn,0,none⟩)] W fun e W' => (∃ v,e = .returned v) ∧ P W' := by
  refine callsIn_of_wp Tryz.func118 rfl trivial ?_ rfl
  simp only [Tryz.ntmps118,List.size_toArray,List.length_cons,List.length_nil,Nat.reduceAdd,Nat.reduceSub,Array.replicate_succ,Array.replicate_zero,List.push_toArray,List.append_toArray,List.nil_append,List.cons_append]
  gi_wp2
  gi_loopw [4] (fun i wr => i = .int .i64 0 ∧ wr = W) (fun _ _ => 0)
  case atStart => exact ⟨rfl,rfl⟩
  case round =>
    obtain ⟨rfl,rfl⟩ := hrel
    gi_wp2
    go_end0
    exact ⟨⟨_,rfl⟩,h0⟩
set_option maxHeartbeats 1000000 in
theorem chunk_any3 (n : Nat) (a : Option Addr) (len cap : Nat) (w : World) :
    CallsIn Fence.wide n Tryz.prog 87 #[.slice a len cap,.int .i64 3] w fun e w' => e = .returned (.func (.func 118) #[] #[.pointer (some ⟨w.heap.size,0,none⟩),.pointer (some ⟨w.heap.size + 1,0,none⟩)]) ∧
      w' = (w.alloc (.cells #[.slice a len cap] 22)).alloc (.cells #[.int .i64 3] 3) := by
  refine callsIn_of_wp Tryz.func87 rfl trivial ?_ rfl
  simp only [Tryz.ntmps87,List.size_toArray,List.length_cons,List.length_nil,Nat.reduceAdd,Nat.reduceSub,Array.replicate_succ,Array.replicate_zero,List.push_toArray,List.append_toArray,List.nil_append,List.cons_append]
  gi_wp2
  go_ret
  exact ⟨rfl,rfl⟩
theorem chunk_stops3 (n : Nat) (hn : 1 ≤ n) (Bs Bn cb co : Nat) (a : Option Addr) (len cap : Nat) (hlc : len ≤ cap) (hcap : len ≤ 1152921504606846976) (w : World) (ha : 0 < len → a = some ⟨cb,co,none⟩)
    (hBs : w.cell? ⟨Bs,0,none⟩ = some (.slice a len cap)) (hBn : w.cell? ⟨Bn,0,none⟩ = some (.int .i64 3)) :
    SeqStopsK Fence.wide n Tryz.prog 118 #[.pointer (some ⟨Bs,0,none⟩),.pointer (some ⟨Bn,0,none⟩)] (fun x : Fin (nch3 len) => #[chV3 cb co len x.val]) (Kp2 Bs Bn) (fun ys => ys = upto (nch3 len) (nch3 len)) (fun pre => ∃ k,k ≤ nch3 len ∧ pre = upto (nch3 len) k) (nch3 len) w := fun l J Jx W hW hJ hJx hY h0 => by
  have h1 := (hW.cell (p := ⟨Bs,0,none⟩) (block_lt_of_cell hBs)).trans hBs
  have h2 := (hW.cell (p := ⟨Bn,0,none⟩) (block_lt_of_cell hBn)).trans hBn
  rcases Nat.eq_zero_or_pos len with hl | hl
  · subst hl
    refine (chunk1_none3 n hn l Bs Bn a cap (J []) W h1 h0).mono ?_
    rintro e W' ⟨he,hj⟩
    exact ⟨he,.inl ⟨[],rfl,hj⟩⟩
  · rw [ha hl] at h1
    refine (chunk1_in3 n hn l Bs Bn cb co len cap hlc hcap J Jx (fun s W m hs => hJ s W _ none hs ⟨rfl,rfl,rfl,Nat.le_refl _,fun _ _ _ => rfl⟩ (fun r e => by cases e)) hY W h1 h2 h0).mono ?_
    rintro e W' ⟨he,⟨ys,hy,hj⟩ | ⟨pre,hk,hj⟩⟩
    · exact ⟨he,.inl ⟨ys,hy,hj⟩⟩
    · exact ⟨he,.inr ⟨pre,hk,hj⟩⟩
end Go.Proofs.YtapcmbbhhclepaaGreatDoor.Dig
namespace Go.Proofs
open Go.Shelf
open Go.RowKit in
def Tryz.lays167_ren : Go.Shelf.Ren := ⟨fun | 167 => 89 | 240 => 116 | 276 => 136 | n => n,fun | 70 => 80 | 5 => 5 | 75 => 96 | 0 => 0 | 72 => 82 | 37 => 22 | 4 => 4 | 164 => 143 | 80 => 86 | 9 => 9 | 20 => 20 | n => n,fun | n => n⟩
theorem Tryz.lays167 : Go.Proofs.Lays.n167 Tryz.prog Tryz.lays167_ren := {
  mixed := by kernel_rfl
  f167 := Tryz.func89.trans (congrArg some (by kernel_rfl))
  f240 := Tryz.func116.trans (congrArg some (by kernel_rfl))
  f276 := Tryz.func136.trans (congrArg some (by kernel_rfl))
  t0 := Tryz.underlying0
  a0 := Tryz.isAgg0
  z0 := Tryz.sizeOf0
  v0 := Tryz.zeroValue0
  t4 := Tryz.underlying4
  a4 := Tryz.isAgg4
  z4 := Tryz.sizeOf4
  v4 := Tryz.zeroValue4
  t5 := Tryz.underlying5
  a5 := Tryz.isAgg5
  z5 := Tryz.sizeOf5
  v5 := Tryz.zeroValue5
  t9 := Tryz.underlying9
  a9 := Tryz.isAgg9
  z9 := Tryz.sizeOf9
  v9 := Tryz.zeroValue9
  t20 := Tryz.underlying20
  a20 := Tryz.isAgg20
  z20 := Tryz.sizeOf20
  v20 := Tryz.zeroValue20
  t37 := Tryz.underlying22
  a37 := Tryz.isAgg22
  z37 := Tryz.sizeOf22
  v37 := Tryz.zeroValue22
  t70 := Tryz.underlying80
  a70 := Tryz.isAgg80
  z70 := Tryz.sizeOf80
  v70 := Tryz.zeroValue80
  t72 := Tryz.underlying82
  a72 := Tryz.isAgg82
  z72 := Tryz.sizeOf82
  v72 := Tryz.zeroValue82
  t75 := Tryz.underlying96
  a75 := Tryz.isAgg96
  z75 := Tryz.sizeOf96
  v75 := Tryz.zeroValue96
  t164 := Tryz.underlying143
  a164 := Tryz.isAgg143
  z164 := Tryz.sizeOf143
  v164 := Tryz.zeroValue143 }
theorem Tryz.Builder_Extra_167 : Builder.Extra Tryz.prog Tryz.lays167_ren := {
  sizeBuilder := by kernel_rfl
  liesBuilder := by kernel_rfl
  t5 := Tryz.underlying5
  a5 := Tryz.isAgg5
  z5 := Tryz.sizeOf5
  v5 := Tryz.zeroValue5
  infoByte := by kernel_rfl
  cellsByte := by kernel_rfl
  sizeByte := by kernel_rfl
  neB5 := by decide }
open Go.RowKit in
def Tryz.lays166_ren : Go.Shelf.Ren := ⟨fun | 166 => 109 | 240 => 116 | 276 => 136 | n => n,fun | 70 => 80 | 9 => 9 | 3 => 3 | 75 => 96 | 0 => 0 | 72 => 82 | 37 => 22 | 4 => 4 | 164 => 143 | 80 => 86 | 5 => 5 | 20 => 20 | n => n,fun | n => n⟩
theorem Tryz.lays166 : Go.Proofs.Lays.n166 Tryz.prog Tryz.lays166_ren := {
  mixed := by kernel_rfl
  f166 := Tryz.func109.trans (congrArg some (by kernel_rfl))
  f240 := Tryz.func116.trans (congrArg some (by kernel_rfl))
  f276 := Tryz.func136.trans (congrArg some (by kernel_rfl))
  t0 := Tryz.underlying0
  a0 := Tryz.isAgg0
  z0 := Tryz.sizeOf0
  v0 := Tryz.zeroValue0
  t3 := Tryz.underlying3
  a3 := Tryz.isAgg3
  z3 := Tryz.sizeOf3
  v3 := Tryz.zeroValue3
  t4 := Tryz.underlying4
  a4 := Tryz.isAgg4
  z4 := Tryz.sizeOf4
  v4 := Tryz.zeroValue4
  t9 := Tryz.underlying9
  a9 := Tryz.isAgg9
  z9 := Tryz.sizeOf9
  v9 := Tryz.zeroValue9
  t20 := Tryz.underlying20
  a20 := Tryz.isAgg20
  z20 := Tryz.sizeOf20
  v20 := Tryz.zeroValue20
  t37 := Tryz.underlying22
  a37 := Tryz.isAgg22
  z37 := Tryz.sizeOf22
  v37 := Tryz.zeroValue22
  t70 := Tryz.underlying80
  a70 := Tryz.isAgg80
  z70 := Tryz.sizeOf80
  v70 := Tryz.zeroValue80
  t72 := Tryz.underlying82
  a72 := Tryz.isAgg82
  z72 := Tryz.sizeOf82
  v72 := Tryz.zeroValue82
  t75 := Tryz.underlying96
  a75 := Tryz.isAgg96
  z75 := Tryz.sizeOf96
  v75 := Tryz.zeroValue96
  t164 := Tryz.underlying143
  a164 := Tryz.isAgg143
  z164 := Tryz.sizeOf143
  v164 := Tryz.zeroValue143 }
theorem Tryz.Builder_Extra_166 : Builder.Extra Tryz.prog Tryz.lays166_ren := {
  sizeBuilder := by kernel_rfl
  liesBuilder := by kernel_rfl
  t5 := Tryz.underlying5
  a5 := Tryz.isAgg5
  z5 := Tryz.sizeOf5
  v5 := Tryz.zeroValue5
  infoByte := by kernel_rfl
  cellsByte := by kernel_rfl
  sizeByte := by kernel_rfl
  neB5 := by decide }
open Go.RowKit in
def Tryz.lays169_ren : Go.Shelf.Ren := ⟨fun | 169 => 83 | n => n,fun | 70 => 80 | 9 => 9 | 0 => 0 | 72 => 82 | 37 => 22 | 127 => 120 | 3 => 3 | 5 => 5 | n => n,fun | n => n⟩
theorem Tryz.lays169 : Go.Proofs.Lays.n169 Tryz.prog Tryz.lays169_ren := {
  mixed := by kernel_rfl
  f169 := Tryz.func83.trans (congrArg some (by kernel_rfl))
  t0 := Tryz.underlying0
  a0 := Tryz.isAgg0
  z0 := Tryz.sizeOf0
  v0 := Tryz.zeroValue0
  t3 := Tryz.underlying3
  a3 := Tryz.isAgg3
  z3 := Tryz.sizeOf3
  v3 := Tryz.zeroValue3
  t9 := Tryz.underlying9
  a9 := Tryz.isAgg9
  z9 := Tryz.sizeOf9
  v9 := Tryz.zeroValue9
  t37 := Tryz.underlying22
  a37 := Tryz.isAgg22
  z37 := Tryz.sizeOf22
  v37 := Tryz.zeroValue22
  t70 := Tryz.underlying80
  a70 := Tryz.isAgg80
  z70 := Tryz.sizeOf80
  v70 := Tryz.zeroValue80
  t72 := Tryz.underlying82
  a72 := Tryz.isAgg82
  z72 := Tryz.sizeOf82
  v72 := Tryz.zeroValue82
  t127 := Tryz.underlying120
  a127 := Tryz.isAgg120
  z127 := Tryz.sizeOf120
  v127 := Tryz.zeroValue120 }
theorem Tryz.Builder_Extra_169 : Builder.Extra Tryz.prog Tryz.lays169_ren := {
  sizeBuilder := by kernel_rfl
  liesBuilder := by kernel_rfl
  t5 := Tryz.underlying5
  a5 := Tryz.isAgg5
  z5 := Tryz.sizeOf5
  v5 := Tryz.zeroValue5
  infoByte := by kernel_rfl
  cellsByte := by kernel_rfl
  sizeByte := by kernel_rfl
  neB5 := by decide }
open Go.RowKit in
open Go.RowKit in
open Go.RowKit in
open Go.RowKit in
def Tryz.lays165_ren : Go.Shelf.Ren := ⟨fun | 165 => 86 | 240 => 116 | 241 => 117 | 276 => 136 | 277 => 137 | n => n,fun | 70 => 80 | 3 => 3 | 0 => 0 | 4 => 4 | 9 => 9 | 20 => 20 | 72 => 82 | 37 => 22 | 164 => 143 | 5 => 5 | n => n,fun | n => n⟩
theorem Tryz.lays165 : Go.Proofs.Lays.n165 Tryz.prog Tryz.lays165_ren := {
  mixed := by kernel_rfl
  f165 := Tryz.func86.trans (congrArg some (by kernel_rfl))
  f240 := Tryz.func116.trans (congrArg some (by kernel_rfl))
  f241 := Tryz.func117.trans (congrArg some (by kernel_rfl))
  f276 := Tryz.func136.trans (congrArg some (by kernel_rfl))
  f277 := Tryz.func137.trans (congrArg some (by kernel_rfl))
  t0 := Tryz.underlying0
  a0 := Tryz.isAgg0
  z0 := Tryz.sizeOf0
  v0 := Tryz.zeroValue0
  t3 := Tryz.underlying3
  a3 := Tryz.isAgg3
  z3 := Tryz.sizeOf3
  v3 := Tryz.zeroValue3
  t4 := Tryz.underlying4
  a4 := Tryz.isAgg4
  z4 := Tryz.sizeOf4
  v4 := Tryz.zeroValue4
  t9 := Tryz.underlying9
  a9 := Tryz.isAgg9
  z9 := Tryz.sizeOf9
  v9 := Tryz.zeroValue9
  t20 := Tryz.underlying20
  a20 := Tryz.isAgg20
  z20 := Tryz.sizeOf20
  v20 := Tryz.zeroValue20
  t37 := Tryz.underlying22
  a37 := Tryz.isAgg22
  z37 := Tryz.sizeOf22
  v37 := Tryz.zeroValue22
  t70 := Tryz.underlying80
  a70 := Tryz.isAgg80
  z70 := Tryz.sizeOf80
  v70 := Tryz.zeroValue80
  t72 := Tryz.underlying82
  a72 := Tryz.isAgg82
  z72 := Tryz.sizeOf82
  v72 := Tryz.zeroValue82
  t164 := Tryz.underlying143
  a164 := Tryz.isAgg143
  z164 := Tryz.sizeOf143
  v164 := Tryz.zeroValue143 }
theorem Tryz.Builder_Extra_165 : Builder.Extra Tryz.prog Tryz.lays165_ren := {
  sizeBuilder := by kernel_rfl
  liesBuilder := by kernel_rfl
  t5 := Tryz.underlying5
  a5 := Tryz.isAgg5
  z5 := Tryz.sizeOf5
  v5 := Tryz.zeroValue5
  infoByte := by kernel_rfl
  cellsByte := by kernel_rfl
  sizeByte := by kernel_rfl
  neB5 := by decide }
open Go.RowKit in
theorem Tryz.Builder_Grow_fresh (B b n : Nat) (w : World) (hB : B ≤ b) (hbk : w.heap[b]? = some (.cells #[.pointer none,.slice none 0 0] 82 (0,0))) (hBw : B ≤ w.heap.size) (hn : n ≤ 281474976710656) :
    Calls Tryz.prog 86 #[.pointer (some ⟨b,0,none⟩),.int .i64 n] w fun e w' => e = .returned (.tuple #[]) ∧ (Lib.BuilderAt 82 5 B b (.pointer (some ⟨b,0,none⟩)) [] w' ∧ Below B w w') := Any.Builder_Grow_fresh Tryz.lays165 Tryz.Builder_Extra_165 B b n w hB hbk hBw hn
def Tryz.lays214_ren : Go.Shelf.Ren := ⟨fun | 214 => 132 | n => n,fun | 4 => 4 | 9 => 9 | n => n,fun | n => n⟩
open Go.RowKit in
def Tryz.lays121_ren : Go.Shelf.Ren := ⟨fun | 121 => 110 | 214 => 132 | n => n,fun | 4 => 4 | 9 => 9 | n => n,fun | n => n⟩
theorem Tryz.lays121 : Go.Proofs.Lays.n121 Tryz.prog Tryz.lays121_ren := {
  mixed := by kernel_rfl
  f121 := Tryz.func110.trans (congrArg some (by kernel_rfl))
  f214 := Tryz.func132.trans (congrArg some (by kernel_rfl))
  t4 := Tryz.underlying4
  a4 := Tryz.isAgg4
  z4 := Tryz.sizeOf4
  v4 := Tryz.zeroValue4
  t9 := Tryz.underlying9
  a9 := Tryz.isAgg9
  z9 := Tryz.sizeOf9
  v9 := Tryz.zeroValue9 }
open Go.RowKit in
theorem Tryz.strconv_FormatBool (b : Bool) (w : World) :
    Calls Tryz.prog 110 #[.bool b] w fun e w' => e = .returned (.string ⟨(Lib.formatBool b).toArray⟩) ∧ w' = w := Any.strconv_FormatBool Tryz.lays121 b w
open Go.RowKit in
open Go.RowKit in
open Go.RowKit in
open Go.RowKit in
open Go.RowKit in
open Go.RowKit in
open Go.RowKit in
theorem Tryz.Builder_WriteByte_k (B b : Nat) (bs : List Value) (c : Int) (w : World) (h : Lib.IsBuilderF 82 5 B b bs w) (hlen : bs.length + 1 ≤ 140737488355328) (hBw : B ≤ w.heap.size) :
    Calls Tryz.prog 89 #[.pointer (some ⟨b,0,none⟩),.int .u8 c] w fun e w' => e = .returned .nilIface ∧ (Lib.BuilderAtF 82 5 B b (.pointer (some ⟨b,0,none⟩)) (bs ++ [.int .u8 c]) w' ∧ Below B w w' ∧ Lib.OthersKept 5 (some b) w w') := Any.Builder_WriteByte_k Tryz.lays167 Tryz.Builder_Extra_167 B b bs c w h hlen hBw
open Go.RowKit in
theorem Tryz.Builder_WriteString_k (B b : Nat) (bs : List Value) (s : ByteArray) (w : World) (h : Lib.IsBuilderF 82 5 B b bs w) (hlen : bs.length + s.size ≤ 140737488355328) (hBw : B ≤ w.heap.size) :
    Calls Tryz.prog 109 #[.pointer (some ⟨b,0,none⟩),.string s] w fun e w' => e = .returned (.tuple #[.int .i64 s.size,.nilIface]) ∧ (Lib.BuilderAtF 82 5 B b (.pointer (some ⟨b,0,none⟩)) (bs ++ Lib.strCells s) w' ∧ Below B w w' ∧ Lib.OthersKept 5 (some b) w w') := Any.Builder_WriteString_k Tryz.lays166 Tryz.Builder_Extra_166 B b bs s w h hlen hBw
open Go.RowKit in
open Go.RowKit in
open Go.RowKit in
theorem Tryz.Builder_String_any_k (B b : Nat) (l : List UInt8) (w : World) (h : Lib.IsBuilderF 82 5 B b (Lib.byteCells l) w) (hBw : B ≤ w.heap.size) :
    Calls Tryz.prog 83 #[.pointer (some ⟨b,0,none⟩)] w fun e w' => e = .returned (.string ⟨l.toArray⟩) ∧ (Lib.IsBuilderF 82 5 B b (Lib.byteCells l) w' ∧ Below B w w' ∧ Lib.OthersKept 5 (some b) w w') := Any.Builder_String_any_k Tryz.lays169 Tryz.Builder_Extra_169 B b l w h hBw
open Go.RowKit in
open Go.RowKit in
open Go.Lib in
open Go.Lib in
open Go.Lib in
open Go.Lib in
open Go.RowKit Go.Sort Go.Lib in
def Tryz.laysM246_ren : Go.Shelf.Ren := ⟨fun | 246 => 133 | 283 => 142 | 284 => 143 | 285 => 144 | 286 => 145 | 129 => 153 | 317 => 152 | 318 => 154 | 319 => 155 | 320 => 156 | 337 => 159 | 338 => 160 | n => n,fun | 2 => 2 | 3 => 3 | 9 => 9 | 4 => 4 | 171 => 152 | 0 => 0 | 53 => 110 | 37 => 22 | 5 => 5 | 173 => 155 | 212 => 160 | 51 => 93 | 20 => 20 | 213 => 161 | 46 => 88 | 232 => 166 | 233 => 126 | n => n,fun | 17 => 2 | 18 => 3 | 19 => 4 | n => n⟩
theorem Tryz.laysM246 : Go.Proofs.LaysM.n246 Tryz.prog Tryz.laysM246_ren := {
  mixed := by kernel_rfl
  f129 := Tryz.func153.trans (congrArg some (by kernel_rfl))
  f246 := Tryz.func133.trans (congrArg some (by kernel_rfl))
  f283 := Tryz.func142.trans (congrArg some (by kernel_rfl))
  f284 := Tryz.func143.trans (congrArg some (by kernel_rfl))
  f285 := Tryz.func144.trans (congrArg some (by kernel_rfl))
  f286 := Tryz.func145.trans (congrArg some (by kernel_rfl))
  f317 := Tryz.func152.trans (congrArg some (by kernel_rfl))
  f318 := Tryz.func154.trans (congrArg some (by kernel_rfl))
  f319 := Tryz.func155.trans (congrArg some (by kernel_rfl))
  f320 := Tryz.func156.trans (congrArg some (by kernel_rfl))
  f337 := Tryz.func159.trans (congrArg some (by kernel_rfl))
  f338 := Tryz.func160.trans (congrArg some (by kernel_rfl))
  t0 := Tryz.underlying0
  a0 := Tryz.isAgg0
  z0 := Tryz.sizeOf0
  v0 := Tryz.zeroValue0
  t2 := Tryz.underlying2
  a2 := Tryz.isAgg2
  z2 := Tryz.sizeOf2
  v2 := Tryz.zeroValue2
  t3 := Tryz.underlying3
  a3 := Tryz.isAgg3
  z3 := Tryz.sizeOf3
  v3 := Tryz.zeroValue3
  t4 := Tryz.underlying4
  a4 := Tryz.isAgg4
  z4 := Tryz.sizeOf4
  v4 := Tryz.zeroValue4
  t5 := Tryz.underlying5
  a5 := Tryz.isAgg5
  z5 := Tryz.sizeOf5
  v5 := Tryz.zeroValue5
  t9 := Tryz.underlying9
  a9 := Tryz.isAgg9
  z9 := Tryz.sizeOf9
  v9 := Tryz.zeroValue9
  t20 := Tryz.underlying20
  a20 := Tryz.isAgg20
  z20 := Tryz.sizeOf20
  v20 := Tryz.zeroValue20
  t37 := Tryz.underlying22
  a37 := Tryz.isAgg22
  z37 := Tryz.sizeOf22
  v37 := Tryz.zeroValue22
  t46 := Tryz.underlying88
  a46 := Tryz.isAgg88
  z46 := Tryz.sizeOf88
  v46 := Tryz.zeroValue88
  t51 := Tryz.underlying93
  a51 := Tryz.isAgg93
  z51 := Tryz.sizeOf93
  v51 := Tryz.zeroValue93
  t53 := Tryz.underlying110
  a53 := Tryz.isAgg110
  z53 := Tryz.sizeOf110
  v53 := Tryz.zeroValue110
  t171 := Tryz.underlying152
  a171 := Tryz.isAgg152
  z171 := Tryz.sizeOf152
  v171 := Tryz.zeroValue152
  t173 := Tryz.underlying155
  a173 := Tryz.isAgg155
  z173 := Tryz.sizeOf155
  v173 := Tryz.zeroValue155
  t212 := Tryz.underlying160
  a212 := Tryz.isAgg160
  z212 := Tryz.sizeOf160
  v212 := Tryz.zeroValue160
  t213 := Tryz.underlying161
  a213 := Tryz.isAgg161
  z213 := Tryz.sizeOf161
  t232 := Tryz.underlying166
  a232 := Tryz.isAgg166
  z232 := Tryz.sizeOf166
  v232 := Tryz.zeroValue166
  t233 := Tryz.underlying126
  a233 := Tryz.isAgg126
  z233 := Tryz.sizeOf126
  v233 := Tryz.zeroValue126
  g17 := by kernel_rfl
  g18 := by kernel_rfl
  g19 := by kernel_rfl
  i0 := by kernel_rfl
  i2 := by kernel_rfl
  i3 := by kernel_rfl
  i4 := by kernel_rfl
  i5 := by kernel_rfl
  i9 := by kernel_rfl
  i20 := by kernel_rfl
  i37 := by kernel_rfl
  i46 := by kernel_rfl
  i51 := by kernel_rfl
  i53 := by kernel_rfl
  i171 := by kernel_rfl
  i173 := by kernel_rfl
  i212 := by kernel_rfl
  i232 := by kernel_rfl
  i233 := by kernel_rfl
  m17 := by kernel_rfl
  m18 := by kernel_rfl
  m19 := by kernel_rfl }
open Go.RowKit Go.Sort Go.Lib in
theorem Tryz.internal_strconv_FormatInt_10 (n : Int) (h0 : -9223372036854775808 ≤ n) (h1 : n ≤ 9223372036854775807) (w : World) (htab : Lib.TabIs Tryz.prog w "internal/strconv.uint64pow10" .u64 Lib.pow10Tab) :
    Calls Tryz.prog 133 #[.int .i64 n,.int .i64 10] w fun e w' => e = .returned (.string ⟨(Lib.itoa n).toArray⟩) ∧ ∃ k os,w' = grow (w.drewN k) os := Any.internal_strconv_FormatInt_10 Tryz.laysM246 n h0 h1 w htab
open Go.RowKit Go.Sort Go.Lib in
open Go.RowKit Go.Sort Go.Lib in
open Go.RowKit Go.Sort Go.Lib in
def Tryz.laysM316_ren : Go.Shelf.Ren := ⟨fun | 316 => 103 | n => n,fun | 9 => 9 | 3 => 3 | 4 => 4 | 37 => 22 | 0 => 0 | 127 => 120 | 5 => 5 | n => n,fun | n => n⟩
theorem Tryz.laysM316 : Go.Proofs.LaysM.n316 Tryz.prog Tryz.laysM316_ren := {
  mixed := by kernel_rfl
  f316 := Tryz.func103.trans (congrArg some (by kernel_rfl))
  t0 := Tryz.underlying0
  a0 := Tryz.isAgg0
  z0 := Tryz.sizeOf0
  v0 := Tryz.zeroValue0
  t3 := Tryz.underlying3
  a3 := Tryz.isAgg3
  z3 := Tryz.sizeOf3
  v3 := Tryz.zeroValue3
  t4 := Tryz.underlying4
  a4 := Tryz.isAgg4
  z4 := Tryz.sizeOf4
  v4 := Tryz.zeroValue4
  t9 := Tryz.underlying9
  a9 := Tryz.isAgg9
  z9 := Tryz.sizeOf9
  v9 := Tryz.zeroValue9
  t37 := Tryz.underlying22
  a37 := Tryz.isAgg22
  z37 := Tryz.sizeOf22
  v37 := Tryz.zeroValue22
  t127 := Tryz.underlying120
  a127 := Tryz.isAgg120
  z127 := Tryz.sizeOf120
  v127 := Tryz.zeroValue120
  t5 := Tryz.underlying5
  a5 := Tryz.isAgg5
  z5 := Tryz.sizeOf5
  v5 := Tryz.zeroValue5
  i0 := by kernel_rfl
  i3 := by kernel_rfl
  i4 := by kernel_rfl
  i5 := by kernel_rfl
  i9 := by kernel_rfl
  i37 := by kernel_rfl
  i127 := by kernel_rfl }
open Go.RowKit in
theorem Tryz.stringslite_Clone (s : ByteArray) (w : World) (hlim : s.size ≤ 281474976710656) :
    Calls Tryz.prog 103 #[.string s] w fun e w' => e = .returned (.string s) ∧ Below w.heap.size w w' := Any.stringslite_Clone Tryz.laysM316 s w hlim
open Go.RowKit in
open Go.RowKit in
def Tryz.lays109_ren : Go.Shelf.Ren := ⟨fun | 109 => 72 | n => n,fun | 31 => 24 | 9 => 9 | 3 => 3 | 0 => 0 | 4 => 4 | n => n,fun | n => n⟩
theorem Tryz.lays109 : Go.Proofs.Lays.n109 Tryz.prog Tryz.lays109_ren := {
  mixed := by kernel_rfl
  f109 := Tryz.func72.trans (congrArg some (by kernel_rfl))
  t0 := Tryz.underlying0
  a0 := Tryz.isAgg0
  z0 := Tryz.sizeOf0
  v0 := Tryz.zeroValue0
  t3 := Tryz.underlying3
  a3 := Tryz.isAgg3
  z3 := Tryz.sizeOf3
  v3 := Tryz.zeroValue3
  t4 := Tryz.underlying4
  a4 := Tryz.isAgg4
  z4 := Tryz.sizeOf4
  v4 := Tryz.zeroValue4
  t9 := Tryz.underlying9
  a9 := Tryz.isAgg9
  z9 := Tryz.sizeOf9
  v9 := Tryz.zeroValue9
  t31 := Tryz.underlying24
  a31 := Tryz.isAgg24
  z31 := Tryz.sizeOf24
  v31 := Tryz.zeroValue24 }
open Go.Lib in
theorem Tryz.slices_Index_string (b off n c : Nat) (zs : List ByteArray) (x : ByteArray) (w : World) (hz : n ≤ zs.length) (hbig : n ≤ 9223372036854775807) (hc : ∀ j,j < zs.length → w.cell? ⟨b,off + j,none⟩ = some (.string (zs.getD j ByteArray.empty))) :
    Calls Tryz.prog 72 #[.slice (some ⟨b,off,none⟩) n c,.string x] w fun e w' => e = .returned (.int .i64 (Lib.idxOfS (zs.take n) x)) ∧ w' = w := Any.slices_Index_string Tryz.lays109 b off n c zs x w hz hbig hc
open Go.Lib in
theorem Tryz.slices_Index_string_empty (a : Option Addr) (c : Nat) (x : ByteArray) (w : World) :
    Calls Tryz.prog 72 #[.slice a 0 c,.string x] w fun e w' => e = .returned (.int .i64 (Lib.idxOfS [] x)) ∧ w' = w := Any.slices_Index_string_empty Tryz.lays109 a c x w
def Tryz.lays110_ren : Go.Shelf.Ren := ⟨fun | 110 => 37 | 109 => 72 | n => n,fun | 31 => 24 | 9 => 9 | 4 => 4 | 3 => 3 | 0 => 0 | n => n,fun | n => n⟩
theorem Tryz.lays110 : Go.Proofs.Lays.n110 Tryz.prog Tryz.lays110_ren := {
  mixed := by kernel_rfl
  f109 := Tryz.func72.trans (congrArg some (by kernel_rfl))
  f110 := Tryz.func37.trans (congrArg some (by kernel_rfl))
  t0 := Tryz.underlying0
  a0 := Tryz.isAgg0
  z0 := Tryz.sizeOf0
  v0 := Tryz.zeroValue0
  t3 := Tryz.underlying3
  a3 := Tryz.isAgg3
  z3 := Tryz.sizeOf3
  v3 := Tryz.zeroValue3
  t4 := Tryz.underlying4
  a4 := Tryz.isAgg4
  z4 := Tryz.sizeOf4
  v4 := Tryz.zeroValue4
  t9 := Tryz.underlying9
  a9 := Tryz.isAgg9
  z9 := Tryz.sizeOf9
  v9 := Tryz.zeroValue9
  t31 := Tryz.underlying24
  a31 := Tryz.isAgg24
  z31 := Tryz.sizeOf24
  v31 := Tryz.zeroValue24 }
open Go.Lib in
theorem Tryz.slices_Contains_string (b off n c : Nat) (zs : List ByteArray) (x : ByteArray) (w : World) (hz : n ≤ zs.length) (hbig : n ≤ 9223372036854775807) (hc : ∀ j,j < zs.length → w.cell? ⟨b,off + j,none⟩ = some (.string (zs.getD j ByteArray.empty))) :
    Calls Tryz.prog 37 #[.slice (some ⟨b,off,none⟩) n c,.string x] w fun e w' => e = .returned (.bool (Lib.containsS (zs.take n) x)) ∧ w' = w := Any.slices_Contains_string Tryz.lays110 b off n c zs x w hz hbig hc
open Go.Lib in
theorem Tryz.slices_Contains_string_empty (a : Option Addr) (c : Nat) (x : ByteArray) (w : World) :
    Calls Tryz.prog 37 #[.slice a 0 c,.string x] w fun e w' => e = .returned (.bool false) ∧ w' = w := Any.slices_Contains_string_empty Tryz.lays110 a c x w
end Go.Proofs
namespace Go.Proofs.YtapcmbbhhclepaaGreatDoor.Dig
open Go.RowKit Go.Shelf
attribute [local go_sem] Oper.semAt_some
abbrev Bf (B b : Nat) (l : List UInt8) (W : World) : Prop := Lib.IsBuilderF 82 5 B b (Lib.byteCells l) W
theorem bf_grown {B b : Nat} {l : List UInt8} {W W' : World} {row : Option Nat} (h : Bf B b l W) (hg : W.grownBy W' row) (hr : ∀ r,row = some r → ∃ o : Obj,W.heap[r]? = some o ∧ o.isCells = false) : Bf B b l W' := by
  have key : ∀ p,Lib.BuilderAtF 82 5 B b p (Lib.byteCells l) W → Lib.BuilderAtF 82 5 B b p (Lib.byteCells l) W' := by
    rintro p ⟨hB,v,hb,hown,hne⟩
    refine ⟨hB,v,(hg.block b (Array.getElem?_eq_some_iff.1 hb).1 (fun e => ?_)).trans hb,hown.kept hg ?_,hne⟩
    · obtain ⟨o,ho,hc⟩ := hr b e.symm
      rw [hb] at ho
      cases ho
      cases hc
    · cases hv : v.ownBlock with
      | none => exact .inl rfl
      | some g =>
        refine .inr fun e => ?_
        obtain ⟨o,ho,hc⟩ := hr g e.symm
        obtain ⟨c,fz,h1⟩ := Lib.ownsRowF_kind hown g hv
        rw [h1] at ho
        cases ho
        cases hc
  exact h.imp (key _) (key _)
theorem grownBy_alloc (w : World) (o : Obj) : w.grownBy (w.alloc o) none := ⟨rfl,rfl,rfl,by simp,fun k hk _ => Lib.alloc_old w o k hk⟩
theorem bf_alloc {B b : Nat} {l : List UInt8} {W : World} (h : Bf B b l W) (o : Obj) : Bf B b l (W.alloc o) := bf_grown h (grownBy_alloc W o) (fun r e => by cases e)
theorem bf_lt {B b : Nat} {l : List UInt8} {W : World} (h : Bf B b l W) : b < W.heap.size := by
  rcases h with ⟨_,v,hb,_⟩ | ⟨_,v,hb,_⟩
  · exact (Array.getElem?_eq_some_iff.1 hb).1
  · exact (Array.getElem?_eq_some_iff.1 hb).1
theorem bf_block {B b : Nat} {l : List UInt8} {W : World} (h : Bf B b l W) : ∃ p v,W.heap[b]? = some (.cells #[p,v] 82 (0,0)) := by
  rcases h with ⟨_,v,hb,_⟩ | ⟨_,v,hb,_⟩
  · exact ⟨_,_,hb⟩
  · exact ⟨_,_,hb⟩
theorem kept_from {B b : Nat} {l : List UInt8} {W W' : World} (h : Bf B b l W) (hk : Lib.OthersKept 5 (some b) W W') (hs : W.heap.size ≤ W'.heap.size) (D : Nat) : KeepsFrom D W W' := by
  refine ⟨hs,fun k o _ hko ho => ?_⟩
  refine (hk k o hko ?_ ?_).trans rfl
  · intro e
    cases e
    obtain ⟨p,v,hb⟩ := bf_block h
    rw [hb] at hko
    cases hko
    cases ho
  · rintro c fz rfl
    cases ho
theorem byteCells_snoc (l : List UInt8) (c : UInt8) : Lib.byteCells l ++ [.int .u8 (c.toNat : Int)] = Lib.byteCells (l ++ [c]) := by simp [Lib.byteCells]
def chL (q : List Int) (j : Nat) : List Int := (q.drop (3 * j)).take 3
theorem upto_text (q : List Int) : ∀ k,k ≤ nch3 q.length → (upto (nch3 q.length) k).flatMap (fun x => Sl.text (chL q x.val)) = Sl.text (q.take (3 * k))
  | 0,_ => rfl
  | k + 1,h => by
    have h3 : 3 * k ≤ q.length := by unfold nch3 at h; omega
    rw [upto_succ (show k < nch3 q.length by omega),List.flatMap_append,upto_text q k (by omega),List.flatMap_singleton,← Sl.text_append (by rw [List.length_take]; omega)]
    congr 1
    unfold chL
    rw [show 3 * (k + 1) = 3 * k + 3 by omega,List.take_add]
theorem chL_length (q : List Int) (j : Nat) : (chL q j).length = min 3 (q.length - 3 * j) := by simp [chL]
theorem flat_length (q : List Int) {N : Nat} (pre : List (Fin N)) : (pre.flatMap (fun x => Sl.text (chL q x.val))).length ≤ 4 * pre.length := by
  induction pre with
  | nil => simp
  | cons x p ih =>
    rw [List.flatMap_cons,List.length_append,Sl.text_length,chL_length,List.length_cons]
    omega
theorem signs_at (p : Nat) (h : p < ({ data := #[65,66,67,68,69,70,71,72,73,74,75,76,77,78,79,80,81,82,83,84,85,86,87,88,89,90,97,98,99,100,101,102,103,104,105,106,107,108,109,110,111,112,113,114,115,116,117,118,119,120,121,122,48,49,50,51,52,53,54,55,56,57,45,95] } : ByteArray).size) : ({ data := #[65,66,67,68,69,70,71,72,73,74,75,76,77,78,79,80,81,82,83,84,85,86,87,88,89,90,97,98,99,100,101,102,103,104,105,106,107,108,109,110,111,112,113,114,115,116,117,118,119,120,121,122,48,49,50,51,52,53,54,55,56,57,45,95] } : ByteArray)[p]'h = Sl.signs[p]?.getD 0 := by
  have hp : p < 64 := h
  have h1 : ({ data := #[65,66,67,68,69,70,71,72,73,74,75,76,77,78,79,80,81,82,83,84,85,86,87,88,89,90,97,98,99,100,101,102,103,104,105,106,107,108,109,110,111,112,113,114,115,116,117,118,119,120,121,122,48,49,50,51,52,53,54,55,56,57,45,95] } : ByteArray)[p]'h = Sl.signs[p]'(by exact hp) := rfl
  rw [h1,List.getElem?_eq_getElem (by exact hp)]
  rfl
theorem y8_of {l : List Int} (h : Dg.B8 l) : Sl.Y8 l := by
  intro n hn
  obtain ⟨i,hi,rfl⟩ := List.getElem_of_mem hn
  have := h i
  rw [List.getElem?_eq_getElem hi] at this
  exact this
theorem tog8_lt (g : List Int) (h8 : Dg.B8 g) (h3 : g.length ≤ 3) : 0 ≤ Sl.tog 8 g 0 ∧ Sl.tog 8 g 0 < 16777216 := by
  match g,h3 with
  | [],_ => simp [Sl.tog]
  | [a],_ =>
    have := h8 0
    simp [Sl.tog] at this ⊢
    omega
  | [a,b],_ =>
    have := h8 0
    have := h8 1
    simp [Sl.tog] at *
    omega
  | [a,b,c],_ =>
    have := h8 0
    have := h8 1
    have := h8 2
    simp [Sl.tog] at *
    omega
set_option maxRecDepth 100000 in
set_option maxHeartbeats 2000000 in
theorem sealText_any (bs : List Int) (a : Option Addr) (len cap : Nat) (w : World) (hB : IsB w a len cap bs) (hl : len ≤ 1000000) :
    Calls Tryz.prog 58 #[.slice a len cap] w fun e w' => e = .returned (.string ⟨(Sl.text bs).toArray⟩) ∧ Below w.heap.size w w' := by
  have HB := hide hB
  have hlc := hB.2.1
  clear hB
  refine (callsIn_wide (n := 3)).1 (callsIn_of_wp_marks Tryz.func58 rfl trivial ?_ rfl)
  refine wpIn_wide.2 ?_
  simp only [Tryz.ntmps58,List.size_toArray,List.length_cons,List.length_nil,Nat.reduceAdd,Nat.reduceSub,Array.replicate_succ,Array.replicate_zero,List.push_toArray,List.append_toArray,List.nil_append,List.cons_append]
  go_wp2_with fail
  have hgr : ((len : Int) * 4 + 3 - 1) / 3 = (((len * 4 + 2) / 3 : Nat) : Int) := by omega
  rw [hgr]
  have b0 : Below w.heap.size w (w.alloc (.cells #[.pointer none,.slice none 0 0] 82)) := (Below.refl _ _).alloc (Nat.le_refl _) _
  refine (Tryz.Builder_Grow_fresh w.heap.size w.heap.size ((len * 4 + 2) / 3) _ (Nat.le_refl _) (heap_alloc_new w _) b0.size (by omega)).mono ?_
  rintro e w1 ⟨rfl,hbu,b1⟩
  have HBF : Hid (Bf w.heap.size w.heap.size [] w1) := .inr (Lib.BuilderAtF.of hbu)
  have HB1 := hide (b0.trans b1)
  clear hbu b1 b0 hgr
  go_wp2_with (go_at_call 87; refine (callsIn_wide.1 (chunk_any3 3 _ _ _ _)).mono ?_; rintro e w' ⟨rfl,rfl⟩)
  have b5 : Below w1.heap.size w1 ((w1.alloc (.cells #[.slice a len cap] 22)).alloc (.cells #[.int .i64 3] 3)) := ((Below.refl _ _).alloc (Nat.le_refl _) _).alloc (by simp) _
  have hs5 : ((w1.alloc (.cells #[.slice a len cap] 22)).alloc (.cells #[.int .i64 3] 3)).heap.size = w1.heap.size + 2 := by simp
  have hk1 := (blk_new w1 22 #[.slice a len cap]).below' ((Below.refl _ _).alloc (Nat.le_refl _) (.cells #[.int .i64 3] 3))
  have hk2 := blk_new (w1.alloc (.cells #[.slice a len cap] 22)) 3 #[.int .i64 3]
  rw [World.size_alloc] at hk2
  have HF5 := hide (bf_alloc (bf_alloc HBF.out (.cells #[.slice a len cap] 22)) (.cells #[.int .i64 3] 3))
  have HB5 := hide (HB1.out.trans (b5.mono HB1.out.size))
  have hN1 := bf_lt HBF.out
  generalize (w1.alloc (.cells #[.slice a len cap] 22)).alloc (.cells #[.int .i64 3] 3) = w5 at hs5 hk1 hk2 HF5 HB5 ⊢
  clear b5 HBF HB1
  obtain ⟨Bs,hBs⟩ : ∃ Bs,Bs = w1.heap.size := ⟨_,rfl⟩
  rw [← hBs] at hs5 hk1 hk2 hN1 ⊢
  clear hBs
  obtain ⟨N,hN⟩ : ∃ N,N = w.heap.size := ⟨_,rfl⟩
  rw [← hN] at HF5 HB5 hN1 ⊢
  have HN := hide hN
  clear hN
  obtain ⟨cb,co,hcc⟩ : ∃ cb co,0 < len → a = some ⟨cb,co,none⟩ ∧ Rd w cb co bs := by
    rcases Nat.eq_zero_or_pos len with h | h
    · exact ⟨0,0,fun h' => by omega⟩
    · obtain ⟨_,h2,_,_,⟨_,h3⟩ | ⟨x,hx,hR⟩⟩ := HB.out
      · omega
      · obtain ⟨cb,co,rfl,hR2⟩ := hR h
        exact ⟨cb,co,fun _ => ⟨hx,hR2⟩⟩
  have HCC := hide hcc
  clear hcc
  have HK1 := hide hk1
  have HK2 := hide hk2
  have hbl := HB.out.1
  refine (wpIn_wide (n := 3)).1 ?_
  refine' wpIn_rangeFunc_ownG rfl (by omega) (gf := 118) (lb := #[.pointer (some ⟨Bs,0,none⟩),.pointer (some ⟨Bs + 1,0,none⟩)]) rfl trivial (enters_of Tryz.func118 (by kernel_rfl) rfl)
    (chunk_stops3 2 (by omega) Bs (Bs + 1) cb co a len cap hlc (by omega) w5 (fun h => (HCC.out h).1) (hk1.cell 0) (hk2.cell 0))
    (fun h k => ⟨k.1.trans h.1,k.2.trans h.2⟩) (fun W l o o' hl ho hc hw => ⟨World.putObj_heap_other (by omega),World.putObj_heap_other (by omega)⟩) (Below.refl _ _) (fun _ => rfl)
    (fun pre W => Bf N N (pre.flatMap (fun x => Sl.text (chL bs x.val))) W ∧ Below N w5 W ∧ Blk W Bs 22 #[.slice a len cap] ∧ Blk W (Bs + 1) 3 #[.int .i64 3])
    (fun c pre W => False)
    (fun s W W' row hs hg' hr => ⟨bf_grown hs.1 hg' (fun r e => (hr r e).2),hs.2.1.trans ⟨hg'.os,hg'.tape,hg'.output,hg'.size,fun k hk => hg'.block k (by have := hs.2.1.size; omega) (fun e => by have := (hr k e.symm).1; omega)⟩,hs.2.2.1.grown hg' (fun r e => (hr r e).2),hs.2.2.2.grown hg' (fun r e => (hr r e).2)⟩)
    (fun c s W W' row hs hg' hr => hs)
    ⟨HF5.out,Below.refl _ _,hk1,hk2⟩ _ ?assign ?body ?done ?stop
  case assign =>
    intro l x W K hK
    gi_wp2
    exact hK
  case stop =>
    rintro D c pre W hD _ h
    exact h.elim
  case body =>
    rintro l pre x W ⟨hF,hbW,hq1,hq2⟩ hlen
    have hx3 : 3 * x.val < len := by have := x.isLt; unfold nch3 at this; omega
    obtain ⟨ha',hRd⟩ := HCC.out (by omega)
    obtain ⟨j,hj⟩ : ∃ j,j = x.val := ⟨_,rfl⟩
    rw [← hj] at hx3
    obtain ⟨m,hm⟩ : ∃ m,m = min 3 (len - 3 * j) := ⟨_,rfl⟩
    have hcv : chV3 cb co len x.val = .slice (some ⟨cb,co + 3 * j,none⟩) m m := by rw [← hj,hm]; rfl
    have hcl : (chL bs j).length = m := by rw [chL_length,hm,hbl]
    have hbw : Below N w W := HB5.out.trans hbW
    have hIc : IsB W (some ⟨cb,co + 3 * j,none⟩) m m (chL bs j) := by
      refine ⟨hcl,Nat.le_refl _,by omega,fun i => take_bytes (fun i => by rw [List.getElem?_drop]; exact HB.out.2.2.2.1 _) 3 i,.inr ⟨_,rfl,fun _ => ⟨_,_,rfl,fun i hi => ?_⟩⟩⟩
      rw [hcl] at hi
      have h1 := (hRd.below (HN.out ▸ hbw)) (3 * j + i) (by omega)
      unfold chL
      rw [List.getElem?_take,if_pos (by omega),List.getElem?_drop,Nat.add_assoc]
      exact h1
    have HF := hide hF
    have HbW := hide hbW
    have HQ1 := hide hq1
    have HQ2 := hide hq2
    have HI := hide hIc
    have HJ := hide hj
    have HM := hide hm
    have HCl := hide hcl
    have HP := hide hlen
    have hm3 : m ≤ 3 := by omega
    have hm0 : 0 < m := by omega
    simp only [hcv]
    clear hcv hF hbW hq1 hq2 hIc hj hm hcl hlen ha' hRd hbw
    gi_wp2_with fail
    refine ⟨trivial,?_⟩
    refine (CallsIn.inRound l (callsIn_wide.2 (together8 (chL bs j) (some ⟨cb,co + 3 * j,none⟩) m m W HI.out hm3))).mono ?_
    rintro e W ⟨rfl,rfl⟩
    obtain ⟨T,hT⟩ : ∃ T,T = Sl.tog 8 (chL bs j) 0 := ⟨_,rfl⟩
    rw [← hT]
    have HT := hide hT
    clear hT
    gi_wp2_with fail
    have h24 : 0 ≤ T ∧ T < 16777216 := by
      rw [HT.out]
      exact tog8_lt _ HI.out.2.2.2.1 (by rw [HCl.out]; exact hm3)
    gi_loopw [22] (fun i wr => ∃ k : Nat,k ≤ m + 1 ∧ i = .int .i64 k ∧ Hid (Bf N N (pre.flatMap (fun x => Sl.text (chL bs x.val)) ++ (Sl.pieces T 6 k).map Sl.sgn) wr) ∧ Hid (Below N w5 wr) ∧ Hid (Blk wr Bs 22 #[.slice a len cap]) ∧ Hid (Blk wr (Bs + 1) 3 #[.int .i64 3]) ∧ Hid (KeepsFrom w5.heap.size W wr)) (fun i _ => m + 1 - (intOf i).toNat)
    case atStart => exact ⟨0,by omega,rfl,by show Bf N N (_ ++ []) W; rw [List.append_nil]; exact HF.out,HbW.out,HQ1.out,HQ2.out,KeepsFrom.refl _ _⟩
    case round =>
      obtain ⟨k,hk,rfl,HFr,HBr,HR1,HR2,HKr⟩ := hrel
      by_cases hlt : k < m + 1
      · gi_wp2_with fail
        refine ⟨trivial,?_⟩
        refine (CallsIn.inRound l (callsIn_wide.2 (piece6 T k wr h24.1 h24.2 (by omega)))).mono ?_
        rintro e w8 ⟨rfl,nd,rfl⟩
        obtain ⟨p,hp⟩ : ∃ p,p = Sl.piece T k 6 := ⟨_,rfl⟩
        have hp0 : 0 ≤ p := by rw [hp]; unfold Sl.piece; omega
        have hp1 : p < 64 := by rw [hp]; unfold Sl.piece; simp; omega
        rw [← hp]
        have HPp := hide hp
        clear hp
        gi_wp2_with fail
        simp only [signs_at]
        have hfl := flat_length bs pre
        have hsz := HBr.out.size
        have hN5 := HB5.out.size
        have hFd : Bf N N (pre.flatMap (fun x => Sl.text (chL bs x.val)) ++ (Sl.pieces T 6 k).map Sl.sgn) (wr.drewN nd) := bf_grown HFr.out (row := none) ⟨rfl,rfl,rfl,Nat.le_refl _,fun _ _ _ => rfl⟩ (fun r e => by cases e)
        refine ⟨trivial,?_⟩
        refine (CallsIn.inRound l (callsIn_wide.2 (Tryz.Builder_WriteByte_k N N _ _ _ hFd ?_ ?_))).mono ?_
        · rw [Lib.byteCells_length,List.length_append,List.length_map,show (Sl.pieces T 6 k).length = k by simp [Sl.pieces]]
          have := HP.out
          have hn3 : nch3 len ≤ 1000000 := by unfold nch3; omega
          omega
        · have : (wr.drewN nd).heap.size = wr.heap.size := rfl
          have := HN.out
          omega
        · rintro e w9 ⟨rfl,hF9,b9,k9⟩
          have e9 : Bf N N (pre.flatMap (fun x => Sl.text (chL bs x.val)) ++ (Sl.pieces T 6 (k + 1)).map Sl.sgn) w9 := by
            rw [Sl.pieces_succ,List.map_append,← List.append_assoc]
            have := hF9
            rw [byteCells_snoc] at this
            rw [← HPp.out]
            exact .inr this
          have hB9 : Below N w5 w9 := (below_drewN HBr.out nd).trans b9
          have hR19 : Blk w9 Bs 22 #[.slice a len cap] := k9 Bs _ HR1.out (by intro e; cases e; omega) (by intro c fz e; cases e)
          have hR29 : Blk w9 (Bs + 1) 3 #[.int .i64 3] := k9 (Bs + 1) _ HR2.out (by intro e; cases e; omega) (by intro c fz e; cases e)
          have hK9 : KeepsFrom w5.heap.size W w9 := HKr.out.trans (show KeepsFrom w5.heap.size wr w9 from ⟨(kept_from hFd k9 b9.size w5.heap.size).1,(kept_from hFd k9 b9.size w5.heap.size).2⟩)
          have H1 := hide e9
          have H2 := hide hB9
          have H3 := hide hR19
          have H4 := hide hR29
          have H5 := hide hK9
          clear hF9 b9 k9 e9 hB9 hR19 hR29 hK9
          gi_wp2_with fail
          go_roundw
          case rel => exact ⟨k + 1,by omega,by go_num,H1,H2,H3,H4,H5⟩
          case measure => simp [intOf]; omega
      · gi_wp2_with fail
        have hkm : k = m + 1 := by omega
        refine ⟨HKr.out,⟨HR1.out.trans HQ1.out.symm,HR2.out.trans HQ2.out.symm⟩,?_,HBr.out,HR1.out,HR2.out⟩
        have := HFr.out
        rw [hkm] at this
        rw [List.flatMap_append,List.flatMap_singleton,← HJ.out]
        have e6 : Sl.text (chL bs j) = (Sl.pieces T 6 (m + 1)).map Sl.sgn := by
          unfold Sl.text
          rw [Sl.nums_group _ (y8_of HI.out.2.2.2.1) (by rw [HCl.out]; exact hm0) (by rw [HCl.out]; exact hm3),HCl.out,HT.out]
        rw [e6]
        exact this
  case done =>
    rintro D xs W hD hxs ⟨hF,hbW,hq1,hq2⟩ hK
    rw [hxs] at hF
    have ht := upto_text bs (nch3 len) (by rw [hbl]; exact Nat.le_refl _)
    rw [hbl] at ht
    rw [ht,List.take_of_length_le (by unfold nch3; omega)] at hF
    have hN5 := HB5.out.size
    have hsz := hbW.size
    have HNo := HN.out
    go_wp2_with fail
    refine (Tryz.Builder_String_any_k w.heap.size w.heap.size (Sl.text bs) W (HNo ▸ hF) (by omega)).mono ?_
    rintro e w9 ⟨rfl,hF9,b9,k9⟩
    have hD9 : w9.heap[D]? = some (.deferred (some [])) := (kept_from (HNo ▸ hF) k9 b9.size 0).same D _ (Nat.zero_le _) hK rfl
    have HB9 : Hid (Below w.heap.size w w9) := (HNo ▸ HB5.out.trans hbW : Below w.heap.size w W).trans b9
    go_wp2_with fail
    refine ⟨by simp,.inl ⟨_,_,rfl,run_takeDeferred hD9,?_⟩⟩
    refine ⟨_,results_tmp rfl _ _ _,rfl,HB9.out.trans ?_⟩
    exact ⟨rfl,rfl,rfl,(grownBy_putObj' w9 D (.deferred none)).size,fun k hk => (grownBy_putObj' w9 D (.deferred none)).block k (by have := HB9.out.size; omega) (fun e => by cases e; omega)⟩
end Go.Proofs.YtapcmbbhhclepaaGreatDoor.Dig
