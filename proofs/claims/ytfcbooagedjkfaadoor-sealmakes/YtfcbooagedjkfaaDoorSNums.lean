/-
  THE WALK of numbersOf (layer 5).
-/
import Derived.Test.YtfcbooagedjkfaaDoorSRune
import Derived.Test.YtfcbooagedjkfaaDoorDRefA
set_option linter.unusedVariables false
set_option linter.unusedSimpArgs false
namespace Go.Proofs.YtfcbooagedjkfaaDoor
open Go.RowKit Go.Shelf

theorem made_own (w : World) (q : Nat) (hq : q ≤ 1000000) :
    (w.alloc (.cells (madeCells #[b8 0] q) 5)).ownsRow w.heap.size 5 1 (.slice (some ⟨w.heap.size, 0, none⟩) 0 q) 0 [] := by
  refine ⟨by simp, .inr ⟨w.heap.size, q, _, rfl, Nat.le_refl _, blk_new w 5 _, by omega, by simp [maxLen]; omega, by simp [size_madeCells], by simp⟩⟩
theorem run_made (w : World) (q : Nat) (hq : q ≤ 1000000) : (Instr.makeSlice 22 (.int .i64 0) (.int .i64 (q : Int))).run Tryd.prog w = .ok (.slice (some ⟨w.heap.size, 0, none⟩) 0 q) (w.alloc (.cells (madeCells #[b8 0] q) 5)) := by
  obtain ⟨i0, hi, hz0, hz1, hz2⟩ := info_parts infoByte
  have := run_make (P := Tryd.prog) w 22 5 i0 _ Tryd.underlying22 hi hz0 .i64 .i64 0 (q : Int) (by omega) (by omega) (by rw [hz2]; omega) (by omega)
  rw [hz1, show (0 : Int).toNat = 0 by rfl, show ((q : Int)).toNat = q by omega, Nat.mul_one] at this
  exact this
theorem index_num (c : UInt8) : Lib.indexByte Sl.signs c = match Sl.num c with | none => -1 | some n => n := by
  have h : ∀ c : Fin 256, Lib.indexByte Sl.signs (UInt8.ofNat c.val) = match Sl.num (UInt8.ofNat c.val) with | none => -1 | some n => n := by decide +kernel
  have e : c = UInt8.ofNat c.toNat := by simp
  rw [e]
  exact h ⟨c.toNat, c.toNat_lt⟩
theorem numsOf_snoc (l : List UInt8) (c : UInt8) : Sl.numsOf (l ++ [c]) = (Sl.numsOf l).bind fun a => (Sl.num c).map fun n => a ++ [n] := by
  rw [Sl.numsOf_append]
  cases Sl.numsOf l with
  | none => rfl
  | some a => cases h : Sl.num c <;> simp [Sl.numsOf, h]
theorem numsOf_bad {l t : List UInt8} (h : Sl.numsOf l = none) : Sl.numsOf (l ++ t) = none := by rw [Sl.numsOf_append, h]; rfl
theorem take_snoc8 (s : ByteArray) (pos : Nat) (h : pos < s.size) : s.data.toList.take (pos + 1) = s.data.toList.take pos ++ [s[pos]'h] := by
  have hl : pos < s.data.toList.length := by rw [← Lib.size_eq]; exact h
  rw [List.take_succ_eq_append_getElem hl]
  rfl

theorem own_iterAt {w : World} {base : Nat} {e : TypeId} {sz : Nat} {v : Value} {n : Nat} {xs : List Value} (h : w.ownsRow base e sz v n xs) {k : Nat} {s : ByteArray} {pos : Nat} (hk : w.heap[k]? = some (.stringIter s pos)) (pos' : Nat) : (w.iterAt k s pos').ownsRow base e sz v n xs := by
  obtain ⟨h1, h2⟩ := h
  refine ⟨h1, ?_⟩
  rcases h2 with h2 | ⟨g, cap, cur, hv, hg, hh, r⟩
  · exact .inl h2
  · exact .inr ⟨g, cap, cur, hv, hg, (Lib.iterAt_other w k g s pos' (fun e => by subst e; rw [hk] at hh; cases hh)).trans hh, r⟩

theorem rune_ascii (c : UInt8) (h : c.toNat < 128) (w : World) (z : Int) (hz : z = match Sl.num c with | none => -1 | some n => n) :
    Calls Tryd.prog 48 #[.string signsB, .int .i32 (c.toNat : Int)] w fun e w' => e = .returned (.int .i64 z) ∧ w' = w := by
  refine (Tryd.strings_IndexRune_ascii signsB (c.toNat : Int) w (by omega) (by omega)).mono ?_
  rintro e w' ⟨rfl, rfl⟩
  rw [signsB_list, show (((c.toNat : Nat) : Int).toNat).toUInt8 = c by simp, index_num, ← hz]
  exact ⟨rfl, rfl⟩

/-- what numbersOf gives -/
def NumsAre (s : List UInt8) (w w' : World) (e : Ending) : Prop :=
  (∃ ns a c, e = .returned (.tuple #[.slice a ns.length c, .bool true]) ∧ Sl.numsOf s = some ns ∧ w'.ownsRow w.heap.size 5 1 (.slice a ns.length c) ns.length (ns.map b8)) ∨
  (e = .returned (.tuple #[.slice none 0 0, .bool false]) ∧ Sl.numsOf s = none)

set_option maxRecDepth 100000 in
set_option maxHeartbeats 1000000 in
theorem numbers_any (s : ByteArray) (w : World) (hs : s.size ≤ 1000000) :
    Calls Tryd.prog 37 #[.string s] w fun e w' => NumsAre s.data.toList w w' e ∧ Below w.heap.size w w' := by
  have hmk := run_made w s.size hs
  have hown0 := made_own w s.size hs
  have b0 : Below w.heap.size w (w.alloc (.cells (madeCells #[b8 0] s.size) 5)) := (Below.refl _ _).alloc (Nat.le_refl _) _
  have hk0 := World.iter_heap (w.alloc (.cells (madeCells #[b8 0] s.size) 5)) s 0
  rw [World.size_alloc] at hk0
  have b1 : Below w.heap.size w ((w.alloc (.cells (madeCells #[b8 0] s.size) 5)).iter s 0) := b0.alloc (by simp) _
  have hown1 : ((w.alloc (.cells (madeCells #[b8 0] s.size) 5)).iter s 0).ownsRow w.heap.size 5 1 (.slice (some ⟨w.heap.size, 0, none⟩) 0 s.size) 0 [] := own_below hown0 ((Below.refl _ _).alloc (Nat.le_refl _) _)
  have HK0 := hide hk0
  have HB1 := hide b1
  have HO1 := hide hown1
  clear hown0 b0 hk0 b1 hown1
  go_enter Tryd.func37, Tryd.ntmps37
  go_wp2_with fail
  generalize hW1 : (w.alloc (.cells (madeCells #[b8 0] s.size) 5)).iter s 0 = W1 at HK0 HB1 HO1 ⊢
  clear hW1 hmk
  go_loopw [4] (fun v wr => ∃ (pos : Nat) (ns : List Int) (a : Option Addr) (c : Nat), pos ≤ s.size ∧ v = .slice a pos c ∧ Hid (wr.heap[w.heap.size + 1]? = some (.stringIter s pos)) ∧ Hid (Sl.numsOf (s.data.toList.take pos) = some ns) ∧ Hid (wr.ownsRow w.heap.size 5 1 (.slice a pos c) pos (ns.map b8)) ∧ Hid (Below w.heap.size w wr)) (fun _ wr => s.size - wr.iterPos (w.heap.size + 1))
  case atStart => exact ⟨0, [], _, _, by omega, rfl, HK0, rfl, HO1, HB1⟩
  case round =>
    obtain ⟨pos, ns, a, c, hps, rfl, HK, HN, HO, HB⟩ := hrel
    have hmu : wr.iterPos (w.heap.size + 1) = pos := by simp [World.iterPos, HK.out]
    by_cases hp : pos < s.size
    · by_cases ha : (s[pos]'hp).toNat < 128
      · have hnx : ∀ ty, (Instr.next (.pointer (some ⟨w.heap.size + 1, 0, none⟩)) true ty).run Tryd.prog wr = _ := fun ty => Lib.run_next_ascii_at wr (w.heap.size + 1) s pos ty HK.out hp ha
        have hB2 : Hid (Below w.heap.size w (wr.iterAt (w.heap.size + 1) s (pos + 1))) := Lib.below_iterAt HB.out (by omega) _ _
        have hK2 : Hid ((wr.iterAt (w.heap.size + 1) s (pos + 1)).heap[w.heap.size + 1]? = some (.stringIter s (pos + 1))) := Lib.iterAt_heap wr _ s pos _ HK.out
        have hO2 : Hid ((wr.iterAt (w.heap.size + 1) s (pos + 1)).ownsRow w.heap.size 5 1 (.slice a pos c) pos (ns.map b8)) := own_iterAt HO.out HK.out _
        have hSn := take_snoc8 s pos hp
        have HSn := hide hSn
        obtain ⟨q, hq⟩ : ∃ q, q = s[pos]'hp := ⟨_, rfl⟩
        rw [← hq] at hnx ha HSn
        generalize wr.iterAt (w.heap.size + 1) s (pos + 1) = W2 at hnx hB2 hK2 hO2
        clear hSn hq
        cases hnum : Sl.num q with
        | none =>
          go_wp2_with fail
          refine (rune_ascii q ha _ (-1) (by rw [hnum])).mono ?_
          rintro e W2 ⟨rfl, rfl⟩
          go_wp2_with fail
          go_ret2
          refine ⟨.inr ⟨rfl, ?_⟩, hB2.out⟩
          have h1 := List.take_append_drop (pos + 1) s.data.toList
          rw [HSn.out] at h1
          rw [← h1]
          apply numsOf_bad
          rw [numsOf_snoc, HN.out, hnum]
          rfl
        | some n =>
          obtain ⟨hsg, hn0, hn64⟩ := Sl.sgn_num hnum
          have HNum := hide hnum
          have hwn : IntKind.u8.wrap n = n := by rw [IntKind.wrap_u8]; omega
          go_wp2_with fail
          refine (rune_ascii q ha _ n (by rw [HNum.out])).mono ?_
          rintro e W2 ⟨rfl, rfl⟩
          clear hnum hsg
          obtain ⟨a2, c2, W4, happ, hown4, hgr4⟩ := append_one (w := W2.alloc (.cells #[.int .u8 n] 5)) 22 5 (.int .u8 0) 1 Tryd.underlying22 infoByte rfl w.heap.size (.slice a pos c) pos (ns.map b8) (own_below hO2.out ((Below.refl _ _).alloc (Nat.le_refl _) _)) (lo := W2.heap.size) (m := 1) (c := 1) (news := [.int .u8 n]) rfl (one_cell W2 (.int .u8 n) 5) (by simp [Value.oneCell']) (by omega) (by omega) (by have := hB2.out.size; simp; omega)
          have HG4 := hide hgr4
          have HO4 := hide hown4
          clear hown4 hgr4
          go_wp2_with (at_builtin; refine wpList_append_run rfl _ _ 22 rfl _ _ rfl rfl happ ?_)
          have hk4 : Hid (W4.heap[w.heap.size + 1]? = some (.stringIter s (pos + 1))) := by
            have hk3 : (W2.alloc (.cells #[.int .u8 n] 5)).heap[w.heap.size + 1]? = some (.stringIter s (pos + 1)) := (Lib.alloc_old W2 _ _ (Array.getElem?_eq_some_iff.1 hK2.out).1).trans hK2.out
            refine (HG4.out.block _ (Array.getElem?_eq_some_iff.1 hk3).1 (fun e => ?_)).trans hk3
            obtain ⟨_, h2⟩ := own_below hO2.out ((Below.refl W2.heap.size W2).alloc (Nat.le_refl _) (.cells #[.int .u8 n] 5))
            rcases h2 with ⟨h2, _⟩ | ⟨g, cap, cur, hv, hg, hh, r⟩
            · cases h2
              cases e
            · cases hv
              cases e
              rw [hk3] at hh
              cases hh
          go_roundw
          case rel =>
            refine ⟨pos + 1, ns ++ [n], a2, c2, by omega, rfl, ?_, ?_, ?_, ?_⟩
            · exact hk4
            · show Sl.numsOf (s.data.toList.take (pos + 1)) = some (ns ++ [n])
              rw [HSn.out, numsOf_snoc, HN.out, HNum.out]
              rfl
            · have := HO4.out
              show W4.ownsRow _ _ _ _ _ ((ns ++ [n]).map b8)
              rw [List.map_append]
              exact this
            · exact (hB2.out.alloc hB2.out.size _).grown HG4.out (by have := hB2.out.size; simp; omega) (own_block (own_below hO2.out ((Below.refl W2.heap.size W2).alloc (Nat.le_refl _) (.cells #[.int .u8 n] 5))))
          case measure =>
            have hmu4 : W4.iterPos (w.heap.size + 1) = pos + 1 := by simp [World.iterPos, hk4.out]
            rw [hmu, hmu4]
            omega
      · have hd := decode_high s pos hp (by omega)
        have hle := decode_le s pos
        have hnx : ∀ ty, (Instr.next (.pointer (some ⟨w.heap.size + 1, 0, none⟩)) true ty).run Tryd.prog wr = _ := fun ty => Lib.run_next_any_at wr (w.heap.size + 1) s pos ty HK.out hp
        obtain ⟨r, hr⟩ : ∃ r, r = (Utf8.decode s pos).1 := ⟨_, rfl⟩
        rw [← hr] at hnx hd hle
        clear hr
        have hB2 : Hid (Below w.heap.size w (wr.iterAt (w.heap.size + 1) s (pos + (Utf8.decode s pos).2))) := Lib.below_iterAt HB.out (by omega) _ _
        generalize wr.iterAt (w.heap.size + 1) s (pos + (Utf8.decode s pos).2) = W2 at hnx hB2
        go_wp2_with fail
        refine (rune_high r (by omega) (by omega) _).mono ?_
        rintro e W3 ⟨rfl, b3⟩
        go_wp2_with fail
        go_ret2
        refine ⟨.inr ⟨rfl, ?_⟩, hB2.out.trans (b3.mono hB2.out.size)⟩
        have h1 := List.take_append_drop (pos + 1) s.data.toList
        rw [take_snoc8 s pos hp] at h1
        rw [← h1]
        apply numsOf_bad
        rw [numsOf_snoc, HN.out, Sl.num_high (by omega)]
        rfl
    · have hnx : ∀ ty, (Instr.next (.pointer (some ⟨w.heap.size + 1, 0, none⟩)) true ty).run Tryd.prog wr = _ := fun ty => Lib.run_next_end_at wr (w.heap.size + 1) s pos ty HK.out hp
      go_wp2_with fail
      go_ret2
      have hpe : s.data.toList.take pos = s.data.toList := List.take_of_length_le (by rw [← Lib.size_eq]; omega)
      rw [hpe] at HN
      have hnl : ns.length = pos := by rw [Sl.numsOf_length HN.out, ← Lib.size_eq]; omega
      have ho := HO.out
      rw [← hnl] at ho
      refine ⟨.inl ⟨ns, a, c, ?_, HN.out, ho⟩, HB.out⟩
      rw [hnl]
      rfl
end Go.Proofs.YtfcbooagedjkfaaDoor
