/-
  THE WALK over package glyph's Unquote.
-/
import Derived.Test.YtlkfdmcgcenliaaGlyphWalksF
set_option linter.unusedVariables false
set_option linter.unusedSimpArgs false
namespace Go.Proofs.Ytlkfdmcgcenliaa
open Go.RowKit

theorem prefix1 (l : List UInt8) : Lib.hasPrefix l [34] = true ↔ Gm.nth l 0 = 34 := by
  unfold Lib.hasPrefix Gm.nth
  match l with
  | [] => simp [List.isPrefixOf]
  | a :: t =>
    simp only [List.isPrefixOf, Bool.and_eq_true, beq_iff_eq, List.getD_cons_zero, and_true]
    constructor
    · rintro rfl; rfl
    · intro h0; exact (UInt8.toNat_inj.1 h0).symm

def unR (o : Option (List UInt8 × Nat)) : Ending := match o with
  | none => .returned (.tuple #[.string ⟨#[]⟩, .int .i64 0])
  | some x => .returned (.tuple #[.string ⟨x.1.toArray⟩, .int .i64 x.2])

theorem builder_below {T e : TypeId} {B b : Nat} {bs : List Value} {w w' : World} (h : Lib.IsBuilderF T e B b bs w) (hb : Below w.heap.size w w') : Lib.IsBuilderF T e B b bs w' := by
  have key : ∀ p, Lib.BuilderAtF T e B b p bs w → Lib.BuilderAtF T e B b p bs w' := by
    rintro p ⟨hB, v, hbk, hown, hne⟩
    have hlt : b < w.heap.size := (Array.getElem?_eq_some_iff.1 hbk).1
    refine ⟨hB, v, (hb.block b hlt).trans hbk, ⟨hown.1, ?_⟩, hne⟩
    rcases hown.2 with hn | ⟨g, cap, cur, fz, hv, hbg, hg, rest⟩
    · exact .inl hn
    · have hlg : g < w.heap.size := (Array.getElem?_eq_some_iff.1 hg).1
      exact .inr ⟨g, cap, cur, fz, hv, hbg, (hb.block g hlg).trans hg, rest⟩
  exact h.elim (fun x => .inl (key _ x)) (fun x => .inr (key _ x))

theorem unquote_no (s : ByteArray) (w : World) (h : Lib.hasPrefix s.data.toList [34] = false) :
    Calls Try.prog 16 #[.string s] w fun e w' => e = unR none ∧ Below w.heap.size w w' := by
  go_enter Try.func16, Try.ntmps16
  go_wp2_with fail
  refine (Try.strings_HasPrefix _ _ _).mono ?_
  rintro e w ⟨rfl, rfl⟩
  go_wp2
  go_ret2
  exact ⟨rfl, Below.refl _ _⟩

def att (pos nxt : Nat) : Nat := if pos < nxt then nxt else pos

theorem att_step (pos nxt : Nat) (h : pos < nxt) : att (pos + 1) nxt = att pos nxt := by
  unfold att
  rw [if_pos h]
  by_cases h2 : pos + 1 < nxt
  · rw [if_pos h2]
  · rw [if_neg h2]; omega
/-- where the next piece stands, behind a piece; what is passed over till there is of one byte each -/
theorem piece_att (l : List UInt8) (pos : Nat) (r : Int) (n : Nat) (hne : l.drop pos ≠ []) (h : Gm.piece (l.drop pos) = some (r, n)) :
    att (pos + (Gm.dec (l.drop pos)).2) (pos + n) = pos + Gm.width (l.drop pos) n ∧ n ≤ l.length - pos ∧ (∀ j, pos + (Gm.dec (l.drop pos)).2 ≤ j → j < pos + n → Gm.nth l j < 128) := by
  have hn := Gm.piece_n hne h
  unfold Gm.piece at h
  unfold Gm.width at *
  by_cases h92 : (Gm.dec (l.drop pos)).1 = 92
  · rw [if_pos h92] at h hn ⊢
    have h0 := Gm.dec_92 (by omega) h92
    have he := Gm.escape_n (by rw [h0]; omega) h
    have hw : (Gm.dec (l.drop pos)).2 = 1 := by rw [Gm.dec_ascii _ (by rw [h0]; omega)]
    rw [hw]
    refine ⟨by unfold att; rw [if_pos (by omega)], by have := he.2.1; rw [List.length_drop] at this; exact this, ?_⟩
    intro j h1 h2
    have := he.2.2.1 (j - pos) (by omega)
    rw [Gm.nth_drop, show pos + (j - pos) = j from by omega] at this
    exact this
  · rw [if_neg h92] at h hn ⊢
    have hw := Gm.dec_w (l.drop pos)
    have hwl := Gm.dec_w_len _ hne
    rw [List.length_drop] at hwl
    split at h
    · cases h
    · have := Option.some.inj h
      simp only [Prod.mk.injEq] at this
      obtain ⟨_, rfl⟩ := this
      refine ⟨by unfold att; rw [if_neg (by omega)], by omega, ?_⟩
      intro j h1 h2
      omega
theorem piece_none (s : ByteArray) (pos : Nat) (w : World) (hs : s.size ≤ maxLen) (h : Gm.piece (s.data.toList.drop pos) = none) :
    Calls Try.prog 32 #[.string (s.extract pos s.size), .int .i32 (Utf8.decode s pos).1] w fun e w' => e = .returned (.tuple #[.int .i32 0, .int .i64 0]) ∧ Below w.heap.size w w' := by
  have := piece_any s pos w hs
  rw [h] at this
  exact this
theorem piece_some (s : ByteArray) (pos : Nat) (r : Int) (n : Nat) (w : World) (hs : s.size ≤ maxLen) (h : Gm.piece (s.data.toList.drop pos) = some (r, n)) :
    Calls Try.prog 32 #[.string (s.extract pos s.size), .int .i32 (Utf8.decode s pos).1] w fun e w' => e = .returned (.tuple #[.int .i32 r, .int .i64 n]) ∧ Below w.heap.size w w' := by
  have := piece_any s pos w hs
  rw [h] at this
  exact this

theorem piece_is (s : ByteArray) (pos : Nat) (o : Option (Int × Nat)) (w : World) (hs : s.size ≤ maxLen) (h : Gm.piece (s.data.toList.drop pos) = o) :
    Calls Try.prog 32 #[.string (s.extract pos s.size), .int .i32 (Utf8.decode s pos).1] w fun e w' => e = pairR o ∧ Below w.heap.size w w' := by
  subst h; exact piece_any s pos w hs

set_option maxHeartbeats 2000000 in
theorem unquote_yes (s : ByteArray) (w : World) (hs : s.size ≤ 17592186044416) (h : Lib.hasPrefix s.data.toList [34] = true) :
    Calls Try.prog 16 #[.string s] w fun e w' => e = unR (Gm.unquote s.data.toList) ∧ Below w.heap.size w w' := by
  have h34 := (prefix1 _).1 h
  have hmx : s.size ≤ maxLen := by unfold maxLen; omega
  have hpos : 1 ≤ s.size := by
    cases hz : s.size with
    | zero =>
      rw [Lib.size_eq] at hz
      have : s.data.toList = [] := List.length_eq_zero_iff.1 hz
      rw [this] at h34
      simp [Gm.nth] at h34
    | succ n => omega
  have hun : Gm.unquote s.data.toList = (Gm.unqL (s.data.toList.drop 1)).map fun x => (x.1, x.2 + 1) := by
    unfold Gm.unquote; rw [if_pos h34]
  generalize hR : Gm.unquote s.data.toList = R at *
  have H34 : Hid _ := h34
  have HUN : Hid _ := hun
  clear h34 hun hR
  go_enter Try.func16, Try.ntmps16
  go_wp2_with fail
  refine (Try.strings_HasPrefix _ _ _).mono ?_
  rintro e w ⟨rfl, rfl⟩
  go_wp2
  go_loopw [5] (fun nx wr => ∃ (pos nxt : Nat) (acc : List UInt8), nx = .int .i64 nxt ∧ Lib.IsBuilderF 41 5 w.heap.size w.heap.size (Lib.byteCells acc) wr ∧ wr.heap[w.heap.size + 1]? = some (.stringIter s pos) ∧ Below w.heap.size w wr ∧ nxt ≤ s.size ∧ pos ≤ s.size ∧ acc.length ≤ 4 * att pos nxt ∧ (∀ j, pos ≤ j → j < nxt → Gm.nth s.data.toList j < 128) ∧ (Gm.unqL (s.data.toList.drop (att pos nxt))).map (fun x => (acc ++ x.1, x.2 + att pos nxt)) = R) (fun _ wr => s.size - wr.iterPos (w.heap.size + 1))
  case atStart =>
    refine ⟨0, 1, [], rfl, (Lib.IsBuilderF.of (Lib.fresh_isBuilder 41 5 w)).alloc _, ?_, ((Below.refl _ w).alloc (Nat.le_refl _) _).alloc (by simp) _, by omega, by omega, by simp, ?_, ?_⟩
    · have := World.iter_heap (w.alloc (.cells #[.pointer none, .slice none 0 0] 41)) s 0
      simpa using this
    · intro j hj1 hj2
      have : j = 0 := by omega
      subst this
      rw [H34.out]
      omega
    · rw [HUN.out]
      rfl
  case round =>
    obtain ⟨pos, nxt, acc, rfl, hI, hit, hbw, hnx, hps, hal, hasc, hun⟩ := hrel
    have hsz : w.heap.size + 1 < wr.heap.size := (Array.getElem?_eq_some_iff.1 hit).1
    have HASC : Hid _ := hasc
    have HUQ : Hid _ := hun
    clear hasc hun
    by_cases hp : pos < s.size
    · have hnxt : ∀ ty, (Instr.next (.pointer (some ⟨w.heap.size + 1, 0, none⟩)) true ty).run Try.prog wr = _ := fun ty => Lib.run_next_any_at wr (w.heap.size + 1) s pos ty hit hp
      have hd := Gm.dec_eq s pos
      have hw := Gm.dec_w (s.data.toList.drop pos)
      have hne := drop_ne s pos hp
      have hwl := Gm.dec_w_len _ hne
      have hrl := Gm.dec_le (s.data.toList.drop pos)
      rw [List.length_drop, ← Lib.size_eq] at hwl
      rw [← hd] at hw hrl hwl
      have hI2 := hI.iterAt hit (pos + (Utf8.decode s pos).2)
      have hit2 := Lib.iterAt_heap wr (w.heap.size + 1) s pos (pos + (Utf8.decode s pos).2) hit
      have hbw2 := Lib.below_iterAt hbw (k := w.heap.size + 1) (by omega) s (pos + (Utf8.decode s pos).2)
      have hsz2 : (wr.iterAt (w.heap.size + 1) s (pos + (Utf8.decode s pos).2)).heap.size = wr.heap.size := by rw [Lib.iterAt_size]
      have HD : Hid _ := hd
      clear hd
      by_cases hlt : pos < nxt
      · have hlt' : (pos : Int) < nxt := by omega
        clear hsz2
        go_wp2
        go_roundw
        case rel =>
          have h1 := HASC.out pos (Nat.le_refl _) hlt
          have hdd := HD.out
          rw [Gm.dec_ascii _ (by rw [Gm.nth_drop, Nat.add_zero]; exact h1)] at hdd
          have hw1 : (Utf8.decode s pos).2 = 1 := by rw [hdd]
          rw [hw1] at hit2 hI2 hbw2
          rw [hw1]
          have hat := att_step pos nxt hlt
          refine ⟨pos + 1, nxt, acc, rfl, hI2, hit2, hbw2, hnx, by omega, by rw [hat]; exact hal, fun j a b => HASC.out j (by omega) b, by rw [hat]; exact HUQ.out⟩
        case measure =>
          simp only [World.iterPos, hit2, hit]
          omega
      · have hlt' : ¬ (pos : Int) < nxt := by omega
        have hat : att pos nxt = pos := by unfold att; rw [if_neg hlt]
        rw [hat] at hal
        have huq := HUQ.out
        rw [hat, Gm.unqL_eq _ hne, ← HD.out] at huq
        by_cases h34r : (Utf8.decode s pos).1 = 34
        · rw [if_pos h34r] at huq
          have HQ : Hid _ := huq
          clear huq
          clear HUQ
          go_wp2_with fail
          refine (Try.Builder_String_any_k w.heap.size w.heap.size acc _ hI2 (by rw [hsz2]; omega)).mono ?_
          rintro e W1 ⟨rfl, _, b1, _⟩
          go_wp2
          go_ret2
          refine ⟨?_, hbw2.trans b1⟩
          rw [← HQ.out]
          simp [unR]
          omega
        · rw [if_neg h34r] at huq
          cases hpc : Gm.piece (s.data.toList.drop pos) with
          | none =>
            rw [hpc] at huq
            have HP : Hid _ := hpc
            have HQ : Hid _ := huq
            clear hpc huq HUQ
            go_wp2_with fail
            refine (piece_none s pos _ hmx HP.out).mono ?_
            rintro e W1 ⟨rfl, b1⟩
            go_wp2
            go_ret2
            refine ⟨?_, hbw2.trans (b1.mono (by rw [hsz2]; omega))⟩
            rw [← HQ.out]
            rfl
          | some x =>
            obtain ⟨r, n⟩ := x
            rw [hpc] at huq
            have hpn := Gm.piece_n hne hpc
            have hpa := piece_att s.data.toList pos r n hne hpc
            rw [← HD.out, ← Lib.size_eq] at hpa
            obtain ⟨hn1, hwd1, hwd2, hr0, hr1⟩ := hpn
            obtain ⟨hat2, hnl, hasc2⟩ := hpa
            have hn0 : ((n : Int) == 0) = false := by simp; omega
            have HP : Hid _ := hpc
            have HQ : Hid _ := huq
            have HAT : Hid _ := hat2
            have HAS : Hid _ := hasc2
            have HDW : Hid _ := hwd2
            clear hpc huq HUQ hat2 hasc2 hwd2
            go_wp2_with fail
            refine (piece_some s pos r n _ hmx HP.out).mono ?_
            rintro e W1 ⟨rfl, b1⟩
            have hI3 := builder_below hI2 b1
            have hit3 : W1.heap[w.heap.size + 1]? = some (.stringIter s (pos + (Utf8.decode s pos).2)) := (b1.block _ (by rw [hsz2]; omega)).trans hit2
            have hbw3 : Below w.heap.size w W1 := hbw2.trans (b1.mono (by rw [hsz2]; omega))
            have hsz3 : w.heap.size ≤ W1.heap.size := hbw3.size
            go_wp2_with fail
            refine (Try.Builder_WriteRune_k w.heap.size w.heap.size (Lib.byteCells acc) r (by omega) (by omega) _ hI3 (by rw [Lib.byteCells_length]; omega) hsz3).mono ?_
            rintro e W2 ⟨rfl, h2, b2, k2⟩
            have hit4 := k2.iter hit3 (by omega)
            go_wp2
            go_roundw
            case rel =>
              have hl4 := Lib.runeCells_le r
              rw [Lib.runeCells_length] at hl4
              refine ⟨pos + (Utf8.decode s pos).2, pos + n, acc ++ Lib.encodeRune r, by go_num, ?_, hit4, hbw3.trans b2, by omega, by omega, ?_, HAS.out, ?_⟩
              · rw [Lib.byteCells_append, Lib.byteCells_encodeRune]; exact Or.inr h2
              · rw [HAT.out, List.length_append]; omega
              · have h1 := HQ.out
                simp only [Option.map_map] at h1
                rw [← h1, HAT.out, drop_drop']
                congr 1
                funext x
                simp [Function.comp]
                omega
            case measure =>
              simp only [World.iterPos, hit4, hit]
              omega
    · have hnxt : ∀ ty, (Instr.next (.pointer (some ⟨w.heap.size + 1, 0, none⟩)) true ty).run Try.prog wr = _ := fun ty => Lib.run_next_end_at wr (w.heap.size + 1) s pos ty hit hp
      have hat : att pos nxt = pos := by unfold att; rw [if_neg (by omega)]
      have huq := HUQ.out
      rw [hat, drop_nil s pos hp, Gm.unqL_nil] at huq
      have HQ : Hid _ := huq
      clear huq HUQ
      go_wp2
      go_ret2
      refine ⟨?_, hbw⟩
      rw [← HQ.out]
      rfl

theorem unquote_any (s : ByteArray) (w : World) (hs : s.size ≤ 17592186044416) :
    Calls Try.prog 16 #[.string s] w fun e w' => e = unR (Gm.unquote s.data.toList) ∧ Below w.heap.size w w' := by
  cases h : Lib.hasPrefix s.data.toList [34] with
  | true => exact unquote_yes s w hs h
  | false =>
    have e : Gm.unquote s.data.toList = none := by
      unfold Gm.unquote
      rw [if_neg ?_]
      intro h1
      rw [(prefix1 _).2 h1] at h
      cases h
    rw [e]
    exact unquote_no s w h

end Go.Proofs.Ytlkfdmcgcenliaa
