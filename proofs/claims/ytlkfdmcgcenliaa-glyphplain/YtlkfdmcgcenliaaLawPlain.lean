/-
  THE WALK over the law GlyphPlain.
-/
import Derived.Test.YtlkfdmcgcenliaaLawConv
set_option linter.unusedVariables false
set_option linter.unusedSimpArgs false
namespace Go.Proofs.Ytlkfdmcgcenliaa
open Go.RowKit

/-- of plain signs alone -/
def plainS (l : List UInt8) : Prop := ∀ c ∈ l, 32 ≤ c.toNat ∧ c.toNat ≤ 126 ∧ c.toNat ≠ 34 ∧ c.toNat ≠ 92
theorem plain_gm {l : List UInt8} (h : plainS l) : Gm.plain l := by
  intro c hc
  obtain ⟨h1, h2, h3, h4⟩ := h c hc
  rcases Gm.esc_kinds c (by omega) with g | ⟨g, _⟩ | ⟨_, _, _, g⟩
  · exfalso
    rcases g with rfl | rfl | rfl | rfl | rfl | rfl | rfl <;> simp at *
  · omega
  · exact g
theorem plain_check {l : List UInt8} (h : plainS l) : Gm.check l = none ∧ Gm.runes l = l.length := by
  induction l with
  | nil => exact ⟨rfl, rfl⟩
  | cons c t ih =>
    obtain ⟨h1, h2, _, _⟩ := h c (by simp)
    have hs : Gm.S1 (c :: t) := by unfold Gm.S1; rw [Gm.nth_cons_zero]; omega
    have hd := Gm.dec_ascii _ hs
    obtain ⟨i1, i2⟩ := ih (fun x hx => h x (by simp [hx]))
    rw [Gm.check_good (by simp) (Gm.bad_S1 hs), Gm.runes_eq _ (by simp), hd]
    simp only [List.drop_succ_cons, List.drop_zero, i1, i2, List.length_cons]
    exact ⟨rfl, by omega⟩
theorem plain_quote {l : List UInt8} (h : plainS l) : Gm.quote l = 34 :: (l ++ [34]) := by
  unfold Gm.quote
  rw [Gm.flat_plain l (plain_gm h)]

theorem plain_facts {l : List UInt8} (h : plainS l) (S : ByteArray) (hS : (⟨l.toArray⟩ : ByteArray) = S) :
    ((⟨#[34]⟩ ++ S ++ ⟨#[34]⟩ : ByteArray)).data.toList = Gm.quote S.data.toList ∧
    Gm.unquote ((⟨#[34]⟩ ++ S ++ ⟨#[34]⟩ : ByteArray)).data.toList = some (S.data.toList, S.size + 2) ∧
    Gm.checkZ S.data.toList = -1 ∧ Gm.runes S.data.toList = S.size ∧ ((⟨#[34]⟩ ++ S ++ ⟨#[34]⟩ : ByteArray)).size = S.size + 2 ∧ S.size = l.length := by
  obtain ⟨hck, hrn⟩ := plain_check h
  have hqt := plain_quote h
  have hbk := Gm.back l [] hck
  have hz : Gm.checkZ l = -1 := checkZ_none hck
  have hSl : S.data.toList = l := by rw [← hS]
  have hSs : S.size = l.length := by rw [Lib.size_eq, hSl]
  have e0 : ((⟨#[34]⟩ ++ S ++ ⟨#[34]⟩ : ByteArray)).data.toList = 34 :: (l ++ [34]) := by rw [data_append, data_append, hSl]; rfl
  rw [List.append_nil, hqt] at hbk
  refine ⟨by rw [e0, hSl, hqt], by rw [e0, hbk, hSl, hSs]; simp, by rw [hSl]; exact hz, by rw [hSl, hSs]; exact hrn, ?_, hSs⟩
  rw [size_append, size_append]
  have e1 : (⟨#[34]⟩ : ByteArray).size = 1 := rfl
  omega

set_option maxHeartbeats 1000000 in
theorem glyphPlain_walk (a0 : Option Addr) (len0 cap0 : Nat) (z0 : List Int) (w : World) (w0 : IsRow .u8 w a0 len0 cap0 z0) :
    Calls Try.prog 8 #[.slice a0 len0 cap0] w fun e w' => e = .returned (.bool true) ∧ Below w.heap.size w w' := by
  obtain ⟨hl, hm, hwz, hc⟩ := w0.view
  unfold maxLen at hm
  clear w0
  have HC : Hid _ := hc
  have HW : Hid _ := hwz
  clear hc hwz
  go_enter Try.func8, Try.ntmps8
  go_wp2
  go_loopw [3, 4, 5] (fun s i _ wr => ∃ (k : Nat) (l : List UInt8), k ≤ min len0 60 ∧ i = .int .i64 k ∧ s = .string ⟨l.toArray⟩ ∧ l.length = k ∧ plainS l ∧ Below w.heap.size w wr) (fun _ i _ _ => 60 - (intOf i).toNat)
  case atStart => exact ⟨0, [], by omega, rfl, rfl, rfl, fun c hc => by simp at hc, Below.refl _ _⟩
  case round =>
    obtain ⟨k, l, hk, rfl, rfl, hll, hpl, hbel⟩ := hrel
    have HPL : Hid _ := hpl
    have HL : Hid _ := hll
    have hll' : l.length ≤ 60 := by omega
    clear hpl hll
    by_cases h1 : k < len0
    · have h1' : (k : Int) < len0 := by omega
      by_cases h2 : k < 60
      · have h2' : (k : Int) < 60 := by omega
        obtain ⟨b, off, ha, hcell0⟩ := HC.out k h1
        have hcell := cell_later hbel hcell0
        have hz := getD_u8 HW.out k (by omega)
        subst ha
        obtain ⟨hz0, hz1⟩ := hz
        generalize hzz : z0.getD k 0 = z at *
        clear hzz hcell0
        have kc := conv1 wr
        have hsum : ¬ 9223372036854775807 < l.length + 1 := by omega
        have hl1 : l.length + 1 ≤ 9223372036854775807 := by omega
        obtain ⟨zn, rfl⟩ := Int.eq_ofNat_of_zero_le hz0
        by_cases h34 : 32 + (zn : Int) % 95 = 34
        · have t1 : (32 + (zn : Int) % 95 == 34) = true := by simp [h34]
          go_wp2
          go_roundw
          case rel =>
            refine ⟨k + 1, l ++ [120], by omega, by go_num, ?_, by rw [List.length_append, HL.out]; rfl, ?_, hbel.alloc hbel.size _⟩
            · rw [← str_app]
            · intro c hc
              rcases List.mem_append.1 hc with h | h
              · exact HPL.out c h
              · rw [List.mem_singleton.1 h]
                exact ⟨by decide, by decide, by decide, by decide⟩
          case measure => simp [intOf]; omega
        · by_cases h92 : 32 + (zn : Int) % 95 = 92
          · have t1 : (32 + (zn : Int) % 95 == 92) = true := by simp [h92]
            go_wp2
            go_roundw
            case rel =>
              refine ⟨k + 1, l ++ [120], by omega, by go_num, ?_, by rw [List.length_append, HL.out]; rfl, ?_, hbel.alloc hbel.size _⟩
              · rw [← str_app]
              · intro c hc
                rcases List.mem_append.1 hc with h | h
                · exact HPL.out c h
                · rw [List.mem_singleton.1 h]
                  exact ⟨by decide, by decide, by decide, by decide⟩
            case measure => simp [intOf]; omega
          · have t1 : (32 + (zn : Int) % 95 == 34) = false := by simpa using h34
            have t2 : (32 + (zn : Int) % 95 == 92) = false := by simpa using h92
            go_wp2
            go_roundw
            case rel =>
              refine ⟨k + 1, l ++ [32 + UInt8.ofNat (zn % 95)], by omega, by go_num, ?_, by rw [List.length_append, HL.out]; rfl, ?_, hbel.alloc hbel.size _⟩
              · rw [← str_app]
              · intro c hc
                rcases List.mem_append.1 hc with h | h
                · exact HPL.out c h
                · rw [List.mem_singleton.1 h]
                  have e : (32 + UInt8.ofNat (zn % 95)).toNat = 32 + zn % 95 := by
                    rw [UInt8.toNat_add]
                    simp
                    omega
                  rw [e]; omega
            case measure => simp [intOf]; omega
      · have h2' : ¬ (k : Int) < 60 := by omega
        obtain ⟨hQ, hun, hz, hrn, hqs, hSs⟩ := plain_facts HPL.out _ rfl
        generalize (⟨l.toArray⟩ : ByteArray) = S at *
        have HQ : Hid _ := hQ
        have HU : Hid _ := hun
        have HZ : Hid _ := hz
        have HR : Hid _ := hrn
        have hqs' : ((⟨#[34]⟩ ++ S ++ ⟨#[34]⟩ : ByteArray)).size ≤ 17592186044416 := by omega
        have hSle : S.size ≤ 60 := by omega
        clear hQ hun hz hrn hqs hSs
        go_wp2_with fail
        refine (unquote_str _ S (S.size + 2) _ hqs' HU.out).mono ?_
        rintro e W2 ⟨rfl, b2⟩
        go_wp2_with fail
        refine (known_any _).mono ?_
        rintro e W3 ⟨rfl, b3⟩
        go_wp2_with fail
        refine (quote_str S _ _ (by omega) HQ.out).mono ?_
        rintro e W4 ⟨rfl, b4⟩
        go_wp2_with fail
        refine (check_is S (-1) _ (by unfold maxLen; omega) HZ.out).mono ?_
        rintro e W5 ⟨rfl, b5⟩
        go_wp2_with fail
        refine (runes_is S S.size _ (by unfold maxLen; omega) HR.out).mono ?_
        rintro e W6 ⟨rfl, b6⟩
        go_wp2
        go_ret
        have c2 := Nat.le_trans hbel.size b2.size
        have c3 := Nat.le_trans c2 b3.size
        have c4 := Nat.le_trans c3 b4.size
        have c5 := Nat.le_trans c4 b5.size
        exact ⟨rfl, ((((hbel.trans (b2.mono hbel.size)).trans (b3.mono c2)).trans (b4.mono c3)).trans (b5.mono c4)).trans (b6.mono c5)⟩
    · have h1' : decide ((k : Int) < len0) = false := by simp; omega
      obtain ⟨hQ, hun, hz, hrn, hqs, hSs⟩ := plain_facts HPL.out _ rfl
      generalize (⟨l.toArray⟩ : ByteArray) = S at *
      have HQ : Hid _ := hQ
      have HU : Hid _ := hun
      have HZ : Hid _ := hz
      have HR : Hid _ := hrn
      have hqs' : ((⟨#[34]⟩ ++ S ++ ⟨#[34]⟩ : ByteArray)).size ≤ 17592186044416 := by omega
      have hSle : S.size ≤ 60 := by omega
      clear hQ hun hz hrn hqs hSs
      go_wp2_with fail
      refine (unquote_str _ S (S.size + 2) _ hqs' HU.out).mono ?_
      rintro e W2 ⟨rfl, b2⟩
      go_wp2_with fail
      refine (known_any _).mono ?_
      rintro e W3 ⟨rfl, b3⟩
      go_wp2_with fail
      refine (quote_str S _ _ (by omega) HQ.out).mono ?_
      rintro e W4 ⟨rfl, b4⟩
      go_wp2_with fail
      refine (check_is S (-1) _ (by unfold maxLen; omega) HZ.out).mono ?_
      rintro e W5 ⟨rfl, b5⟩
      go_wp2_with fail
      refine (runes_is S S.size _ (by unfold maxLen; omega) HR.out).mono ?_
      rintro e W6 ⟨rfl, b6⟩
      go_wp2
      go_ret
      have c2 := Nat.le_trans hbel.size b2.size
      have c3 := Nat.le_trans c2 b3.size
      have c4 := Nat.le_trans c3 b4.size
      have c5 := Nat.le_trans c4 b5.size
      exact ⟨rfl, ((((hbel.trans (b2.mono hbel.size)).trans (b3.mono c2)).trans (b4.mono c3)).trans (b5.mono c4)).trans (b6.mono c5)⟩

end Go.Proofs.Ytlkfdmcgcenliaa
