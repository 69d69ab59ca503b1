/-
  THE WALK over the law GlyphPairs itself.
-/
import Derived.Test.YtlkfdmcgcenliaaLawPairs
set_option linter.unusedVariables false
set_option linter.unusedSimpArgs false
namespace Go.Proofs.Ytlkfdmcgcenliaa
open Go.RowKit

theorem hex_int (z : Int) (n : Nat) (H : ByteArray) (w : World) (hz : z = n) (hn : n < 65536) (h : H.data.toList = Gm.hexl n) :
    Calls Try.prog 18 #[.int .i64 z] w fun e w' => e = .returned (.string H) ∧ Below w.heap.size w w' := by
  subst hz; exact hex_is n H w hn h
theorem four_int (z : Int) (r : Nat) (T : ByteArray) (w : World) (hz : z = r) (hr : r ≤ 1114111) (h : T.data.toList = Gm.encZ r) :
    Calls Try.prog 19 #[.int .i64 z] w fun e w' => e = .returned (.string T) ∧ Below w.heap.size w w' := by
  subst hz
  have := four_bytes r w hr
  rw [← h, str_eta] at this
  exact this
theorem wf_u16 {z : Int} (h : (Lit.int .u16 z).wf = true) : 0 ≤ z ∧ z ≤ 65535 := by
  simpa [Lit.wf, IntKind.min, IntKind.max, IntKind.signed, IntKind.bits] using h
theorem hex_size (H : ByteArray) (n : Nat) (h : H.data.toList = Gm.hexl n) : H.size = 6 := by
  rw [Lib.size_eq, h]; rfl
theorem q_size : (⟨#[34]⟩ : ByteArray).size = 1 := rfl
theorem q_data : (⟨#[34]⟩ : ByteArray).data.toList = [34] := rfl

set_option maxRecDepth 100000 in
set_option maxHeartbeats 2000000 in
theorem glyphPairs_at (A B : Nat) (half : Bool) (m : Nat) (Ta : ByteArray) (w : World) (hA : A < 65536) (hB : B < 65536)
    (hm : Gm.unquote (34 :: (Gm.hexl A ++ [34])) = (if half then none else some (Ta.data.toList, m)))
    (hh : (half = true ∧ 55296 ≤ A ∧ A ≤ 57343 ∧ Ta = ⟨#[]⟩ ∧ m = 0) ∨ (half = false ∧ A < 55296 ∧ m = 8 ∧ Ta.data.toList = Gm.encZ A) ∨ (half = false ∧ 57343 < A ∧ m = 8 ∧ Ta.data.toList = Gm.encZ A)) :
    Calls Try.prog 6 #[.int .u16 A, .int .u16 B] w fun e w' => e = .returned (.bool true) ∧ Below w.heap.size w w' := by
  obtain ⟨Hx, hHx⟩ : ∃ H : ByteArray, H.data.toList = Gm.hexl (55296 + A % 1024) := ⟨⟨(Gm.hexl (55296 + A % 1024)).toArray⟩, rfl⟩
  obtain ⟨Hy, hHy⟩ : ∃ H : ByteArray, H.data.toList = Gm.hexl (56320 + B % 1024) := ⟨⟨(Gm.hexl (56320 + B % 1024)).toArray⟩, rfl⟩
  obtain ⟨Ha, hHa⟩ : ∃ H : ByteArray, H.data.toList = Gm.hexl A := ⟨⟨(Gm.hexl A).toArray⟩, rfl⟩
  obtain ⟨T, hT⟩ : ∃ H : ByteArray, H.data.toList = Gm.encZ (65536 + A % 1024 * 1024 + B % 1024) := ⟨⟨(Gm.encZ (65536 + A % 1024 * 1024 + B % 1024)).toArray⟩, by simp⟩
  have sx := hex_size Hx _ hHx
  have sy := hex_size Hy _ hHy
  have sa := hex_size Ha _ hHa
  have u1 : Gm.unquote (⟨#[34]⟩ ++ Hx ++ Hy ++ ⟨#[34]⟩ : ByteArray).data.toList = some (T.data.toList, 14) := by
    rw [data_append, data_append, data_append, hHx, hHy, hT, q_data]
    have := Gm.pair_told (55296 + A % 1024) (56320 + B % 1024) (by omega) (by omega)
    rw [show 65536 + (55296 + A % 1024 - 55296) * 1024 + (56320 + B % 1024) - 56320 = 65536 + A % 1024 * 1024 + B % 1024 from by omega] at this
    rw [← this]
    simp
  have u2 : Gm.unquote (⟨#[34]⟩ ++ Hx ++ ⟨#[34]⟩ : ByteArray).data.toList = none := by
    rw [data_append, data_append, hHx, q_data]
    exact Gm.first_none _ (by omega)
  have u3 : Gm.unquote (⟨#[34]⟩ ++ Hy ++ Hx ++ ⟨#[34]⟩ : ByteArray).data.toList = none := by
    rw [data_append, data_append, data_append, hHx, hHy, q_data]
    have := Gm.second_none (56320 + B % 1024) (Gm.hexl (55296 + A % 1024) ++ [34]) (by omega)
    rw [← this]
    simp
  have u4 : Gm.unquote (⟨#[34]⟩ ++ Hy ++ Hy ++ ⟨#[34]⟩ : ByteArray).data.toList = none := by
    rw [data_append, data_append, data_append, hHy, q_data]
    have := Gm.second_none (56320 + B % 1024) (Gm.hexl (56320 + B % 1024) ++ [34]) (by omega)
    rw [← this]
    simp
  have u5 : Gm.unquote (⟨#[34]⟩ ++ Hy ++ ⟨#[34]⟩ : ByteArray).data.toList = none := by
    rw [data_append, data_append, hHy, q_data]
    exact Gm.second_none _ _ (by omega)
  have u6 : Gm.unquote (⟨#[34]⟩ ++ Ha ++ ⟨#[34]⟩ : ByteArray).data.toList = (if half then none else some (Ta.data.toList, m)) := by
    rw [data_append, data_append, hHa, q_data]
    exact hm
  have U1 : Hid _ := u1
  have U2 : Hid _ := u2
  have U3 : Hid _ := u3
  have U4 : Hid _ := u4
  have U5 : Hid _ := u5
  have U6 : Hid _ := u6
  have X : Hid _ := hHx
  have Y : Hid _ := hHy
  have AA : Hid _ := hHa
  have TT : Hid _ := hT
  have sx' : Hx.size ≤ 6 := by omega
  have sy' : Hy.size ≤ 6 := by omega
  have sa' : Ha.size ≤ 6 := by omega
  clear u1 u2 u3 u4 u5 u6 hHx hHy hHa hT hm sx sy sa
  go_enter Try.func6, Try.ntmps6
  go_wp2_with fail
  refine (hex_int _ _ Hx _ (by omega) (by omega) X.out).mono ?_
  rintro e W1 ⟨rfl, b1⟩
  go_wp2_with fail
  refine (hex_int _ _ Hy _ (by omega) (by omega) Y.out).mono ?_
  rintro e W2 ⟨rfl, b2⟩
  go_wp2_with fail
  refine (unquote_str _ T 14 _ (by simp only [size_append, q_size]; omega) U1.out).mono ?_
  rintro e W3 ⟨rfl, b3⟩
  go_wp2_with fail
  refine (hex_int _ _ Hx _ (by omega) (by omega) X.out).mono ?_
  rintro e W4 ⟨rfl, b4⟩
  go_wp2_with fail
  refine (unquote_none _ _ (by simp only [size_append, q_size]; omega) U2.out).mono ?_
  rintro e W5 ⟨rfl, b5⟩
  go_wp2_with fail
  refine (hex_int _ _ Hy _ (by omega) (by omega) Y.out).mono ?_
  rintro e W6 ⟨rfl, b6⟩
  go_wp2_with fail
  refine (hex_int _ _ Hx _ (by omega) (by omega) X.out).mono ?_
  rintro e W7 ⟨rfl, b7⟩
  go_wp2_with fail
  refine (unquote_none _ _ (by simp only [size_append, q_size]; omega) U3.out).mono ?_
  rintro e W8 ⟨rfl, b8⟩
  go_wp2_with fail
  refine (hex_int _ _ Hy _ (by omega) (by omega) Y.out).mono ?_
  rintro e W9 ⟨rfl, b9⟩
  go_wp2_with fail
  refine (hex_int _ _ Hy _ (by omega) (by omega) Y.out).mono ?_
  rintro e W10 ⟨rfl, b10⟩
  go_wp2_with fail
  refine (unquote_none _ _ (by simp only [size_append, q_size]; omega) U4.out).mono ?_
  rintro e W11 ⟨rfl, b11⟩
  go_wp2_with fail
  refine (hex_int _ _ Hy _ (by omega) (by omega) Y.out).mono ?_
  rintro e W12 ⟨rfl, b12⟩
  go_wp2_with fail
  refine (unquote_none _ _ (by simp only [size_append, q_size]; omega) U5.out).mono ?_
  rintro e W13 ⟨rfl, b13⟩
  go_wp2_with fail
  refine (four_int _ (65536 + A % 1024 * 1024 + B % 1024) T _ (by omega) (by omega) TT.out).mono ?_
  rintro e W14 ⟨rfl, b14⟩
  go_wp2_with fail
  refine (hex_int _ A Ha _ (by omega) (by omega) AA.out).mono ?_
  rintro e W15 ⟨rfl, b15⟩
  have b14s := bthen (bthen (bthen (bthen (bthen (bthen (bthen (bthen (bthen (bthen (bthen (bthen (bthen (bthen b1 b2) b3) b4) b5) b6) b7) b8) b9) b10) b11) b12) b13) b14) b15
  clear b1 b2 b3 b4 b5 b6 b7 b8 b9 b10 b11 b12 b13 b14 b15 X Y AA TT U1 U2 U3 U4 U5
  rcases hh with ⟨rfl, g1, g2, rfl, rfl⟩ | ⟨rfl, g1, rfl, g3⟩ | ⟨rfl, g1, rfl, g3⟩
  · have g1' : 55296 ≤ (A : Int) := by omega
    have g2' : (A : Int) ≤ 57343 := by omega
    go_wp2_with fail
    refine (unquote_none _ _ (by simp only [size_append, q_size]; omega) U6.out).mono ?_
    rintro e W16 ⟨rfl, b16⟩
    go_wp2_with fail
    refine (known_any _).mono ?_
    rintro e W17 ⟨rfl, b17⟩
    go_wp2
    go_ret
    exact ⟨rfl, bthen (bthen b14s b16) b17⟩
  · have g1' : decide (55296 ≤ (A : Int)) = false := by simp; omega
    have G1 : Hid _ := g1
    clear g1
    have G3 : Hid _ := g3
    clear g3
    go_wp2_with fail
    refine (unquote_str _ Ta 8 _ (by simp only [size_append, q_size]; omega) U6.out).mono ?_
    rintro e W16 ⟨rfl, b16⟩
    go_wp2_with fail
    refine (known_any _).mono ?_
    rintro e W17 ⟨rfl, b17⟩
    go_wp2_with fail
    refine (four_int _ A Ta _ (by omega) (by omega) G3.out).mono ?_
    rintro e W18 ⟨rfl, b18⟩
    go_wp2
    go_ret
    exact ⟨rfl, bthen (bthen (bthen b14s b16) b17) b18⟩
  · have g1' : 55296 ≤ (A : Int) := by omega
    have g2' : ¬ (A : Int) ≤ 57343 := by omega
    have G3 : Hid _ := g3
    clear g3
    go_wp2_with fail
    refine (unquote_str _ Ta 8 _ (by simp only [size_append, q_size]; omega) U6.out).mono ?_
    rintro e W16 ⟨rfl, b16⟩
    go_wp2_with fail
    refine (known_any _).mono ?_
    rintro e W17 ⟨rfl, b17⟩
    go_wp2_with fail
    refine (four_int _ A Ta _ (by omega) (by omega) G3.out).mono ?_
    rintro e W18 ⟨rfl, b18⟩
    go_wp2
    go_ret
    exact ⟨ret_bool (by simp; omega), bthen (bthen (bthen b14s b16) b17) b18⟩

theorem glyphPairs_walk (a0 : Int) (a1 : Int) (w0 : (Lit.int .u16 a0).wf = true) (w1 : (Lit.int .u16 a1).wf = true) (w : World) :
    Calls Try.prog 6 #[.int .u16 a0, .int .u16 a1] w fun e w' => e = .returned (.bool true) ∧ Below w.heap.size w w' := by
  obtain ⟨p0, p1⟩ := wf_u16 w0
  obtain ⟨q0, q1⟩ := wf_u16 w1
  obtain ⟨A, rfl⟩ := Int.eq_ofNat_of_zero_le p0
  obtain ⟨B, rfl⟩ := Int.eq_ofNat_of_zero_le q0
  by_cases h : 55296 ≤ A ∧ A ≤ 57343
  · refine glyphPairs_at A B true 0 ⟨#[]⟩ w (by omega) (by omega) ?_ (Or.inl ⟨rfl, h.1, h.2, rfl, rfl⟩)
    by_cases h2 : A ≤ 56319
    · exact Gm.first_none A ⟨h.1, h2⟩
    · exact Gm.second_none A _ ⟨by omega, h.2⟩
  · obtain ⟨Ta, hT⟩ : ∃ H : ByteArray, H.data.toList = Gm.encZ A := ⟨⟨(Gm.encZ A).toArray⟩, by simp⟩
    refine glyphPairs_at A B false 8 Ta w (by omega) (by omega) ?_ ?_
    · rw [Gm.one_told A (by omega) h, hT]; rfl
    · right
      by_cases h2 : A < 55296
      · left; exact ⟨rfl, h2, rfl, hT⟩
      · right; exact ⟨rfl, by omega, rfl, hT⟩

end Go.Proofs.Ytlkfdmcgcenliaa
