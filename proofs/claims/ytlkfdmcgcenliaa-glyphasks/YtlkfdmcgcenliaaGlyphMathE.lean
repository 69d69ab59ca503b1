/-
  PLAIN LEAN: escapes of four digits.
-/
import Derived.Test.YtlkfdmcgcenliaaGlyphMathD
set_option linter.unusedVariables false
set_option linter.unusedSimpArgs false
namespace Go.Proofs.Ytlkfdmcgcenliaa.Gm

def hexl (n : Nat) : List UInt8 := [92, 117, hexd (n / 4096 % 16), hexd (n / 256 % 16), hexd (n / 16 % 16), hexd (n % 16)]
theorem four_hexl (n : Nat) (h : n < 65536) (x : List UInt8) : four (hexl n ++ x) = some (n : Int) := by
  have := four_cons x (digit_hexd' (n / 4096 % 16) (by omega)) (digit_hexd' (n / 256 % 16) (by omega)) (digit_hexd' (n / 16 % 16) (by omega)) (digit_hexd' (n % 16) (by omega))
  show four (92 :: 117 :: hexd (n / 4096 % 16) :: hexd (n / 256 % 16) :: hexd (n / 16 % 16) :: hexd (n % 16) :: x) = _
  rw [this]
  congr 1
  omega
theorem unqL_hex_none (n : Nat) (x : List UInt8) (h : long (hexl n ++ x) = none) : unqL (hexl n ++ x) = none := by
  have hd : dec (hexl n ++ x) = (92, 1) := dec_back _
  have hes : escape (hexl n ++ x) = long (hexl n ++ x) := by
    unfold escape
    rw [if_neg (by simp [hexl])]
    rfl
  have hp : piece (hexl n ++ x) = none := by unfold piece; rw [hd, if_pos rfl, hes, h]
  exact unqL_none (by simp [hexl]) (by rw [hd]; simp) hp
theorem long_second (n : Nat) (h : n < 65536) (x : List UInt8) (h2 : 56320 ≤ n ∧ n ≤ 57343) : long (hexl n ++ x) = none := by
  unfold long
  rw [four_hexl n h x]
  have : second (n : Int) = true := by simp [second]; omega
  simp [this]
theorem long_plain (n : Nat) (h : n < 65536) (x : List UInt8) (h2 : ¬ (55296 ≤ n ∧ n ≤ 57343)) : long (hexl n ++ x) = some ((n : Int), 6) := by
  unfold long
  rw [four_hexl n h x]
  have s1 : second (n : Int) = false := by simp [second]; omega
  have s2 : first (n : Int) = false := by simp [first]; omega
  simp [s1, s2]
theorem long_first (n : Nat) (h : n < 65536) (x : List UInt8) (h2 : 55296 ≤ n ∧ n ≤ 56319) (hx : four x = none) : long (hexl n ++ x) = none := by
  unfold long
  rw [four_hexl n h x]
  have s1 : second (n : Int) = false := by simp [second]; omega
  have s2 : first (n : Int) = true := by simp [first]; omega
  have e : (hexl n ++ x).drop 6 = x := rfl
  rw [e, hx]
  simp [s1, s2]
theorem long_pair (n m : Nat) (h : n < 65536) (hm : m < 65536) (x : List UInt8) (h2 : 55296 ≤ n ∧ n ≤ 56319) (hm2 : 56320 ≤ m ∧ m ≤ 57343) :
    long (hexl n ++ (hexl m ++ x)) = some (65536 + ((n : Int) - 55296) * 1024 + ((m : Int) - 56320), 12) := by
  unfold long
  rw [four_hexl n h _]
  have s1 : second (n : Int) = false := by simp [second]; omega
  have s2 : first (n : Int) = true := by simp [first]; omega
  have s3 : second (m : Int) = true := by simp [second]; omega
  have e : (hexl n ++ (hexl m ++ x)).drop 6 = hexl m ++ x := rfl
  rw [e, four_hexl m hm x]
  simp [s1, s2, s3]
theorem unquote_cons (x : List UInt8) : unquote (34 :: x) = (unqL x).map fun y => (y.1, y.2 + 1) := by
  unfold unquote
  rw [if_pos (show nth (34 :: x) 0 = 34 from rfl)]
  rfl
theorem four_34 : four [34] = none := by decide

def encZ (r : Nat) : List UInt8 :=
  if r < 128 then [r.toUInt8] else if r < 2048 then [(192 + r / 64).toUInt8, (128 + r % 64).toUInt8]
  else if r < 65536 then [(224 + r / 4096).toUInt8, (128 + r / 64 % 64).toUInt8, (128 + r % 64).toUInt8]
  else [(240 + r / 262144).toUInt8, (128 + r / 4096 % 64).toUInt8, (128 + r / 64 % 64).toUInt8, (128 + r % 64).toUInt8]
theorem encZ_eq (r : Nat) (h : okRune r) : Lib.encodeRune r = encZ r := by
  unfold okRune at h
  unfold Lib.encodeRune encZ
  by_cases g1 : r < 128
  · rw [Lib.encodeRuneZ_one (by omega) (by omega), if_pos g1]
    simp
  · rw [if_neg g1]
    by_cases g2 : r < 2048
    · rw [Lib.encodeRuneZ_two (by omega) (by omega), if_pos g2]
      have e0 : ((192 : Int) + (r : Int) / 64).toNat = 192 + r / 64 := by omega
      have e1 : ((128 : Int) + (r : Int) % 64).toNat = 128 + r % 64 := by omega
      simp only [List.map_cons, List.map_nil, e0, e1]
    · rw [if_neg g2]
      by_cases g3 : r < 65536
      · rw [Lib.encodeRuneZ_three (by omega), if_pos g3]
        have e0 : ((224 : Int) + (r : Int) / 4096).toNat = 224 + r / 4096 := by omega
        have e1 : ((128 : Int) + (r : Int) / 64 % 64).toNat = 128 + r / 64 % 64 := by omega
        have e2 : ((128 : Int) + (r : Int) % 64).toNat = 128 + r % 64 := by omega
        simp only [List.map_cons, List.map_nil, e0, e1, e2]
      · rw [Lib.encodeRuneZ_four (by omega) (by omega), if_neg g3]
        have e0 : ((240 : Int) + (r : Int) / 262144).toNat = 240 + r / 262144 := by omega
        have e1 : ((128 : Int) + (r : Int) / 4096 % 64).toNat = 128 + r / 4096 % 64 := by omega
        have e2 : ((128 : Int) + (r : Int) / 64 % 64).toNat = 128 + r / 64 % 64 := by omega
        have e3 : ((128 : Int) + (r : Int) % 64).toNat = 128 + r % 64 := by omega
        simp only [List.map_cons, List.map_nil, e0, e1, e2, e3]

/-- the six texts of the law -/
theorem pair_told (n m : Nat) (h2 : 55296 ≤ n ∧ n ≤ 56319) (hm2 : 56320 ≤ m ∧ m ≤ 57343) :
    unquote (34 :: (hexl n ++ (hexl m ++ [34]))) = some (encZ (65536 + (n - 55296) * 1024 + m - 56320), 14) := by
  have hl := long_pair n m (by omega) (by omega) [34] h2 hm2
  have hul := unqL_long (l := hexl n ++ (hexl m ++ [34])) ⟨_, rfl⟩ hl
  rw [unquote_cons, hul]
  have e : (hexl n ++ (hexl m ++ [34])).drop 12 = [34] := rfl
  have er : 65536 + ((n : Int) - 55296) * 1024 + ((m : Int) - 56320) = ((65536 + (n - 55296) * 1024 + m - 56320 : Nat) : Int) := by omega
  rw [e, unqL_quote, er, encZ_eq _ (by unfold okRune; omega)]
  simp
theorem one_told (n : Nat) (h : n < 65536) (h2 : ¬ (55296 ≤ n ∧ n ≤ 57343)) : unquote (34 :: (hexl n ++ [34])) = some (encZ n, 8) := by
  have hl := long_plain n h [34] h2
  have hul := unqL_long (l := hexl n ++ [34]) ⟨_, rfl⟩ hl
  rw [unquote_cons, hul]
  have e : (hexl n ++ [34]).drop 6 = [34] := rfl
  rw [e, unqL_quote, encZ_eq _ (by unfold okRune; omega)]
  simp
theorem first_none (n : Nat) (h2 : 55296 ≤ n ∧ n ≤ 56319) : unquote (34 :: (hexl n ++ [34])) = none := by
  rw [unquote_cons, unqL_hex_none n _ (long_first n (by omega) [34] h2 four_34)]
  rfl
theorem second_none (n : Nat) (x : List UInt8) (h2 : 56320 ≤ n ∧ n ≤ 57343) : unquote (34 :: (hexl n ++ x)) = none := by
  rw [unquote_cons, unqL_hex_none n _ (long_second n (by omega) x h2)]
  rfl

end Go.Proofs.Ytlkfdmcgcenliaa.Gm
