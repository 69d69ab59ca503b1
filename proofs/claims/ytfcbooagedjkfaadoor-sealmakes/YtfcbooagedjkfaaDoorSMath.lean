/-
  Layer 5 (seal), plain: bytes as signs, and back; codes; names.
-/
import Derived.Test.YtfcbooagedjkfaaDoorDMath
namespace Go.Proofs.YtfcbooagedjkfaaDoor
namespace Sl

/-- the 64 signs -/
def signs : List UInt8 := [65, 66, 67, 68, 69, 70, 71, 72, 73, 74, 75, 76, 77, 78, 79, 80, 81, 82, 83, 84, 85, 86, 87, 88, 89, 90, 97, 98, 99, 100, 101, 102, 103, 104, 105, 106, 107, 108, 109, 110, 111, 112, 113, 114, 115, 116, 117, 118, 119, 120, 121, 122, 48, 49, 50, 51, 52, 53, 54, 55, 56, 57, 45, 95]
def sgn (n : Int) : UInt8 := signs[n.toNat]?.getD 0
/-- a sign's number -/
def num (c : UInt8) : Option Int := (signs.idxOf? c).map (fun n : Nat => (n : Int))

theorem num_sgn' : ∀ n : Fin 64, num (sgn (n.val : Int)) = some (n.val : Int) := by decide +kernel
theorem num_sgn {n : Int} (h0 : 0 ≤ n) (h1 : n < 64) : num (sgn n) = some n := by
  have := num_sgn' ⟨n.toNat, by omega⟩
  simp only [show ((n.toNat : Nat) : Int) = n by omega] at this
  exact this
theorem sgn_num' : ∀ c : Fin 256, ∀ n, num (UInt8.ofNat c.val) = some n → sgn n = UInt8.ofNat c.val ∧ 0 ≤ n ∧ n < 64 := by
  have h : ∀ c : Fin 256, (match num (UInt8.ofNat c.val) with | none => true | some n => decide (sgn n = UInt8.ofNat c.val) && decide (0 ≤ n) && decide (n < 64)) = true := by decide +kernel
  intro c n hn
  have := h c
  rw [hn] at this
  simpa [and_assoc] using this
theorem sgn_num {c : UInt8} {n : Int} (h : num c = some n) : sgn n = c ∧ 0 ≤ n ∧ n < 64 := by
  have e : c = UInt8.ofNat c.toNat := by simp
  have := sgn_num' ⟨c.toNat, c.toNat_lt⟩ n (by rw [← e]; exact h)
  rw [← e] at this
  exact this
theorem num_high' : ∀ c : Fin 256, 128 ≤ c.val → num (UInt8.ofNat c.val) = none := by decide +kernel
theorem num_high {c : UInt8} (h : 128 ≤ c.toNat) : num c = none := by
  have e : c = UInt8.ofNat c.toNat := by simp
  rw [e]
  exact num_high' ⟨c.toNat, c.toNat_lt⟩ h
theorem num_dollar : num 36 = none := by decide +kernel

/-- numbers of six bits -/
def S6 (l : List Int) : Prop := ∀ n ∈ l, 0 ≤ n ∧ n < 64
/-- bytes -/
def Y8 (l : List Int) : Prop := ∀ n ∈ l, 0 ≤ n ∧ n ≤ 255

/-- the numbers of bytes' signs -/
def nums : List Int → List Int
  | [] => []
  | [a] => [a / 4, a % 4 * 16]
  | [a, b] => [a / 4, a % 4 * 16 + b / 16, b % 16 * 4]
  | a :: b :: c :: r => a / 4 :: (a % 4 * 16 + b / 16) :: (b % 16 * 4 + c / 64) :: c % 64 :: nums r
/-- and back -/
def back : List Int → Option (List Int)
  | [] => some []
  | [_] => none
  | [p, q] => if q % 16 = 0 then some [p * 4 + q / 16] else none
  | [p, q, r] => if r % 4 = 0 then some [p * 4 + q / 16, q % 16 * 16 + r / 4] else none
  | p :: q :: r :: s :: t => (back t).map fun x => (p * 4 + q / 16) :: (q % 16 * 16 + r / 4) :: (r % 4 * 64 + s) :: x

theorem nums_mem : ∀ bs, Y8 bs → S6 (nums bs)
  | [], _ => fun n h => by cases h
  | [a], h => by
    have := h a (by simp)
    intro n hn
    simp only [nums, List.mem_cons, List.not_mem_nil, or_false] at hn
    omega
  | [a, b], h => by
    have := h a (by simp)
    have := h b (by simp)
    intro n hn
    simp only [nums, List.mem_cons, List.not_mem_nil, or_false] at hn
    omega
  | a :: b :: c :: r, h => by
    have := h a (by simp)
    have := h b (by simp)
    have := h c (by simp)
    have ih := nums_mem r (fun n hn => h n (by simp [hn]))
    intro n hn
    simp only [nums, List.mem_cons] at hn
    rcases hn with h | h | h | h | h
    · omega
    · omega
    · omega
    · omega
    · exact ih n h
theorem nums_length : ∀ bs, (nums bs).length = (bs.length * 4 + 2) / 3
  | [] => rfl
  | [_] => by simp [nums]
  | [_, _] => by simp [nums]
  | a :: b :: c :: r => by
    have := nums_length r
    simp only [nums, List.length_cons, this]
    omega
theorem nums_append : ∀ a b, a.length % 3 = 0 → nums (a ++ b) = nums a ++ nums b
  | [], b, _ => rfl
  | [_], b, h => by simp at h
  | [_, _], b, h => by simp at h
  | x :: y :: z :: r, b, h => by
    have := nums_append r b (by simp at h; omega)
    simp [nums, this]
theorem back_nums : ∀ bs, Y8 bs → back (nums bs) = some bs
  | [], _ => rfl
  | [a], h => by
    have := h a (by simp)
    simp only [nums, back]
    rw [if_pos (by omega), show a / 4 * 4 + a % 4 * 16 / 16 = a by omega]
  | [a, b], h => by
    have := h a (by simp)
    have := h b (by simp)
    simp only [nums, back]
    rw [if_pos (by omega), show a / 4 * 4 + (a % 4 * 16 + b / 16) / 16 = a by omega, show (a % 4 * 16 + b / 16) % 16 * 16 + b % 16 * 4 / 4 = b by omega]
  | a :: b :: c :: r, h => by
    have := h a (by simp)
    have := h b (by simp)
    have := h c (by simp)
    have ih := back_nums r (fun n hn => h n (by simp [hn]))
    simp only [nums, back, ih, Option.map_some]
    rw [show a / 4 * 4 + (a % 4 * 16 + b / 16) / 16 = a by omega, show (a % 4 * 16 + b / 16) % 16 * 16 + (b % 16 * 4 + c / 64) / 4 = b by omega, show (b % 16 * 4 + c / 64) % 4 * 64 + c % 64 = c by omega]
theorem nums_back : ∀ ns bs, S6 ns → back ns = some bs → nums bs = ns ∧ Y8 bs
  | [], bs, _, h => by
    simp only [back, Option.some.injEq] at h
    subst h
    exact ⟨rfl, fun n hn => by cases hn⟩
  | [_], bs, _, h => by simp [back] at h
  | [p, q], bs, h6, h => by
    have := h6 p (by simp)
    have := h6 q (by simp)
    simp only [back] at h
    split at h
    · simp only [Option.some.injEq] at h
      subst h
      refine ⟨?_, ?_⟩
      · simp only [nums]
        rw [show (p * 4 + q / 16) / 4 = p by omega, show (p * 4 + q / 16) % 4 * 16 = q by omega]
      · intro n hn
        simp only [List.mem_cons, List.not_mem_nil, or_false] at hn
        omega
    · cases h
  | [p, q, r], bs, h6, h => by
    have := h6 p (by simp)
    have := h6 q (by simp)
    have := h6 r (by simp)
    simp only [back] at h
    split at h
    · simp only [Option.some.injEq] at h
      subst h
      refine ⟨?_, ?_⟩
      · simp only [nums]
        rw [show (p * 4 + q / 16) / 4 = p by omega, show (p * 4 + q / 16) % 4 * 16 + (q % 16 * 16 + r / 4) / 16 = q by omega, show (q % 16 * 16 + r / 4) % 16 * 4 = r by omega]
      · intro n hn
        simp only [List.mem_cons, List.not_mem_nil, or_false] at hn
        omega
    · cases h
  | p :: q :: r :: s :: t, bs, h6, h => by
    have := h6 p (by simp)
    have := h6 q (by simp)
    have := h6 r (by simp)
    have := h6 s (by simp)
    simp only [back, Option.map_eq_some_iff] at h
    obtain ⟨x, hx, rfl⟩ := h
    obtain ⟨ih, iy⟩ := nums_back t x (fun n hn => h6 n (by simp [hn])) hx
    refine ⟨?_, ?_⟩
    · simp only [nums, ih]
      rw [show (p * 4 + q / 16) / 4 = p by omega, show (p * 4 + q / 16) % 4 * 16 + (q % 16 * 16 + r / 4) / 16 = q by omega, show (q % 16 * 16 + r / 4) % 16 * 4 + (r % 4 * 64 + s) / 64 = r by omega, show (r % 4 * 64 + s) % 64 = s by omega]
    · intro n hn
      simp only [List.mem_cons] at hn
      rcases hn with h | h | h | h
      · omega
      · omega
      · omega
      · exact iy n h
theorem back_length : ∀ ns bs, back ns = some bs → bs.length = ns.length * 3 / 4
  | [], bs, h => by
    simp only [back, Option.some.injEq] at h
    subst h
    rfl
  | [_], bs, h => by simp [back] at h
  | [p, q], bs, h => by
    simp only [back] at h
    split at h
    · simp only [Option.some.injEq] at h
      subst h
      simp
    · cases h
  | [p, q, r], bs, h => by
    simp only [back] at h
    split at h
    · simp only [Option.some.injEq] at h
      subst h
      simp
    · cases h
  | p :: q :: r :: s :: t, bs, h => by
    simp only [back, Option.map_eq_some_iff] at h
    obtain ⟨x, hx, rfl⟩ := h
    have := back_length t x hx
    simp only [List.length_cons, this]
    omega
theorem back_append : ∀ a b, a.length % 4 = 0 → back (a ++ b) = (back a).bind fun x => (back b).map (x ++ ·)
  | [], b, _ => by simp [back]
  | [_], b, h => by simp at h
  | [_, _], b, h => by simp at h
  | [_, _, _], b, h => by simp at h
  | p :: q :: r :: s :: t, b, h => by
    have ih := back_append t b (by simp at h; omega)
    simp only [List.cons_append, back, ih]
    cases back t with
    | none => rfl
    | some x => cases back b <;> rfl
/-- is there a way back? -/
def ends (ns : List Int) : Bool :=
  if ns.length % 4 = 1 then false else if ns.length % 4 = 2 then (ns[ns.length - 1]?.getD 0 % 16 == 0) else if ns.length % 4 = 3 then (ns[ns.length - 1]?.getD 0 % 4 == 0) else true
theorem back_isSome : ∀ ns, (back ns).isSome = ends ns
  | [] => rfl
  | [_] => rfl
  | [p, q] => by
    simp only [back, ends, List.length_cons, List.length_nil]
    split <;> simp_all
  | [p, q, r] => by
    simp only [back, ends, List.length_cons, List.length_nil]
    split <;> simp_all
  | p :: q :: r :: s :: t => by
    have ih := back_isSome t
    have e : ends (p :: q :: r :: s :: t) = ends t := by
      unfold ends
      simp only [List.length_cons]
      rw [show (t.length + 1 + 1 + 1 + 1) % 4 = t.length % 4 by omega]
      by_cases h : t.length = 0
      · obtain rfl : t = [] := List.eq_nil_of_length_eq_zero h
        rfl
      · rw [show t.length + 1 + 1 + 1 + 1 - 1 = (t.length - 1) + 1 + 1 + 1 + 1 by omega]
        simp only [List.getElem?_cons_succ]
    rw [e, ← ih]
    simp [back]

/-- the numbers of a text -/
def numsOf : List UInt8 → Option (List Int)
  | [] => some []
  | c :: s => (num c).bind fun n => (numsOf s).map (n :: ·)
def text (bs : List Int) : List UInt8 := (nums bs).map sgn
def bytes (s : List UInt8) : Option (List Int) := (numsOf s).bind back

theorem numsOf_map : ∀ ns, S6 ns → numsOf (ns.map sgn) = some ns
  | [], _ => rfl
  | n :: ns, h => by
    have h1 := h n (by simp)
    have := numsOf_map ns (fun m hm => h m (by simp [hm]))
    simp [numsOf, num_sgn h1.1 h1.2, this]
theorem map_numsOf : ∀ s ns, numsOf s = some ns → ns.map sgn = s ∧ S6 ns
  | [], ns, h => by
    simp only [numsOf, Option.some.injEq] at h
    subst h
    exact ⟨rfl, fun n hn => by cases hn⟩
  | c :: s, ns, h => by
    simp only [numsOf, Option.bind_eq_some_iff, Option.map_eq_some_iff] at h
    obtain ⟨n, hn, x, hx, rfl⟩ := h
    obtain ⟨e1, e2⟩ := map_numsOf s x hx
    obtain ⟨e3, e4⟩ := sgn_num hn
    refine ⟨by simp [e1, e3], fun m hm => ?_⟩
    rcases List.mem_cons.1 hm with rfl | hm
    · exact e4
    · exact e2 m hm
theorem numsOf_append : ∀ s t, numsOf (s ++ t) = (numsOf s).bind fun a => (numsOf t).map (a ++ ·)
  | [], t => by simp [numsOf]
  | c :: s, t => by
    have ih := numsOf_append s t
    simp only [List.cons_append, numsOf, ih]
    cases num c with
    | none => rfl
    | some n =>
      cases numsOf s with
      | none => rfl
      | some a => cases numsOf t <;> rfl
theorem numsOf_length {s : List UInt8} {ns : List Int} (h : numsOf s = some ns) : ns.length = s.length := by
  rw [← (map_numsOf s ns h).1, List.length_map]
theorem bytes_text {bs : List Int} (h : Y8 bs) : bytes (text bs) = some bs := by
  unfold bytes text
  rw [numsOf_map _ (nums_mem bs h)]
  exact back_nums bs h
theorem text_bytes {s : List UInt8} {bs : List Int} (h : bytes s = some bs) : text bs = s ∧ Y8 bs := by
  unfold bytes at h
  obtain ⟨ns, h1, h2⟩ := Option.bind_eq_some_iff.1 h
  obtain ⟨e1, e2⟩ := map_numsOf s ns h1
  obtain ⟨e3, e4⟩ := nums_back ns bs e2 h2
  unfold text
  rw [e3]
  exact ⟨e1, e4⟩
theorem text_length (bs : List Int) : (text bs).length = (bs.length * 4 + 2) / 3 := by
  unfold text
  rw [List.length_map, nums_length]
theorem text_append {a b : List Int} (h : a.length % 3 = 0) : text (a ++ b) = text a ++ text b := by
  unfold text
  rw [nums_append a b h, List.map_append]
theorem text_inj {a b : List Int} (ha : Y8 a) (hb : Y8 b) (h : text a = text b) : a = b := by
  have h1 := bytes_text ha
  rw [h, bytes_text hb] at h1
  exact (Option.some.inj h1).symm

/-- a group's bits -/
def tog (w : Nat) : List Int → Nat → Int
  | [], _ => 0
  | n :: r, i => n * 2 ^ (24 - w * (i + 1)) + tog w r (i + 1)
def piece (b : Int) (i w : Nat) : Int := b / 2 ^ (24 - w * (i + 1)) % 2 ^ w
def pieces (b : Int) (w k : Nat) : List Int := (List.range k).map (piece b · w)
theorem pieces_succ (b : Int) (w k : Nat) : pieces b w (k + 1) = pieces b w k ++ [piece b k w] := by simp [pieces, List.range_succ]

theorem nums_group (g : List Int) (h8 : Y8 g) (h : 0 < g.length) (h3 : g.length ≤ 3) : nums g = pieces (tog 8 g 0) 6 (g.length + 1) := by
  match g, h, h3 with
  | [a], _, _ =>
    have := h8 a (by simp)
    simp [nums, pieces, List.range_succ, piece, tog]
    omega
  | [a, b], _, _ =>
    have := h8 a (by simp)
    have := h8 b (by simp)
    simp [nums, pieces, List.range_succ, piece, tog]
    omega
  | [a, b, c], _, _ =>
    have := h8 a (by simp)
    have := h8 b (by simp)
    have := h8 c (by simp)
    simp [nums, pieces, List.range_succ, piece, tog]
    omega
theorem back_group (g : List Int) (h6 : S6 g) (h : 0 < g.length) (h4 : g.length ≤ 4) :
    back g = if g.length = 1 ∨ tog 6 g 0 * 2 ^ ((g.length - 1) * 8) % 4294967296 % 16777216 ≠ 0 then none else some (pieces (tog 6 g 0) 8 (g.length - 1)) := by
  match g, h, h4 with
  | [a], _, _ => simp [back]
  | [p, q], _, _ =>
    have := h6 p (by simp)
    have := h6 q (by simp)
    simp only [back, List.length_cons, List.length_nil, tog, pieces, List.range_succ, piece]
    split
    · rw [if_neg (by simp; omega)]
      simp
      omega
    · rw [if_pos (by simp; omega)]
  | [p, q, r], _, _ =>
    have := h6 p (by simp)
    have := h6 q (by simp)
    have := h6 r (by simp)
    simp only [back, List.length_cons, List.length_nil, tog, pieces, List.range_succ, piece]
    split
    · rw [if_neg (by simp; omega)]
      simp
      omega
    · rw [if_pos (by simp; omega)]
  | [p, q, r, s], _, _ =>
    have := h6 p (by simp)
    have := h6 q (by simp)
    have := h6 r (by simp)
    have := h6 s (by simp)
    simp only [back, List.length_cons, List.length_nil, tog, pieces, List.range_succ, piece]
    rw [if_neg (by simp)]
    simp
    omega

/-- a key of a block -/
def whole (key : List Int) : List Int := let k := if key.length ≤ 64 then key else Dg.sha key; k ++ List.replicate (64 - k.length) 0
def mask (m : Int) (k : List Int) : List Int := k.map fun x => bits .xor .u8 x m
def summed (k : List Int) (m : Int) (row : List Int) : List Int := Dg.sha (mask m k ++ row)
def code (key msg : List Int) : List Int := summed (whole key) 92 (summed (whole key) 54 msg)
/-- a text's bytes, as numbers -/
def ints (s : List UInt8) : List Int := s.map fun c => (c.toNat : Int)
def ident (s : List UInt8) : List UInt8 := 36 :: text (Dg.sha (ints s))
def named : List UInt8 → Bool
  | [] => false
  | c :: s => if c = 36 then (match bytes s with | none => false | some b => decide (b.length = 32)) else false
end Sl
end Go.Proofs.YtfcbooagedjkfaaDoor
