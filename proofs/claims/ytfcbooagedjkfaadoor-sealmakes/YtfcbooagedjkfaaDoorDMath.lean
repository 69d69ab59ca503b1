/-
  Layer 4 (digest), plain: words, rounds, blocks, sums over lists of integers.
-/
import Derived.Laws.Entries
namespace Go.Proofs.YtfcbooagedjkfaaDoor
namespace Dg

/-- a word, turned right -/
def rotr (x n : Int) : Int := bits .or .u32 (x / 2 ^ n.toNat) (IntKind.u32.wrap (x * 2 ^ (32 - n).toNat))
def x3 (a b c : Int) : Int := bits .xor .u32 (bits .xor .u32 a b) c
def s0 (x : Int) : Int := x3 (rotr x 7) (rotr x 18) (x / 2 ^ 3)
def s1 (x : Int) : Int := x3 (rotr x 17) (rotr x 19) (x / 2 ^ 10)
def S0 (x : Int) : Int := x3 (rotr x 2) (rotr x 13) (rotr x 22)
def S1 (x : Int) : Int := x3 (rotr x 6) (rotr x 11) (rotr x 25)
def ch (e f g : Int) : Int := bits .xor .u32 (bits .and .u32 e f) (bits .and .u32 (bits .xor .u32 IntKind.u32.max e) g)
def maj (a b c : Int) : Int := bits .xor .u32 (bits .xor .u32 (bits .and .u32 a b) (bits .and .u32 a c)) (bits .and .u32 b c)
def t1 (e f g h x : Int) : Int := h + S1 e + ch e f g + x
def t2 (a b c : Int) : Int := S0 a + maj a b c
/-- the two words that a round makes -/
def nA (a b c e f g h x : Int) : Int := (t1 e f g h x + t2 a b c) % 4294967296
def nE (d e f g h x : Int) : Int := (d + t1 e f g h x) % 4294967296

/-- what a block's bytes are put into, behind k of them -/
def acc (bs : List Int) : Nat → List Int
  | 0 => List.replicate 64 0
  | k + 1 => (acc bs k).set (k / 4) (bits .or .u32 ((acc bs k)[k / 4]?.getD 0 * 256 % 4294967296) (bs[k]?.getD 0))
theorem acc_length (bs : List Int) : ∀ k, (acc bs k).length = 64
  | 0 => by simp [acc]
  | k + 1 => by simp [acc, acc_length bs k]
/-- the words that follow, n of them -/
def sch (l : List Int) : Nat → List Int
  | 0 => l
  | n + 1 => (sch l n).set (16 + n) ((s1 ((sch l n)[14 + n]?.getD 0) + (sch l n)[9 + n]?.getD 0 + s0 ((sch l n)[1 + n]?.getD 0) + (sch l n)[n]?.getD 0) % 4294967296)
theorem sch_length (l : List Int) : ∀ n, (sch l n).length = l.length
  | 0 => rfl
  | n + 1 => by simp [sch, sch_length l n]
theorem sch_next (l : List Int) (t : Nat) (h : 16 ≤ t) : sch l (t + 1 - 16) = (sch l (t - 16)).set t ((s1 ((sch l (t - 16))[t - 2]?.getD 0) + (sch l (t - 16))[t - 7]?.getD 0 + s0 ((sch l (t - 16))[t - 15]?.getD 0) + (sch l (t - 16))[t - 16]?.getD 0) % 4294967296) := by
  obtain ⟨n, rfl⟩ : ∃ n, t = 16 + n := ⟨t - 16, by omega⟩
  rw [show 16 + n + 1 - 16 = n + 1 by omega, show 16 + n - 16 = n by omega, show 16 + n - 2 = 14 + n by omega, show 16 + n - 7 = 9 + n by omega, show 16 + n - 15 = 1 + n by omega]
  rfl
def spread (bs : List Int) : List Int := sch (acc bs 64) 48
theorem spread_length (bs : List Int) : (spread bs).length = 64 := by rw [spread, sch_length, acc_length]

/-- the 64 numbers of the rounds -/
def K : List Int := [1116352408, 1899447441, 3049323471, 3921009573, 961987163, 1508970993, 2453635748, 2870763221, 3624381080, 310598401, 607225278, 1426881987, 1925078388, 2162078206, 2614888103, 3248222580, 3835390401, 4022224774, 264347078, 604807628, 770255983, 1249150122, 1555081692, 1996064986, 2554220882, 2821834349, 2952996808, 3210313671, 3336571891, 3584528711, 113926993, 338241895, 666307205, 773529912, 1294757372, 1396182291, 1695183700, 1986661051, 2177026350, 2456956037, 2730485921, 2820302411, 3259730800, 3345764771, 3516065817, 3600352804, 4094571909, 275423344, 430227734, 506948616, 659060556, 883997877, 958139571, 1322822218, 1537002063, 1747873779, 1955562222, 2024104815, 2227730452, 2361852424, 2428436474, 2756734187, 3204031479, 3329325298]
/-- a round -/
def step : List Int → Int → List Int
  | [a, b, c, d, e, f, g, h], x => [nA a b c e f g h x, a, b, c, nE d e f g h x, e, f, g]
  | l, _ => l
theorem step_length (s : List Int) (x : Int) : (step s x).length = s.length := by
  unfold step
  split <;> rfl
/-- k rounds -/
def rounds (s W : List Int) : Nat → List Int
  | 0 => s
  | k + 1 => step (rounds s W k) ((K[k]?.getD 0 + W[k]?.getD 0) % 4294967296)
theorem rounds_length (s W : List Int) : ∀ k, (rounds s W k).length = s.length
  | 0 => rfl
  | k + 1 => by rw [rounds, step_length, rounds_length s W k]
/-- the first k words of n added to s -/
def plus (s n : List Int) : Nat → List Int
  | 0 => s
  | k + 1 => (plus s n k).set k (((plus s n k)[k]?.getD 0 + n[k]?.getD 0) % 4294967296)
theorem plus_length (s n : List Int) : ∀ k, (plus s n k).length = s.length
  | 0 => rfl
  | k + 1 => by simp [plus, plus_length s n k]
/-- a block into a sum -/
def block (s bs : List Int) : List Int := plus s (rounds s (spread bs) 64) 8
theorem block_length (s bs : List Int) : (block s bs).length = s.length := plus_length _ _ _
/-- eight words -/
theorem eight {s : List Int} (h : s.length = 8) : ∃ a b c d e f g i, s = [a, b, c, d, e, f, g, i] := by
  match s, h with
  | [a, b, c, d, e, f, g, i], _ => exact ⟨a, b, c, d, e, f, g, i, rfl⟩

/-- the last m bytes of a number, the greatest first -/
def be (x : Int) : Nat → List Int
  | 0 => []
  | m + 1 => x / 2 ^ (8 * m) % 256 :: be x m
theorem be_length (x : Int) : ∀ m, (be x m).length = m
  | 0 => rfl
  | m + 1 => by simp [be, be_length x m]

/-- what stands behind n bytes -/
def noughts (n : Int) : Nat := ((55 - n) % 64).toNat
def tail (n : Int) : List Int := 128 :: (List.replicate (noughts n) 0 ++ be (n * 8 % 18446744073709551616) 8)
theorem tail_length (n : Int) : (tail n).length = noughts n + 9 := by simp [tail, be_length]
theorem noughts_le (n : Int) : noughts n ≤ 63 := by unfold noughts; omega

def start : List Int := [1779033703, 3144134277, 1013904242, 2773480762, 1359893119, 2600822924, 528734635, 1541459225]
/-- k blocks into a sum -/
def sums (s bs : List Int) : Nat → List Int
  | 0 => s
  | k + 1 => block (sums s bs k) ((bs.drop (64 * k)).take 64)
theorem sums_length (s bs : List Int) : ∀ k, (sums s bs k).length = s.length
  | 0 => rfl
  | k + 1 => by rw [sums, block_length, sums_length s bs k]
/-- all whole blocks -/
def sumOf (bs : List Int) : List Int := sums start bs (bs.length / 64)
theorem sumOf_length (bs : List Int) : (sumOf bs).length = 8 := sums_length _ _ _
/-- the sum of bytes -/
def sha (bs : List Int) : List Int := (sumOf (bs ++ tail bs.length)).flatMap (be · 4)

/-- what was in front of p does not matter -/
theorem sums_front (s p q : List Int) : ∀ k, 64 * k ≤ p.length → sums s (p ++ q) k = sums s p k
  | 0, _ => rfl
  | k + 1, h => by
    rw [sums, sums, sums_front s p q k (by omega), List.drop_append_of_le_length (by omega), List.take_append_of_le_length (by simp; omega)]
theorem sums_app (s p q : List Int) (j : Nat) (h : p.length = 64 * j) : ∀ i, sums s (p ++ q) (j + i) = sums (sums s p j) q i
  | 0 => by rw [Nat.add_zero, sums_front s p q j (by omega)]; rfl
  | i + 1 => by
    rw [← Nat.add_assoc, sums, sums, sums_app s p q j h i, show 64 * (j + i) = p.length + 64 * i by omega, List.drop_append, List.drop_eq_nil_of_le (by omega), List.nil_append, show p.length + 64 * i - p.length = 64 * i by omega]
theorem sumOf_app (p q : List Int) (h : p.length % 64 = 0) : sumOf (p ++ q) = sums (sumOf p) q (q.length / 64) := by
  unfold sumOf
  rw [List.length_append, show (p.length + q.length) / 64 = p.length / 64 + q.length / 64 by omega, sums_app start p q (p.length / 64) (by omega)]
/-- bytes that make no block more -/
theorem sumOf_more (p q : List Int) (h : p.length % 64 + q.length < 64) : sumOf (p ++ q) = sumOf p := by
  unfold sumOf
  rw [List.length_append, show (p.length + q.length) / 64 = p.length / 64 by omega, sums_front _ _ _ _ (by omega)]
/-- a block more -/
theorem sumOf_block (p q : List Int) (h : p.length % 64 + q.length = 64) : sumOf (p ++ q) = block (sumOf p) (p.drop (p.length - p.length % 64) ++ q) := by
  unfold sumOf
  rw [List.length_append, show (p.length + q.length) / 64 = p.length / 64 + 1 by omega, sums, sums_front _ _ _ _ (by omega), show 64 * (p.length / 64) = p.length - p.length % 64 by omega, List.drop_append_of_le_length (by omega), List.take_of_length_le (by simp; omega)]

/-- whole blocks, and what is behind them -/
theorem sums_split (all q : List Int) (h : q.length ≤ all.length) (hd : all.drop (all.length - q.length) = q) (h0 : (all.length - q.length) % 64 = 0) : sums (sums start all ((all.length - q.length) / 64)) q (q.length / 64) = sumOf all := by
  have e : all = all.take (all.length - q.length) ++ q := by
    have := List.take_append_drop (all.length - q.length) all
    rw [hd] at this
    exact this.symm
  have hl : (all.take (all.length - q.length)).length = all.length - q.length := by rw [List.length_take]; omega
  have h1 := sumOf_app (all.take (all.length - q.length)) q (by rw [hl]; exact h0)
  rw [← e] at h1
  rw [h1]
  congr 1
  unfold sumOf
  rw [hl]
  have h2 := sums_front start (all.take (all.length - q.length)) q ((all.length - q.length) / 64) (by rw [hl]; omega)
  rw [← e] at h2
  exact h2

/-- words of 32 bits -/
def W32 (l : List Int) : Prop := ∀ i : Nat, 0 ≤ l[i]?.getD 0 ∧ l[i]?.getD 0 ≤ 4294967295
theorem W32.set {l : List Int} (h : W32 l) (k : Nat) (x : Int) : W32 (l.set k (x % 4294967296)) := by
  intro i
  rw [List.getElem?_set]
  split
  · split
    · simp only [Option.getD_some]; omega
    · simp
  · exact h i
theorem plus_w32 {s : List Int} (h : W32 s) (n : List Int) : ∀ k, W32 (plus s n k)
  | 0 => h
  | k + 1 => (plus_w32 h n k).set _ _
theorem sums_w32 {s : List Int} (h : W32 s) (bs : List Int) : ∀ k, W32 (sums s bs k)
  | 0 => h
  | k + 1 => plus_w32 (sums_w32 h bs k) _ _
theorem start_w32 : W32 start := by
  intro i
  match i with
  | 0 | 1 | 2 | 3 | 4 | 5 | 6 | 7 => decide
  | i + 8 => simp [start]
theorem sumOf_w32 (bs : List Int) : W32 (sumOf bs) := sums_w32 start_w32 _ _
/-- bytes -/
def B8 (l : List Int) : Prop := ∀ i : Nat, 0 ≤ l[i]?.getD 0 ∧ l[i]?.getD 0 ≤ 255
theorem b8_of_mem {l : List Int} (h : ∀ x ∈ l, 0 ≤ x ∧ x ≤ 255) : B8 l := by
  intro i
  rcases Nat.lt_or_ge i l.length with hi | hi
  · rw [List.getElem?_eq_getElem hi]; exact h _ (List.getElem_mem hi)
  · rw [List.getElem?_eq_none hi]; simp
theorem be_mem (x : Int) : ∀ m, ∀ y ∈ be x m, 0 ≤ y ∧ y ≤ 255
  | 0, y, h => by cases h
  | m + 1, y, h => by
    rcases List.mem_cons.1 h with rfl | h
    · omega
    · exact be_mem x m y h
theorem tail_mem (n : Int) : ∀ y ∈ tail n, 0 ≤ y ∧ y ≤ 255 := by
  intro y hy
  unfold tail at hy
  simp only [List.mem_cons, List.mem_append, List.mem_replicate] at hy
  rcases hy with rfl | ⟨_, rfl⟩ | h
  · decide
  · decide
  · exact be_mem _ _ y h
theorem sha_mem (bs : List Int) : ∀ y ∈ sha bs, 0 ≤ y ∧ y ≤ 255 := by
  intro y hy
  unfold sha at hy
  rw [List.mem_flatMap] at hy
  obtain ⟨x, _, h⟩ := hy
  exact be_mem x 4 y h
theorem flat_length : ∀ l : List Int, (l.flatMap (be · 4)).length = 4 * l.length
  | [] => rfl
  | x :: l => by rw [List.flatMap_cons, List.length_append, be_length, flat_length l, List.length_cons]; omega
theorem sha_length (bs : List Int) : (sha bs).length = 32 := by
  unfold sha
  rw [flat_length, sumOf_length]

end Dg
end Go.Proofs.YtfcbooagedjkfaaDoor
