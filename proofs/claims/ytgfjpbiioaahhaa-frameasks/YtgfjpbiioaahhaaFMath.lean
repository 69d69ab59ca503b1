/-
  Layer 10 (frame), plain: halvings, sums, frames over lists of bytes.
-/
import Derived.Laws.Entries
set_option linter.unusedVariables false
set_option linter.unusedSimpArgs false
set_option maxRecDepth 100000
namespace Go.Proofs.Ytgfjpbiioaahhaa
namespace Fr

abbrev Bs := List UInt8
def P : Nat := 2197175160
def M : Nat := 4294967295
/-- a halving -/
def hv (x : Nat) : Nat := if x % 2 = 1 then x / 2 ^^^ P else x / 2
def hvN : Nat → Nat → Nat
  | 0, x => x
  | k + 1, x => hvN k (hv x)
theorem hvN_succ : ∀ k x, hvN (k + 1) x = hv (hvN k x)
  | 0, _ => rfl
  | k + 1, x => by rw [hvN, hvN_succ k]; rfl
theorem hvN_add (a b x : Nat) : hvN (a + b) x = hvN a (hvN b x) := by
  induction b generalizing x with
  | zero => rfl
  | succ b ih => exact ih (hv x)
abbrev h8 (x : Nat) : Nat := hvN 8 x

theorem xor_div2 (a b : Nat) : (a ^^^ b) / 2 = a / 2 ^^^ b / 2 := by
  apply Nat.eq_of_testBit_eq
  intro i
  rw [Nat.testBit_div_two, Nat.testBit_xor, Nat.testBit_xor, Nat.testBit_div_two, Nat.testBit_div_two]
theorem xor_mod2 (a b : Nat) : (a ^^^ b) % 2 = (a % 2 + b % 2) % 2 := by
  have h : ((a ^^^ b).testBit 0) = (a.testBit 0 ^^ b.testBit 0) := Nat.testBit_xor ..
  rw [Nat.testBit_zero, Nat.testBit_zero, Nat.testBit_zero] at h
  rcases Nat.mod_two_eq_zero_or_one a with ha | ha <;> rcases Nat.mod_two_eq_zero_or_one b with hb | hb <;> rcases Nat.mod_two_eq_zero_or_one (a ^^^ b) with hc | hc <;> rw [ha, hb, hc] at h <;> rw [ha, hb, hc] <;> revert h <;> decide
theorem hv_xor (a b : Nat) : hv (a ^^^ b) = hv a ^^^ hv b := by
  unfold hv
  have h := xor_mod2 a b
  rw [xor_div2]
  generalize a / 2 = x
  generalize b / 2 = y
  rcases Nat.mod_two_eq_zero_or_one a with ha | ha <;> rcases Nat.mod_two_eq_zero_or_one b with hb | hb <;> rw [ha, hb] at h <;> rw [h, ha, hb]
  · simp
  · simp [Nat.xor_assoc]
  · simp only [Nat.reduceAdd, Nat.reduceMod, if_true, Nat.zero_ne_one, if_false]
    show x ^^^ y ^^^ P = x ^^^ P ^^^ y
    ac_rfl
  · have : x ^^^ P ^^^ (y ^^^ P) = x ^^^ y ^^^ (P ^^^ P) := by ac_rfl
    show x ^^^ y = x ^^^ P ^^^ (y ^^^ P)
    rw [this, Nat.xor_self, Nat.xor_zero]
theorem hvN_xor : ∀ k a b, hvN k (a ^^^ b) = hvN k a ^^^ hvN k b
  | 0, _, _ => rfl
  | k + 1, a, b => by rw [hvN, hvN, hvN, hv_xor, hvN_xor k]
theorem hv_lt {x : Nat} (h : x < 4294967296) : hv x < 4294967296 := by
  unfold hv
  split
  · have h1 : x / 2 < 2 ^ 32 := by omega
    exact Nat.xor_lt_two_pow h1 (by unfold P; decide)
  · omega
theorem hvN_lt : ∀ k {x : Nat}, x < 4294967296 → hvN k x < 4294967296
  | 0, _, h => h
  | k + 1, _, h => hvN_lt k (hv_lt h)
theorem hv_even (k : Nat) : hv (2 * k) = k := by
  unfold hv
  rw [if_neg (by omega)]
  omega
theorem hvN_pow : ∀ j k, hvN j (2 ^ j * k) = k
  | 0, k => by simp [hvN]
  | j + 1, k => by
    rw [hvN, Nat.pow_succ, Nat.mul_assoc, Nat.mul_left_comm, hv_even, hvN_pow j]
theorem hvN_zero (k : Nat) : hvN k 0 = 0 := by simpa using hvN_pow k 0
theorem xor_split (s : Nat) : s = 2 ^ 8 * (s / 256) ^^^ s % 256 := by
  have h : s % 256 < 2 ^ 8 := Nat.mod_lt _ (by decide)
  apply Nat.eq_of_testBit_eq
  intro i
  rw [Nat.testBit_xor, Nat.testBit_two_pow_mul]
  have h2 : s % 256 = s % 2 ^ 8 := rfl
  have h3 : s / 256 = s / 2 ^ 8 := rfl
  rw [h2, h3, Nat.testBit_mod_two_pow, Nat.testBit_div_two_pow]
  by_cases hi : 8 ≤ i
  · have : ¬ i < 8 := by omega
    simp [hi, this, show 8 + (i - 8) = i by omega, show i - 8 + 8 = i by omega]
  · have : i < 8 := by omega
    simp [hi, this]
theorem xor_lt {a b : Nat} (ha : a < 4294967296) (hb : b < 4294967296) : a ^^^ b < 4294967296 := Nat.xor_lt_two_pow (n := 32) ha hb
theorem xor_lt8 {a b : Nat} (ha : a < 256) (hb : b < 256) : a ^^^ b < 256 := Nat.xor_lt_two_pow (n := 8) ha hb
/-- a sum behind a byte -/
def step (s : Nat) (c : UInt8) : Nat := h8 (s ^^^ c.toNat)
theorem step_tab (s : Nat) (c : UInt8) : step s c = s / 256 ^^^ h8 (s % 256 ^^^ c.toNat) := by
  unfold step
  conv => lhs; rw [xor_split s]
  rw [Nat.xor_assoc]
  show hvN 8 _ = _
  rw [hvN_xor, hvN_pow]
theorem step_lt {s : Nat} (c : UInt8) (h : s < 4294967296) : step s c < 4294967296 := hvN_lt 8 (xor_lt h (by have := c.toNat_lt; omega))
def run (s : Nat) (b : Bs) : Nat := b.foldl step s
theorem run_nil (s : Nat) : run s [] = s := rfl
theorem run_cons (s : Nat) (c : UInt8) (b : Bs) : run s (c :: b) = run (step s c) b := rfl
theorem run_append (s : Nat) (a b : Bs) : run s (a ++ b) = run (run s a) b := List.foldl_append
theorem run_lt {s : Nat} (b : Bs) (h : s < 4294967296) : run s b < 4294967296 := by
  induction b generalizing s with
  | nil => exact h
  | cons c b ih => exact ih (step_lt c h)
theorem M_lt : M < 4294967296 := by decide
def sum (b : Bs) : Nat := M ^^^ run M b
theorem sum_lt (b : Bs) : sum b < 4294967296 := xor_lt M_lt (run_lt b M_lt)
theorem sum_nil : sum [] = 0 := by unfold sum run; simp
/-- one to one -/
theorem hv_inj {x y : Nat} (hx : x < 4294967296) (hy : y < 4294967296) (h : hv x = hv y) : x = y := by
  have hb : ∀ z : Nat, z < 4294967296 → (hv z).testBit 31 = decide (z % 2 = 1) := by
    intro z hz
    unfold hv
    have h1 : (z / 2).testBit 31 = false := Nat.testBit_lt_two_pow (by omega)
    by_cases hz2 : z % 2 = 1
    · rw [if_pos hz2, Nat.testBit_xor, h1]
      simp [hz2]
      decide
    · rw [if_neg hz2, h1]
      simp [hz2]
  have h1 := hb x hx
  rw [h, hb y hy] at h1
  have hp : x % 2 = y % 2 := by
    simp only [decide_eq_decide] at h1
    omega
  unfold hv at h
  by_cases hx1 : x % 2 = 1
  · rw [if_pos hx1, if_pos (by omega)] at h
    have : x / 2 ^^^ P ^^^ P = y / 2 ^^^ P ^^^ P := by rw [h]
    rw [Nat.xor_assoc, Nat.xor_self, Nat.xor_zero, Nat.xor_assoc, Nat.xor_self, Nat.xor_zero] at this
    omega
  · rw [if_neg hx1, if_neg (by omega)] at h
    omega
theorem hvN_inj : ∀ k {x y : Nat}, x < 4294967296 → y < 4294967296 → hvN k x = hvN k y → x = y
  | 0, _, _, _, _, h => h
  | k + 1, _, _, hx, hy, h => hv_inj hx hy (hvN_inj k (hv_lt hx) (hv_lt hy) h)
theorem xor_left_inj {a b c : Nat} (h : a ^^^ b = a ^^^ c) : b = c := by
  have : a ^^^ (a ^^^ b) = a ^^^ (a ^^^ c) := by rw [h]
  rwa [← Nat.xor_assoc, ← Nat.xor_assoc, Nat.xor_self, Nat.zero_xor, Nat.zero_xor] at this
theorem step_inj {s t : Nat} {c : UInt8} (hs : s < 4294967296) (ht : t < 4294967296) (h : step s c = step t c) : s = t := by
  have hc : c.toNat < 4294967296 := by have := c.toNat_lt; omega
  have := hvN_inj 8 (xor_lt hs hc) (xor_lt ht hc) h
  rw [Nat.xor_comm, Nat.xor_comm t] at this
  exact xor_left_inj this
theorem step_inj2 {s : Nat} {c d : UInt8} (hs : s < 4294967296) (h : step s c = step s d) : c = d := by
  have hc : c.toNat < 4294967296 := by have := c.toNat_lt; omega
  have hd : d.toNat < 4294967296 := by have := d.toNat_lt; omega
  have := xor_left_inj (hvN_inj 8 (xor_lt hs hc) (xor_lt hs hd) h)
  exact UInt8.toNat_inj.1 this
theorem run_inj (b : Bs) {s t : Nat} (hs : s < 4294967296) (ht : t < 4294967296) (h : run s b = run t b) : s = t := by
  induction b generalizing s t with
  | nil => exact h
  | cons c b ih => exact step_inj hs ht (ih (step_lt c hs) (step_lt c ht) h)
/-- with one byte another one the sum is another one -/
theorem sum_other (a b : Bs) (c d : UInt8) (h : sum (a ++ c :: b) = sum (a ++ d :: b)) : c = d := by
  have h1 := xor_left_inj h
  rw [run_append, run_append, run_cons, run_cons] at h1
  have hr := run_lt a M_lt
  exact step_inj2 hr (run_inj b (step_lt _ hr) (step_lt _ hr) h1)
/-- linear -/
theorem step_xor (s t : Nat) (c d : UInt8) : step s c ^^^ step t d = step (s ^^^ t) (c ^^^ d) := by
  unfold step
  rw [UInt8.toNat_xor, show s ^^^ t ^^^ (c.toNat ^^^ d.toNat) = (s ^^^ c.toNat) ^^^ (t ^^^ d.toNat) by ac_rfl]
  exact (hvN_xor 8 _ _).symm
theorem run_xor : ∀ (a b : Bs) (s t : Nat), a.length = b.length → run s a ^^^ run t b = run (s ^^^ t) (List.zipWith (· ^^^ ·) a b)
  | [], [], _, _, _ => rfl
  | c :: a, d :: b, s, t, h => by
    rw [List.zipWith_cons_cons, run_cons, run_cons, run_cons, run_xor a b _ _ (by simpa using h), step_xor]
theorem sum_xor (a b c : Bs) (h1 : a.length = b.length) (h2 : b.length = c.length) : sum a ^^^ sum b ^^^ sum c = sum (List.zipWith (· ^^^ ·) (List.zipWith (· ^^^ ·) a b) c) := by
  unfold sum
  have h := run_xor (List.zipWith (· ^^^ ·) a b) c (M ^^^ M) M (by simp; omega)
  rw [← run_xor a b M M h1] at h
  have hm : M ^^^ M ^^^ M = M := by rw [Nat.xor_self, Nat.zero_xor]
  rw [hm] at h
  rw [← h]
  have e : M ^^^ run M a ^^^ (M ^^^ run M b) ^^^ (M ^^^ run M c) = (M ^^^ M ^^^ M) ^^^ (run M a ^^^ run M b ^^^ run M c) := by ac_rfl
  rw [e, hm]

/-- a number in bytes, the greatest first -/
def four (n : Nat) : Bs := [UInt8.ofNat (n / 16777216), UInt8.ofNat (n / 65536), UInt8.ofNat (n / 256), UInt8.ofNat n]
theorem four_length (n : Nat) : (four n).length = 4 := rfl
/-- the number that a row begins with -/
def num (s : Bs) : Nat := (s[0]?.getD 0).toNat * 16777216 + (s[1]?.getD 0).toNat * 65536 + (s[2]?.getD 0).toNat * 256 + (s[3]?.getD 0).toNat
theorem num_lt (s : Bs) : num s < 4294967296 := by
  unfold num
  have h0 := (s[0]?.getD 0).toNat_lt
  have h1 := (s[1]?.getD 0).toNat_lt
  have h2 := (s[2]?.getD 0).toNat_lt
  have h3 := (s[3]?.getD 0).toNat_lt
  omega
theorem num_four {n : Nat} (h : n < 4294967296) (r : Bs) : num (four n ++ r) = n := by
  simp only [num, four, List.cons_append, List.getElem?_cons_zero, List.getElem?_cons_succ, Option.getD_some, UInt8.toNat_ofNat']
  omega
theorem four_num (s : Bs) (h : 4 ≤ s.length) : four (num s) = s.take 4 := by
  match s, h with
  | a :: b :: c :: d :: r, _ =>
    have h0 := a.toNat_lt
    have h1 := b.toNat_lt
    have h2 := c.toNat_lt
    have h3 := d.toNat_lt
    simp only [num, four, List.getElem?_cons_zero, List.getElem?_cons_succ, Option.getD_some, List.take_succ_cons, List.take_zero]
    have e0 : UInt8.ofNat ((a.toNat * 16777216 + b.toNat * 65536 + c.toNat * 256 + d.toNat) / 16777216) = a := UInt8.toNat_inj.1 (by rw [UInt8.toNat_ofNat']; omega)
    have e1 : UInt8.ofNat ((a.toNat * 16777216 + b.toNat * 65536 + c.toNat * 256 + d.toNat) / 65536) = b := UInt8.toNat_inj.1 (by rw [UInt8.toNat_ofNat']; omega)
    have e2 : UInt8.ofNat ((a.toNat * 16777216 + b.toNat * 65536 + c.toNat * 256 + d.toNat) / 256) = c := UInt8.toNat_inj.1 (by rw [UInt8.toNat_ofNat']; omega)
    have e3 : UInt8.ofNat (a.toNat * 16777216 + b.toNat * 65536 + c.toNat * 256 + d.toNat) = d := UInt8.toNat_inj.1 (by rw [UInt8.toNat_ofNat']; omega)
    rw [e0, e1, e2, e3]
theorem num_take {s : Bs} {k : Nat} (h : 4 ≤ k) : num (s.take k) = num s := by
  unfold num
  rw [List.getElem?_take_of_lt (by omega), List.getElem?_take_of_lt (by omega), List.getElem?_take_of_lt (by omega), List.getElem?_take_of_lt (by omega)]

def most : Nat := 131072
/-- a frame -/
def fr (b : Bs) : Bs := if b.length > most then [] else four b.length ++ (four (sum (four b.length ++ b)) ++ b)
theorem fr_length {b : Bs} (h : b.length ≤ most) : (fr b).length = b.length + 8 := by
  unfold fr
  rw [if_neg (by omega), List.length_append, List.length_append, four_length, four_length]
  omega
/-- the row of the frame at the front -/
def nx (s : Bs) : Option Bs :=
  if s.length < 8 then none
  else if num s > most ∨ num s > s.length - 8 then none
  else if sum (s.take 4 ++ (s.drop 8).take (num s)) = num (s.drop 4) then some ((s.drop 8).take (num s)) else none
theorem nx_some {s b : Bs} (h : nx s = some b) : b.length ≤ most ∧ b.length + 8 ≤ s.length ∧ b = (s.drop 8).take b.length := by
  unfold nx at h
  split at h
  · cases h
  · split at h
    · cases h
    · split at h
      · simp only [Option.some.injEq] at h
        have hl : b.length = num s := by rw [← h]; simp; omega
        refine ⟨by omega, by omega, ?_⟩
        rw [hl, h]
      · cases h
theorem nx_fr {b : Bs} (h : b.length ≤ most) (r : Bs) : nx (fr b ++ r) = some b := by
  have hm : most = 131072 := rfl
  have e : fr b ++ r = four b.length ++ (four (sum (four b.length ++ b)) ++ (b ++ r)) := by unfold fr; rw [if_neg (by omega)]; simp
  have hn : num (fr b ++ r) = b.length := by rw [e]; exact num_four (by omega) _
  have hd4 : (fr b ++ r).drop 4 = four (sum (four b.length ++ b)) ++ (b ++ r) := by rw [e]; exact List.drop_left' (four_length _)
  have hd8 : (fr b ++ r).drop 8 = b ++ r := by
    rw [show 8 = 4 + 4 by rfl, ← List.drop_drop, hd4]
    exact List.drop_left' (four_length _)
  have ht : (fr b ++ r).take 4 = four b.length := by rw [e]; exact List.take_left' (four_length _)
  have hl : (fr b ++ r).length = b.length + 8 + r.length := by rw [List.length_append, fr_length h]
  unfold nx
  rw [hn, hd4, hd8, ht, if_neg (by omega), if_neg (by omega), List.take_left' rfl, num_four (sum_lt _), if_pos rfl]
/-- what is told begins with its frame -/
theorem fr_nx {s b : Bs} (h : nx s = some b) : s.take (8 + b.length) = fr b := by
  have hb := nx_some h
  unfold nx at h
  split at h
  · cases h
  · next h8 =>
    split at h
    · cases h
    · next hn =>
      split at h
      · next hs =>
        simp only [Option.some.injEq] at h
        have hl : b.length = num s := by rw [← h]; simp; omega
        rw [h] at hs
        unfold fr
        rw [if_neg (by omega), hl, four_num s (by omega), hs, four_num (s.drop 4) (by simp; omega), ← h]
        have e1 : s = s.take 4 ++ ((s.drop 4).take 4 ++ s.drop 8) := by
          rw [show s.drop 8 = (s.drop 4).drop 4 by rw [List.drop_drop], List.take_append_drop, List.take_append_drop]
        generalize num s = k at *
        have e2 : 8 + k = (s.take 4).length + (((s.drop 4).take 4).length + k) := by simp; omega
        rw [e2]
        conv => lhs; arg 2; rw [e1]
        rw [List.take_length_add_append, List.take_length_add_append]
      · cases h
theorem nx_short {s : Bs} (h : s.length < 8) : nx s = none := by unfold nx; rw [if_pos h]

/-- all at the front -/
def al : Nat → Bs → List Bs
  | 0, _ => []
  | f + 1, s => match nx s with | none => [] | some b => b :: al f (s.drop (8 + b.length))
def took (l : List Bs) : Nat := (l.map fun b => 8 + b.length).sum
theorem took_append (l m : List Bs) : took (l ++ m) = took l + took m := by simp [took, List.map_append, List.sum_append_nat]
theorem al_more : ∀ (f g : Nat) (s : Bs), s.length ≤ f → s.length ≤ g → al f s = al g s
  | 0, 0, _, _, _ => rfl
  | 0, g + 1, s, h, _ => by simp only [al]; rw [nx_short (by omega)]
  | f + 1, 0, s, _, h => by simp only [al]; rw [nx_short (by omega)]
  | f + 1, g + 1, s, hf, hg => by
    simp only [al]
    cases hn : nx s with
    | none => rfl
    | some b =>
      have := nx_some hn
      simp only
      rw [al_more f g _ (by simp; omega) (by simp; omega)]
def all (s : Bs) : List Bs := al s.length s
theorem all_none {s : Bs} (h : nx s = none) : all s = [] := by
  unfold all
  cases hl : s.length with
  | zero => rfl
  | succ k => simp only [al, h]
theorem all_some {s b : Bs} (h : nx s = some b) : all s = b :: all (s.drop (8 + b.length)) := by
  have hb := nx_some h
  unfold all
  cases hl : s.length with
  | zero => omega
  | succ k =>
    simp only [al, h]
    rw [al_more k _ _ (by simp; omega) (Nat.le_refl _)]
theorem all_fr {b : Bs} (h : b.length ≤ most) (s : Bs) : all (fr b ++ s) = b :: all s := by
  rw [all_some (nx_fr h s), List.drop_left' (by rw [fr_length h]; omega)]
theorem all_frs : ∀ (l : List Bs) (s : Bs), (∀ b ∈ l, b.length ≤ most) → all (l.flatMap fr ++ s) = l ++ all s
  | [], s, _ => rfl
  | b :: l, s, h => by
    rw [List.flatMap_cons, List.append_assoc, all_fr (h b (by simp)), all_frs l s (fun x hx => h x (by simp [hx]))]
    rfl
theorem took_frs : ∀ (l : List Bs), (∀ b ∈ l, b.length ≤ most) → took l = (l.flatMap fr).length
  | [], _ => rfl
  | b :: l, h => by
    rw [List.flatMap_cons, List.length_append, fr_length (h b (by simp)), ← took_frs l (fun x hx => h x (by simp [hx]))]
    simp [took]
    omega
theorem all_took (s : Bs) : took (all s) ≤ s.length := by
  generalize hl : s.length = n
  induction n using Nat.strongRecOn generalizing s with
  | _ n ih =>
    cases hn : nx s with
    | none => rw [all_none hn]; simp [took]
    | some b =>
      have hb := nx_some hn
      rw [all_some hn]
      have := ih _ (show (s.drop (8 + b.length)).length < n by simp; omega) _ rfl
      simp at this
      simp [took] at this ⊢
      omega
/-- cut short -/
theorem nx_cut {b : Bs} (h : b.length ≤ most) {k : Nat} (hk : k < b.length + 8) : nx ((fr b).take k) = none := by
  have hl := fr_length h
  cases hn : nx ((fr b).take k) with
  | none => rfl
  | some c =>
    exfalso
    have hc := nx_some hn
    rw [List.length_take, hl] at hc
    have hm : num ((fr b).take k) = b.length := by
      rw [num_take (by omega)]
      unfold fr
      rw [if_neg (by omega)]
      exact num_four (by unfold most at h; omega) _
    unfold nx at hn
    rw [hm, List.length_take, hl] at hn
    split at hn
    · cases hn
    · split at hn
      · cases hn
      · next hh => exact hh (.inr (by omega))
/-- with one byte of its sum, or its row, another one -/
theorem nx_other {b : Bs} (h : b.length ≤ most) {i : Nat} (h4 : 4 ≤ i) (hi : i < b.length + 8) {c : UInt8} (hc : (fr b)[i]? ≠ some c) : nx ((fr b).take i ++ c :: (fr b).drop (i + 1)) = none := by
  have hm : most = 131072 := rfl
  have hl := fr_length h
  have e : fr b = four b.length ++ (four (sum (four b.length ++ b)) ++ b) := by unfold fr; rw [if_neg (by omega)]
  obtain ⟨g, hg⟩ : ∃ g, g = (fr b).take i ++ c :: (fr b).drop (i + 1) := ⟨_, rfl⟩
  have hgs : g = (fr b).set i c := by rw [hg, List.set_eq_take_append_cons_drop, if_pos (by omega)]
  rw [← hg]
  have hgl : g.length = b.length + 8 := by rw [hgs, List.length_set, hl]
  have hat : ∀ j, j < 4 → g[j]? = (fr b)[j]? := fun j hj => by rw [hgs, List.getElem?_set_ne (by omega)]
  have hnum : num g = b.length := by
    have : num g = num (fr b) := by unfold num; rw [hat 0 (by omega), hat 1 (by omega), hat 2 (by omega), hat 3 (by omega)]
    rw [this, e]
    exact num_four (by omega) _
  have ht : g.take 4 = four b.length := by
    rw [hgs, List.take_set, List.set_eq_of_length_le (by simp; omega), e]
    exact List.take_left' (four_length _)
  have hd4 : g.drop 4 = (four (sum (four b.length ++ b)) ++ b).set (i - 4) c := by
    rw [hgs, List.drop_set, if_neg (by omega), e, List.drop_left' (four_length _)]
  cases hn : nx g with
  | none => rfl
  | some x =>
    exfalso
    have hx := nx_some hn
    unfold nx at hn
    rw [hnum, hgl, if_neg (by omega), if_neg (by omega), ht] at hn
    split at hn
    · next hs =>
      have hd8 : g.drop 8 = (g.drop 4).drop 4 := by rw [List.drop_drop]
      rw [hd8, hd4] at hs
      by_cases hi8 : i < 8
      · rw [List.set_append_left _ _ (by rw [four_length]; omega), List.drop_left' (by rw [List.length_set]; rfl), List.take_of_length_le (by omega)] at hs
        have h1 : four (sum (four b.length ++ b)) = (four (sum (four b.length ++ b))).set (i - 4) c := by
          have h2 := four_num ((four (sum (four b.length ++ b))).set (i - 4) c ++ b) (by simp [four])
          rw [← hs, List.take_left' (by rw [List.length_set]; rfl)] at h2
          exact h2
        have h3 : (four (sum (four b.length ++ b)))[i - 4]? = some c := by
          rw [h1, List.getElem?_set_self (by rw [four_length]; omega)]
        apply hc
        rw [e, List.getElem?_append_right (by rw [four_length]; omega), four_length, List.getElem?_append_left (by rw [four_length]; omega)]
        exact h3
      · rw [List.set_append_right _ _ (by rw [four_length]; omega), four_length, List.drop_left' (four_length _), List.take_of_length_le (by simp), num_four (sum_lt _)] at hs
        have hib : i - 8 < b.length := by omega
        have h1 : b = b.take (i - 8) ++ b[i - 8] :: b.drop (i - 8 + 1) := by
          rw [← List.drop_eq_getElem_cons hib, List.take_append_drop]
        rw [show i - 4 - 4 = i - 8 by omega, List.set_eq_take_append_cons_drop, if_pos hib] at hs
        conv at hs => rhs; rw [h1]
        rw [← List.append_assoc, ← List.append_assoc] at hs
        have h2 : b.length = (b.take (i - 8) ++ b[i - 8] :: b.drop (i - 8 + 1)).length := by rw [← h1]
        rw [← h2] at hs
        have h3 := sum_other _ _ _ _ hs
        apply hc
        rw [e, List.getElem?_append_right (by rw [four_length]; omega), four_length, List.getElem?_append_right (by rw [four_length]; omega), four_length, show i - 4 - 4 = i - 8 by omega, List.getElem?_eq_getElem hib, h3]
    · cases hn
end Fr
end Go.Proofs.Ytgfjpbiioaahhaa
