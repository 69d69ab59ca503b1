/-
  Layer 2, plain: values as trees, and what package value asks of them.
-/
import Derived.Test.YtpfbiklbecdmiaaL1
import Derived.Lib.SlicesS
set_option linter.unusedVariables false
set_option linter.unusedSimpArgs false
namespace Go.Proofs.Ytpfbiklbecdmiaa

structure V where
  kind : Int
  num : Int
  text : ByteArray
  keys : List ByteArray
  list : List V

namespace V
theorem ind {P : V → Prop} (h : ∀ k n t ks l, (∀ x ∈ l, P x) → P ⟨k, n, t, ks, l⟩) : ∀ x, P x
  | ⟨k, n, t, ks, l⟩ => h k n t ks l (fun x _ => V.ind h x)

def wtK : List ByteArray → Nat
  | [] => 0
  | k :: ks => 1 + k.size + wtK ks
def wt : V → Nat
  | ⟨_, _, t, ks, l⟩ => 1 + t.size + wtK ks + (l.map (fun x => wt x)).sum
def wtL (l : List V) : Nat := (l.map wt).sum
theorem wtL_nil : wtL [] = 0 := rfl
theorem wtL_cons (x : V) (l : List V) : wtL (x :: l) = wt x + wtL l := by simp [wtL]
theorem wt_mk (k n : Int) (t : ByteArray) (ks : List ByteArray) (l : List V) : wt ⟨k, n, t, ks, l⟩ = 1 + t.size + wtK ks + wtL l := by rw [wt]; rfl
theorem wt_pos (x : V) : 0 < wt x := by cases x; rw [wt_mk]; omega
theorem wtL_mem {l : List V} : ∀ {x : V}, x ∈ l → wt x ≤ wtL l := by
  induction l with
  | nil => intro x h; cases h
  | cons y l ih =>
    intro x h
    simp only [wtL_cons]
    rcases List.mem_cons.1 h with rfl | h
    · omega
    · have := ih h; omega
theorem wtL_len (l : List V) : l.length ≤ wtL l := by
  induction l with
  | nil => simp
  | cons y l ih => have := wt_pos y; simp only [wtL_cons, List.length_cons]; omega
theorem wtK_len (l : List ByteArray) : l.length ≤ wtK l := by
  induction l with
  | nil => simp
  | cons y l ih => simp only [wtK, List.length_cons]; omega
theorem wtK_mem {l : List ByteArray} : ∀ {x : ByteArray}, x ∈ l → x.size < wtK l := by
  induction l with
  | nil => intro x h; cases h
  | cons y l ih =>
    intro x h
    simp only [wtK]
    rcases List.mem_cons.1 h with rfl | h
    · omega
    · have := ih h; omega
theorem wtL_append (a b : List V) : wtL (a ++ b) = wtL a + wtL b := by
  induction a with
  | nil => simp [wtL_nil]
  | cons y l ih => simp only [List.cons_append, wtL_cons, ih]; omega
theorem wtK_append (a b : List ByteArray) : wtK (a ++ b) = wtK a + wtK b := by
  induction a with
  | nil => simp [wtK]
  | cons y l ih => simp only [List.cons_append, wtK, ih]; omega
theorem wtL_take (l : List V) (n : Nat) : wtL (l.take n) ≤ wtL l := by
  have := wtL_append (l.take n) (l.drop n)
  rw [List.take_append_drop] at this; omega
theorem wtL_drop (l : List V) (n : Nat) : wtL (l.drop n) ≤ wtL l := by
  have := wtL_append (l.take n) (l.drop n)
  rw [List.take_append_drop] at this; omega
theorem wtK_take (l : List ByteArray) (n : Nat) : wtK (l.take n) ≤ wtK l := by
  have := wtK_append (l.take n) (l.drop n)
  rw [List.take_append_drop] at this; omega
theorem wtK_drop (l : List ByteArray) (n : Nat) : wtK (l.drop n) ≤ wtK l := by
  have := wtK_append (l.take n) (l.drop n)
  rw [List.take_append_drop] at this; omega

/-- is it UTF-8 -/
def utf (s : ByteArray) : Bool := decide (Gm.checkZ s.data.toList < 0)
def less (a b : ByteArray) : Bool := Op.bytesLess a.toList b.toList

def most : List Nat → Nat
  | [] => 0
  | n :: l => max n (most l)
/-- Deep -/
def deep : V → Nat
  | ⟨k, _, _, _, l⟩ => if k = 4 ∨ k = 5 then 1 + most (l.map (fun x => deep x)) else 0
def deepL (l : List V) : Nat := most (l.map deep)
theorem deepL_nil : deepL [] = 0 := rfl
theorem deepL_cons (x : V) (l : List V) : deepL (x :: l) = max (deep x) (deepL l) := by simp [deepL, most]
theorem deep_mk (k n : Int) (t : ByteArray) (ks : List ByteArray) (l : List V) : deep ⟨k, n, t, ks, l⟩ = if k = 4 ∨ k = 5 then 1 + deepL l else 0 := by rw [deep]; rfl
theorem deep_wt_aux (n : Nat) : ∀ x : V, wt x ≤ n → deep x ≤ wt x := by
  induction n with
  | zero => intro x h; have := wt_pos x; omega
  | succ n ih =>
    intro x h
    cases x with
    | mk k m t ks l =>
      simp only [wt_mk] at h ⊢
      have hl : ∀ l' : List V, wtL l' ≤ n → deepL l' ≤ wtL l' := by
        intro l'
        induction l' with
        | nil => intro _; simp [deepL_nil]
        | cons y l' ih2 =>
          intro h2
          simp only [wtL_cons] at h2 ⊢
          simp only [deepL_cons]
          have h3 := ih y (by omega)
          have h4 := ih2 (by omega)
          omega
      have := hl l (by omega)
      simp only [deep_mk]
      split <;> omega
theorem deep_wt (x : V) : deep x ≤ wt x := deep_wt_aux _ x (Nat.le_refl _)
theorem deepL_wt (l : List V) : deepL l ≤ wtL l := by
  induction l with
  | nil => simp [deepL_nil]
  | cons y l ih => have := deep_wt y; simp only [deepL_cons, wtL_cons]; omega
theorem deepL_append (a b : List V) : deepL (a ++ b) = max (deepL a) (deepL b) := by
  induction a with
  | nil => simp [deepL_nil]
  | cons y l ih => simp only [List.cons_append, deepL_cons, ih]; omega
theorem deepL_one (x : V) : deepL [x] = deep x := by rw [deepL_cons, deepL_nil]; omega
theorem deepL_take (l : List V) (j : Nat) (h : j < l.length) : deepL (l.take (j + 1)) = max (deepL (l.take j)) (deep l[j]) := by
  rw [List.take_succ_eq_append_getElem h, deepL_append, deepL_one]
theorem deepL_mem {l : List V} : ∀ {x : V}, x ∈ l → deep x ≤ deepL l := by
  induction l with
  | nil => intro x h; cases h
  | cons y l ih =>
    intro x h
    simp only [deepL_cons]
    rcases List.mem_cons.1 h with rfl | h
    · omega
    · have := ih h; omega

/-- Right -/
def kindOk (k : Int) : Bool := decide (0 ≤ k) && decide (k ≤ 5)
def numOk (k n : Int) : Bool := if k = 1 then (n == 0) || (n == 1) else if k = 2 then decide (-9007199254740991 ≤ n) && decide (n ≤ 9007199254740991) else n == 0
def textOk (k : Int) (t : ByteArray) : Bool := t.toList.isEmpty || ((k == 3) && utf t)
def keyOk (ks : List ByteArray) (j : Nat) : Bool := utf (ks.getD j ByteArray.empty) && ((j == 0) || less (ks.getD (j - 1) ByteArray.empty) (ks.getD j ByteArray.empty))
def risesTo (ks : List ByteArray) : Nat → Bool
  | 0 => true
  | j + 1 => risesTo ks j && keyOk ks j
def rises (ks : List ByteArray) : Bool := risesTo ks ks.length
theorem risesTo_mono {ks : List ByteArray} {j : Nat} (h : risesTo ks j = false) : ∀ {m : Nat}, j ≤ m → risesTo ks m = false := by
  intro m hm
  induction m with
  | zero => have : j = 0 := by omega
            subst this; exact h
  | succ m ih =>
    rcases Nat.lt_or_ge m j with h1 | h1
    · have : j = m + 1 := by omega
      subst this; exact h
    · simp [risesTo, ih h1]
theorem risesTo_iff (ks : List ByteArray) (m : Nat) : risesTo ks m = true ↔ ∀ j, j < m → keyOk ks j = true := by
  induction m with
  | zero => simp [risesTo]
  | succ m ih =>
    simp only [risesTo, Bool.and_eq_true, ih]
    constructor
    · rintro ⟨h1, h2⟩ j hj
      rcases Nat.lt_or_ge j m with h | h
      · exact h1 j h
      · have : j = m := by omega
        subst this; exact h2
    · intro h
      exact ⟨fun j hj => h j (by omega), h m (by omega)⟩
def keysOk (k : Int) (ks : List ByteArray) (m : Nat) : Bool := if k = 5 then rises ks && decide (ks.length = m) else ks.isEmpty
def right : V → Bool
  | ⟨k, n, t, ks, l⟩ => kindOk k && numOk k n && textOk k t && keysOk k ks l.length && (l.map (fun x => right x)).all id && ((k == 4) || (k == 5) || l.isEmpty)
theorem right_mk (k n : Int) (t : ByteArray) (ks : List ByteArray) (l : List V) : right ⟨k, n, t, ks, l⟩ = (kindOk k && numOk k n && textOk k t && keysOk k ks l.length && l.all right && ((k == 4) || (k == 5) || l.isEmpty)) := by
  rw [right]
  congr 2
  rw [List.all_map]
  rfl

/-- where a key stands; below 0: nowhere -/
def place : V → ByteArray → Int
  | ⟨k, _, _, ks, l⟩, key => if k = 5 then Lib.idxOfS (ks.take (min ks.length l.length)) key else -1
def get : V → ByteArray → Option V
  | x, key => if place x key < 0 then none else x.list[(place x key).toNat]?
def splice {α : Type} (l : List α) (a b : Nat) (mid : List α) : List α := l.take a ++ mid ++ l.drop b
def room (ks : List ByteArray) (key : ByteArray) : Nat := ks.findIdx (fun k => !less k key)
def nul : V := .mk 0 0 ⟨#[]⟩ [] []
def none5 : V := .mk 5 0 ⟨#[]⟩ [] []
def laid (x : V) (a b : Nat) (mk' : List ByteArray) (ml : List V) : V :=
  match x with
  | ⟨k, n, t, ks, l⟩ => .mk k n t (splice (ks.take (min ks.length l.length)) a b mk') (splice (l.take (min ks.length l.length)) a b ml)
def with5 (x : V) (key : ByteArray) (y : V) : V :=
  if 0 ≤ place x key then laid x (place x key).toNat ((place x key).toNat + 1) [key] [y]
  else laid x (room (x.keys.take (min x.keys.length x.list.length)) key) (room (x.keys.take (min x.keys.length x.list.length)) key) [key] [y]
def withV (x : V) (key : ByteArray) (y : V) : V := if x.kind = 5 then with5 x key y else with5 none5 key y
def without (x : V) (key : ByteArray) : V :=
  if 0 ≤ place x key then laid x (place x key).toNat ((place x key).toNat + 1) [] [] else x
def str (s : ByteArray) : V := .mk 3 0 s [] []
def numV (n : Int) : V := .mk 2 n ⟨#[]⟩ [] []
def texts (l : List ByteArray) : V := .mk 4 0 ⟨#[]⟩ [] (l.map str)
end V

end Go.Proofs.Ytpfbiklbecdmiaa
