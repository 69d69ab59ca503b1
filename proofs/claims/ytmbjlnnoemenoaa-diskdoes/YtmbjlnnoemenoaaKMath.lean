/-
  PLAIN: a disk's files, steps and calls (layer 9).
-/
import Derived.Maps.Ext
import Derived.Sort.KeysCollected
set_option linter.unusedVariables false
set_option linter.unusedSimpArgs false
namespace Go.Proofs.Ytmbjlnnoemenoaa
namespace Dk
abbrev Bs := List UInt8
/-- a file: its bytes, how many last -/
structure PF where
  all : Bs
  last : Nat
/-- a disk: room, files by rising names, a fuse, what it lets be done, whether power is gone -/
structure PD where
  room : Nat
  fs : List (Bs × PF)
  fused : Bool
  left : Nat
  dead : Bool

def get : List (Bs × PF) → Bs → Option PF
  | [], _ => none
  | p :: r, n => if p.1 = n then some p.2 else get r n
def used : List (Bs × PF) → Nat
  | [] => 0
  | p :: r => p.2.all.length + used r
def ins (n : Bs) : List (Bs × PF) → List (Bs × PF)
  | [] => [(n, ⟨[], 0⟩)]
  | p :: r => if bytesBefore n p.1 then (n, ⟨[], 0⟩) :: p :: r else p :: ins n r
def upd (n : Bs) (f : PF) : List (Bs × PF) → List (Bs × PF)
  | [] => []
  | p :: r => if p.1 = n then (n, f) :: r else p :: upd n f r
def made (n : Bs) (fs : List (Bs × PF)) : List (Bs × PF) := if (get fs n).isSome then fs else ins n fs
def crashF (k : Nat) (f : PF) : PF := ⟨f.all.take (f.last + min k (f.all.length - f.last)), f.last + min k (f.all.length - f.last)⟩
def crashL : Nat → List (Bs × PF) → List (Bs × PF)
  | _, [] => []
  | k, p :: r => (p.1, crashF k p.2) :: crashL (k - min k (p.2.all.length - p.2.last)) r

/-- how many of m steps are done -/
def steps (P : PD) (m : Nat) : Nat := if P.fused then min P.left m else m
def gone (P : PD) (m : Nat) : PD := { P with left := if P.fused then P.left - m else P.left, dead := decide (steps P m < m) }

def append (P : PD) (n b : Bs) : Nat × PD :=
  if P.dead then (21, P)
  else if n = [] ∨ (get P.fs n = none ∧ 4 ≤ P.fs.length) then (1, P)
  else if P.room < used P.fs + b.length then (20, P)
  else (if steps P b.length < b.length then 21 else 0,
    { gone P b.length with fs := match get (made n P.fs) n with | some f => upd n ⟨f.all ++ b.take (steps P b.length), f.last⟩ (made n P.fs) | none => made n P.fs })
def sync (P : PD) (n : Bs) : Nat × PD :=
  if P.dead then (21, P) else match get P.fs n with
  | none => (31, P)
  | some f => if steps P 1 < 1 then (21, gone P 1) else (0, { gone P 1 with fs := upd n ⟨f.all, f.all.length⟩ P.fs })
def cut (P : PD) (n : Bs) (m : Int) : Nat × PD :=
  if P.dead then (21, P) else match get P.fs n with
  | none => (31, P)
  | some f => if m < 0 ∨ (f.all.length : Int) < m then (1, P) else
    if steps P 1 < 1 then (21, gone P 1) else (0, { gone P 1 with fs := upd n ⟨f.all.take m.toNat, min f.last m.toNat⟩ P.fs })
def read (P : PD) (n : Bs) : Bs := if P.dead then [] else match get P.fs n with | none => [] | some f => f.all
def lasting (P : PD) (n : Bs) : Bs := match get P.fs n with | none => [] | some f => f.all.take f.last
def fuse (P : PD) (n : Int) : PD := { P with fused := decide (0 ≤ n), left := n.toNat }
def crash (P : PD) (k : Int) : PD := { P with fs := crashL k.toNat P.fs, fused := false, left := 0, dead := false }
def new (room : Int) : PD := ⟨(min (max room 0) 4194304).toNat, [], false, 0, false⟩

/-- names rise -/
abbrev Rise (fs : List (Bs × PF)) : Prop := fs.Pairwise (fun p q => bytesBefore p.1 q.1 = true)
structure Wf (P : PD) : Prop where
  room : P.room ≤ 4194304
  used : used P.fs ≤ P.room
  rise : Rise P.fs
  last : ∀ p ∈ P.fs, p.2.last ≤ p.2.all.length
  few : P.fs.length ≤ 4
  left : P.left < 9223372036854775808
  names : ∀ p ∈ P.fs, p.1.length ≤ 1099511627776

theorem get_mem : ∀ {fs : List (Bs × PF)} {n : Bs} {f : PF}, get fs n = some f → (n, f) ∈ fs
  | [], _, _, h => by cases h
  | p :: r, n, f, h => by
    unfold get at h
    split at h
    · rename_i e; cases h; subst e; exact List.mem_cons_self
    · exact List.mem_cons_of_mem _ (get_mem h)
theorem get_none : ∀ {fs : List (Bs × PF)} {n : Bs}, get fs n = none → ∀ p ∈ fs, p.1 ≠ n
  | [], _, _, p, hp => by cases hp
  | q :: r, n, h, p, hp => by
    unfold get at h
    split at h
    · cases h
    · rename_i e
      rcases List.mem_cons.1 hp with rfl | hp
      · exact e
      · exact get_none h p hp
theorem before_ne {a b : Bs} (h : bytesBefore a b = true) : a ≠ b := fun e => by rw [e, WideAt.bytes_irrefl] at h; cases h
theorem get_of_mem : ∀ {fs : List (Bs × PF)}, Rise fs → ∀ {p : Bs × PF}, p ∈ fs → get fs p.1 = some p.2
  | [], _, p, hp => by cases hp
  | q :: r, h, p, hp => by
    obtain ⟨h1, h2⟩ := List.pairwise_cons.1 h
    unfold get
    rcases List.mem_cons.1 hp with rfl | hp
    · rw [if_pos rfl]
    · rw [if_neg (before_ne (h1 p hp))]; exact get_of_mem h2 hp
theorem mem_ins {n : Bs} {p : Bs × PF} : ∀ {fs : List (Bs × PF)}, p ∈ ins n fs ↔ p = (n, ⟨[], 0⟩) ∨ p ∈ fs
  | [] => by simp [ins]
  | q :: r => by
    unfold ins
    split
    · simp
    · simp only [List.mem_cons, mem_ins (fs := r)]
      constructor
      · rintro (h | h | h) <;> simp [h]
      · rintro (h | h | h) <;> simp [h]
theorem rise_ins {n : Bs} : ∀ {fs : List (Bs × PF)}, Rise fs → (∀ p ∈ fs, p.1 ≠ n) → Rise (ins n fs)
  | [], _, _ => by simp [ins]
  | q :: r, h, hn => by
    obtain ⟨h1, h2⟩ := List.pairwise_cons.1 h
    unfold ins
    split
    · rename_i hb
      refine List.pairwise_cons.2 ⟨fun p hp => ?_, h⟩
      rcases List.mem_cons.1 hp with rfl | hp
      · exact hb
      · exact WideShapes.bytes_trans _ _ _ hb (h1 p hp)
    · rename_i hb
      refine List.pairwise_cons.2 ⟨fun p hp => ?_, rise_ins h2 fun p hp => hn p (List.mem_cons_of_mem _ hp)⟩
      rcases mem_ins.1 hp with rfl | hp
      · rcases WideAt.bytes_total q.1 n (hn q List.mem_cons_self) with e | e
        · exact e
        · exact absurd e hb
      · exact h1 p hp
theorem len_ins {n : Bs} : ∀ fs : List (Bs × PF), (ins n fs).length = fs.length + 1
  | [] => rfl
  | q :: r => by unfold ins; split <;> simp [len_ins r]
theorem used_ins {n : Bs} : ∀ fs : List (Bs × PF), used (ins n fs) = used fs
  | [] => rfl
  | q :: r => by unfold ins; split <;> simp [used, used_ins r]
theorem len_upd {n : Bs} {f : PF} : ∀ fs : List (Bs × PF), (upd n f fs).length = fs.length
  | [] => rfl
  | q :: r => by unfold upd; split <;> simp [len_upd r]
theorem keys_upd {n : Bs} {f : PF} : ∀ fs : List (Bs × PF), (upd n f fs).map (·.1) = fs.map (·.1)
  | [] => rfl
  | q :: r => by
    unfold upd
    split
    · rename_i e; simp [e]
    · simp [keys_upd r]
theorem rise_iff (fs : List (Bs × PF)) : Rise fs ↔ (fs.map (·.1)).Pairwise (fun a b => bytesBefore a b = true) := by rw [List.pairwise_map]
theorem rise_upd {n : Bs} {f : PF} {fs : List (Bs × PF)} (h : Rise fs) : Rise (upd n f fs) := by rw [rise_iff, keys_upd]; exact (rise_iff fs).1 h
theorem mem_upd {n : Bs} {f : PF} : ∀ {fs : List (Bs × PF)}, Rise fs → ∀ {p : Bs × PF}, p ∈ upd n f fs → p = (n, f) ∨ (p ∈ fs ∧ p.1 ≠ n)
  | [], _, p, hp => by cases hp
  | q :: r, h, p, hp => by
    obtain ⟨h1, h2⟩ := List.pairwise_cons.1 h
    unfold upd at hp
    split at hp
    · rename_i e
      rcases List.mem_cons.1 hp with h0 | hp
      · exact .inl h0
      · exact .inr ⟨List.mem_cons_of_mem _ hp, fun e' => before_ne (h1 p hp) (e.trans e'.symm)⟩
    · rename_i e
      rcases List.mem_cons.1 hp with h0 | hp
      · subst h0; exact .inr ⟨List.mem_cons_self, e⟩
      · rcases mem_upd h2 hp with h3 | ⟨h3, h4⟩
        · exact .inl h3
        · exact .inr ⟨List.mem_cons_of_mem _ h3, h4⟩
theorem used_upd {n : Bs} {f g : PF} : ∀ {fs : List (Bs × PF)}, get fs n = some g → used (upd n f fs) + g.all.length = used fs + f.all.length
  | [], h => by cases h
  | q :: r, h => by
    unfold get at h
    unfold upd
    split at h
    · rename_i e; cases h; rw [if_pos e]; simp only [used]; omega
    · rename_i e; rw [if_neg e]; simp only [used]; have := used_upd (f := f) h; omega
theorem get_upd_same {n : Bs} {f g : PF} : ∀ {fs : List (Bs × PF)}, get fs n = some g → get (upd n f fs) n = some f
  | [], h => by cases h
  | q :: r, h => by
    unfold get at h
    unfold upd
    split at h
    · rename_i e; rw [if_pos e]; simp [get]
    · rename_i e; rw [if_neg e]; simp only [get, if_neg e]; exact get_upd_same h
theorem get_upd_other {n m : Bs} {f : PF} (hne : m ≠ n) : ∀ fs : List (Bs × PF), get (upd n f fs) m = get fs m
  | [] => rfl
  | q :: r => by
    unfold upd
    split
    · rename_i e; simp only [get, e, if_neg (Ne.symm hne)]
    · simp only [get, get_upd_other hne r]
theorem get_ins_same {n : Bs} : ∀ {fs : List (Bs × PF)}, get fs n = none → get (ins n fs) n = some ⟨[], 0⟩
  | [], h => by simp [ins, get]
  | q :: r, h => by
    unfold get at h
    split at h
    · cases h
    · rename_i e
      unfold ins
      split
      · simp [get]
      · simp only [get, if_neg e]; exact get_ins_same h
theorem get_ins_other {n m : Bs} (hne : m ≠ n) : ∀ fs : List (Bs × PF), get (ins n fs) m = get fs m
  | [] => by simp [ins, get, Ne.symm hne]
  | q :: r => by
    unfold ins
    split
    · simp only [get, if_neg (Ne.symm hne)]
    · simp only [get, get_ins_other hne r]
theorem upd_same {n : Bs} {f : PF} : ∀ {fs : List (Bs × PF)}, get fs n = some f → upd n f fs = fs
  | [], h => by cases h
  | q :: r, h => by
    unfold get at h
    unfold upd
    split at h
    · rename_i e; cases h; rw [if_pos e, ← e]
    · rename_i e; rw [if_neg e, upd_same h]
theorem upd_self {n : Bs} {f : PF} {fs : List (Bs × PF)} (_ : Rise fs) (h : get fs n = some f) : upd n f fs = fs := upd_same h
theorem used_mem : ∀ {fs : List (Bs × PF)} {p : Bs × PF}, p ∈ fs → p.2.all.length ≤ used fs
  | [], p, hp => by cases hp
  | q :: r, p, hp => by
    unfold used
    rcases List.mem_cons.1 hp with rfl | hp
    · omega
    · have := used_mem hp; omega
theorem get_used {fs : List (Bs × PF)} {n : Bs} {f : PF} (h : get fs n = some f) : f.all.length ≤ used fs := used_mem (get_mem h)

theorem get_made_some {n : Bs} {fs : List (Bs × PF)} {f : PF} (h : get fs n = some f) : made n fs = fs := by unfold made; rw [h]; rfl
theorem get_made_none {n : Bs} {fs : List (Bs × PF)} (h : get fs n = none) : made n fs = ins n fs := by unfold made; rw [h]; rfl
theorem get_made {n : Bs} (fs : List (Bs × PF)) : ∃ f, get (made n fs) n = some f := by
  cases h : get fs n with
  | none => exact ⟨_, by rw [get_made_none h]; exact get_ins_same h⟩
  | some f => exact ⟨f, by rw [get_made_some h]; exact h⟩
theorem used_made {n : Bs} (fs : List (Bs × PF)) : used (made n fs) = used fs := by unfold made; split; rfl; exact used_ins fs
theorem rise_made {n : Bs} {fs : List (Bs × PF)} (h : Rise fs) : Rise (made n fs) := by
  cases hg : get fs n with
  | none => rw [get_made_none hg]; exact rise_ins h (get_none hg)
  | some f => rw [get_made_some hg]; exact h
theorem mem_made {n : Bs} {fs : List (Bs × PF)} {p : Bs × PF} (h : p ∈ made n fs) : p = (n, ⟨[], 0⟩) ∨ p ∈ fs := by
  unfold made at h; split at h
  · exact .inr h
  · exact mem_ins.1 h
theorem len_made {n : Bs} (fs : List (Bs × PF)) : (made n fs).length = if get fs n = none then fs.length + 1 else fs.length := by
  cases hg : get fs n with
  | none => rw [get_made_none hg, len_ins]; simp
  | some f => rw [get_made_some hg]; simp

theorem used_crash : ∀ (fs : List (Bs × PF)) (k : Nat), used (crashL k fs) ≤ used fs
  | [], _ => Nat.le_refl _
  | q :: r, k => by
    have := used_crash r (k - min k (q.2.all.length - q.2.last))
    simp only [crashL, used, crashF, List.length_take]; omega
theorem keys_crash : ∀ (fs : List (Bs × PF)) (k : Nat), (crashL k fs).map (·.1) = fs.map (·.1)
  | [], _ => rfl
  | q :: r, k => by simp [crashL, keys_crash r]
theorem last_crash : ∀ (fs : List (Bs × PF)) (k : Nat), (∀ p ∈ fs, p.2.last ≤ p.2.all.length) → ∀ p ∈ crashL k fs, p.2.last ≤ p.2.all.length
  | [], _, _, p, hp => by cases hp
  | q :: r, k, h, p, hp => by
    rcases List.mem_cons.1 hp with rfl | hp
    · have := h q List.mem_cons_self
      simp only [crashF, List.length_take]; omega
    · exact last_crash r _ (fun p hp => h p (List.mem_cons_of_mem _ hp)) p hp
theorem len_crash (fs : List (Bs × PF)) (k : Nat) : (crashL k fs).length = fs.length := by
  have := congrArg List.length (keys_crash fs k); simpa using this
theorem names_of_keys {fs gs : List (Bs × PF)} (h : fs.map (·.1) = gs.map (·.1)) (hn : ∀ p ∈ gs, p.1.length ≤ 1099511627776) : ∀ p ∈ fs, p.1.length ≤ 1099511627776 := by
  intro p hp
  have : p.1 ∈ fs.map (·.1) := List.mem_map.2 ⟨p, hp, rfl⟩
  rw [h] at this
  obtain ⟨q, hq, e⟩ := List.mem_map.1 this
  rw [← e]; exact hn q hq

theorem steps_le (P : PD) (m : Nat) : steps P m ≤ m := by unfold steps; split <;> omega
end Dk
end Go.Proofs.Ytmbjlnnoemenoaa
