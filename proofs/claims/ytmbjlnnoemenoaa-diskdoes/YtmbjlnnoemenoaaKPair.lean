/-
  Two disks side by side; the laws' names and Heavy (layer 9).
-/
import Derived.Test.YtmbjlnnoemenoaaKCopy
import Derived.Test.YtmbjlnnoemenoaaKDeed
set_option linter.unusedVariables false
set_option linter.unusedSimpArgs false
set_option maxRecDepth 100000
namespace Go.Proofs.Ytmbjlnnoemenoaa
open Go.RowKit Go.Maps Dk

/-- two disks of the call's own, apart -/
def St2 (B : Nat) (w0 w : World) (d : Nat) (P : PD) (c : Nat) (Q : PD) : Prop :=
  ∃ S T, IsD w d S P ∧ IsD w c T Q ∧ (∀ k, S k → ¬ T k) ∧ Below B w0 w ∧ (∀ k, S k → B ≤ k) ∧ (∀ k, T k → B ≤ k) ∧ B ≤ w.heap.size
theorem IsD.low {w : World} {d : Nat} {S : Nat → Prop} {P : PD} (h : IsD w d S P) : ∀ k, S k → k < w.heap.size := by obtain ⟨_, _, h⟩ := h; exact h.low
theorem St2.swap {B : Nat} {w0 w : World} {d c : Nat} {P Q : PD} (h : St2 B w0 w d P c Q) : St2 B w0 w c Q d P := by
  obtain ⟨S, T, h1, h2, h3, h4, h5, h6, h7⟩ := h
  exact ⟨T, S, h2, h1, fun k ht hs => h3 k hs ht, h4, h6, h5, h7⟩
theorem St2.below {B : Nat} {w0 w w' : World} {d c : Nat} {P Q : PD} (h : St2 B w0 w d P c Q) (k : Below w.heap.size w w') : St2 B w0 w' d P c Q := by
  obtain ⟨S, T, h1, h2, h3, h4, h5, h6, h7⟩ := h
  exact ⟨S, T, h1.below k, h2.below k, h3, h4.trans (k.mono h7), h5, h6, Nat.le_trans h7 k.size⟩
theorem St2.out {B : Nat} {w0 w : World} {d c : Nat} {P Q : PD} (h : St2 B w0 w d P c Q) : Below B w0 w := by obtain ⟨_, _, _, _, _, h, _⟩ := h; exact h
theorem St2.one {B : Nat} {w0 w : World} {d c : Nat} {P Q : PD} (h : St2 B w0 w d P c Q) : St B w0 w d P := by
  obtain ⟨S, T, h1, h2, h3, h4, h5, h6, h7⟩ := h
  exact ⟨S, h1, h4, h5, h7⟩
/-- a call on the first disk -/
theorem St2.call {B : Nat} {w0 w : World} {d c : Nat} {P Q : PD} (h : St2 B w0 w d P c Q) {f : FuncId} {args : Array Value} {R : Ending → Prop} {P' : PD}
    (hc : ∀ S, IsD w d S P → Calls Try.prog f args w fun e w' => R e ∧ ∃ S', IsD w' d S' P' ∧ Turn S w S' w') :
    Calls Try.prog f args w fun e w' => R e ∧ St2 B w0 w' d P' c Q := by
  obtain ⟨S, T, h1, h2, h3, h4, h5, h6, h7⟩ := h
  refine (hc S h1).mono ?_
  rintro e w' ⟨hr, S', hd, ht⟩
  refine ⟨hr, S', T, hd, h2.keep ht.ch (fun i hi hs => h3 i hs hi), fun k hk hT => ?_, ht.ch.below h4 h7 h5, fun k hk => ?_, h6, Nat.le_trans h7 ht.ch.size⟩
  · rcases ht.sub k hk with h | h
    · exact h3 k h hT
    · have := h2.low k hT; omega
  · rcases ht.sub k hk with h | h
    · exact h5 k h
    · omega
theorem append_st2 {B : Nat} {w0 w : World} {d c : Nat} {P Q : PD} (h : St2 B w0 w d P c Q) (n b : ByteArray) (hn : n.size ≤ 1099511627776) :
    Calls Try.prog 16 #[ptr d, .string n, .string b] w fun e w' => e = .returned (.int .u16 ((append P (bs n) (bs b)).1 : Nat)) ∧ St2 B w0 w' d (append P (bs n) (bs b)).2 c Q :=
  h.call fun S ⟨mv, A, hd⟩ => append_any P mv A d S n b w hd hn
theorem sync_st2 {B : Nat} {w0 w : World} {d c : Nat} {P Q : PD} (h : St2 B w0 w d P c Q) (n : ByteArray) (hn : n.size ≤ 1099511627776) :
    Calls Try.prog 17 #[ptr d, .string n] w fun e w' => e = .returned (.int .u16 ((sync P (bs n)).1 : Nat)) ∧ St2 B w0 w' d (sync P (bs n)).2 c Q :=
  h.call fun S hd => sync_any P d S n w hd hn
theorem cut_st2 {B : Nat} {w0 w : World} {d c : Nat} {P Q : PD} (h : St2 B w0 w d P c Q) (n : ByteArray) (m : Int) (hn : n.size ≤ 1099511627776) :
    Calls Try.prog 23 #[ptr d, .string n, .int .i64 m] w fun e w' => e = .returned (.int .u16 ((cut P (bs n) m).1 : Nat)) ∧ St2 B w0 w' d (cut P (bs n) m).2 c Q :=
  h.call fun S hd => cut_any P d S n m w hd hn
theorem copy_st {B : Nat} {w0 w : World} {d : Nat} {P : PD} (h : St B w0 w d P) :
    Calls Try.prog 25 #[ptr d] w fun e w' => ∃ c, e = .returned (ptr c) ∧ St2 B w0 w' d P c P := by
  obtain ⟨S, hd, hb, hs, hB⟩ := h
  refine (copy_any P d S w hd).mono ?_
  rintro e w' ⟨c, T, rfl, hc, ht, hbl⟩
  exact ⟨c, rfl, S, T, hd.below hbl, hc, fun k hk hT => by have h1 := hd.low k hk; have h2 := ht k hT; omega, hb.trans (hbl.mono hB), hs, fun k hk => Nat.le_trans hB (ht k hk), Nat.le_trans hB hbl.size⟩

/-- the laws' names -/
def nms : List ByteArray := [⟨#[108, 111, 103]⟩, ⟨#[98]⟩, ⟨#[97]⟩, ⟨#[99]⟩, ⟨#[100]⟩, ⟨#[]⟩]
theorem nms_small : ∀ n ∈ nms, n.size ≤ 1099511627776 := by
  intro n hn
  simp only [nms, List.mem_cons, List.mem_nil_iff, or_false] at hn
  rcases hn with h | h | h | h | h | h <;> subst h <;> decide
theorem nms_one : ∀ n ∈ nms, bs n ≠ [111, 110, 101] := by
  intro n hn
  simp only [nms, List.mem_cons, List.mem_nil_iff, or_false] at hn
  rcases hn with h | h | h | h | h | h <;> subst h <;> decide

set_option maxHeartbeats 1000000 in
theorem file_any (a : Int) (h : 0 ≤ a ∧ a < 256) (w : World) :
    Calls Try.prog 26 #[.int .u8 a] w fun e w' => (∃ nm ∈ nms, e = .returned (.string nm)) ∧ Below w.heap.size w w' := by
  obtain ⟨q, hq, hq6⟩ : ∃ q : Nat, a.tmod 6 = q ∧ q < 6 := ⟨(a.tmod 6).toNat, by rw [Int.tmod_eq_emod_of_nonneg h.1]; omega, by rw [Int.tmod_eq_emod_of_nonneg h.1]; omega⟩
  have hqi : (q : Int) < 6 := by omega
  obtain ⟨nm, hmem, hcell⟩ : ∃ nm ∈ nms, (w.alloc (.cells #[.string ⟨#[108, 111, 103]⟩, .string ⟨#[98]⟩, .string ⟨#[97]⟩, .string ⟨#[99]⟩, .string ⟨#[100]⟩, .string ⟨#[]⟩] 9)).cell? ⟨w.heap.size, q, none⟩ = some (.string nm) := by
    have hb := Blk.new w #[.string ⟨#[108, 111, 103]⟩, .string ⟨#[98]⟩, .string ⟨#[97]⟩, .string ⟨#[99]⟩, .string ⟨#[100]⟩, .string ⟨#[]⟩] 9
    rcases q with _ | _ | _ | _ | _ | _ | q
    · exact ⟨_, by simp [nms], hb.cell 0⟩
    · exact ⟨_, by simp [nms], hb.cell 1⟩
    · exact ⟨_, by simp [nms], hb.cell 2⟩
    · exact ⟨_, by simp [nms], hb.cell 3⟩
    · exact ⟨_, by simp [nms], hb.cell 4⟩
    · exact ⟨_, by simp [nms], hb.cell 5⟩
    · omega
  go_enter Try.func26, Try.ntmps26
  go_wp2_with fail
  go_ret
  exact ⟨⟨nm, hmem, rfl⟩, (Below.refl _ _).alloc (Nat.le_refl _) _⟩

set_option maxHeartbeats 1000000 in
theorem heavy_any (a : Option Addr) (cap : Nat) (l : List Dd) (w : World) (hl : Dds w a l) (hc : l.length ≤ cap) (hm : cap ≤ maxLen) :
    Calls Try.prog 12 #[.slice a l.length cap] w fun e w' => (∃ h : Int, e = .returned (.int .i64 h)) ∧ w' = w := by
  unfold maxLen at hm
  obtain ⟨len, hlen⟩ : ∃ len, len = l.length := ⟨_, rfl⟩
  rw [← hlen] at hc ⊢
  have HL := hide hl
  have HLN := hide hlen
  clear hl hlen
  go_enter Try.func12, Try.ntmps12
  go_wp2_with fail
  go_loop [3, 4] (fun v i => ∃ (x : Int) (k : Nat), v = .int .i64 x ∧ i = .int .i64 k ∧ k ≤ len) (fun _ i => len - (intOf i).toNat)
  case atStart => exact ⟨0, 0, rfl, rfl, Nat.zero_le _⟩
  case round =>
    obtain ⟨x, k, rfl, rfl, hk⟩ := hrel
    by_cases hlt : k < len
    · have hli : (k : Int) < len := by omega
      by_cases hx : x ≤ 1000
      · obtain ⟨b, off, rfl, _, _, _, h3⟩ := HL.out.2 k (by have := HLN.out; omega)
        generalize l[k].b = B at h3
        go_wp2_with fail
        go_round
        case rel => exact ⟨_, k + 1, rfl, by go_num, by omega⟩
        case measure => simp [intOf]; omega
      · go_wp2_with fail
        go_ret
        exact ⟨⟨x, rfl⟩, rfl⟩
    · have hnl : ¬ ((k : Int) < len) := by omega
      go_wp2_with fail
      go_ret
      exact ⟨⟨x, rfl⟩, rfl⟩
end Go.Proofs.Ytmbjlnnoemenoaa
