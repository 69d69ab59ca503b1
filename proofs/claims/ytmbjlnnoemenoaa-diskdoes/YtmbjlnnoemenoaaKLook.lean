/-
  THE WALKS of disk's standing, New, Fuse, Used (layer 9).
-/
import Derived.Test.YtmbjlnnoemenoaaKPut
import Derived.Sort.EncStr
import Derived.Maps.RangeWalk
import Derived.Laws.IdiomRangeMap
import Derived.LoopN
set_option linter.unusedVariables false
set_option linter.unusedSimpArgs false
set_option maxRecDepth 100000
namespace Go.Proofs.Ytmbjlnnoemenoaa
open Go.RowKit Go.Maps Dk

abbrev bs (s : ByteArray) : Bs := s.data.toList
/-- what stands at a name -/
def atF (A : Bs → Nat) (fs : List (Bs × PF)) (n : Bs) : Value := match get fs n with | some _ => ptr (A n) | none => .pointer none
theorem atF_some {A : Bs → Nat} {fs : List (Bs × PF)} {n : Bs} {f : PF} (h : get fs n = some f) : atF A fs n = ptr (A n) := by unfold atF; rw [h]
theorem atF_none {A : Bs → Nat} {fs : List (Bs × PF)} {n : Bs} (h : get fs n = none) : atF A fs n = .pointer none := by unfold atF; rw [h]
theorem zeroP (w : World) : (zeroValue 57).run Try.prog w = .ok (.pointer none) w := by kernel_rfl
theorem look_any {w : World} {S : Nat → Prop} {mv : Value} {A : Bs → Nat} {fs : List (Bs × PF)} (h : MapAt w S mv A fs) (n : ByteArray) (hn : n.size ≤ maxLen) :
    (Instr.lookup 54 mv (.string n) false).run Try.prog w = .ok (atF A fs (bs n)) w := by
  rcases h with ⟨rfl, rfl⟩ | ⟨m, rfl, _, ho⟩
  · exact Maps.look_nil false lawS Try.underlying54 (zeroP w) (keyS hn)
  · obtain ⟨v, ps, hrun, hv⟩ := ho.lookup lawS Try.underlying54 (zeroP w) (zd := .held (.pointer none)) (zp := []) rfl (keyS hn)
    rw [hrun, at_dat] at *
    have hv' : DataW.held v = _ := congrArg Prod.fst (Option.some.inj hv)
    unfold atF
    cases hg : get fs (bs n) with
    | none => rw [hg] at hv'; exact congrArg (Result.ok · w) (DataW.held.inj hv')
    | some f => rw [hg] at hv'; exact congrArg (Result.ok · w) (DataW.held.inj hv')

def stF (P : PD) (A : Bs → Nat) (n : Bs) : Value := if P.dead then .pointer none else atF A P.fs n
def stE (P : PD) (n : Bs) : Int := if P.dead then 21 else if (get P.fs n).isSome then 0 else 31

set_option maxHeartbeats 1000000 in
theorem standing_any (P : PD) (mv : Value) (A : Bs → Nat × Value) (d : Nat) (S : Nat → Prop) (n : ByteArray) (w : World) (h : IsA w d S P mv A) (hn : n.size ≤ maxLen) :
    Calls Try.prog 34 #[ptr d, .string n] w fun e w' => e = .returned (.tuple #[stF P (fun n => (A n).1) (bs n), .int .u16 (stE P (bs n))]) ∧ w' = w := by
  have hl := look_any h.map n hn
  have c1 := h.blk.cell 1
  simp [head] at c1
  have HBL := hide h.blk
  clear h
  cases hd : P.dead with
  | true =>
    have HE := hide hd
    go_enter Try.func34, Try.ntmps34
    go_wp2_with fail
    refine (dead_any P mv d w HBL.out).mono ?_
    rintro e w ⟨rfl, rfl⟩
    rw [HE.out]
    go_wp2_with fail
    go_ret2
    exact ⟨by unfold stF stE; rw [HE.out]; rfl, rfl⟩
  | false =>
    have HE := hide hd
    clear hd
    cases hg : get P.fs (bs n) with
    | none =>
      rw [atF_none hg] at hl
      have HG := hide hg
      clear hg
      go_enter Try.func34, Try.ntmps34
      go_wp2_with fail
      refine (dead_any P mv d w HBL.out).mono ?_
      rintro e w ⟨rfl, rfl⟩
      rw [HE.out]
      go_wp2_with fail
      go_ret2
      exact ⟨by unfold stF stE; rw [HE.out, atF_none HG.out, HG.out]; rfl, rfl⟩
    | some f =>
      rw [atF_some hg] at hl
      have HG := hide hg
      clear hg
      go_enter Try.func34, Try.ntmps34
      go_wp2_with fail
      refine (dead_any P mv d w HBL.out).mono ?_
      rintro e w ⟨rfl, rfl⟩
      rw [HE.out]
      go_wp2_with fail
      go_ret2
      exact ⟨by unfold stF stE; rw [HE.out, atF_some HG.out, HG.out]; rfl, rfl⟩

set_option maxHeartbeats 1000000 in
theorem new_any (room : Int) (w : World) (hr : -9223372036854775808 ≤ room ∧ room < 9223372036854775808) :
    Calls Try.prog 15 #[.int .i64 room] w fun e w' => e = .returned (ptr w.heap.size) ∧ IsD w' w.heap.size (fun k => k = w.heap.size) (new room) ∧ Below w.heap.size w w' := by
  have E : Hid (min (max room 0) 4194304 = (((min (max room 0) 4194304).toNat : Nat) : Int)) := by
    show min (max room 0) 4194304 = (((min (max room 0) 4194304).toNat : Nat) : Int)
    omega
  clear hr
  go_enter Try.func15, Try.ntmps15
  go_wp2_with fail
  go_ret
  refine ⟨rfl, ⟨.map none, fun _ => (0, .slice none 0 0), ⟨⟨?_, Nat.zero_le _, List.Pairwise.nil, by simp [new], Nat.zero_le _, by simp [new], by simp [new]⟩, ?_, rfl, ?_, .inl ⟨rfl, rfl⟩, by simp [new], by intro p hp; simp [new] at hp⟩⟩, (Below.refl _ _).alloc (Nat.le_refl _) _⟩
  · simp only [new]; omega
  · have := Blk.new w #[.int .i64 (min (max room 0) 4194304), .map none, .bool false, .int .i64 0, .bool false] 56
    have e := E.out
    simp only [head, new, ← e]
    exact this
  · rintro k rfl; simp

set_option maxHeartbeats 1000000 in
theorem fuse_any (P : PD) (d : Nat) (S : Nat → Prop) (n : Int) (w : World) (h : IsD w d S P) (hn : n < 9223372036854775808) :
    Calls Try.prog 18 #[ptr d, .int .i64 n] w fun e w' => e = .returned (.tuple #[]) ∧ IsD w' d S (fuse P n) ∧ Turn S w S w' := by
  obtain ⟨mv, A, h⟩ := h
  have f2 := h.blk.free 2
  have f3 := h.blk.free 3
  have c2 := h.blk.cell 2
  have c3 := h.blk.cell 3
  simp [head] at c2 c3
  have H := hide h
  clear h
  go_enter Try.func18, Try.ntmps18
  go_wp2_with fail
  go_end0
  have hch : Ch (fun k => k = d) w ((w.setCell ⟨d, 2, none⟩ (.bool (decide (0 ≤ n)))).setCell ⟨d, 3, none⟩ (.int .i64 (max n 0))) := (Ch.set d 2 _).trans (Ch.set d 3 _) (fun i hi => .inl hi)
  refine ⟨rfl, ⟨mv, A, H.out.turned hch rfl rfl (by simp only [fuse]; omega) ?_⟩, hch.weak (fun i _ hi => hi ▸ H.out.inS), fun k hk => .inl hk⟩
  have := (H.out.blk.set 2 (.bool (decide (0 ≤ n)))).set 3 (.int .i64 (max n 0))
  have e : max n 0 = ((n.toNat : Nat) : Int) := by omega
  rw [e] at this ⊢
  simpa [head, fuse] using this
theorem fuse_nil (n : Int) (w : World) :
    Calls Try.prog 18 #[.pointer none, .int .i64 n] w fun e w' => e = .returned (.tuple #[]) ∧ w' = w := by
  go_enter Try.func18, Try.ntmps18
  go_wp2_with fail
  go_end0
  exact ⟨rfl, rfl⟩
end Go.Proofs.Ytmbjlnnoemenoaa
