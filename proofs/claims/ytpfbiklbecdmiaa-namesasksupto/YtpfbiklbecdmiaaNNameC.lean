/-
  THE WALKS of package names: User, Room, Server.
-/
import Derived.Test.YtpfbiklbecdmiaaNNameB
set_option linter.unusedVariables false
set_option linter.unusedSimpArgs false
namespace Go.Proofs.Ytpfbiklbecdmiaa
open Go.RowKit Go.Shelf

theorem index_parted : ∀ t : List UInt8, Lib.indexByte t 58 = match Nm.parted t with
    | none => -1
    | some (l, _) => (l.length : Int)
  | [] => rfl
  | c :: t => by
    have ih := index_parted t
    unfold Lib.indexByte Nm.parted
    by_cases hc : c = 58
    · simp [hc]
    · have hb : (c == 58) = false := by simp [hc]
      rw [hb, if_neg hc]
      cases hp : Nm.parted t with
      | none =>
        rw [hp] at ih
        simp only at ih
        simp [ih]
      | some x =>
        obtain ⟨l, h⟩ := x
        rw [hp] at ih
        simp only at ih
        have h1 : (Lib.indexByte t 58 == -1) = false := by rw [beq_eq_false_iff_ne, ih]; omega
        simp [h1, ih]

set_option maxRecDepth 100000 in
set_option maxHeartbeats 1000000 in
theorem index_colon (s : ByteArray) (w : World) :
    Calls Try.prog 68 #[.string s, .string ⟨#[58]⟩] w fun e w' => e = .returned (.int .i64 (Lib.indexByte s.data.toList 58)) ∧ w' = w := by
  go_enter Try.func68, Try.ntmps68
  by_cases hs : [58] = s.toList
  · have hb : ([58] == s.toList) = true := by rw [← hs]; rfl
    have HS := nhide hs
    clear hs
    go_wp2_with fail
    try rw [Exit.noGoto_ret]
    try go_wp2_with fail
    go_ret
    refine ⟨?_, rfl⟩
    rw [← Lib.toList_data, ← HS.out]
    rfl
  · have hb : ([58] == s.toList) = false := by rw [beq_eq_false_iff_ne]; exact hs
    go_wp2_with fail
    refine (Try.stringslite_IndexByte s 58 w).mono ?_
    rintro e w ⟨rfl, rfl⟩
    go_wp2_with fail
    try rw [Exit.noGoto_ret]
    try go_wp2_with fail
    go_ret
    exact ⟨rfl, rfl⟩

theorem ncut_front (s : ByteArray) (k : Nat) (h : k ≤ s.size) (w : World) : (Instr.sliceAt 9 (.string s) none (some (.int .i64 (k : Int))) none).run Try.prog w = .ok (.string (s.extract 0 k)) w := by
  have hu : (Try.prog.underlying 9) = some .string := Try.underlying9
  have h1 : (k : Int) ≤ s.size := by omega
  simp [Instr.sliceAt, Instr.slice, run_underlying hu, Instr.sliceBounds, run_sliceBound, h1]
theorem ex_front (s : ByteArray) (l h : List UInt8) (e : s.data.toList = l ++ h) : (s.extract 0 l.length).data.toList = l := by
  rw [Lib.extract_data, e]; simp
theorem ex_back (s : ByteArray) (l h : List UInt8) (c : UInt8) (e : s.data.toList = l ++ c :: h) : (s.extract (l.length + 1) s.size).data.toList = h := by
  rw [Lib.extract_data, Lib.size_eq, e]
  rw [show l ++ c :: h = (l ++ [c]) ++ h by simp, List.drop_left' (by simp)]
  apply List.take_of_length_le
  simp only [List.length_append, List.length_cons]; omega

set_option maxHeartbeats 1000000 in
theorem slcut_some (s : ByteArray) (l h : List UInt8) (w : World) (e : Nm.parted s.data.toList = some (l, h)) (hs : s.size ≤ 140737488355328) :
    Calls Try.prog 62 #[.string s, .string ⟨#[58]⟩] w fun e w' => e = .returned (.tuple #[.string (s.extract 0 l.length), .string (s.extract (l.length + 1) s.size), .bool true]) ∧ ∃ n, w' = w.drewN n := by
  have hix := index_parted s.data.toList
  rw [e] at hix
  simp only at hix
  obtain ⟨h1, _⟩ := Nm.parted_eq _ _ _ e
  have hlen : l.length + 1 ≤ s.size := by rw [Lib.size_eq, h1]; simp only [List.length_append, List.length_cons]; omega
  have hsl := ncut_front s l.length (by omega)
  have hsl2 := nm_slice s l.length hlen
  have hwq : IntKind.i64.wrap ((l.length : Int) + 1) = (l.length : Int) + 1 := by rw [IntKind.wrap_i64]; omega
  clear h1 e
  go_enter Try.func62, Try.ntmps62
  go_wp2_with fail
  refine (index_colon s w).mono ?_
  rintro e w ⟨rfl, rfl⟩
  rw [hix]
  go_wp2_with fail
  go_quiet (fail)
  go_wp2_with fail
  refine bodyPost_ret (v := .tuple #[.string (s.extract 0 l.length), .string (s.extract (l.length + 1) s.size), .bool true]) (by simp [results, Try.results62, go_sem]) rfl ?_
  exact ⟨rfl, _, rfl⟩

set_option maxHeartbeats 1000000 in
theorem slcut_none (s : ByteArray) (w : World) (e : Nm.parted s.data.toList = none) :
    Calls Try.prog 62 #[.string s, .string ⟨#[58]⟩] w fun e w' => e = .returned (.tuple #[.string s, .string ⟨#[]⟩, .bool false]) ∧ ∃ n, w' = w.drewN n := by
  have hix := index_parted s.data.toList
  rw [e] at hix
  simp only at hix
  go_enter Try.func62, Try.ntmps62
  go_wp2_with fail
  refine (index_colon s w).mono ?_
  rintro e w ⟨rfl, rfl⟩
  rw [hix]
  go_wp2_with fail
  refine bodyPost_ret (v := .tuple #[.string s, .string ⟨#[]⟩, .bool false]) (by simp [results, Try.results62, go_sem]) rfl ?_
  exact ⟨rfl, 0, rfl⟩

theorem cut_some (s : ByteArray) (l h : List UInt8) (w : World) (e : Nm.parted s.data.toList = some (l, h)) (hs : s.size ≤ 140737488355328) :
    Calls Try.prog 50 #[.string s, .string ⟨#[58]⟩] w fun e w' => (∃ A B : ByteArray, e = .returned (.tuple #[.string A, .string B, .bool true]) ∧ A.data.toList = l ∧ B.data.toList = h) ∧ ∃ n, w' = w.drewN n := by
  obtain ⟨h1, _⟩ := Nm.parted_eq _ _ _ e
  have HA := nhide (ex_front s l _ h1)
  have HB := nhide (ex_back s l h _ h1)
  go_enter Try.func50, Try.ntmps50
  go_wp2_with fail
  refine (slcut_some s l h w e hs).mono ?_
  rintro e w1 ⟨rfl, n, rfl⟩
  go_wp2_with fail
  refine bodyPost_ret (v := .tuple #[.string (s.extract 0 l.length), .string (s.extract (l.length + 1) s.size), .bool true]) (by simp [results, Try.results50, go_sem]) rfl ?_
  exact ⟨⟨_, _, rfl, HA.out, HB.out⟩, n, rfl⟩
theorem cut_none (s : ByteArray) (w : World) (e : Nm.parted s.data.toList = none) :
    Calls Try.prog 50 #[.string s, .string ⟨#[58]⟩] w fun e w' => e = .returned (.tuple #[.string s, .string ⟨#[]⟩, .bool false]) ∧ ∃ n, w' = w.drewN n := by
  go_enter Try.func50, Try.ntmps50
  go_wp2_with fail
  refine (slcut_none s w e).mono ?_
  rintro e w1 ⟨rfl, n, rfl⟩
  go_wp2_with fail
  refine bodyPost_ret (v := .tuple #[.string s, .string ⟨#[]⟩, .bool false]) (by simp [results, Try.results50, go_sem]) rfl ?_
  exact ⟨rfl, n, rfl⟩
end Go.Proofs.Ytpfbiklbecdmiaa
