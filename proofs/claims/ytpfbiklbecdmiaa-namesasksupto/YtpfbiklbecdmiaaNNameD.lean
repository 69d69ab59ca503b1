/-
  THE WALKS of package names: User, Room, Server.
  THE WALKS of package names: hostOf, User, Room, Server.
-/
import Derived.Test.YtpfbiklbecdmiaaNNameB
set_option linter.unusedVariables false
set_option linter.unusedSimpArgs false
namespace Go.Proofs.Ytpfbiklbecdmiaa
open Go.RowKit Go.Shelf

theorem index_parted : ∀ t : List UInt8, Lib.indexByte t 58 = match Nm.parted t with
    | none => -1
    | some (l, _) => (l.length : Int)
  | [] => rfl
  | c :: t => by
    have ih := index_parted t
    unfold Lib.indexByte Nm.parted
    by_cases hc : c = 58
    · simp [hc]
    · have hb : (c == 58) = false := by simp [hc]
      rw [hb, if_neg hc]
      cases hp : Nm.parted t with
      | none =>
        rw [hp] at ih
        simp only at ih
        simp [ih]
      | some x =>
        obtain ⟨l, h⟩ := x
        rw [hp] at ih
        simp only at ih
        have h1 : (Lib.indexByte t 58 == -1) = false := by rw [beq_eq_false_iff_ne, ih]; omega
        simp [h1, ih]

set_option maxRecDepth 100000 in
set_option maxHeartbeats 1000000 in
theorem index_colon (s : ByteArray) (w : World) :
    Calls Try.prog 68 #[.string s, .string ⟨#[58]⟩] w fun e w' => e = .returned (.int .i64 (Lib.indexByte s.data.toList 58)) ∧ w' = w := by
  go_enter Try.func68, Try.ntmps68
  by_cases hs : [58] = s.toList
  · have hb : ([58] == s.toList) = true := by rw [← hs]; rfl
    have HS := nhide hs
    clear hs
    go_wp2_with fail
    try rw [Exit.noGoto_ret]
    try go_wp2_with fail
    go_ret
    refine ⟨?_, rfl⟩
    rw [← Lib.toList_data, ← HS.out]
    rfl
  · have hb : ([58] == s.toList) = false := by rw [beq_eq_false_iff_ne]; exact hs
    go_wp2_with fail
    refine (Try.stringslite_IndexByte s 58 w).mono ?_
    rintro e w ⟨rfl, rfl⟩
    go_wp2_with fail
    try rw [Exit.noGoto_ret]
    try go_wp2_with fail
    go_ret
    exact ⟨rfl, rfl⟩

theorem ncut_front (s : ByteArray) (k : Nat) (h : k ≤ s.size) (w : World) : (Instr.sliceAt 9 (.string s) none (some (.int .i64 (k : Int))) none).run Try.prog w = .ok (.string (s.extract 0 k)) w := by
  have hu : (Try.prog.underlying 9) = some .string := Try.underlying9
  have h1 : (k : Int) ≤ s.size := by omega
  simp [Instr.sliceAt, Instr.slice, run_underlying hu, Instr.sliceBounds, run_sliceBound, h1]
theorem ex_front (s : ByteArray) (l h : List UInt8) (e : s.data.toList = l ++ h) : (s.extract 0 l.length).data.toList = l := by
  rw [Lib.extract_data, e]; simp
theorem ex_back (s : ByteArray) (l h : List UInt8) (c : UInt8) (e : s.data.toList = l ++ c :: h) : (s.extract (l.length + 1) s.size).data.toList = h := by
  rw [Lib.extract_data, Lib.size_eq, e]
  rw [show l ++ c :: h = (l ++ [c]) ++ h by simp, List.drop_left' (by simp)]
  apply List.take_of_length_le
  simp only [List.length_append, List.length_cons]; omega

set_option maxHeartbeats 1000000 in
theorem slcut_some (s : ByteArray) (l h : List UInt8) (w : World) (e : Nm.parted s.data.toList = some (l, h)) (hs : s.size ≤ 140737488355328) :
    Calls Try.prog 62 #[.string s, .string ⟨#[58]⟩] w fun e w' => e = .returned (.tuple #[.string (s.extract 0 l.length), .string (s.extract (l.length + 1) s.size), .bool true]) ∧ ∃ n, w' = w.drewN n := by
  have hix := index_parted s.data.toList
  rw [e] at hix
  simp only at hix
  obtain ⟨h1, _⟩ := Nm.parted_eq _ _ _ e
  have hlen : l.length + 1 ≤ s.size := by rw [Lib.size_eq, h1]; simp only [List.length_append, List.length_cons]; omega
  have hsl := ncut_front s l.length (by omega)
  have hsl2 := nm_slice s l.length hlen
  have hwq : IntKind.i64.wrap ((l.length : Int) + 1) = (l.length : Int) + 1 := by rw [IntKind.wrap_i64]; omega
  clear h1 e
  go_enter Try.func62, Try.ntmps62
  go_wp2_with fail
  refine (index_colon s w).mono ?_
  rintro e w ⟨rfl, rfl⟩
  rw [hix]
  go_wp2_with fail
  go_quiet (fail)
  go_wp2_with fail
  refine bodyPost_ret (v := .tuple #[.string (s.extract 0 l.length), .string (s.extract (l.length + 1) s.size), .bool true]) (by simp [results, Try.results62, go_sem]) rfl ?_
  exact ⟨rfl, _, rfl⟩

set_option maxHeartbeats 1000000 in
theorem slcut_none (s : ByteArray) (w : World) (e : Nm.parted s.data.toList = none) :
    Calls Try.prog 62 #[.string s, .string ⟨#[58]⟩] w fun e w' => e = .returned (.tuple #[.string s, .string ⟨#[]⟩, .bool false]) ∧ ∃ n, w' = w.drewN n := by
  have hix := index_parted s.data.toList
  rw [e] at hix
  simp only at hix
  go_enter Try.func62, Try.ntmps62
  go_wp2_with fail
  refine (index_colon s w).mono ?_
  rintro e w ⟨rfl, rfl⟩
  rw [hix]
  go_wp2_with fail
  refine bodyPost_ret (v := .tuple #[.string s, .string ⟨#[]⟩, .bool false]) (by simp [results, Try.results62, go_sem]) rfl ?_
  exact ⟨rfl, 0, rfl⟩

theorem cut_some (s : ByteArray) (l h : List UInt8) (w : World) (e : Nm.parted s.data.toList = some (l, h)) (hs : s.size ≤ 140737488355328) :
    Calls Try.prog 50 #[.string s, .string ⟨#[58]⟩] w fun e w' => (∃ A B : ByteArray, e = .returned (.tuple #[.string A, .string B, .bool true]) ∧ A.data.toList = l ∧ B.data.toList = h) ∧ ∃ n, w' = w.drewN n := by
  obtain ⟨h1, _⟩ := Nm.parted_eq _ _ _ e
  have HA := nhide (ex_front s l _ h1)
  have HB := nhide (ex_back s l h _ h1)
  go_enter Try.func50, Try.ntmps50
  go_wp2_with fail
  refine (slcut_some s l h w e hs).mono ?_
  rintro e w1 ⟨rfl, n, rfl⟩
  go_wp2_with fail
  refine bodyPost_ret (v := .tuple #[.string (s.extract 0 l.length), .string (s.extract (l.length + 1) s.size), .bool true]) (by simp [results, Try.results50, go_sem]) rfl ?_
  exact ⟨⟨_, _, rfl, HA.out, HB.out⟩, n, rfl⟩
theorem cut_none (s : ByteArray) (w : World) (e : Nm.parted s.data.toList = none) :
    Calls Try.prog 50 #[.string s, .string ⟨#[58]⟩] w fun e w' => e = .returned (.tuple #[.string s, .string ⟨#[]⟩, .bool false]) ∧ ∃ n, w' = w.drewN n := by
  go_enter Try.func50, Try.ntmps50
  go_wp2_with fail
  refine (slcut_none s w e).mono ?_
  rintro e w1 ⟨rfl, n, rfl⟩
  go_wp2_with fail
  refine bodyPost_ret (v := .tuple #[.string s, .string ⟨#[]⟩, .bool false]) (by simp [results, Try.results50, go_sem]) rfl ?_
  exact ⟨rfl, n, rfl⟩
end Go.Proofs.Ytpfbiklbecdmiaa
namespace Go.Proofs.Ytpfbiklbecdmiaa
open Go.RowKit Go.Shelf

theorem hostOf_no (c : UInt8) (s : ByteArray) (w : World) (hs : s.size ≤ 140737488355328) (hp : ¬ ∃ t, s.data.toList = c :: t) :
    Calls Try.prog 36 #[.string s, .string ⟨#[c]⟩] w fun e w' => e = .returned (.tuple #[.string ⟨#[]⟩, .bool false]) ∧ Below w.heap.size w w' := by
  have hp2 : Lib.hasPrefix s.data.toList (⟨#[c]⟩ : ByteArray).data.toList = false := by
    cases e : s.data.toList with
    | nil => rfl
    | cons d t =>
      have : ¬ c = d := fun h => hp ⟨t, by rw [e, h]⟩
      simp [Lib.hasPrefix, List.isPrefixOf, this]
  have htr : Lib.trimPrefix s.data.toList (⟨#[c]⟩ : ByteArray).data.toList = s.data.toList := by
    unfold Lib.trimPrefix
    rw [hp2]; rfl
  clear hp
  go_enter Try.func36, Try.ntmps36
  go_wp2_with fail
  refine (Try.strings_CutPrefix s _ w).mono ?_
  rintro e w ⟨rfl, rfl⟩
  rw [hp2, htr, show (⟨s.data.toList.toArray⟩ : ByteArray) = s from rfl]
  clear hp2 htr
  go_wp2_with fail
  cases hq : Nm.parted s.data.toList with
  | none =>
    refine (cut_none s w hq).mono ?_
    rintro e w1 ⟨rfl, n, rfl⟩
    go_wp2_with fail
    go_ret2
    exact ⟨rfl, below_drewN (Below.refl _ _) n⟩
  | some x =>
    obtain ⟨l, h⟩ := x
    refine (cut_some s l h w hq hs).mono ?_
    rintro e w1 ⟨⟨A, B, rfl, _, _⟩, n, rfl⟩
    go_wp2_with fail
    go_ret2
    exact ⟨rfl, below_drewN (Below.refl _ _) n⟩

set_option maxHeartbeats 1000000 in
theorem hostOf_yes (c : UInt8) (s : ByteArray) (w : World) (hs : s.size ≤ 140737488355328) (t : List UInt8) (hsl : s.data.toList = c :: t) :
    Calls Try.prog 36 #[.string s, .string ⟨#[c]⟩] w fun e w' => (∃ A is, e = .returned (.tuple #[.string A, .bool is]) ∧ A.data.toList = (Nm.hostOf c s.data.toList).getD [] ∧ is = (Nm.hostOf c s.data.toList).isSome) ∧ Below w.heap.size w w' := by
  have hp2 : Lib.hasPrefix s.data.toList (⟨#[c]⟩ : ByteArray).data.toList = true := by
    rw [hsl]; simp [Lib.hasPrefix, List.isPrefixOf]
  have htr : Lib.trimPrefix s.data.toList (⟨#[c]⟩ : ByteArray).data.toList = t := by
    unfold Lib.trimPrefix
    rw [hp2, hsl]; rfl
  have hho : Nm.hostOf c s.data.toList = match Nm.parted t with
      | none => none
      | some (l, h) => if Nm.loc l && Nm.host h then some h else none := by
    rw [hsl]; simp only [Nm.hostOf, if_true]; rfl
  have hts : (⟨t.toArray⟩ : ByteArray).size ≤ 140737488355328 := by
    have h1 := Lib.size_eq s
    rw [hsl] at h1
    show t.toArray.size ≤ _
    simp at h1 ⊢
    omega
  obtain ⟨ho, hoe⟩ : ∃ ho, ho = Nm.hostOf c s.data.toList := ⟨_, rfl⟩
  rw [← hoe]
  rw [← hoe] at hho
  have HH := nhide hho
  obtain ⟨R, hR⟩ : ∃ R : ByteArray, R = ⟨t.toArray⟩ := ⟨_, rfl⟩
  have htl : R.data.toList = t := by rw [hR]
  have HTL := nhide htl
  have HRR := nhide hR
  rw [← hR] at hts
  clear hR htl
  clear hoe hho hsl
  go_enter Try.func36, Try.ntmps36
  go_wp2_with fail
  refine (Try.strings_CutPrefix s _ w).mono ?_
  rintro e w ⟨rfl, rfl⟩
  rw [hp2, htr]
  clear hp2 htr
  rw [← HRR.out]
  go_wp2_with fail
  cases hq : Nm.parted t with
  | none =>
    have hof : ho = none := by rw [HH.out, hq]
    refine (cut_none R w (by rw [HTL.out]; exact hq)).mono ?_
    rintro e w1 ⟨rfl, n, rfl⟩
    clear hq
    go_wp2_with fail
    go_ret2
    exact ⟨⟨_, _, rfl, by rw [hof]; rfl, by rw [hof]; rfl⟩, below_drewN (Below.refl _ _) n⟩
  | some x =>
    obtain ⟨l, h⟩ := x
    have hof : ho = if Nm.loc l && Nm.host h then some h else none := by rw [HH.out, hq]
    refine (cut_some R l h w (by rw [HTL.out]; exact hq) hts).mono ?_
    rintro e w1 ⟨⟨A, B, rfl, hA, hB⟩, n, rfl⟩
    have HO := nhide hof
    have HA := nhide hA
    have HB := nhide hB
    have b1 : Below w.heap.size w (w.drewN n) := below_drewN (Below.refl _ _) n
    clear hof hA hB hq hts HH
    go_wp2_with fail
    generalize w.drewN n = W1 at b1 ⊢
    refine (with_any marksL W1).mono ?_
    rintro e w2 ⟨rfl, hc, b2⟩
    have b2' := nthen b1 b2
    clear b2
    go_wp2_with fail
    refine (madeOf_any marksL asc_L (by decide) Nm.locB may_L high_L _ A w2 hc).mono ?_
    rintro e w3 ⟨rfl, b3⟩
    have b3' := nthen b2' b3
    clear b3 hc
    cases hl : Nm.made Nm.locB A.data.toList with
    | false =>
      have hof : ho = none := by
        rw [HO.out, show Nm.loc l = false by rw [← HA.out]; exact hl]; rfl
      clear hl
      go_wp2_with fail
      go_ret2
      exact ⟨⟨_, _, rfl, by rw [hof]; rfl, by rw [hof]; rfl⟩, b3'⟩
    | true =>
      have hof : ho = if Nm.host h then some h else none := by
        rw [HO.out, show Nm.loc l = true by rw [← HA.out]; exact hl]; rfl
      have HO2 := nhide hof
      clear hl hof
      go_wp2_with fail
      refine (host_any B w3).mono ?_
      rintro e w4 ⟨rfl, b4⟩
      have b4' := nthen b3' b4
      clear b4
      cases hh : Nm.host B.data.toList with
      | false =>
        have hof : ho = none := by
          rw [HO2.out, show Nm.host h = false by rw [← HB.out]; exact hh]; rfl
        clear hh
        go_wp2_with fail
        go_ret2
        exact ⟨⟨_, _, rfl, by rw [hof]; rfl, by rw [hof]; rfl⟩, b4'⟩
      | true =>
        have hof : ho = some h := by
          rw [HO2.out, show Nm.host h = true by rw [← HB.out]; exact hh]; rfl
        have HOF := nhide hof
        clear hh hof
        go_wp2_with fail
        go_ret2
        exact ⟨⟨_, _, rfl, by rw [HOF.out, HB.out]; rfl, by rw [HOF.out]; rfl⟩, b4'⟩

theorem hostOf_any (c : UInt8) (s : ByteArray) (w : World) (hs : s.size ≤ 140737488355328) :
    Calls Try.prog 36 #[.string s, .string ⟨#[c]⟩] w fun e w' => (∃ A is, e = .returned (.tuple #[.string A, .bool is]) ∧ A.data.toList = (Nm.hostOf c s.data.toList).getD [] ∧ is = (Nm.hostOf c s.data.toList).isSome) ∧ Below w.heap.size w w' := by
  by_cases hp : ∃ t, s.data.toList = c :: t
  · obtain ⟨t, ht⟩ := hp
    exact hostOf_yes c s w hs t ht
  · have hho : Nm.hostOf c s.data.toList = none := by
      cases e : s.data.toList with
      | nil => rfl
      | cons d t => exact Nm.hostOf_other _ _ _ (fun h => hp ⟨t, by rw [e, h]⟩)
    refine (hostOf_no c s w hs hp).mono ?_
    rintro e w1 ⟨rfl, b1⟩
    rw [hho]
    exact ⟨⟨_, _, rfl, rfl, rfl⟩, b1⟩

theorem user_any (s : ByteArray) (w : World) (hs : s.size ≤ 140737488355328) :
    Calls Try.prog 20 #[.string s] w fun e w' => e = .returned (.bool (Nm.user s.data.toList)) ∧ Below w.heap.size w w' := by
  go_enter Try.func20, Try.ntmps20
  go_wp2_with fail
  refine (hostOf_any 64 s w hs).mono ?_
  rintro e w1 ⟨⟨A, is, rfl, _, h2⟩, b1⟩
  have H2 := nhide h2
  clear h2
  go_wp2_with fail
  go_ret
  exact ⟨by rw [Nm.user, ← H2.out]; rfl, b1⟩
theorem room_any (s : ByteArray) (w : World) (hs : s.size ≤ 140737488355328) :
    Calls Try.prog 21 #[.string s] w fun e w' => e = .returned (.bool (Nm.room s.data.toList)) ∧ Below w.heap.size w w' := by
  go_enter Try.func21, Try.ntmps21
  go_wp2_with fail
  refine (hostOf_any 33 s w hs).mono ?_
  rintro e w1 ⟨⟨A, is, rfl, _, h2⟩, b1⟩
  have H2 := nhide h2
  clear h2
  go_wp2_with fail
  go_ret
  exact ⟨by rw [Nm.room, ← H2.out]; rfl, b1⟩

theorem nclone_any (s : ByteArray) (w : World) (hs : s.size ≤ 281474976710656) :
    Calls Try.prog 37 #[.string s] w fun e w' => e = .returned (.string s) ∧ Below w.heap.size w w' := by
  go_enter Try.func37, Try.ntmps37
  go_wp2_with fail
  refine (Try.stringslite_Clone s w hs).mono ?_
  rintro e w1 ⟨rfl, b1⟩
  go_wp2_with fail
  go_ret
  exact ⟨rfl, b1⟩

theorem hostOf_len (c : UInt8) (s : List UInt8) : ((Nm.hostOf c s).getD []).length ≤ 40 := by
  cases h : Nm.hostOf c s with
  | none => simp
  | some x =>
    have := (Nm.hostOf_sign h).2
    simp only [Nm.host, Nm.made, Bool.and_eq_true, decide_eq_true_eq] at this
    exact this.1.2

theorem server_any (s : ByteArray) (w : World) (hs : s.size ≤ 140737488355328) :
    Calls Try.prog 22 #[.string s] w fun e w' => e = .returned (.string ⟨(Nm.server s.data.toList).toArray⟩) ∧ Below w.heap.size w w' := by
  go_enter Try.func22, Try.ntmps22
  go_wp2_with fail
  refine (hostOf_any 64 s w hs).mono ?_
  rintro e w1 ⟨⟨A, is, rfl, h1, h2⟩, b1⟩
  have hlA : A.size ≤ 40 := by rw [Lib.size_eq, h1]; exact hostOf_len _ _
  cases hu : Nm.hostOf 64 s.data.toList with
  | some h =>
    rw [hu] at h1 h2
    subst h2
    have hsv : (⟨(Nm.server s.data.toList).toArray⟩ : ByteArray) = A := by
      rw [Nm.server, hu]
      show (⟨h.toArray⟩ : ByteArray) = A
      rw [show h = A.data.toList from h1.symm]
    have HSV := nhide hsv
    clear hsv h1 hu
    go_wp2_with fail
    refine (nclone_any A w1 (by omega)).mono ?_
    rintro e w2 ⟨rfl, b2⟩
    go_wp2_with fail
    go_ret
    exact ⟨by rw [HSV.out]; rfl, nthen b1 b2⟩
  | none =>
    rw [hu] at h1 h2
    subst h2
    clear h1
    go_wp2_with fail
    refine (hostOf_any 33 s w1 hs).mono ?_
    rintro e w2 ⟨⟨A2, is2, rfl, h3, _⟩, b2⟩
    have hlA : A2.size ≤ 40 := by rw [Lib.size_eq, h3]; exact hostOf_len _ _
    have hsv : (⟨(Nm.server s.data.toList).toArray⟩ : ByteArray) = A2 := by
      rw [Nm.server, hu]
      show (⟨((Nm.hostOf 33 s.data.toList).getD []).toArray⟩ : ByteArray) = A2
      rw [← h3]
    have HSV := nhide hsv
    clear hsv h3 hu
    go_wp2_with fail
    refine (nclone_any A2 w2 (by omega)).mono ?_
    rintro e w3 ⟨rfl, b3⟩
    go_wp2_with fail
    go_ret
    exact ⟨by rw [HSV.out]; rfl, nthen (nthen b1 b2) b3⟩
end Go.Proofs.Ytpfbiklbecdmiaa
