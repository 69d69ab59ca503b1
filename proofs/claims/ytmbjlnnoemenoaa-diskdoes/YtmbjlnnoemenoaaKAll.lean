/-
  THE WALKS of does and DiskDoes (layer 9).
-/
import Derived.Test.YtmbjlnnoemenoaaKSame
set_option linter.unusedVariables false
set_option linter.unusedSimpArgs false
set_option maxRecDepth 100000
namespace Go.Proofs.Ytmbjlnnoemenoaa
open Go.RowKit Go.Maps Dk

theorem Dds.below {W W' : World} {a : Option Addr} {l : List Dd} (h : Dds W a l) (k : Below W.heap.size W W') : Dds W' a l := by
  have key : ∀ b j v, W.cell? ⟨b, j, none⟩ = some v → W'.cell? ⟨b, j, none⟩ = some v := fun b j v hc => by
    rw [k.cell (p := ⟨b, j, none⟩) (by
      show b < W.heap.size
      rcases Nat.lt_or_ge b W.heap.size with h1 | h1
      · exact h1
      · simp [World.cell?, Array.getElem?_eq_none h1] at hc)]
    exact hc
  refine ⟨h.1, fun i hi => ?_⟩
  obtain ⟨b, off, rfl, g0, g1, g2, g3⟩ := h.2 i hi
  exact ⟨b, off, rfl, key _ _ _ g0, key _ _ _ g1, key _ _ _ g2, key _ _ _ g3⟩
theorem Tz.start {w w1 w2 : World} {P : PD} {d e : Nat} (hd : IsD w1 d (fun k => k = d) P) (b1 : Below w.heap.size w w1) (he : IsE w2 e (fun k => k = e) P) (b2 : Below w1.heap.size w1 w2) (hdw : w.heap.size ≤ d) (hew : w1.heap.size ≤ e) :
    Tz w.heap.size w (w2.alloc (.cells #[ptr d, ptr e] 52)) w2.heap.size w2.heap.size d e (.cells #[ptr d, ptr e] 52 (0, 0)) P P := by
  have b3 := below_alloc w2 (.cells #[ptr d, ptr e] 52)
  have hn := Blk.new w2 #[ptr d, ptr e] 52
  have q1 := hd.low d rfl
  have q2 := he.low e rfl
  have q3 := b1.size
  have q4 := b2.size
  refine ⟨fun k => k = d, fun k => k = e, hn, hn, (hd.below b2).below b3, he.below b3, ?_, ?_, ?_, ?_, ?_, bthen0 (bthen0 b1 b2) b3, ?_, ?_, by omega, by simp; omega⟩
  · intro k h1 h2; omega
  · intro h1; omega
  · intro h1; omega
  · intro h1; omega
  · intro h1; omega
  · intro k h1; omega
  · intro k h1; omega

set_option maxHeartbeats 8000000 in
theorem does_any (room : Int) (hr : -9223372036854775808 ≤ room ∧ room < 9223372036854775808) (a : Option Addr) (cap : Nat) (l : List Dd) (hlc : l.length ≤ cap) (hcm : cap ≤ maxLen) (hbz : ∀ x ∈ l, x.b.size ≤ 140737488355328) (w : World) (hl : Dds w a l) :
    Calls Try.prog 14 #[.int .i64 room, .slice a l.length cap] w fun r w' => r = .returned (.bool true) ∧ Below w.heap.size w w' := by
  unfold maxLen at hcm
  obtain ⟨len, hlen⟩ : ∃ len, len = l.length := ⟨_, rfl⟩
  rw [← hlen] at hlc ⊢
  have HL := hide hl
  have HLN := hide hlen
  have HBZ := hide hbz
  clear hl hlen hbz
  go_enter Try.func14, Try.ntmps14
  go_wp2_with fail
  refine (new_any room w hr).mono ?_
  rintro r w1 ⟨rfl, hd, b1⟩
  have HD := hide hd
  have HB1 := hide b1
  clear hd b1
  go_wp2_with fail
  refine (rnew_any room w1 hr).mono ?_
  rintro r w2 ⟨rfl, he, b2⟩
  have hz := Tz.start HD.out HB1.out he b2 (Nat.le_refl _) (Nat.le_refl _)
  have HZ0 := hide hz
  have k0 := hz.blk.cell 0
  simp at k0
  clear he b2 hz
  obtain ⟨d0, hd0⟩ : ∃ d0, d0 = w.heap.size := ⟨_, rfl⟩
  obtain ⟨e0, he0⟩ : ∃ e0, e0 = w1.heap.size := ⟨_, rfl⟩
  obtain ⟨t, ht⟩ : ∃ t, t = w2.heap.size := ⟨_, rfl⟩
  go_wp2_with fail
  go_loopw [6] (fun i wr => ∃ (k d e : Nat) (P : PD), i = .int .i64 k ∧ k ≤ len ∧ Hid (Tz w.heap.size w wr w2.heap.size w2.heap.size d e (.cells #[ptr d, ptr e] 52 (0, 0)) P P)) (fun i _ => len - (intOf i).toNat)
  case atStart => exact ⟨0, _, _, _, rfl, Nat.zero_le _, HZ0⟩
  case round =>
    obtain ⟨k, d, e, P, rfl, hk, HZ⟩ := hrel
    by_cases hlt : k < len
    · have hli : (k : Int) < len := by omega
      have hkl : k < l.length := by have := HLN.out; omega
      obtain ⟨b, off, rfl, g0, g1, g2, g3⟩ := (HL.out.below HZ.out.out).2 k hkl
      have hok := HL.out.1 _ (List.getElem_mem hkl)
      have hb := HBZ.out _ (List.getElem_mem hkl)
      generalize l[k] = x at g0 g1 g2 g3 hok hb
      obtain ⟨kd, ka, kn, kb⟩ := x
      obtain ⟨o1, o2, o3⟩ := hok
      simp only at g0 g1 g2 g3 o1 o2 o3 hb
      clear k0
      go_wp2_with fail
      refine (tdoes_any w.heap.size w _ w2.heap.size d e P kd ka kn kb o1 o2 o3 hb HZ.out).mono ?_
      rintro r w5 ⟨rfl, d', e', P', hz5⟩
      have HZ5 := hide hz5
      clear hz5 g0 g1 g2 g3
      go_wp2_with fail
      refine (tsame_any w.heap.size w w5 w2.heap.size d' e' P' HZ5.out).mono ?_
      rintro r w6 ⟨rfl, b6⟩
      have HZ6 := hide (HZ5.out.below b6)
      clear b6
      go_wp2_with fail
      go_roundw
      case rel => exact ⟨k + 1, d', e', P', by go_num, by omega, HZ6⟩
      case measure => simp [intOf]; omega
    · have hnl : ¬ ((k : Int) < len) := by omega
      clear k0
      go_wp2_with fail
      refine (tsame_any w.heap.size w _ w2.heap.size d e P HZ.out).mono ?_
      rintro r w6 ⟨rfl, b6⟩
      have hfin := (HZ.out.below b6).out
      have HF := hide hfin
      clear hfin b6
      go_wp2_with fail
      go_ret
      exact ⟨rfl, HF.out⟩

set_option maxHeartbeats 4000000 in
theorem diskDoes_walk (a0 : Int) (hr : -9223372036854775808 ≤ a0 ∧ a0 < 9223372036854775808) (a1 : Int) (h1 : 0 ≤ a1 ∧ a1 < 256) (a : Option Addr) (cap : Nat) (l : List Dd) (hlc : l.length ≤ cap) (hcm : cap ≤ maxLen) (hbz : ∀ x ∈ l, x.b.size ≤ 140737488355328) (w : World) (hl : Dds w a l) :
    Calls Try.prog 3 #[.int .i64 a0, .int .u8 a1, .slice a l.length cap] w fun r w' => r = .returned (.bool true) ∧ Below w.heap.size w w' := by
  have HH := hide (fun w (h : Dds w a l) => heavy_any a cap l w h hlc hcm)
  have HD := hide (fun room hr w (h : Dds w a l) => does_any room hr a cap l hlc hcm hbz w h)
  have HL := hide hl
  clear hl hlc hcm hbz
  go_enter Try.func3, Try.ntmps3
  go_wp2_with fail
  refine (HH.out w HL.out).mono ?_
  rintro r w1 ⟨⟨h, rfl⟩, rfl⟩
  by_cases hh : 500 < h
  · go_wp2_with fail
    refine (known_any _).mono ?_
    rintro r w2 ⟨rfl, b2⟩
    have HB := hide b2
    clear b2
    go_wp2_with fail
    go_ret
    exact ⟨rfl, HB.out⟩
  · go_wp2_with fail
    refine (known_any _).mono ?_
    rintro r w2 ⟨rfl, b2⟩
    have HB := hide b2
    clear b2
    go_wp2_with fail
    refine (HD.out a0 hr w2 (HL.out.below HB.out)).mono ?_
    rintro r w3 ⟨rfl, b3⟩
    have HB3 := hide (bthen0 HB.out b3 HB.out.size)
    clear b3
    go_wp2_with fail
    refine (HD.out a1 (by omega) w3 (HL.out.below HB3.out)).mono ?_
    rintro r w4 ⟨rfl, b4⟩
    have HB4 := hide (bthen0 HB3.out b4 HB3.out.size)
    clear b4
    go_wp2_with fail
    go_ret
    exact ⟨rfl, HB4.out⟩
end Go.Proofs.Ytmbjlnnoemenoaa
