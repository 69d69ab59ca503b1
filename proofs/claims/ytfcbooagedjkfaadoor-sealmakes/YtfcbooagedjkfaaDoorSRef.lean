/-
  THE WALK of the document's Text (layer 5).
-/
import Derived.Test.YtfcbooagedjkfaaDoorSSigns
set_option linter.unusedVariables false
set_option linter.unusedSimpArgs false
namespace Go.Proofs.YtfcbooagedjkfaaDoor
open Go.RowKit

/-- a group's number, by the first k of three bytes -/
def na (g : List Int) : Nat → Int
  | 0 => 0
  | k + 1 => 256 * na g k + g[k]?.getD 0
theorem na_le (g : List Int) (h : Dg.B8 g) : ∀ k, 0 ≤ na g k ∧ na g k < 256 ^ k
  | 0 => by simp [na]
  | k + 1 => by
    have h1 := na_le g h k
    have h2 := h k
    simp only [na, Int.pow_succ]
    omega
theorem na_three (g : List Int) (h3 : g.length ≤ 3) : na g 3 = Sl.tog 8 g 0 := by
  match g, h3 with
  | [], _ => simp [na, Sl.tog]
  | [a], _ => simp [na, Sl.tog]; omega
  | [a, b], _ => simp [na, Sl.tog]; omega
  | [a, b, c], _ => simp [na, Sl.tog]; omega

set_option maxRecDepth 100000 in
set_option maxHeartbeats 2000000 in
theorem refText_any (bs : List Int) (a : Option Addr) (len cap : Nat) (w : World) (hB : IsB w a len cap bs) (hl : len ≤ 1000000) :
    Calls Tryd.prog 12 #[.slice a len cap] w fun e w' => e = .returned (.string ⟨(Sl.text bs).toArray⟩) ∧ w' = w := by
  have HB := hide hB
  have hlc := hB.2.1
  have hcx := hB.2.2.1
  clear hB
  go_enter Tryd.func12, Tryd.ntmps12
  go_wp2_with fail
  go_loop [3, 4] (fun s i => ∃ (q e : Nat) (S : ByteArray), Hid (e = 3 * q) ∧ e ≤ len + 2 ∧ i = .int .i64 e ∧ s = .string S ∧ Hid (S = ⟨(Sl.text (bs.take e)).toArray⟩) ∧ S.size ≤ 2 * e) (fun _ i => len + 3 - (intOf i).toNat)
  case atStart => exact ⟨0, 0, ByteArray.empty, rfl, by omega, rfl, rfl, rfl, by decide⟩
  case round =>
    obtain ⟨q, e, S, HQ, he, rfl, rfl, HS, hsz⟩ := hrel
    by_cases hlt : e < len
    · obtain ⟨m, hm⟩ : ∃ m, m = min (len - e) 3 := ⟨_, rfl⟩
      have hmn : min ((len : Int) - (e : Int)) 3 = (m : Int) := by omega
      have hm3 : m ≤ 3 := by omega
      have hem : e + m ≤ len := by omega
      have hm0 : 0 < m := by omega
      obtain ⟨g, hg⟩ : ∃ g, g = (bs.drop e).take 3 := ⟨_, rfl⟩
      have hgl : g.length = m := by rw [hg, List.length_take, List.length_drop, HB.out.1, hm]; omega
      have hg8 : Dg.B8 g := by rw [hg]; exact fun i => take_bytes (fun i => by rw [List.getElem?_drop]; exact HB.out.2.2.2.1 _) 3 i
      have HG := hide hg
      have HGl := hide hgl
      have HG8 := hide hg8
      have HM := hide hm
      clear hg hgl hg8 hm
      go_upto_region 7 with fail
      try simp only [hmn]
      clear hmn
      go_wp2_with fail
      go_loop [5, 7] (fun n k => ∃ (j : Nat) (x : Int), j ≤ 3 ∧ k = .int .i64 j ∧ n = .int .i64 x ∧ Hid (x = na g j) ∧ 0 ≤ x ∧ x < 16777216) (fun _ k => 3 - (intOf k).toNat)
      case atStart => exact ⟨0, 0, by omega, rfl, rfl, rfl, by omega, by omega⟩
      case round =>
        obtain ⟨j, x, hj, rfl, rfl, HX, hx0, hx1⟩ := hrel
        by_cases hj3 : j < 3
        · have hna := na_le g HG8.out (j + 1)
          have hnx := na_le g HG8.out j
          rw [← HX.out] at hnx
          have hxb : x < 65536 := by
            have : j = 0 ∨ j = 1 ∨ j = 2 := by omega
            rcases this with rfl | rfl | rfl <;> simp at hnx <;> omega
          have hnb : na g (j + 1) < 16777216 := by
            have : j = 0 ∨ j = 1 ∨ j = 2 := by omega
            rcases this with rfl | rfl | rfl <;> simp at hna ⊢ <;> omega
          have HNa := hide hna
          clear hnx hna
          by_cases hjm : j < m
          · obtain ⟨h1, h2, h3, h4, h5⟩ := HB.out
            rcases h5 with ⟨_, h5⟩ | ⟨xa, rfl, h6⟩
            · omega
            · obtain ⟨b, o, rfl, hR⟩ := h6 (by omega)
              have hc := hR (e + j) (by omega)
              have h8 := h4 (e + j)
              obtain ⟨v, hv⟩ : ∃ v, v = bs[e + j]?.getD 0 := ⟨_, rfl⟩
              rw [← hv] at hc h8
              have hgv : g[j]?.getD 0 = v := by rw [HG.out, List.getElem?_take, if_pos (by omega), List.getElem?_drop, hv]
              have HGv := hide hgv
              have hidx : (e : Int) + (j : Int) = ((e + j : Nat) : Int) := by omega
              obtain ⟨ej, hej⟩ : ∃ ej, ej = e + j := ⟨_, rfl⟩
              rw [← hej] at hc hidx
              have hejl : ej < len := by omega
              clear hv h1 h4 h6 hR hgv hej
              go_wp2_with fail
              go_round
              case rel =>
                refine ⟨j + 1, 256 * x + v, by omega, by go_num, rfl, ?_, by omega, ?_⟩
                · show 256 * x + v = na g (j + 1)
                  rw [na, ← HX.out, HGv.out]
                · have : 256 * x + v = na g (j + 1) := by rw [na, ← HX.out, HGv.out]
                  rw [this]
                  exact hnb
              case measure => simp [intOf]; omega
          · have hg0 : g[j]?.getD 0 = 0 := by rw [List.getElem?_eq_none (by rw [HGl.out]; omega)]; rfl
            have HG0 := hide hg0
            clear hg0
            go_wp2_with fail
            go_round
            case rel =>
              have : 256 * x = na g (j + 1) := by rw [na, ← HX.out, HG0.out]; omega
              exact ⟨j + 1, 256 * x, by omega, by go_num, rfl, this, by omega, by rw [this]; exact hnb⟩
            case measure => simp [intOf]; omega
        · have hj3e : j = 3 := by omega
          have hxT : x = Sl.tog 8 g 0 := by rw [HX.out, hj3e]; exact na_three g (by rw [HGl.out]; exact hm3)
          have HXT := hide hxT
          clear hxT hj3e
          go_wp2_with fail
          go_loop [3, 8] (fun s k => ∃ (j : Nat) (S' : ByteArray), j ≤ m + 1 ∧ k = .int .i64 j ∧ s = .string S' ∧ Hid (S' = ⟨(Sl.text (bs.take e) ++ (Sl.pieces x 6 j).map Sl.sgn).toArray⟩) ∧ S'.size ≤ 2 * e + j) (fun _ k => 5 - (intOf k).toNat)
          case atStart => exact ⟨0, S, by omega, rfl, rfl, by show S = _; rw [HS.out]; simp [Sl.pieces], by omega⟩
          case round =>
            obtain ⟨j2, S', hj2, rfl, rfl, HS', hsz'⟩ := hrel
            by_cases hjl : j2 ≤ m
            · have hp : 0 ≤ Sl.piece x j2 6 ∧ Sl.piece x j2 6 < 64 := by unfold Sl.piece; simp; omega
              obtain ⟨p, hpe⟩ : ∃ p, p = Sl.piece x j2 6 := ⟨_, rfl⟩
              rw [← hpe] at hp
              have HPe := hide hpe
              have hgo : S' ++ signsB.extract p.toNat (p + 1).toNat = ⟨(Sl.text (bs.take e) ++ (Sl.pieces x 6 (j2 + 1)).map Sl.sgn).toArray⟩ := by
                rw [signs_one hp.1 hp.2, HS'.out, str_app, Sl.pieces_succ, List.map_append, ← List.append_assoc, hpe]
                rfl
              have HGo := hide hgo
              have hgs : (S' ++ signsB.extract p.toNat (p + 1).toNat).size ≤ 2 * e + (j2 + 1) := by
                rw [ByteArray.size_append, ByteArray.size_extract]
                show S'.size + (min (p + 1).toNat 64 - p.toNat) ≤ _
                omega
              have hjc : j2 = 0 ∨ j2 = 1 ∨ j2 = 2 ∨ j2 = 3 := by omega
              clear hgo
              have hpx : p = x / 2 ^ (24 - 6 * (j2 + 1)) % 64 := by rw [hpe]; rfl
              clear hpe
              rcases hjc with rfl | rfl | rfl | rfl
              · have hd : x / 262144 % 64 = p := by rw [hpx]; simp
                clear hpx
                go_wp2_with fail
                go_round
                case rel => exact ⟨1, S' ++ signsB.extract p.toNat (p + 1).toNat, by omega, rfl, rfl, HGo, hgs⟩
                case measure => simp [intOf]
              · have hd : x / 4096 % 64 = p := by rw [hpx]; simp
                clear hpx
                go_wp2_with fail
                go_round
                case rel => exact ⟨2, S' ++ signsB.extract p.toNat (p + 1).toNat, by omega, rfl, rfl, HGo, hgs⟩
                case measure => simp [intOf]
              · have hd : x / 64 % 64 = p := by rw [hpx]; simp
                clear hpx
                go_wp2_with fail
                go_round
                case rel => exact ⟨3, S' ++ signsB.extract p.toNat (p + 1).toNat, by omega, rfl, rfl, HGo, hgs⟩
                case measure => simp [intOf]
              · have hd : x % 64 = p := by rw [hpx]; simp
                clear hpx
                go_wp2_with fail
                go_round
                case rel => exact ⟨4, S' ++ signsB.extract p.toNat (p + 1).toNat, by omega, rfl, rfl, HGo, hgs⟩
                case measure => simp [intOf]
            · have hj2e : j2 = m + 1 := by omega
              have HJ2 := hide hj2e
              clear hj2e
              go_wp2_with fail
              go_round
              case rel =>
                refine ⟨q + 1, e + 3, S', by have := HQ.out; show e + 3 = 3 * (q + 1); omega, by omega, by go_num, rfl, ?_, by omega⟩
                show S' = _
                rw [HS'.out, HJ2.out]
                have et : bs.take (e + 3) = bs.take e ++ g := by rw [HG.out, List.take_add]
                have ebl := HB.out.1
                rw [et, Sl.text_append (by rw [List.length_take, ebl, HQ.out]; have := HQ.out; omega)]
                have eg : Sl.text g = (Sl.pieces x 6 (m + 1)).map Sl.sgn := by
                  unfold Sl.text
                  rw [Sl.nums_group g (y8_of HG8.out) (by rw [HGl.out]; exact hm0) (by rw [HGl.out]; exact hm3), HGl.out, HXT.out]
                rw [eg]
              case measure => simp [intOf]; omega
    · go_wp2_with fail
      go_ret
      refine ⟨?_, rfl⟩
      have := HS.out
      rw [List.take_of_length_le (by rw [HB.out.1]; omega)] at this
      rw [← this]
      rfl
end Go.Proofs.YtfcbooagedjkfaaDoor
