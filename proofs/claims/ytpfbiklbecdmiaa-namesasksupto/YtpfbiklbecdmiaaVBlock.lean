/-
  Where append lays what it makes.
-/
import Derived.Test.YtpfbiklbecdmiaaVConc
set_option linter.unusedVariables false
set_option linter.unusedSimpArgs false
namespace Go.Proofs.Ytpfbiklbecdmiaa
open Go.RowKit

theorem append_block {P : Program} {w : World} (t ty e : TypeId) (z : Value) (size bytes : Nat) (ht : P.underlying t = some (.slice e)) (hinfo : (P.info? e).map (fun i => (i.zero, i.size, i.bytes)) = some (some z, size, bytes)) (hsz : 0 < size)
    (base : Nat) (v : Value) (n : Nat) (xs : List Value) (hown : w.ownsRow base e size v n xs) {S : Nat → Prop} {x : Value} {m : Nat} {cs : List Value} (hx : Raw w S x size m cs)
    (h63 : n + m ≤ maxLen) (hbytes : (n + m) * bytes ≤ 140737488355328) {v' : Value} {w' : World} (hr : (Builtin.append_ #[t, t] ty #[v, x]).run P w = .ok v' w') :
    v'.ownBlock = v.ownBlock ∨ v'.ownBlock = some w.heap.size := by
  obtain ⟨i0, hi, hz0, hz1, hz2⟩ := info_parts hinfo
  obtain ⟨a, cap, rfl, h1, h2, h3, h4, h5⟩ := hx
  subst hz1
  subst hz2
  have hsmall : n + m ≤ 9223372036854775807 := h63
  by_cases hm : m = 0
  · subst hm
    rw [append_zero t ty e i0 ht hi base i0.size v n xs hown a cap] at hr
    simp only [Result.ok.injEq] at hr
    exact .inl (by rw [← hr.1])
  · obtain ⟨b, off, rfl, _, hc⟩ := h5 (Nat.mul_pos (by omega) hsz)
    have hnews : ∀ j u, cs[j]? = some u → w.cell? ((⟨b, off, none⟩ : Addr).add j) = some u := fun j u hu => by
      obtain ⟨hj, hju⟩ := List.getElem?_eq_some_iff.1 hu
      have e1 : (⟨b, off, none⟩ : Addr).add j = ⟨b, off + j, none⟩ := by unfold Addr.add; split <;> simp_all
      rw [e1, hc j (by omega)]
      simp [List.getD, hu]
    rcases hown.2 with ⟨rfl, rfl⟩ | ⟨g, cap', cur, rfl, hbg, hg, hnc, hcm, hcs, htake⟩
    · have hr2 := run_append_nil (P := P) w t ty e i0 z ht hi hz0 ⟨b, off, none⟩ m cap cs h3 hnews (by omega) (by omega) (by have hb := hbytes; simp only [Nat.zero_add] at hb; omega)
      rw [hr2] at hr
      simp only [Result.ok.injEq] at hr
      exact .inr (by rw [← hr.1]; rfl)
    · by_cases hroom : n + m ≤ cap'
      · have hfit : n * i0.size + cs.length ≤ cur.size := by rw [h3, hcs, ← Nat.add_mul]; exact Nat.mul_le_mul_right _ hroom
        have hr2 := run_append_room (P := P) w t ty e i0 ht hi g n cap' cur hg ⟨b, off, none⟩ m cap cs h3 hnews h4 hroom hfit
        rw [hr2] at hr
        simp only [Result.ok.injEq] at hr
        exact .inl (by rw [← hr.1]; rfl)
      · have holds : ∀ j u, xs[j]? = some u → w.cell? ((⟨g, 0, none⟩ : Addr).add j) = some u := hown.cells (g := g) rfl
        have hr2 := run_append_grow (P := P) w t ty e i0 z ht hi hz0 ⟨g, 0, none⟩ n cap' xs hown.1 holds ⟨b, off, none⟩ m cap cs h3 hnews (by omega) (by omega) (growslice_fits (by omega) hbytes)
        rw [hr2] at hr
        simp only [Result.ok.injEq] at hr
        exact .inr (by rw [← hr.1]; rfl)

theorem tail_some (b off cap n : Nat) (h : cap ≠ n) : (if cap = n then some (⟨b, off, none⟩ : Addr) else (some (⟨b, off, none⟩ : Addr)).map (fun x => x.add (n * 1))) = some ⟨b, off + n, none⟩ := by
  rw [if_neg h]
  simp only [Option.map_some, Nat.mul_one]
  congr 1
  unfold Addr.add
  split <;> simp_all

end Go.Proofs.Ytpfbiklbecdmiaa
