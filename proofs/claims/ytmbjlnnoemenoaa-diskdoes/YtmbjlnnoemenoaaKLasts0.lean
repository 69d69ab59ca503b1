/-
  PLAIN: what stands behind a crash; texts and their bytes (layer 9).
-/
import Derived.Test.YtmbjlnnoemenoaaKOff
set_option linter.unusedVariables false
set_option linter.unusedSimpArgs false
set_option maxRecDepth 100000
namespace Go.Proofs.Ytmbjlnnoemenoaa
open Go.RowKit Go.Maps Dk

theorem crL {room l : Nat} {x y : Bs} {fu dd : Bool} {m k : Nat} (hm : m ≤ y.length) : crash (pG room (x ++ y.take m) x.length fu l dd) (k : Int) = pG room (x ++ y.take (min k m)) (x.length + min k m) false 0 false := by
  rw [cr1]
  have h1 : (x ++ y.take m).length - x.length = m := by simp; omega
  have h2 : ((k : Int)).toNat = k := by omega
  have h3 : (x ++ y.take m).take (x.length + min k m) = x ++ y.take (min k m) := by
    rw [List.take_length_add_append, List.take_take]
    congr 2; omega
  rw [h1, h2, h3]
theorem bs_inj {a b : ByteArray} (h : bs a = bs b) : a = b := ByteArray.ext (Array.ext' h)
theorem bs_len (a : ByteArray) : (bs a).length = a.size := Array.length_toList
theorem bs_append (a b : ByteArray) : bs (a ++ b) = bs a ++ bs b := by
  show (a ++ b).data.toList = _
  rw [ByteArray.data_append, Array.toList_append]
theorem bs_front (a : ByteArray) (m : Nat) : bs (a.extract 0 m) = (bs a).take m := by
  show (a.extract 0 m).data.toList = _
  rw [ByteArray.data_extract, Array.toList_extract, List.extract_eq_take_drop, List.drop_zero, Nat.sub_zero]
/-- the text that stands -/
def stS (a b : ByteArray) (m : Nat) : ByteArray := a ++ b.extract 0 m
theorem bs_stS (a b : ByteArray) (m : Nat) : bs (stS a b m) = bs a ++ (bs b).take m := by
  rw [stS, bs_append, bs_front]
theorem stS_size (a b : ByteArray) {m : Nat} (hm : m ≤ b.size) : (stS a b m).size = a.size + m := by
  rw [← bs_len, bs_stS, List.length_append, List.length_take, bs_len, bs_len]; omega
theorem stS_front (a b : ByteArray) (m : Nat) : (stS a b m).extract 0 a.size = a := by
  apply bs_inj
  rw [bs_front, bs_stS, List.take_left' (bs_len a)]
theorem stS_whole (a b : ByteArray) (m : Nat) : (a ++ b).extract 0 (a.size + m) = stS a b m := by
  apply bs_inj
  rw [bs_front, bs_append, bs_stS, ← bs_len a, List.take_length_add_append]

end Go.Proofs.Ytmbjlnnoemenoaa
