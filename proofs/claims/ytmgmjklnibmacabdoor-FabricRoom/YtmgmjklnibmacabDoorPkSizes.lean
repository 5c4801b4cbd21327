/- DERIVED of the program: PackSizes returns true. Own work. -/
import Derived.Test.YtmgmjklnibmacabDoorPkF
namespace Go.Proofs.YtmgmjklnibmacabDoor
open Go.RowKit Go.Extern.Stop Go.Stop Go.Extern

theorem zz_mono {a b : Int} (h0 : 0 ≤ a) (h : a ≤ b) : zz a ≤ zz b := by
  unfold zz
  rw [if_neg (by omega), if_neg (by omega)]
  omega

theorem enc_flip (a : Int) : (enc (zz (-1 - a))).length = (enc (zz a)).length := by
  unfold zz
  by_cases h : a < 0
  · rw [if_neg (by omega), if_pos h]
    exact (enc_even _).symm
  · rw [if_pos (by omega), if_neg h, show -1 - (-1 - a) = a from by omega]
    exact enc_even _

theorem flip_i64 (a : Int) (h0 : -9223372036854775808 ≤ a) (h1 : a ≤ 9223372036854775807) : bits .xor .i64 (-1) a = -1 - a := by
  show IntKind.i64.wrap ((BitVec.ofInt 64 (-1) ^^^ BitVec.ofInt 64 a).toNat : Int) = _
  rw [show BitVec.ofInt 64 (-1) = BitVec.allOnes 64 by decide, BitVec.allOnes_xor, BitVec.toNat_not, BitVec.toNat_ofInt, IntKind.wrap_i64]
  omega

end Go.Proofs.YtmgmjklnibmacabDoor
