/- DERIVED of the program: PackOne returns true. Own work. -/
import Derived.Test.YtmgmjklnibmacabDoorPkF
namespace Go.Proofs.YtmgmjklnibmacabDoor
open Go.RowKit Go.Extern.Stop Go.Stop Go.Extern

theorem dec_enc0 (n : Int) (h0 : -9223372036854775808 ≤ n) (h1 : n ≤ 9223372036854775807) (r : List Nat) : dec 0 0 (enc (zz n) ++ r) = (0, zz n, (enc (zz n)).length) := by
  have := dec_enc (zz n) 0 0 r (by omega) (by have := zz_lt n h0 h1; simpa using this) (by omega)
  simpa using this

theorem enc_inj {m n : Int} (m0 : -9223372036854775808 ≤ m) (m1 : m ≤ 9223372036854775807) (n0 : -9223372036854775808 ≤ n) (n1 : n ≤ 9223372036854775807) : enc (zz m) = enc (zz n) ↔ m = n := by
  constructor
  · intro h
    have h1 := dec_enc0 m m0 m1 []
    rw [h, dec_enc0 n n0 n1 []] at h1
    have h2 : zz n = zz m := by simpa using congrArg (fun x => x.2.1) h1
    rw [← uz_zz m, ← h2, uz_zz]
  · rintro rfl; rfl

end Go.Proofs.YtmgmjklnibmacabDoor
