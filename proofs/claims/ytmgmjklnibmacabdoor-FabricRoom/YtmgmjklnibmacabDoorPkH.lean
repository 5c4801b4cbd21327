/- DERIVED of the program: assentbook.Intact of bytes; assentref1.Num. Own work. -/
import Derived.Test.YtmgmjklnibmacabDoorPkG
import Derived.Test.YtmgmjklnibmacabDoorPkSizes
namespace Go.Proofs.YtmgmjklnibmacabDoor
open Go.RowKit Go.Extern.Stop Go.Stop Go.Extern

theorem bys_some {l : List Nat} {k x : Nat} (h : l[k]? = some x) : (bys l).toArray[k]? = some (.int .u8 (x : Int)) := by
  simp [bys, h]

/-- What a block of bytes reads as, from its head on. -/
theorem Lie.head {w : World} {g n : Nat} {bs rs : List Nat} {t : TypeId} (h : w.heap[g]? = some (.cells (bys (bs ++ rs)).toArray t (0, 0))) (hn : bs.length ≤ n) : Lie w (some ⟨g, 0, none⟩) n bs := by
  refine ⟨hn, (by simp), fun k hk => ⟨g, 0, rfl, ?_⟩⟩
  rw [Nat.zero_add]
  refine blk_cell h (bys_some ?_)
  rw [List.getElem?_append_left hk, List.getElem?_eq_getElem hk]

theorem blk_mark {w : World} {g k m : Nat} {bs : List Nat} {t : TypeId} (h : w.heap[g]? = some (.cells (bys (bs ++ List.replicate 80 m)).toArray t (0, 0))) (hk : k < 80) : w.cell? ⟨g, bs.length + k, none⟩ = some (.int .u8 (m : Int)) := by
  refine blk_cell h (bys_some ?_)
  rw [List.getElem?_append_right (by omega), List.getElem?_replicate, if_pos (by omega)]

theorem Own.lit0 (w : World) (B : Nat) (hB : B ≤ w.heap.size) : Own (w.alloc (.cells #[] 5)) B (some ⟨w.heap.size, 0, none⟩) 0 0 [] :=
  ⟨rfl, .inr ⟨w.heap.size, 0, #[], rfl, hB, heap_alloc_new _ _, Nat.le_refl _, Nat.zero_le _, rfl, rfl⟩⟩

theorem u64_and127 (x : Nat) (h : x < 18446744073709551616) : bits .and .u64 (x : Int) 127 = (x : Int) % 128 := by
  refine bits_mask .u64 64 (by decide) (fun n h0 h1 => ?_) 7 (by decide) _ (by omega) (by omega)
  rw [IntKind.wrap_u64]; omega

theorem u8_or128a (x : Nat) (h : x < 128) : bits .or .u8 (x : Int) 128 = ((x + 128 : Nat) : Int) := by
  have h1 := u8_or128' x
  rw [show (x : Int) % 256 = x from by omega, Nat.mod_eq_of_lt h] at h1
  exact h1

end Go.Proofs.YtmgmjklnibmacabDoor
