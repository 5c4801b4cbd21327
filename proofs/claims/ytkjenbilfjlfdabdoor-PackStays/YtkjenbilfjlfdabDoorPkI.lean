/- DERIVED of the program: rows of numbers as arguments. Own work. -/
import Derived.Test.YtkjenbilfjlfdabDoorPkH
import Derived.ChangeSlices
import Derived.OpenShut
import Derived.SizedLaws
namespace Go.Proofs.YtkjenbilfjlfdabDoor
open Go.RowKit Go.Extern.Stop Go.Stop Go.Extern Go.ChangeShapes Go.WideShapes Go.ChangeAt Go.ChangeMaps

/-- A slice at that address, of that room, reads as these numbers. -/
structure Ints (w : World) (ao : Option Addr) (cap : Nat) (zs : List Int) : Prop where
  le : zs.length ≤ cap
  cell : ∀ (k : Nat) (h : k < zs.length), ∃ b o, ao = some ⟨b, o, none⟩ ∧ w.cell? ⟨b, o + k, none⟩ = some (.int .i64 zs[k])
  rng : ∀ z ∈ zs, -9223372036854775808 ≤ z ∧ z ≤ 9223372036854775807
  nil0 : ao = none → cap = 0

theorem Ints.step {w w' : World} {ao : Option Addr} {cap : Nat} {zs : List Int} (h : Ints w ao cap zs) (hb : Below w.heap.size w w') : Ints w' ao cap zs :=
  ⟨h.le, fun k hk => by obtain ⟨b, o, rfl, hc⟩ := h.cell k hk; exact ⟨b, o, rfl, (hb.cell (p := ⟨b, o + k, none⟩) (lt_cell (q := ⟨b, o + k, none⟩) hc)).trans hc⟩, h.rng, h.nil0⟩

theorem addr_plain (b o k : Nat) : (⟨b, o, none⟩ : Addr).add k = ⟨b, o + k, none⟩ := Addr.add_lit b o k

set_option maxRecDepth 100000 in
theorem open_ints2 {H : Type} {enc : TypeId × Value → H} {r : Reach} {b0 base : Nat} {spare : Nat → Bool} {held : Bool} {W : World} {v : Value} {d : DataW H} {ps : List MemPlace}
    (hval : Value.okWide Tryd.prog W r b0 35 v) (h : DataW.Trod enc Tryd.prog W base spare held 35 v d ps) : ∃ ao cap zs, v = .slice ao (zs : List Int).length cap ∧ Ints W ao cap zs := by
  obtain ⟨a0, len, cap, rfl⟩ := okWide_slice Tryd.underlying35 hval
  obtain ⟨fuel, hf⟩ := h
  rcases open_ints Tryd.underlying35 Tryd.underlying3 (by kernel_rfl) hf with ⟨hcs, hx⟩ | ⟨a, len', cap', zs, hcs, _, hl, hm, hz, hx, hcell, hwz⟩
  · simp [Value.cells] at hcs
    obtain ⟨rfl, rfl, rfl⟩ := hcs
    exact ⟨none, 0, [], rfl, ⟨Nat.le_refl _, fun _ h => absurd h (Nat.not_lt_zero _), fun _ h => absurd h List.not_mem_nil, fun _ => rfl⟩⟩
  · simp [Value.cells] at hcs
    obtain ⟨rfl, rfl, rfl⟩ := hcs
    have hlz : len ≤ zs.length := by split at hz <;> omega
    have hlen : (zs.take len).length = len := by rw [List.length_take]; omega
    refine ⟨some a, cap, zs.take len, by rw [hlen], ⟨by omega, fun k hk => ?_, fun z hz => bounds_i64 (hwz z (List.mem_of_mem_take hz)), (by simp)⟩⟩
    obtain ⟨b, off, spot⟩ := a
    have hk' : k < zs.length := by omega
    have hspot : spot = none := by simpa [Addr.add] using World.cell?_spot (hcell 0 (by omega))
    subst hspot
    refine ⟨b, off, rfl, ?_⟩
    have := hcell k hk'
    rw [addr_plain] at this
    rw [this]
    simp [List.getElem?_eq_getElem hk']

theorem Tryd.bytesU8 : Tryd.prog.bytesOf 5 = 1 := by kernel_rfl

set_option maxRecDepth 100000 in
theorem open_bytes {H : Type} {enc : TypeId × Value → H} {r : Reach} {b0 base : Nat} {spare : Nat → Bool} {held : Bool} {W : World} {v : Value} {d : DataW H} {ps : List MemPlace}
    (hval : Value.okWide Tryd.prog W r b0 22 v) (h : DataW.Trod enc Tryd.prog W base spare held 22 v d ps) (ts : List TypeId) (ds : List (DataW H)) (hsz : (DataW.weightsEach Tryd.prog ts ds).all (· ≤ reachBytes) = true) (j : Nat) (hj : ts[j]? = some 22) (hd : ds[j]? = some d) :
    ∃ ao cap bs, v = .slice ao (bs : List Nat).length cap ∧ Lie W ao cap bs ∧ (∀ x ∈ bs, x < 256) ∧ bs.length ≤ 140737488351232 := by
  obtain ⟨a0, len, cap, rfl⟩ := okWide_slice Tryd.underlying22 hval
  obtain ⟨fuel, hf⟩ := h
  rcases open_ints Tryd.underlying22 Tryd.underlying5 (by kernel_rfl) hf with ⟨hcs, hx⟩ | ⟨a, len', cap', zs, hcs, _, hl, hm, hz, hx, hcell, hwz⟩
  · simp [Value.cells] at hcs
    obtain ⟨rfl, rfl, rfl⟩ := hcs
    exact ⟨none, 0, [], rfl, Lie.nil W, fun _ h => absurd h List.not_mem_nil, Nat.zero_le _⟩
  · simp [Value.cells] at hcs
    obtain ⟨rfl, rfl, rfl⟩ := hcs
    have hlz : len ≤ zs.length := by split at hz <;> omega
    have hdd : d = .slice (lits .u8 (zs.take len)) (lits .u8 (zs.drop len)) := congrArg Prod.fst hx
    subst hdd
    have hw := sized_slice hsz hj hd Tryd.underlying22
    rw [Tryd.bytesU8] at hw
    simp only [lits, List.length_map, List.length_take, reachBytes] at hw
    have hlen : ((zs.take len).map Int.toNat).length = len := by rw [List.length_map, List.length_take]; omega
    have hb : ∀ z ∈ zs, 0 ≤ z ∧ z ≤ 255 := fun z hz => bounds_u8 (hwz z hz)
    refine ⟨some a, cap, (zs.take len).map Int.toNat, by rw [hlen], ⟨by omega, (by simp), fun k hk => ?_⟩, fun x hx => ?_, by omega⟩
    · obtain ⟨b, off, spot⟩ := a
      have hk' : k < zs.length := by omega
      have hspot : spot = none := by simpa [Addr.add] using World.cell?_spot (hcell 0 (by omega))
      subst hspot
      refine ⟨b, off, rfl, ?_⟩
      have := hcell k hk'
      rw [addr_plain] at this
      rw [this]
      have hz0 := hb zs[k] (List.getElem_mem hk')
      simp [List.getElem?_eq_getElem hk']
      omega
    · obtain ⟨z, hz, rfl⟩ := List.mem_map.1 hx
      have := hb z (List.mem_of_mem_take hz)
      omega

end Go.Proofs.YtkjenbilfjlfdabDoor
