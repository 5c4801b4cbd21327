/- DERIVED of the program: rows of numbers as arguments. Own work. -/
import Derived.Test.YtgepfbaojogccaaDoorPkH
import Derived.ChangeSlices
import Derived.OpenShut
import Derived.SizedLaws
namespace Go.Proofs.YtgepfbaojogccaaDoor
open Go.RowKit Go.Extern.Stop Go.Stop Go.Extern Go.ChangeShapes Go.WideShapes Go.ChangeAt Go.ChangeMaps

theorem Tryd.bytesU8 : Tryd.prog.bytesOf 5 = 1 := by kernel_rfl

set_option maxRecDepth 100000 in
theorem open_bytes {H : Type} {enc : TypeId × Value → H} {r : Reach} {b0 base : Nat} {spare : Nat → Bool} {held : Bool} {W : World} {v : Value} {d : DataW H} {ps : List MemPlace}
    (hval : Value.okWide Tryd.prog W r b0 22 v) (h : DataW.Trod enc Tryd.prog W base spare held 22 v d ps) (ts : List TypeId) (ds : List (DataW H)) (hsz : (DataW.weightsEach Tryd.prog ts ds).all (· ≤ reachBytes) = true) (j : Nat) (hj : ts[j]? = some 22) (hd : ds[j]? = some d) :
    ∃ ao cap bs, v = .slice ao (bs : List Nat).length cap ∧ Lie W ao cap bs ∧ (∀ x ∈ bs, x < 256) ∧ bs.length ≤ 140737488351232 := by
  obtain ⟨a0, len, cap, rfl⟩ := okWide_slice Tryd.underlying22 hval
  obtain ⟨fuel, hf⟩ := h
  rcases open_ints Tryd.underlying22 Tryd.underlying5 (by kernel_rfl) hf with ⟨hcs, hx⟩ | ⟨a, len', cap', zs, hcs, _, hl, hm, hz, hx, hcell, hwz⟩
  · simp [Value.cells] at hcs
    obtain ⟨rfl, rfl, rfl⟩ := hcs
    exact ⟨none, 0, [], rfl, Lie.nil W, fun _ h => absurd h List.not_mem_nil, Nat.zero_le _⟩
  · simp [Value.cells] at hcs
    obtain ⟨rfl, rfl, rfl⟩ := hcs
    have hlz : len ≤ zs.length := by split at hz <;> omega
    have hdd : d = .slice (lits .u8 (zs.take len)) (lits .u8 (zs.drop len)) := congrArg Prod.fst hx
    subst hdd
    have hw := sized_slice hsz hj hd Tryd.underlying22
    rw [Tryd.bytesU8] at hw
    simp only [lits, List.length_map, List.length_take, reachBytes] at hw
    have hlen : ((zs.take len).map Int.toNat).length = len := by rw [List.length_map, List.length_take]; omega
    have hb : ∀ z ∈ zs, 0 ≤ z ∧ z ≤ 255 := fun z hz => bounds_u8 (hwz z hz)
    refine ⟨some a, cap, (zs.take len).map Int.toNat, by rw [hlen], ⟨by omega, (by simp), fun k hk => ?_⟩, fun x hx => ?_, by omega⟩
    · obtain ⟨b, off, spot⟩ := a
      have hk' : k < zs.length := by omega
      have hspot : spot = none := by simpa [Addr.add] using World.cell?_spot (hcell 0 (by omega))
      subst hspot
      refine ⟨b, off, rfl, ?_⟩
      have := hcell k hk'
      rw [addr_plain] at this
      rw [this]
      have hz0 := hb zs[k] (List.getElem_mem hk')
      simp [List.getElem?_eq_getElem hk']
      omega
    · obtain ⟨z, hz, rfl⟩ := List.mem_map.1 hx
      have := hb z (List.mem_of_mem_take hz)
      omega

end Go.Proofs.YtgepfbaojogccaaDoor
