/- DERIVED of the program: a reader in memory; pack.Read, (*Reader).stop, In, Num, End, Wrong, At. Own work. -/
import Derived.Test.YtmgmjklnibmacabDoorPkC
namespace Go.Proofs.YtmgmjklnibmacabDoor
open Go.RowKit Go.Extern.Stop Go.Stop Go.Extern

theorem grown_set (w : World) (q i : Nat) (v : Value) : w.grownBy (w.setCell ⟨q, i, none⟩ v) (some q) :=
  ⟨rfl, rfl, rfl, by simp [World.setCell], fun k _ hk => Below.heap_setCell w _ v k (fun e => hk (by rw [e]))⟩

/-- What In answers: the code behind it, the number, the place behind it. -/
def inS (bs : List Nat) (lo hi : Int) (at_ c : Nat) : Nat × Int × Nat :=
  if c ≠ 0 then (c, 0, at_) else
  if (dec 0 0 (bs.drop at_)).1 ≠ 0 then ((dec 0 0 (bs.drop at_)).1, 0, at_) else
  if uz (dec 0 0 (bs.drop at_)).2.1 < lo ∨ hi < uz (dec 0 0 (bs.drop at_)).2.1 then (4, 0, at_) else (0, uz (dec 0 0 (bs.drop at_)).2.1, at_ + (dec 0 0 (bs.drop at_)).2.2)

theorem inS_wrong {bs : List Nat} {lo hi : Int} {at_ c : Nat} (h : c ≠ 0) : inS bs lo hi at_ c = (c, 0, at_) := by unfold inS; rw [if_pos h]
theorem inS_bad {bs : List Nat} {lo hi : Int} {at_ d u s : Nat} (h : dec 0 0 (bs.drop at_) = (d, u, s)) (hd : d ≠ 0) : inS bs lo hi at_ 0 = (d, 0, at_) := by
  unfold inS; rw [if_neg (by simp), if_pos (by rw [h]; exact hd), h]
theorem inS_out {bs : List Nat} {lo hi : Int} {at_ u s : Nat} (h : dec 0 0 (bs.drop at_) = (0, u, s)) (ho : uz u < lo ∨ hi < uz u) : inS bs lo hi at_ 0 = (4, 0, at_) := by
  unfold inS; rw [if_neg (by simp), if_neg (by rw [h]; simp), if_pos (by rw [h]; exact ho)]
theorem inS_ok {bs : List Nat} {lo hi : Int} {at_ u s : Nat} (h : dec 0 0 (bs.drop at_) = (0, u, s)) (ho : ¬ (uz u < lo ∨ hi < uz u)) : inS bs lo hi at_ 0 = (0, uz u, at_ + s) := by
  unfold inS; rw [if_neg (by simp), if_neg (by rw [h]; simp), if_neg (by rw [h]; exact ho), h]

theorem Lie.drop {w : World} {ao : Option Addr} {cap at_ : Nat} {bs : List Nat} (h : Lie w ao cap bs) (ha : at_ ≤ bs.length) (h0 : 0 < (bs.drop at_).length) : Lie w (if cap = at_ then ao else ao.map (fun x => x.add at_)) (cap - at_) (bs.drop at_) := by
  rw [List.length_drop] at h0
  have hc := h.1
  rw [if_neg (by omega)]
  obtain ⟨b, o, rfl, _⟩ := h.2.2 0 (by omega)
  refine ⟨by rw [List.length_drop]; omega, (by simp), fun k hk => ⟨b, o + at_, by simp [Addr.add_lit], ?_⟩⟩
  rw [List.length_drop] at hk
  obtain ⟨b', o', e, hc⟩ := h.2.2 (at_ + k) (by omega)
  cases e
  rw [Nat.add_assoc, hc]
  simp

end Go.Proofs.YtmgmjklnibmacabDoor
