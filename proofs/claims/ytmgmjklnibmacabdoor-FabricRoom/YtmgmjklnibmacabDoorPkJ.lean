/- DERIVED of the program: rows of numbers as bytes, and what a reader makes of them. Own work. -/
import Derived.Test.YtmgmjklnibmacabDoorPkI
import Derived.Test.YtmgmjklnibmacabDoorPkOne
namespace Go.Proofs.YtmgmjklnibmacabDoor
open Go.RowKit Go.Extern.Stop Go.Stop Go.Extern

/-- The bytes of a row of numbers. -/
def encs (zs : List Int) : List Nat := zs.flatMap fun z => enc (zz z)

theorem encs_cons (z : Int) (r : List Int) : encs (z :: r) = enc (zz z) ++ encs r := by simp [encs]
theorem encs_snoc (zs : List Int) (k : Nat) (h : k < zs.length) : encs (zs.take (k + 1)) = encs (zs.take k) ++ enc (zz zs[k]) := by
  rw [encs, encs, List.take_succ_eq_append_getElem h, List.flatMap_append, List.flatMap_singleton]
theorem encs_byte (zs : List Int) : ∀ x ∈ encs zs, x < 256 := by
  intro x hx
  simp only [encs, List.mem_flatMap] at hx
  obtain ⟨z, _, hz⟩ := hx
  exact enc_byte _ x hz
theorem encs_split (zs : List Int) (k : Nat) : encs zs = encs (zs.take k) ++ encs (zs.drop k) := by
  simp only [encs]
  rw [← List.flatMap_append, List.take_append_drop]
theorem encs_len : ∀ (zs : List Int), (∀ z ∈ zs, -9223372036854775808 ≤ z ∧ z ≤ 9223372036854775807) → (encs zs).length ≤ 10 * zs.length
  | [], _ => Nat.le_refl _
  | z :: r, h => by
    rw [encs_cons, List.length_append, List.length_cons]
    have h1 := h z (List.mem_cons_self ..)
    have h2 := enc_len10 _ (zz_lt z h1.1 h1.2)
    have h3 := encs_len r (fun y hy => h y (List.mem_cons_of_mem _ hy))
    omega

/-- The number at a reader's place, whole or cut off. -/
theorem dec_whole (zs : List Int) (i k : Nat) (hi : i < zs.length) (hr : ∀ z ∈ zs, -9223372036854775808 ≤ z ∧ z ≤ 9223372036854775807) (h : (encs (zs.take (i + 1))).length ≤ k) :
    dec 0 0 (((encs zs).take k).drop (encs (zs.take i)).length) = (0, zz zs[i], (enc (zz zs[i])).length) := by
  have hz := hr zs[i] (List.getElem_mem hi)
  rw [encs_snoc zs i hi, List.length_append] at h
  have e : ((encs zs).take k).drop (encs (zs.take i)).length = enc (zz zs[i]) ++ (encs (zs.drop (i + 1))).take (k - (encs (zs.take i)).length - (enc (zz zs[i])).length) := by
    rw [encs_split zs i, List.drop_take, List.drop_left, List.drop_eq_getElem_cons hi, encs_cons, List.take_append, List.take_of_length_le (by omega)]
  rw [e]
  exact dec_enc0 _ hz.1 hz.2 _

theorem dec_part (zs : List Int) (i k : Nat) (hi : i < zs.length) (hr : ∀ z ∈ zs, -9223372036854775808 ≤ z ∧ z ≤ 9223372036854775807) (h0 : (encs (zs.take i)).length ≤ k) (h : k < (encs (zs.take (i + 1))).length) :
    dec 0 0 (((encs zs).take k).drop (encs (zs.take i)).length) = (3, 0, 0) := by
  have hz := hr zs[i] (List.getElem_mem hi)
  rw [encs_snoc zs i hi, List.length_append] at h
  have e : ((encs zs).take k).drop (encs (zs.take i)).length = (enc (zz zs[i])).take (k - (encs (zs.take i)).length) := by
    rw [encs_split zs i, List.drop_take, List.drop_left, List.drop_eq_getElem_cons hi, encs_cons, List.take_append, show k - (encs (zs.take i)).length - (enc (zz zs[i])).length = 0 from by omega]
    simp
  rw [e]
  exact dec_cut (zz zs[i]) 0 0 _ (by omega) (by have := zz_lt _ hz.1 hz.2; simpa using this) (by omega) (by omega)

theorem Lie.take {w : World} {ao : Option Addr} {cap : Nat} {bs : List Nat} (h : Lie w ao cap bs) (k : Nat) : Lie w ao cap (bs.take k) := by
  refine ⟨Nat.le_trans (List.length_take_le' ..) h.1, h.2.1, fun j hj => ?_⟩
  have hj' : j < bs.length := by rw [List.length_take] at hj; omega
  obtain ⟨b, o, e, hc⟩ := h.2.2 j hj'
  exact ⟨b, o, e, by rw [hc]; simp⟩

theorem numS_ok {bs : List Nat} {at_ u s : Nat} (h : dec 0 0 (bs.drop at_) = (0, u, s)) (hu : u < 18446744073709551616) : numS bs at_ 0 = (0, uz u, at_ + s) :=
  inS_ok h (by have := uz_le u hu; omega)

theorem rerr_no (sa : Nat → Addr) (at_ : Nat) : rerr sa 0 at_ = .nilIface := rfl
theorem rerr_yes (sa : Nat → Addr) (c at_ : Nat) (h : c ≠ 0) : rerr sa c at_ = flt opP at_ (snt (sa c)) := by unfold rerr; rw [if_neg h]

theorem numS_bad {bs : List Nat} {at_ d u s : Nat} (h : dec 0 0 (bs.drop at_) = (d, u, s)) (hd : d ≠ 0) : numS bs at_ 0 = (d, 0, at_) := inS_bad h hd
theorem numS_wrong {bs : List Nat} {at_ c : Nat} (h : c ≠ 0) : numS bs at_ c = (c, 0, at_) := inS_wrong h

end Go.Proofs.YtmgmjklnibmacabDoor
