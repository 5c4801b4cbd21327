/- DERIVED of the program: slices of bytes in memory; pack.fold, unfold. Own work. -/
import Derived.Test.YtmgmjklnibmacabDoorPkPure
import Derived.Laws.CopyOwn
import Derived.Laws.MakeOwn
import Derived.Laws.BitsLemmas
import Derived.Laws.Bits64
import Derived.ProofKit
import Derived.Deep.AppendLies
import Derived.Laws.AppendOwnNone
namespace Go.Proofs.YtmgmjklnibmacabDoor
open Go.RowKit Go.Extern.Stop Go.Stop Go.Extern

/-- Bytes as cells. -/
def bys (bs : List Nat) : List Value := bs.map fun (x : Nat) => Value.int .u8 (x : Int)

theorem bys_length (bs : List Nat) : (bys bs).length = bs.length := by simp [bys]
theorem bys_append (xs bs : List Nat) : bys (xs ++ bs) = bys xs ++ bys bs := by simp [bys]
theorem bys_get (bs : List Nat) (j : Nat) (v : Value) (h : (bys bs)[j]? = some v) : ∃ hj : j < bs.length, v = .int .u8 (bs[j] : Nat) := by
  unfold bys at h
  rw [List.getElem?_map] at h
  rcases Nat.lt_or_ge j bs.length with hj | hj
  · rw [List.getElem?_eq_getElem hj] at h
    exact ⟨hj, (Option.some.inj h).symm⟩
  · rw [List.getElem?_eq_none hj] at h; cases h
theorem bys_one (bs : List Nat) : ∀ v ∈ bys bs, v.oneCell' = true := by
  intro v hv
  simp only [bys, List.mem_map] at hv
  obtain ⟨x, _, rfl⟩ := hv
  rfl

/-- A slice at that address, of that room, reads as bs. -/
def Lie (w : World) (ao : Option Addr) (cap : Nat) (bs : List Nat) : Prop :=
  bs.length ≤ cap ∧ (ao = none → cap = 0) ∧ ∀ (k : Nat) (h : k < bs.length), ∃ b o, ao = some ⟨b, o, none⟩ ∧ w.cell? ⟨b, o + k, none⟩ = some (.int .u8 (bs[k] : Nat))

theorem Lie.nil (w : World) : Lie w none 0 [] := ⟨Nat.le_refl _, fun _ => rfl, fun _ h => absurd h (Nat.not_lt_zero _)⟩

theorem Lie.kept {w w' : World} {ao : Option Addr} {cap : Nat} {bs : List Nat} {row : Option Nat} (h : Lie w ao cap bs) (hg : w.grownBy w' row) (hne : oblk ao = none ∨ oblk ao ≠ row) : Lie w' ao cap bs := by
  refine ⟨h.1, h.2.1, fun k hk => ?_⟩
  obtain ⟨b, o, rfl, hc⟩ := h.2.2 k hk
  refine ⟨b, o, rfl, hg.cell hc ?_⟩
  rcases hne with hne | hne
  · cases hne
  · exact hne

theorem grown_trans {a b c : World} {row : Option Nat} (h : a.grownBy b row) (k : b.grownBy c row) : a.grownBy c row :=
  ⟨k.1.trans h.1, k.2.trans h.2, k.3.trans h.3, Nat.le_trans h.4 k.4, fun i hi hn => (k.5 i (Nat.lt_of_lt_of_le hi h.4) hn).trans (h.5 i hi hn)⟩

theorem Lie.below {w w' : World} {ao : Option Addr} {cap : Nat} {bs : List Nat} {B : Nat} (h : Lie w ao cap bs) (hb : Below B w w') (hB : ∀ b, oblk ao = some b → b < B) : Lie w' ao cap bs := by
  refine ⟨h.1, h.2.1, fun k hk => ?_⟩
  obtain ⟨b, o, rfl, hc⟩ := h.2.2 k hk
  exact ⟨b, o, rfl, (hb.cell (p := ⟨b, o + k, none⟩) (hB b rfl)).trans hc⟩

theorem Lie.lt {w : World} {ao : Option Addr} {cap : Nat} {bs : List Nat} (h : Lie w ao cap bs) (h0 : 0 < bs.length) : ∃ b o, ao = some ⟨b, o, none⟩ ∧ b < w.heap.size := by
  obtain ⟨b, o, rfl, hc⟩ := h.2.2 0 h0
  exact ⟨b, o, rfl, lt_cell (q := ⟨b, o + 0, none⟩) hc⟩

/-- In a world that is as it was. -/
theorem Lie.step {w w' : World} {ao : Option Addr} {cap : Nat} {bs : List Nat} (h : Lie w ao cap bs) (hb : Below w.heap.size w w') : Lie w' ao cap bs := by
  refine ⟨h.1, h.2.1, fun k hk => ?_⟩
  obtain ⟨b, o, rfl, hc⟩ := h.2.2 k hk
  exact ⟨b, o, rfl, (hb.cell (p := ⟨b, o + k, none⟩) (lt_cell (q := ⟨b, o + k, none⟩) hc)).trans hc⟩

/-- What the call's own memory holds. -/
theorem Lie.own {w : World} {base n cap : Nat} {ao : Option Addr} {bs : List Nat} (h : w.ownsRow base 5 1 (.slice ao n cap) n (bys bs)) : n = bs.length ∧ Lie w ao cap bs := by
  obtain ⟨h1, h2⟩ := h
  rw [bys_length, Nat.mul_one] at h1
  refine ⟨h1.symm, ?_⟩
  subst h1
  rcases h2 with ⟨e, h0⟩ | ⟨g, cap', cur, e, hg, hh, hle, hm, hsz, ht⟩
  · obtain ⟨rfl, h3⟩ : ao = none ∧ cap = 0 := by simpa [h0] using e
    subst h3
    have : bs = [] := List.length_eq_zero_iff.1 h0
    subst this
    exact Lie.nil w
  · cases e
    refine ⟨hle, (by simp), fun k hk => ⟨g, 0, rfl, ?_⟩⟩
    have hx : cur.toList[k]? = some (.int .u8 (bs[k] : Nat)) := by
      have : (cur.toList.take (bs.length * 1))[k]? = some (.int .u8 (bs[k] : Nat)) := by rw [ht]; simp [bys, hk]
      rw [List.getElem?_take] at this
      simpa [hk] using this
    simp only [World.cell?, hh, Nat.zero_add]
    simpa using hx

/-- What is read out of it, byte by byte. -/
theorem Lie.src {w : World} {ao : Option Addr} {cap : Nat} {bs : List Nat} (h : Lie w ao cap bs) (h0 : 0 < bs.length) : ∃ ad, ao = some ad ∧ ∀ j v, (bys bs)[j]? = some v → w.cell? (ad.add j) = some v := by
  obtain ⟨b, o, rfl, _⟩ := h.2.2 0 h0
  refine ⟨_, rfl, fun j v hj => ?_⟩
  obtain ⟨hj', rfl⟩ := bys_get _ _ _ hj
  obtain ⟨b', o', e, hc⟩ := h.2.2 j hj'
  cases e
  rw [Addr.add_lit]
  exact hc

theorem Tryd.infoU8 : (Tryd.prog.info? 5).map (fun i => (i.zero, i.size, i.bytes)) = some (some (.int .u8 0), 1, 1) := by kernel_rfl

/-- The call's own slice of bytes. -/
def Own (w : World) (B : Nat) (ao : Option Addr) (n cap : Nat) (bs : List Nat) : Prop := w.ownsRow B 5 1 (.slice ao n cap) n (bys bs)

theorem Own.nil (w : World) (B : Nat) : Own w B none 0 0 [] := ⟨rfl, .inl ⟨rfl, rfl⟩⟩
theorem Own.lie {w : World} {B n cap : Nat} {ao : Option Addr} {bs : List Nat} (h : Own w B ao n cap bs) : Lie w ao cap bs := (Lie.own h).2
theorem Own.len {w : World} {B n cap : Nat} {ao : Option Addr} {bs : List Nat} (h : Own w B ao n cap bs) : n = bs.length := (Lie.own h).1
theorem Own.blk {w : World} {B n cap : Nat} {ao : Option Addr} {bs : List Nat} (h : Own w B ao n cap bs) : ∀ k, oblk ao = some k → B ≤ k ∧ k < w.heap.size := by
  obtain ⟨h1, h2⟩ := h
  intro k hk
  rcases h2 with ⟨e, _⟩ | ⟨g, cap', cur, e, hg, hh, r⟩
  · simp only [Value.slice.injEq] at e
    rw [e.1] at hk; cases hk
  · simp only [Value.slice.injEq] at e
    rw [e.1] at hk
    cases hk
    refine ⟨hg, ?_⟩
    rcases Nat.lt_or_ge g w.heap.size with h' | h'
    · exact h'
    · rw [Array.getElem?_eq_none h'] at hh; cases hh
theorem Own.kept {w w' : World} {B n cap : Nat} {ao : Option Addr} {bs : List Nat} {row : Option Nat} (h : Own w B ao n cap bs) (hg : w.grownBy w' row) (hne : oblk ao = none ∨ oblk ao ≠ row) : Own w' B ao n cap bs :=
  World.ownsRow.kept h hg (by
    cases ao with
    | none => exact .inl rfl
    | some q => exact hne)
theorem Own.step {w w' : World} {B n cap : Nat} {ao : Option Addr} {bs : List Nat} (h : Own w B ao n cap bs) (hb : Below w.heap.size w w') : Own w' B ao n cap bs := by
  refine h.kept (grown_of_below hb none) ?_
  cases ao <;> simp [oblk]

theorem Lie.lit1 (w : World) (t : TypeId) (Y : Int) (y : Nat) (hY : Y = (y : Int)) : Lie (w.alloc (.cells #[.int .u8 Y] t)) (some ⟨w.heap.size, 0, none⟩) 1 [y] := by
  subst hY
  refine ⟨Nat.le_refl _, (by simp), fun k hk => ⟨w.heap.size, 0, rfl, ?_⟩⟩
  have : k = 0 := by simpa using hk
  subst this
  simp

theorem own_shape {w : World} {B n : Nat} {v : Value} {xs : List Value} (h : w.ownsRow B 5 1 v n xs) : ∃ ao cap, v = .slice ao n cap := by
  rcases h.2 with ⟨rfl, rfl⟩ | ⟨g, cap, cur, rfl, _⟩
  · exact ⟨_, _, rfl⟩
  · exact ⟨_, _, rfl⟩

theorem u64_or1 (m : Nat) (h : 2 * m < 18446744073709551616) : bits .or .u64 (2 * (m : Int)) 1 = 2 * (m : Int) + 1 := by
  refine bits_join .u64 64 (by decide) (fun n h0 h1 => ?_) 1 _ _ (by omega) (by omega) (by omega) (by omega) (by omega) (by omega)
  rw [IntKind.wrap_u64]; omega

theorem u64_and1 (m : Nat) (h : m < 18446744073709551616) : bits .and .u64 (m : Int) 1 = (m : Int) % 2 := by
  refine bits_mask .u64 64 (by decide) (fun n h0 h1 => ?_) 1 (by decide) _ (by omega) (by omega)
  rw [IntKind.wrap_u64]; omega

end Go.Proofs.YtmgmjklnibmacabDoor
