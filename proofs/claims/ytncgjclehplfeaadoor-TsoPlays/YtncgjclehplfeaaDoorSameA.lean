/- DERIVED of the program: assentbook.Same over two slices of one content; (Fault).Error and errors.errorString's. Own work. -/
import Derived.Test.YtncgjclehplfeaaDoorOpsA
import Derived.Deep.QuietTactic
import Derived.BigQuiet
namespace Go.Proofs.YtncgjclehplfeaaDoor
open Go.RowKit Go.Extern.Stop Go.Stop Go.Extern

/-- A slice of texts that reads as xs. -/
def Reads (w : World) (v : Value) (xs : List ByteArray) : Prop :=
  (∃ a c, v = .slice a 0 c ∧ xs = []) ∨ ∃ b o c, v = .slice (some ⟨b, o, none⟩) xs.length c ∧ ∀ (k : Nat) (h : k < xs.length), w.cell? ⟨b, o + k, none⟩ = some (.string xs[k])

theorem same_zero (a1 a2 : Option Addr) (c1 c2 : Nat) (w : World) : Calls Tryd.prog 13 #[.slice a1 0 c1, .slice a2 0 c2] w fun r w' => r = .returned (.bool true) ∧ Below w.heap.size w w' := by
  go_enter Tryd.func13, Tryd.ntmps13
  go_wp2
  refine wp_loop_rounds 1 ?_
  rw [rounds_succ]
  go_wp2
  go_ret
  exact ⟨rfl, Below.refl _ _⟩

set_option maxHeartbeats 1600000 in
theorem sames_some (xs : List ByteArray) (b1 o1 c1 b2 o2 c2 : Nat) (w : World) (hl : xs.length ≤ 1000000)
    (h1 : ∀ (k : Nat) (h : k < xs.length), w.cell? ⟨b1, o1 + k, none⟩ = some (.string xs[k])) (h2 : ∀ (k : Nat) (h : k < xs.length), w.cell? ⟨b2, o2 + k, none⟩ = some (.string xs[k])) :
    Calls Tryd.prog 13 #[.slice (some ⟨b1, o1, none⟩) xs.length c1, .slice (some ⟨b2, o2, none⟩) xs.length c2] w fun r w' => r = .returned (.bool true) ∧ Below w.heap.size w w' := by
  have H1 := Hid.in h1
  have H2 := Hid.in h2
  clear h1 h2
  go_enter Tryd.func13, Tryd.ntmps13
  go_wp2
  go_loopw [5] (fun i wr => ∃ k : Nat, k ≤ xs.length ∧ i = .int .i64 k ∧ Below w.heap.size w wr) (fun i _ => xs.length - (intOf i).toNat)
  case atStart => exact ⟨0, Nat.zero_le _, rfl, Below.refl _ _⟩
  case round =>
    obtain ⟨k, hk, rfl, hb⟩ := hrel
    by_cases hlt : k < xs.length
    · have g1 : wr.cell? ⟨b1, o1 + k, none⟩ = some (.string xs[k]) := (hb.cell (p := ⟨b1, o1 + k, none⟩) (lt_cell (H1.out k hlt))).trans (H1.out k hlt)
      have g2 : wr.cell? ⟨b2, o2 + k, none⟩ = some (.string xs[k]) := (hb.cell (p := ⟨b2, o2 + k, none⟩) (lt_cell (H2.out k hlt))).trans (H2.out k hlt)
      have q0 : (0 : Int) ≤ (k : Int) := by omega
      have q1 : (k : Int) < (xs.length : Int) := by omega
      have HB := Hid.in hb
      clear hb
      go_wp2
      go_quiet (fail)
      go_wp2
      exact ⟨⟨k + 1, hlt, by go_num, drewN_below HB.out _⟩, by simp [intOf]; omega⟩
    · have HB := Hid.in hb
      clear hb
      go_wp2
      go_ret
      exact ⟨rfl, HB.out⟩

theorem same_reads (v1 v2 : Value) (xs : List ByteArray) (w : World) (hl : xs.length ≤ 1000000) (h1 : Reads w v1 xs) (h2 : Reads w v2 xs) :
    Calls Tryd.prog 13 #[v1, v2] w fun r w' => r = .returned (.bool true) ∧ Below w.heap.size w w' := by
  rcases h1 with ⟨a1, c1, rfl, rfl⟩ | ⟨b1, o1, c1, rfl, h1⟩
  · rcases h2 with ⟨a2, c2, rfl, _⟩ | ⟨b2, o2, c2, rfl, h2⟩
    · exact same_zero _ _ _ _ _
    · exact same_zero _ _ _ _ _
  · rcases h2 with ⟨a2, c2, rfl, rfl⟩ | ⟨b2, o2, c2, rfl, h2⟩
    · exact same_zero _ _ _ _ _
    · exact sames_some xs b1 o1 c1 b2 o2 c2 w hl h1 h2


theorem reads_of_owns {w : World} {base n : Nat} {v : Value} {vs : List Value} (xs : List ByteArray) (h : w.ownsRow base 9 1 v n vs) (hv : vs = xs.map .string) (hn : xs.length = n) : Reads w v xs := by
  subst hv; subst hn
  obtain ⟨h1, h2⟩ := h
  rcases h2 with ⟨rfl, h0⟩ | ⟨g, cap, cur, rfl, hg, hh, hle, hm, hsz, ht⟩
  · exact .inl ⟨_, _, rfl, List.length_eq_zero_iff.1 h0⟩
  · refine .inr ⟨g, 0, cap, rfl, fun k hk => ?_⟩
    have hx : cur.toList[k]? = some (.string xs[k]) := by
      have : (cur.toList.take (xs.length * 1))[k]? = some (.string xs[k]) := by rw [ht]; simp [hk]
      rw [List.getElem?_take] at this
      simpa [hk] using this
    simp only [World.cell?, hh, Nat.zero_add]
    simpa using hx
theorem Reads.below {B : Nat} {w w' : World} {v : Value} {xs : List ByteArray} (h : Reads w v xs) (hb : Below B w w') (hB : w.heap.size ≤ B) : Reads w' v xs := by
  rcases h with h | ⟨b, o, c, rfl, h⟩
  · exact .inl h
  · exact .inr ⟨b, o, c, rfl, fun k hk => (hb.cell (p := ⟨b, o + k, none⟩) (Nat.lt_of_lt_of_le (lt_cell (h k hk)) hB)).trans (h k hk)⟩
theorem Reads.alloc {w : World} {v : Value} {xs : List ByteArray} (h : Reads w v xs) (o : Obj) : Reads (w.alloc o) v xs := h.below ((Below.refl _ _).alloc (Nat.le_refl _) o) (Nat.le_refl _)

theorem reads_new (W : World) (H : Nat) (hH : H = W.heap.size) (x y : ByteArray) (t : TypeId) : Reads (W.alloc (.cells #[.string x, .string y] t)) (.slice (some ⟨H, 0, none⟩) 2 2) [x, y] := by
  subst hH
  refine .inr ⟨_, 0, 2, rfl, fun k hk => ?_⟩
  match k, hk with
  | 0, _ => simp
  | 1, _ => simp

end Go.Proofs.YtncgjclehplfeaaDoor
