/- DERIVED of the program: assentbook.Same over two slices of one content; (Fault).Error and errors.errorString's. Own work. -/
import Derived.Test.YtgaajnefegjoeaaDoorOpsA
import Derived.Deep.QuietTactic
import Derived.BigQuiet
namespace Go.Proofs.YtgaajnefegjoeaaDoor
open Go.RowKit Go.Extern.Stop Go.Stop Go.Extern

/-- A slice of texts that reads as xs. -/
def Reads (w : World) (v : Value) (xs : List ByteArray) : Prop :=
  (∃ a c, v = .slice a 0 c ∧ xs = []) ∨ ∃ b o c, v = .slice (some ⟨b, o, none⟩) xs.length c ∧ ∀ (k : Nat) (h : k < xs.length), w.cell? ⟨b, o + k, none⟩ = some (.string xs[k])

theorem drewN_below {B : Nat} {w w' : World} (h : Below B w w') (n : Nat) : Below B w (w'.drewN n) := ⟨h.os, h.tape, h.output, h.size, h.block⟩

theorem same_zero (a1 a2 : Option Addr) (c1 c2 : Nat) (w : World) : Calls Tryd.prog 12 #[.slice a1 0 c1, .slice a2 0 c2] w fun r w' => r = .returned (.bool true) ∧ Below w.heap.size w w' := by
  go_enter Tryd.func12, Tryd.ntmps12
  go_wp2
  refine wp_loop_rounds 1 ?_
  rw [rounds_succ]
  go_wp2
  go_ret
  exact ⟨rfl, Below.refl _ _⟩

set_option maxHeartbeats 1600000 in
theorem same_some (xs : List ByteArray) (b1 o1 c1 b2 o2 c2 : Nat) (w : World) (hl : xs.length ≤ 1000000)
    (h1 : ∀ (k : Nat) (h : k < xs.length), w.cell? ⟨b1, o1 + k, none⟩ = some (.string xs[k])) (h2 : ∀ (k : Nat) (h : k < xs.length), w.cell? ⟨b2, o2 + k, none⟩ = some (.string xs[k])) :
    Calls Tryd.prog 12 #[.slice (some ⟨b1, o1, none⟩) xs.length c1, .slice (some ⟨b2, o2, none⟩) xs.length c2] w fun r w' => r = .returned (.bool true) ∧ Below w.heap.size w w' := by
  have H1 := Hid.in h1
  have H2 := Hid.in h2
  clear h1 h2
  go_enter Tryd.func12, Tryd.ntmps12
  go_wp2
  go_loopw [5] (fun i wr => ∃ k : Nat, k ≤ xs.length ∧ i = .int .i64 k ∧ Below w.heap.size w wr) (fun i _ => xs.length - (intOf i).toNat)
  case atStart => exact ⟨0, Nat.zero_le _, rfl, Below.refl _ _⟩
  case round =>
    obtain ⟨k, hk, rfl, hb⟩ := hrel
    by_cases hlt : k < xs.length
    · have g1 : wr.cell? ⟨b1, o1 + k, none⟩ = some (.string xs[k]) := (hb.cell (p := ⟨b1, o1 + k, none⟩) (lt_cell (H1.out k hlt))).trans (H1.out k hlt)
      have g2 : wr.cell? ⟨b2, o2 + k, none⟩ = some (.string xs[k]) := (hb.cell (p := ⟨b2, o2 + k, none⟩) (lt_cell (H2.out k hlt))).trans (H2.out k hlt)
      have q0 : (0 : Int) ≤ (k : Int) := by omega
      have q1 : (k : Int) < (xs.length : Int) := by omega
      have HB := Hid.in hb
      clear hb
      go_wp2
      go_quiet (fail)
      go_wp2
      exact ⟨⟨k + 1, hlt, by go_num, drewN_below HB.out _⟩, by simp [intOf]; omega⟩
    · have HB := Hid.in hb
      clear hb
      go_wp2
      go_ret
      exact ⟨rfl, HB.out⟩

theorem same_reads (v1 v2 : Value) (xs : List ByteArray) (w : World) (hl : xs.length ≤ 1000000) (h1 : Reads w v1 xs) (h2 : Reads w v2 xs) :
    Calls Tryd.prog 12 #[v1, v2] w fun r w' => r = .returned (.bool true) ∧ Below w.heap.size w w' := by
  rcases h1 with ⟨a1, c1, rfl, rfl⟩ | ⟨b1, o1, c1, rfl, h1⟩
  · rcases h2 with ⟨a2, c2, rfl, _⟩ | ⟨b2, o2, c2, rfl, h2⟩
    · exact same_zero _ _ _ _ _
    · exact same_zero _ _ _ _ _
  · rcases h2 with ⟨a2, c2, rfl, rfl⟩ | ⟨b2, o2, c2, rfl, h2⟩
    · exact same_zero _ _ _ _ _
    · exact same_some xs b1 o1 c1 b2 o2 c2 w hl h1 h2

theorem serror_any (a : Addr) (s : ByteArray) (w : World) (h : w.cell? a = some (.string s)) : Calls Tryd.prog 70 #[.pointer (some a)] w fun r w' => r = .returned (.string s) ∧ w' = w := by
  go_enter Tryd.func70, Tryd.ntmps70
  go_wp2
  go_ret
  exact ⟨rfl, rfl⟩
end Go.Proofs.YtgaajnefegjoeaaDoor
