/- DERIVED of the program: (Fault).Error over a way of Faults. Own work. -/
import Derived.Test.YtgaajnefegjoeaaDoorSameA
import Derived.Deep.RegionHeld3
namespace Go.Proofs.YtgaajnefegjoeaaDoor
open Go.RowKit Go.Extern.Stop Go.Stop Go.Extern

theorem Tryd.methodErrorS (v : Value) (w : World) : (Go.method 217 84 v "Error").run Tryd.prog w = .ok (70, v) w := by kernel_rfl
theorem Tryd.methodErrorF (v : Value) (w : World) : (Go.method 217 26 v "Error").run Tryd.prog w = .ok (54, v) w := by kernel_rfl

theorem add_run (x y : ByteArray) (h : x.size + y.size ≤ 9223372036854775807) (w : World) : (binOp .add 9 (.string x) (.string y)).run Tryd.prog w = .ok (.string (x ++ y)) w := by
  have := run_string_add_sum (P := Tryd.prog) w x y h
  simp [binOp, this]

set_option maxHeartbeats 1600000 in
theorem ferror_snt (op : ByteArray) (n : Int) (a : Addr) (s : ByteArray) (w : World) (h : w.cell? a = some (.string s)) (hz : op.size + s.size ≤ 4611686018427387904) :
    Calls Tryd.prog 54 #[.agg #[.string op, .int .i64 n, snt a]] w fun r w' => r = .returned (.string (op ++ ⟨#[58, 32]⟩ ++ s)) ∧ Below w.heap.size w w' := by
  have m1 := Tryd.methodErrorS
  have hlt := lt_cell h
  have z1 : ¬ (9223372036854775807 < op.size + 2) := by omega
  have z2 : ¬ (9223372036854775807 < op.size + 2 + s.size) := by omega
  clear hz
  go_enter Tryd.func54, Tryd.ntmps54
  go_wp2
  go_region_held3 (fun w' => w'.cell? ⟨w.heap.size, 0, none⟩ = some (.string op) ∧ w'.cell? ⟨w.heap.size, 2, none⟩ = some (snt a) ∧ w'.cell? a = some (.string s)) (go_keep)
    (first | (go_at_call 70; refine (serror_any a s _ ?_).mono ?_; (simp [*]); rintro e w' ⟨rfl, rfl⟩))
  go_wp2
  go_ret
  exact ⟨rfl, ((Below.refl _ _).alloc (Nat.le_refl _) _).drew⟩

set_option maxHeartbeats 1600000 in
theorem ferror_flt (op : ByteArray) (n : Int) (v : Value) (s : ByteArray) (w : World) (h : ∀ W, Below w.heap.size w W → Calls Tryd.prog 54 #[v] W fun r w' => r = .returned (.string s) ∧ Below W.heap.size W w') (hz : op.size + s.size ≤ 4611686018427387904) :
    Calls Tryd.prog 54 #[.agg #[.string op, .int .i64 n, .iface 26 v]] w fun r w' => r = .returned (.string (op ++ ⟨#[58, 32]⟩ ++ s)) ∧ Below w.heap.size w w' := by
  have m1 := Tryd.methodErrorF
  have z1 : ¬ (9223372036854775807 < op.size + 2) := by omega
  have z2 : ¬ (9223372036854775807 < op.size + 2 + s.size) := by omega
  clear hz
  have H := Hid.in h
  clear h
  go_enter Tryd.func54, Tryd.ntmps54
  go_wp2
  go_region_held3 (fun w' => w'.cell? ⟨w.heap.size, 0, none⟩ = some (.string op) ∧ w'.cell? ⟨w.heap.size, 2, none⟩ = some (.iface 26 v)) (go_keep)
    (first | (go_at_call 54; refine (H.out _ ?_).mono ?_; exact ((Below.refl _ _).alloc (Nat.le_refl _) _).drew; rintro e w' ⟨rfl, hb⟩; have c0 : w'.cell? ⟨w.heap.size, 0, none⟩ = some (.string op) := (hb.cell (p := ⟨w.heap.size, 0, none⟩) (by simp)).trans (by simp); have c2 : w'.cell? ⟨w.heap.size, 2, none⟩ = some (.iface 26 v) := (hb.cell (p := ⟨w.heap.size, 2, none⟩) (by simp)).trans (by simp)))
  have HB : Hid (Below w.heap.size w w') := Hid.in (((Below.refl _ _).alloc (Nat.le_refl _) _).drew.trans (hb.mono (by simp)))
  clear hb
  go_wp2
  go_ret
  exact ⟨rfl, HB.out⟩

/-- The text of a way. -/
def txt : List (ByteArray × Int) → ByteArray → ByteArray
  | [], s => s
  | x :: l, s => x.1 ++ ⟨#[58, 32]⟩ ++ txt l s
def txtLen : List (ByteArray × Int) → Nat
  | [] => 0
  | x :: l => x.1.size + 2 + txtLen l
theorem txt_size (l : List (ByteArray × Int)) (s : ByteArray) : (txt l s).size = txtLen l + s.size := by
  induction l with
  | nil => simp [txt, txtLen]
  | cons x l ih =>
    have : (ByteArray.mk #[58, 32]).size = 2 := rfl
    simp only [txt, txtLen, ByteArray.size_append, ih]; omega

theorem ferror_chn (l : List (ByteArray × Int)) : ∀ (op : ByteArray) (n : Int) (a : Addr) (s : ByteArray) (w : World), w.cell? a = some (.string s) → txtLen l + op.size + s.size ≤ 4611686018427387904 →
    Calls Tryd.prog 54 #[.agg #[.string op, .int .i64 n, chn l (snt a)]] w fun r w' => r = .returned (.string (txt ((op, n) :: l) s)) ∧ Below w.heap.size w w' := by
  induction l with
  | nil =>
    intro op n a s w h hz
    exact ferror_snt op n a s w h (by simp only [txtLen] at hz; omega)
  | cons x l ih =>
    intro op n a s w h hz
    simp only [txtLen] at hz
    refine ferror_flt op n _ (txt (x :: l) s) w (fun W hW => ih x.1 x.2 a s W ((hW.cell (p := a) (lt_cell h)).trans h) (by omega)) ?_
    have := txt_size (x :: l) s
    simp only [txtLen] at this
    omega
end Go.Proofs.YtgaajnefegjoeaaDoor
