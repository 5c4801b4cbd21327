/- DERIVED of the program: Same of two rows of misses that are the same. Own work. -/
import Derived.Test.YtbljopjjmlacpaaDoorMsB
import Derived.Laws.StructEq
import Derived.ChangeKeysEq
namespace Go.Proofs.YtbljopjjmlacpaaDoor
open Go.RowKit Go.Extern.Stop Go.Stop Go.Extern

set_option maxRecDepth 100000 in
theorem eq_miss (d : Nat) (a b : Int) (w : World) : (Op.equalIn (d + 3) 48 (.agg #[.int .i64 a, .int .i64 b]) (.agg #[.int .i64 a, .int .i64 b])).run Tryd.prog w = .ok true w := by
  rw [run_equalIn_struct w (d + 2) 48 _ _ Tryd.underlying48 (by kernel_rfl)]
  simp [Op.eqFields, go_sem]
theorem ne_miss (a b : Int) (w : World) : (binOp .neq 48 (.agg #[.int .i64 a, .int .i64 b]) (.agg #[.int .i64 a, .int .i64 b])).run Tryd.prog w = .ok (.bool false) w := by
  have h := eq_miss 9997 a b w
  simp only [binOp]
  simp [Op.equal, Op.maxDepth, h]

set_option maxHeartbeats 1600000 in
theorem same_misses (w : World) (B1 B2 : Nat) (a1 a2 : Option Addr) (n c1 c2 : Nat) (L : List (Int × Int)) (h1 : OwnM 48 w B1 a1 n c1 L) (h2 : OwnM 48 w B2 a2 n c2 L) (hn : n ≤ 1000) :
    Calls Tryd.prog 20 #[.slice a1 n c1, .slice a2 n c2] w fun r w' => r = .returned (.bool true) ∧ Below w.heap.size w w' := by
  have H1 := Hid.in h1
  have H2 := Hid.in h2
  have HL := Hid.in h1.mlen
  clear h1 h2
  go_enter Tryd.func20, Tryd.ntmps20
  go_wp2
  go_loopw [5] (fun c wr => ∃ j : Nat, j ≤ n ∧ c = .int .i64 (j : Int) ∧ Below w.heap.size w wr) (fun c _ => n - (intOf c).toNat)
  case atStart => exact ⟨0, Nat.zero_le _, rfl, Below.refl _ _⟩
  case round =>
    obtain ⟨j, hj, rfl, hb⟩ := hrel
    have HB := Hid.in hb
    clear hb
    by_cases hlt : j < n
    · have hjL : j < L.length := by rw [← HL.out]; exact hlt
      obtain ⟨b1, rfl, x1, x2⟩ := OwnS.miss (OwnS.step H1.out HB.out) j hjL
      obtain ⟨b2, rfl, y1, y2⟩ := OwnS.miss (OwnS.step H2.out HB.out) j hjL
      generalize L[j].1 = e0 at x1 y1
      generalize L[j].2 = e1 at x2 y2
      have hne := ne_miss e0 e1
      have i1 : (j : Int) < (n : Int) := by omega
      go_wp2
      go_quiet (fail)
      go_wp2
      go_roundw
      case rel => exact ⟨j + 1, by omega, by go_num, drewN_below HB.out _⟩
      case measure => simp [intOf]; omega
    · go_wp2
      go_ret
      exact ⟨rfl, HB.out⟩

end Go.Proofs.YtbljopjjmlacpaaDoor
