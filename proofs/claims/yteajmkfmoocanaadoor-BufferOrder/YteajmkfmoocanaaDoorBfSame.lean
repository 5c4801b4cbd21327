/- DERIVED of the program: Same of two rows of stores that are the same. Own work. -/
import Derived.Test.YteajmkfmoocanaaDoorBfRuns
namespace Go.Proofs.YteajmkfmoocanaaDoor
open Go.RowKit Go.Extern.Stop Go.Stop Go.Extern

set_option maxHeartbeats 1600000 in
theorem same_writes (w : World) (B1 B2 : Nat) (a1 a2 : Option Addr) (n c1 c2 : Nat) (L : List (Int × Int)) (h1 : OwnW 32 w B1 a1 n c1 L) (h2 : OwnW 32 w B2 a2 n c2 L) (hn : n ≤ 1000) :
    Calls Tryd.prog 22 #[.slice a1 n c1, .slice a2 n c2] w fun r w' => r = .returned (.bool true) ∧ Below w.heap.size w w' := by
  have H1 := Hid.in h1
  have H2 := Hid.in h2
  clear h1 h2
  go_enter Tryd.func22, Tryd.ntmps22
  go_wp2
  go_loopw [5] (fun c wr => ∃ j : Nat, j ≤ n ∧ c = .int .i64 (j : Int) ∧ Below w.heap.size w wr) (fun c _ => n - (intOf c).toNat)
  case atStart => exact ⟨0, Nat.zero_le _, rfl, Below.refl _ _⟩
  case round =>
    obtain ⟨j, hj, rfl, hb⟩ := hrel
    have HB := Hid.in hb
    clear hb
    by_cases hlt : j < n
    · obtain ⟨b1, o1, e0, e1, rfl, x1, x2, k1⟩ := (H1.out.step HB.out).wat j hlt
      obtain ⟨b2, o2, f0, f1, rfl, y1, y2, k2⟩ := (H2.out.step HB.out).wat j hlt
      rw [k1] at k2
      cases k2
      clear k1
      have hne := ne_write e0 e1
      have i1 : (j : Int) < (n : Int) := by omega
      go_wp2
      go_quiet (fail)
      go_wp2
      go_roundw
      case rel => exact ⟨j + 1, by omega, by go_num, drewN_below HB.out _⟩
      case measure => simp [intOf]; omega
    · go_wp2
      go_ret
      exact ⟨rfl, HB.out⟩

/-- 's[:j]'. -/
theorem slice_toW (ao : Option Addr) (N cap j : Nat) (hj : j ≤ cap) (w : World) : (Instr.sliceAt 47 (.slice ao N cap) none (some (.int .i64 (j : Int))) none).run Tryd.prog w = .ok (.slice ao j cap) w := by
  obtain ⟨i0, hi, hz0, hz1, hz2⟩ := info_parts Tryd.infoWrite
  have hj2 : (0 : Int) ≤ (j : Int) ∧ (j : Int) ≤ (cap : Int) := by omega
  have hn : ¬ cap < j := by omega
  have hm : ao.map (fun x => x.add 0) = ao := by cases ao <;> simp [Addr.add]
  simp [Instr.sliceAt, Instr.slice, Instr.sliceBounds, Instr.sliceBound, asIntOf, Sem.run_bind, run_underlying Tryd.underlying47, hj2, hn, sizeOf, typeInfo, hi, hm]

end Go.Proofs.YteajmkfmoocanaaDoor
