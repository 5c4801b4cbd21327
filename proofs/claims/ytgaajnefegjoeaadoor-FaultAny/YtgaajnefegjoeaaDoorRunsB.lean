/- DERIVED of the program: FaultRuns returns true. Own work. -/
import Derived.Test.YtgaajnefegjoeaaDoorRunsA
import Derived.Deep.DrawnRows
namespace Go.Proofs.YtgaajnefegjoeaaDoor
open Go.RowKit Go.Extern.Stop Go.Stop Go.Extern

set_option maxHeartbeats 40000000 in
set_option maxRecDepth 100000 in
theorem runs_any_world (w : World) (aF aB : Addr) (hE : Env w aF aB) :
    Calls Tryd.prog 3 #[] w fun r w' => r = .returned (.bool true) ∧ Below w.heap.size w w' := by
  have m1 := Tryd.methodErrorF
  have gF := hE.gF
  have HE := Hid.in hE
  clear hE
  go_enter Tryd.func3, Tryd.ntmps3
  go_wp2_with fail
  refine (wrap_some _ _ _ _ _).mono ?_
  rintro r w ⟨rfl, rfl⟩
  go_wp2_with fail
  refine (wrap_some _ _ _ _ _).mono ?_
  rintro r w ⟨rfl, rfl⟩
  go_wp2_with fail
  refine (find_flt _ _ _ (.inr ⟨_, _, rfl⟩) _ HE.out.et).mono ?_
  rintro r w1 ⟨rfl, hb1⟩
  have HB1 := Hid.in hb1
  clear hb1 gF
  go_wp2_with fail
  have hS0 : St w (w1.alloc (.cells #[.string bAB, .int .i64 3, snt aF] 26)) w1.heap.size := ⟨HB1.out.alloc HB1.out.size _, by simp, by simp⟩
  have hE1 := HE.out
  have k1 : ∀ W, St w W w1.heap.size → W.cell? ⟨0, 0, none⟩ = some (snt aF) := fun W h => (hE1.below h.below).gF
  have k2 : ∀ W, St w W w1.heap.size → W.cell? ⟨1, 0, none⟩ = some (snt aB) := fun W h => (hE1.below h.below).gB
  have k3 : ∀ W, St w W w1.heap.size → W.cell? ⟨w1.heap.size, 0, none⟩ = some (.string bAB) := fun W h => h.f0
  have k4 : ∀ W, St w W w1.heap.size → W.cell? ⟨w1.heap.size, 1, none⟩ = some (.int .i64 3) := fun W h => h.f1
  have k5 : ∀ W, St w W w1.heap.size → St w W.drew w1.heap.size := fun W h => h.drew
  have k6 : ∀ W o, St w W w1.heap.size → St w (W.alloc o) w1.heap.size := fun W o h => h.alloc o
  have e1 : ∀ W, St w W w1.heap.size → (binOp .eql 23 (snt aF) (snt aF)).run Tryd.prog W = .ok (.bool true) W := fun W h => by rw [eqSS aF aF W (hE1.below h.below).sF (hE1.below h.below).sF]; simp
  clear hE1
  go_region_held3 (fun W => St w W w1.heap.size ∧ W.cell? ⟨0, 0, none⟩ = some (snt aF) ∧ W.cell? ⟨1, 0, none⟩ = some (snt aB) ∧ W.cell? ⟨w1.heap.size, 0, none⟩ = some (.string bAB) ∧ W.cell? ⟨w1.heap.size, 1, none⟩ = some (.int .i64 3)) (first | go_keep | (simp [*]; done))
    (first
      | (go_at_call 54; refine (runs_error w aF aB w1.heap.size _ HE.out ?_).mono ?_; (simp [*]); rintro e w' ⟨rfl, hb⟩; have hS : St w w' w1.heap.size := St.step hb (by simp [*]); clear hb)
      | (go_at_call 11; refine (runs_root aF _).mono ?_; rintro e w' ⟨rfl, hb⟩; have hS : St w w' w1.heap.size := St.step hb (by simp [*]); clear hb)
      | (go_at_call 14; refine (runs_depth aF _).mono ?_; rintro e w' ⟨rfl, hb⟩; have hS : St w w' w1.heap.size := St.step hb (by simp [*]); clear hb)
      | (go_at_call 13; refine (runs_ops aF _).mono ?_; rintro e w' ⟨vO, rfl, hR, hb⟩; have hS : St w w' w1.heap.size := St.step hb (by simp [*]); have HR := Hid.in hR; have HBO := Hid.in hb; clear hR hb)
      | (go_at_call 12; refine (same_reads _ _ [bCD, bAB] _ (by decide) ?_ ?_).mono ?_; (first | exact HR.out.alloc _ | exact HR.out); (first | exact reads_new _ _ rfl _ _ _ | exact (reads_new _ _ (by simp) _ _ _).below HBO.out (Nat.le_refl _)); rintro e w' ⟨rfl, hb⟩; have hS : St w w' w1.heap.size := St.step hb (by simp [*]); clear hb)
      | (go_at_call 15; refine (runs_any w aF aB w1.heap.size _ _ HE.out ?_ ?_ ?_).mono ?_; (simp [*]); (simp); (simp); rintro e w' ⟨rfl, hb⟩; have hS : St w w' w1.heap.size := St.step hb (by simp [*]); clear hb)
      | (go_at_call 9; refine (wrap_nil _ _ _).mono ?_; rintro e w' ⟨rfl, rfl⟩))
  all_goals
    have HX := Hid.in hS.below
    clear k1 k2 k3 k4 k5 k6 e1
    go_wp2
    go_ret
    exact ⟨rfl, HX.out⟩
end Go.Proofs.YtgaajnefegjoeaaDoor
