/- DERIVED of the program: fault.Find by its contracts; the closure of fault.Any. Own work. -/
import Derived.Test.YtncgjclehplfeaaDoorFltA
namespace Go.Proofs.YtncgjclehplfeaaDoor
open Go.RowKit Go.Extern.Stop Go.Stop Go.Extern

/-- holds of a closure that sets a Fault. -/
theorem holds_set3 (k : FuncId) (caps : Array Value) (b : Bool) (W : World) (tb : Nat) (op : ByteArray) (n : Int) (e : Value) (hk : ∀ w, (callFunc k caps).run Tryd.prog w = .ok (.enter k caps) w) (ht : tb < W.heap.size)
    (h : Calls Tryd.prog k caps (W.alloc (.cells #[.bool false] 4)) fun r w' => r = .returned (.bool b) ∧ Below (W.heap.size + 1) (set3 (W.alloc (.cells #[.bool false] 4)) tb op n e) w') :
    Calls Tryd.prog 46 #[.func (.func k) #[] caps] W fun r w' => r = .returned (.bool b) ∧ Below W.heap.size (set3 W tb op n e) w' := by
  have hz := set3_size W tb op n e
  rw [set3_alloc _ _ _ _ _ _ ht] at h
  refine (holds_gen k caps b W ((set3 W tb op n e).alloc (.cells #[.bool false] 4)) hk ?_ ?_ h).mono ?_
  · rw [World.cell?_alloc_at _ _ _ _ hz.symm]; rfl
  · rw [World.frozen?_alloc_at _ _ _ _ hz.symm]
  · rintro r w' ⟨he, hb⟩
    exact ⟨he, ((Below.refl _ _).alloc (Nat.le_of_eq hz.symm) _).trans hb⟩

/-- What Find's three new blocks are, and what is left of them behind the closure's call. -/
theorem findW (w : World) (x : Value) (op : ByteArray) (n : Int) (e : Value) (w1 : World)
    (hb : Below (((w.alloc (.cells #[x] 29)).alloc (.cells #[.string ⟨#[]⟩, .int .i64 0, .nilIface] 74)).alloc (.cells #[.string ⟨#[]⟩, .int .i64 0, .nilIface] 74)).heap.size
      (set3 (((w.alloc (.cells #[x] 29)).alloc (.cells #[.string ⟨#[]⟩, .int .i64 0, .nilIface] 74)).alloc (.cells #[.string ⟨#[]⟩, .int .i64 0, .nilIface] 74)) (w.heap.size + 1 + 1) op n e) w1) :
    Zero3 w1 (w.heap.size + 1) ∧ w1.cell? ⟨w.heap.size + 1 + 1, 0, none⟩ = some (.string op) ∧ w1.cell? ⟨w.heap.size + 1 + 1, 1, none⟩ = some (.int .i64 n) ∧ w1.cell? ⟨w.heap.size + 1 + 1, 2, none⟩ = some e ∧ Below w.heap.size w w1 := by
  obtain ⟨c0, c1, c2⟩ := set3_cells op n e (new_var3 ((w.alloc (.cells #[x] 29)).alloc (.cells #[.string ⟨#[]⟩, .int .i64 0, .nilIface] 74)) (w.heap.size + 1 + 1) (by simp))
  refine ⟨?_, ?_, ?_, ?_, ?_⟩
  · exact (((Zero3.new _ _ (by simp)).alloc _).aft op n e (by simp)).below hb (by simp)
  · exact (hb.cell (p := ⟨w.heap.size + 1 + 1, 0, none⟩) (by simp)).trans c0
  · exact (hb.cell (p := ⟨w.heap.size + 1 + 1, 1, none⟩) (by simp)).trans c1
  · exact (hb.cell (p := ⟨w.heap.size + 1 + 1, 2, none⟩) (by simp)).trans c2
  · refine Below.trans ?_ (hb.mono (by simp; omega))
    unfold set3
    exact (((((((Below.refl _ _).alloc (Nat.le_refl _) _).alloc (by simp) _).alloc (by simp; omega) _).setCell (by simp; omega) _).setCell (by simp; omega) _).setCell (by simp; omega) _)

/-- Behind a closure's call that turned nothing. -/
theorem findW0 (w : World) (x : Value) (w1 : World)
    (hb : Below (((w.alloc (.cells #[x] 29)).alloc (.cells #[.string ⟨#[]⟩, .int .i64 0, .nilIface] 74)).alloc (.cells #[.string ⟨#[]⟩, .int .i64 0, .nilIface] 74)).heap.size
      (((w.alloc (.cells #[x] 29)).alloc (.cells #[.string ⟨#[]⟩, .int .i64 0, .nilIface] 74)).alloc (.cells #[.string ⟨#[]⟩, .int .i64 0, .nilIface] 74)) w1) :
    Zero3 w1 (w.heap.size + 1) ∧ Below w.heap.size w w1 := by
  refine ⟨?_, ?_⟩
  · exact ((Zero3.new _ _ (by simp)).alloc _).below hb (by simp)
  · refine Below.trans ?_ (hb.mono (by simp; omega))
    exact ((((Below.refl _ _).alloc (Nat.le_refl _) _).alloc (by simp) _).alloc (by simp; omega) _)

end Go.Proofs.YtncgjclehplfeaaDoor
