/- DERIVED of the program: the first contracts of package fault: Wrap, (Fault).Unwrap, holds and its deferred closure. Own work. -/
import Derived.Test.YtbjjabfeaacpkaaDoorProg
import Derived.WalkKit
import Derived.LaidEql
import Derived.Stop.Asserts
import Derived.RowKitTokens
import Derived.Defers
import Derived.Recover
namespace Go.Proofs.YtbjjabfeaacpkaaDoor
open Go.RowKit Go.Extern.Stop Go.Stop Go.Extern

/-- A Fault as a value of type error. -/
abbrev flt (op : ByteArray) (at_ : Int) (e : Value) : Value := .iface 26 (.agg #[.string op, .int .i64 at_, e])
/-- A sentinel: what errors.New made. -/
abbrev snt (a : Addr) : Value := .iface 87 (.pointer (some a))

theorem wrap_nil (op : ByteArray) (n : Int) (w : World) :
    Calls Tryd.prog 9 #[.string op, .int .i64 n, .nilIface] w fun e w' => e = .returned .nilIface ∧ w' = w := by
  go_enter Tryd.func9, Tryd.ntmps9
  go_wp2
  go_ret
  exact ⟨rfl, rfl⟩

theorem wrap_some (op : ByteArray) (n : Int) (t : TypeId) (v : Value) (w : World) :
    Calls Tryd.prog 9 #[.string op, .int .i64 n, .iface t v] w fun e w' => e = .returned (flt op n (.iface t v)) ∧ w' = w := by
  go_enter Tryd.func9, Tryd.ntmps9
  go_wp2
  go_ret
  exact ⟨rfl, rfl⟩

theorem funwrap_any (op : ByteArray) (n : Int) (e : Value) (w : World) :
    Calls Tryd.prog 58 #[.agg #[.string op, .int .i64 n, e]] w fun r w' => r = .returned e ∧ w' = w.alloc (.cells #[.string op, .int .i64 n, e] 26) := by
  go_enter Tryd.func58, Tryd.ntmps58
  go_wp2
  go_ret
  exact ⟨rfl, rfl⟩

theorem catch_idle (p : Addr) (w : World) :
    CallsD Tryd.prog 29 #[.pointer (some p)] .returning w fun e u' w' => e = .returned (.tuple #[]) ∧ u' = .returning ∧ w' = w := by
  refine callsD_of_wpS Tryd.func29 rfl fun c₀ cs hu => ?_
  apply wpS_seq
  apply wpS_region
  simp [wpOpsS, go_sem, recoverD, hu, Tryd.ntmps29, Exit.thenS]
  refine wpS_cond (t := false) (by simp [Act.eval, Array.replicate]) ?_
  simp only [Bool.false_eq_true, if_false]
  refine wpS_of_wp (wp_skip ?_)
  cases c₀
  simp_all [bodyPostS, results, Tryd.results29]

theorem holds_any (k : FuncId) (caps : Array Value) (b : Bool) (w : World) (Q : World → Prop) (hk : ∀ w, (callFunc k caps).run Tryd.prog w = .ok (.enter k caps) w)
    (h : Calls Tryd.prog k caps (w.alloc (.cells #[.bool false] 4)) fun e w' => e = .returned (.bool b) ∧ Q w' ∧ w'.cell? ⟨w.heap.size, 0, none⟩ = some (.bool false) ∧ w'.frozen? ⟨w.heap.size, 0, none⟩ = false) :
    Calls Tryd.prog 20 #[.func (.func k) #[] caps] w fun e w' => e = .returned (.bool b) ∧ ∃ w1, Q w1 ∧ w' = w1.setCell ⟨w.heap.size, 0, none⟩ (.bool b) := by
  have hmf : ∀ (fn : Fn) (first cap : Array Value) (w : World), (Instr.makeFunc fn first cap).run Tryd.prog w = .ok (.func fn first cap) w := fun _ _ _ _ => rfl
  have H : Hid (Calls Tryd.prog k caps (w.alloc (.cells #[.bool false] 4)) fun e w' => e = .returned (.bool b) ∧ Q w' ∧ w'.cell? ⟨w.heap.size, 0, none⟩ = some (.bool false) ∧ w'.frozen? ⟨w.heap.size, 0, none⟩ = false) := h
  clear h
  go_enter_defers Tryd.func20, Tryd.ntmps20
  go_wp2_with fail
  refine H.out.mono ?_
  rintro e w1 ⟨rfl, hQ, hc, hf⟩
  go_wp2

  refine leaves_cons (f := 29) (args := #[.pointer (some ⟨w.heap.size, 0, none⟩)]) (by simp) (by simp [go_sem]) ?_
  refine (catch_idle ⟨w.heap.size, 0, none⟩ _).mono ?_
  rintro e u' w'' ⟨rfl, rfl, rfl⟩
  have hs : (w1.setCell ⟨w.heap.size, 0, none⟩ (.bool b)).cell? ⟨w.heap.size, 0, none⟩ = some (.bool b) := World.cell?_setCell_same _ _ _ hc
  simp [Leaves, settle, results, Tryd.results20, go_sem, hs]
  exact ⟨w1, hQ, rfl⟩

/-- holds, in a form that hands a frame on: X is what the closure leaves below its own blocks. -/
theorem holds_gen (k : FuncId) (caps : Array Value) (b : Bool) (W X : World) (hk : ∀ w, (callFunc k caps).run Tryd.prog w = .ok (.enter k caps) w)
    (hc : X.cell? ⟨W.heap.size, 0, none⟩ = some (.bool false)) (hf : X.frozen? ⟨W.heap.size, 0, none⟩ = false)
    (h : Calls Tryd.prog k caps (W.alloc (.cells #[.bool false] 4)) fun e w' => e = .returned (.bool b) ∧ Below (W.heap.size + 1) X w') :
    Calls Tryd.prog 20 #[.func (.func k) #[] caps] W fun e w' => e = .returned (.bool b) ∧ Below W.heap.size X w' := by
  refine (holds_any k caps b W (fun w' => Below (W.heap.size + 1) X w') hk (h.mono ?_)).mono ?_
  · rintro e w' ⟨he, hb⟩
    refine ⟨he, hb, ?_, ?_⟩
    · rw [hb.cell (p := ⟨W.heap.size, 0, none⟩) (Nat.lt_succ_self _)]; exact hc
    · rw [hb.frozen (p := ⟨W.heap.size, 0, none⟩) (Nat.lt_succ_self _)]; exact hf
  · rintro e w' ⟨he, w1, hb, rfl⟩
    exact ⟨he, (hb.mono (Nat.le_succ _)).setCell (Nat.le_refl _) _⟩

/-- A value of an interface type. -/
def isIf (e : Value) : Prop := e = .nilIface ∨ ∃ t v, e = .iface t v

theorem lt_cell {w : World} {q : Addr} {o : Value} (hq : w.cell? q = some o) : q.block < w.heap.size := by
  rcases Nat.lt_or_ge q.block w.heap.size with h | h
  · exact h
  · simp [World.cell?, Array.getElem?_eq_none h] at hq

theorem setCell_alloc {w : World} {q : Addr} (o : Obj) (e : Value) (h : q.block < w.heap.size) : (w.alloc o).setCell q e = (w.setCell q e).alloc o := by
  simp only [World.setCell, World.alloc]
  congr 1
  apply Array.ext_getElem?
  intro i
  simp only [Array.getElem?_modify, Array.getElem?_push, Array.size_modify]
  by_cases hi : i = w.heap.size
  · subst hi; simp; omega
  · simp [hi]

theorem alloc_cell {w : World} {q : Addr} {o : Value} (x : Obj) (hq : w.cell? q = some o) : (w.alloc x).cell? q = some o := by
  rw [World.cell?_alloc_lt _ _ q (lt_cell hq)]; exact hq
theorem alloc_frozen {w : World} {q : Addr} {o : Value} (x : Obj) (hq : w.cell? q = some o) (hf : w.frozen? q = false) : (w.alloc x).frozen? q = false := by
  rw [World.frozen?_alloc_old _ _ q (Nat.ne_of_lt (lt_cell hq))]; exact hf

/-- holds of a closure that makes memory alone. -/
theorem holds_new (k : FuncId) (caps : Array Value) (b : Bool) (W : World) (hk : ∀ w, (callFunc k caps).run Tryd.prog w = .ok (.enter k caps) w)
    (h : Calls Tryd.prog k caps (W.alloc (.cells #[.bool false] 4)) fun e w' => e = .returned (.bool b) ∧ Below (W.heap.size + 1) (W.alloc (.cells #[.bool false] 4)) w') :
    Calls Tryd.prog 20 #[.func (.func k) #[] caps] W fun e w' => e = .returned (.bool b) ∧ Below W.heap.size W w' := by
  refine (holds_gen k caps b W (W.alloc (.cells #[.bool false] 4)) hk ?_ ?_ h).mono ?_
  · rw [World.cell?_alloc_at _ _ _ _ rfl]; rfl
  · rw [World.frozen?_alloc_at _ _ _ _ rfl]
  · rintro e w' ⟨he, hb⟩
    exact ⟨he, ((Below.refl _ _).alloc (Nat.le_refl _) _).trans hb⟩

/-- holds of a closure that sets one cell. -/
theorem holds_set (k : FuncId) (caps : Array Value) (b : Bool) (W : World) (q : Addr) (o e : Value) (hk : ∀ w, (callFunc k caps).run Tryd.prog w = .ok (.enter k caps) w) (hq : W.cell? q = some o)
    (h : Calls Tryd.prog k caps (W.alloc (.cells #[.bool false] 4)) fun r w' => r = .returned (.bool b) ∧ Below (W.heap.size + 1) ((W.alloc (.cells #[.bool false] 4)).setCell q e) w') :
    Calls Tryd.prog 20 #[.func (.func k) #[] caps] W fun r w' => r = .returned (.bool b) ∧ Below W.heap.size (W.setCell q e) w' := by
  have hz : (W.setCell q e).heap.size = W.heap.size := by simp [World.setCell]
  rw [setCell_alloc _ _ (lt_cell hq)] at h
  refine (holds_gen k caps b W ((W.setCell q e).alloc (.cells #[.bool false] 4)) hk ?_ ?_ h).mono ?_
  · rw [World.cell?_alloc_at _ _ _ _ hz.symm]; rfl
  · rw [World.frozen?_alloc_at _ _ _ _ hz.symm]
  · rintro r w' ⟨he, hb⟩
    exact ⟨he, ((Below.refl _ _).alloc (Nat.le_of_eq hz.symm) _).trans hb⟩

/-- Old cells and marks behind a call that made memory alone. -/
theorem bcell {W w1 : World} (hb : Below W.heap.size W w1) : (∀ b o, b < W.heap.size → w1.cell? ⟨b, o, none⟩ = W.cell? ⟨b, o, none⟩) ∧ (∀ b o, b < W.heap.size → w1.frozen? ⟨b, o, none⟩ = W.frozen? ⟨b, o, none⟩) :=
  ⟨fun b o h => hb.cell (p := ⟨b, o, none⟩) h, fun b o h => hb.frozen (p := ⟨b, o, none⟩) h⟩
theorem Hid.in {p : Prop} (h : p) : Hid p := h
end Go.Proofs.YtbjjabfeaacpkaaDoor
