/- DERIVED of the program: fault.holds, errors.Unwrap, fault.below, Depth, Root. Own work. -/
import Derived.Test.YtncgjclehplfeaaDoorBaseIs
import Derived.Defers
import Derived.Recover
namespace Go.Proofs.YtncgjclehplfeaaDoor
open Go.RowKit Go.Extern.Stop Go.Stop Go.Extern

theorem catch_idle (p : Addr) (w : World) :
    CallsD Tryd.prog 56 #[.pointer (some p)] .returning w fun e u' w' => e = .returned (.tuple #[]) ∧ u' = .returning ∧ w' = w := by
  refine callsD_of_wpS Tryd.func56 rfl fun c₀ cs hu => ?_
  apply wpS_seq
  apply wpS_region
  simp [wpOpsS, go_sem, recoverD, hu, Tryd.ntmps56, Exit.thenS]
  refine wpS_cond (t := false) (by simp [Act.eval, Array.replicate]) ?_
  simp only [Bool.false_eq_true, if_false]
  refine wpS_of_wp (wp_skip ?_)
  cases c₀
  simp_all [bodyPostS, results, Tryd.results56]

theorem holds_any (k : FuncId) (caps : Array Value) (b : Bool) (w : World) (Q : World → Prop) (hk : ∀ w, (callFunc k caps).run Tryd.prog w = .ok (.enter k caps) w)
    (h : Calls Tryd.prog k caps (w.alloc (.cells #[.bool false] 4)) fun e w' => e = .returned (.bool b) ∧ Q w' ∧ w'.cell? ⟨w.heap.size, 0, none⟩ = some (.bool false) ∧ w'.frozen? ⟨w.heap.size, 0, none⟩ = false) :
    Calls Tryd.prog 46 #[.func (.func k) #[] caps] w fun e w' => e = .returned (.bool b) ∧ ∃ w1, Q w1 ∧ w' = w1.setCell ⟨w.heap.size, 0, none⟩ (.bool b) := by
  have hmf : ∀ (fn : Fn) (first cap : Array Value) (w : World), (Instr.makeFunc fn first cap).run Tryd.prog w = .ok (.func fn first cap) w := fun _ _ _ _ => rfl
  have H : Hid (Calls Tryd.prog k caps (w.alloc (.cells #[.bool false] 4)) fun e w' => e = .returned (.bool b) ∧ Q w' ∧ w'.cell? ⟨w.heap.size, 0, none⟩ = some (.bool false) ∧ w'.frozen? ⟨w.heap.size, 0, none⟩ = false) := h
  clear h
  go_enter_defers Tryd.func46, Tryd.ntmps46
  go_wp2_with fail
  refine H.out.mono ?_
  rintro e w1 ⟨rfl, hQ, hc, hf⟩
  go_wp2

  refine leaves_cons (f := 56) (args := #[.pointer (some ⟨w.heap.size, 0, none⟩)]) (by simp) (by simp [go_sem]) ?_
  refine (catch_idle ⟨w.heap.size, 0, none⟩ _).mono ?_
  rintro e u' w'' ⟨rfl, rfl, rfl⟩
  have hs : (w1.setCell ⟨w.heap.size, 0, none⟩ (.bool b)).cell? ⟨w.heap.size, 0, none⟩ = some (.bool b) := World.cell?_setCell_same _ _ _ hc
  simp [Leaves, settle, results, Tryd.results46, go_sem, hs]
  exact ⟨w1, hQ, rfl⟩

/-- holds, in a form that hands a frame on: X is what the closure leaves below its own blocks. -/
theorem holds_gen (k : FuncId) (caps : Array Value) (b : Bool) (W X : World) (hk : ∀ w, (callFunc k caps).run Tryd.prog w = .ok (.enter k caps) w)
    (hc : X.cell? ⟨W.heap.size, 0, none⟩ = some (.bool false)) (hf : X.frozen? ⟨W.heap.size, 0, none⟩ = false)
    (h : Calls Tryd.prog k caps (W.alloc (.cells #[.bool false] 4)) fun e w' => e = .returned (.bool b) ∧ Below (W.heap.size + 1) X w') :
    Calls Tryd.prog 46 #[.func (.func k) #[] caps] W fun e w' => e = .returned (.bool b) ∧ Below W.heap.size X w' := by
  refine (holds_any k caps b W (fun w' => Below (W.heap.size + 1) X w') hk (h.mono ?_)).mono ?_
  · rintro e w' ⟨he, hb⟩
    refine ⟨he, hb, ?_, ?_⟩
    · rw [hb.cell (p := ⟨W.heap.size, 0, none⟩) (Nat.lt_succ_self _)]; exact hc
    · rw [hb.frozen (p := ⟨W.heap.size, 0, none⟩) (Nat.lt_succ_self _)]; exact hf
  · rintro e w' ⟨he, w1, hb, rfl⟩
    exact ⟨he, (hb.mono (Nat.le_succ _)).setCell (Nat.le_refl _) _⟩

/-- holds of a closure that makes memory alone. -/
theorem holds_new (k : FuncId) (caps : Array Value) (b : Bool) (W : World) (hk : ∀ w, (callFunc k caps).run Tryd.prog w = .ok (.enter k caps) w)
    (h : Calls Tryd.prog k caps (W.alloc (.cells #[.bool false] 4)) fun e w' => e = .returned (.bool b) ∧ Below (W.heap.size + 1) (W.alloc (.cells #[.bool false] 4)) w') :
    Calls Tryd.prog 46 #[.func (.func k) #[] caps] W fun e w' => e = .returned (.bool b) ∧ Below W.heap.size W w' := by
  refine (holds_gen k caps b W (W.alloc (.cells #[.bool false] 4)) hk ?_ ?_ h).mono ?_
  · rw [World.cell?_alloc_at _ _ _ _ rfl]; rfl
  · rw [World.frozen?_alloc_at _ _ _ _ rfl]
  · rintro e w' ⟨he, hb⟩
    exact ⟨he, ((Below.refl _ _).alloc (Nat.le_refl _) _).trans hb⟩

/-- holds of a closure that sets one cell. -/
theorem holds_set (k : FuncId) (caps : Array Value) (b : Bool) (W : World) (q : Addr) (o e : Value) (hk : ∀ w, (callFunc k caps).run Tryd.prog w = .ok (.enter k caps) w) (hq : W.cell? q = some o)
    (h : Calls Tryd.prog k caps (W.alloc (.cells #[.bool false] 4)) fun r w' => r = .returned (.bool b) ∧ Below (W.heap.size + 1) ((W.alloc (.cells #[.bool false] 4)).setCell q e) w') :
    Calls Tryd.prog 46 #[.func (.func k) #[] caps] W fun r w' => r = .returned (.bool b) ∧ Below W.heap.size (W.setCell q e) w' := by
  have hz : (W.setCell q e).heap.size = W.heap.size := by simp [World.setCell]
  rw [setCell_alloc _ _ (lt_cell hq)] at h
  refine (holds_gen k caps b W ((W.setCell q e).alloc (.cells #[.bool false] 4)) hk ?_ ?_ h).mono ?_
  · rw [World.cell?_alloc_at _ _ _ _ hz.symm]; rfl
  · rw [World.frozen?_alloc_at _ _ _ _ hz.symm]
  · rintro r w' ⟨he, hb⟩
    exact ⟨he, ((Below.refl _ _).alloc (Nat.le_of_eq hz.symm) _).trans hb⟩

theorem unwrap_snt (a : Addr) (w : World) :
    Calls Tryd.prog 48 #[snt a] w fun e w' => e = .returned .nilIface ∧ w' = w := by
  have h1 := Tryd.noUnwrapS
  go_enter Tryd.func48, Tryd.ntmps48
  go_wp2
  go_ret
  exact ⟨rfl, rfl⟩

theorem unwrap_flt (op : ByteArray) (n : Int) (e : Value) (w : World) :
    Calls Tryd.prog 48 #[flt op n e] w fun r w' => r = .returned e ∧ w' = w.alloc (.cells #[.string op, .int .i64 n, e] 74) := by
  have h1 := Tryd.hasUnwrapF
  have h2 := Tryd.methodUnwrap
  go_enter Tryd.func48, Tryd.ntmps48
  go_wp2
  go_ret
  exact ⟨rfl, rfl⟩

theorem below1_snt (a : Addr) (p q : Addr) (o : Value) (w : World) (hp : w.cell? p = some (snt a)) (hq : w.cell? q = some o) (hf : w.frozen? q = false) :
    Calls Tryd.prog 47 #[.pointer (some p), .pointer (some q)] w fun e w' => e = .returned (.bool true) ∧ Below w.heap.size (w.setCell q .nilIface) w' := by
  go_enter Tryd.func47, Tryd.ntmps47
  go_wp2_with (go_at_call 48; refine (unwrap_snt _ _).mono ?_; rintro e w' ⟨rfl, rfl⟩)
  go_ret
  exact ⟨rfl, Below.refl _ _⟩

theorem below1_flt (op : ByteArray) (n : Int) (e : Value) (he : isIf e) (p q : Addr) (o : Value) (w : World) (hp : w.cell? p = some (flt op n e)) (hq : w.cell? q = some o) (hf : w.frozen? q = false) :
    Calls Tryd.prog 47 #[.pointer (some p), .pointer (some q)] w fun r w' => r = .returned (.bool true) ∧ Below w.heap.size (w.setCell q e) w' := by
  have hb := lt_cell hq
  have hq' : (w.alloc (.cells #[.string op, .int .i64 n, e] 74)).cell? q = some o := by rw [World.cell?_alloc_lt _ _ q hb]; exact hq
  have hf' : (w.alloc (.cells #[.string op, .int .i64 n, e] 74)).frozen? q = false := by rw [World.frozen?_alloc_old _ _ q (Nat.ne_of_lt hb)]; exact hf
  rcases he with rfl | ⟨t, v, rfl⟩
  all_goals
    go_enter Tryd.func47, Tryd.ntmps47
    go_wp2_with (go_at_call 48; refine (unwrap_flt _ _ _ _).mono ?_; rintro e w' ⟨rfl, rfl⟩)
    go_ret
    refine ⟨rfl, ?_⟩
    rw [setCell_alloc _ _ hb]
    exact (Below.refl _ _).alloc (by simp [World.setCell]) _

theorem Tryd.enterBelow1 (caps : Array Value) (w : World) : (callFunc 47 caps).run Tryd.prog w = .ok (.enter 47 caps) w := by kernel_rfl

/-- What 'below' answers at an error whose next one is e: out of the closure's contract. -/
theorem below_of (x e : Value) (hx : isIf x) (he : isIf e) (w : World)
    (h : ∀ (p q : Addr) (o : Value) (W : World), W.cell? p = some x → W.cell? q = some o → W.frozen? q = false →
      Calls Tryd.prog 47 #[.pointer (some p), .pointer (some q)] W fun r w' => r = .returned (.bool true) ∧ Below W.heap.size (W.setCell q e) w') :
    Calls Tryd.prog 32 #[x] w fun r w' => r = .returned e ∧ Below w.heap.size w w' := by
  have hmf : ∀ (fn : Fn) (first cap : Array Value) (w : World), (Instr.makeFunc fn first cap).run Tryd.prog w = .ok (.func fn first cap) w := fun _ _ _ _ => rfl
  have hh : ∀ (W : World) (p q : Addr), W.cell? p = some x → W.cell? q = some .nilIface → W.frozen? q = false →
      Calls Tryd.prog 46 #[.func (.func 47) #[] #[.pointer (some p), .pointer (some q)]] W fun r w' => r = .returned (.bool true) ∧ Below W.heap.size (W.setCell q e) w' := fun W p q hp hq hf =>
    holds_set 47 _ true W q _ e (Tryd.enterBelow1 _) hq ((h p q .nilIface _ (alloc_cell _ hp) (alloc_cell _ hq) (alloc_frozen _ hq hf)).mono (fun r w' hr => by simpa using hr))
  have H := Hid.in hh
  clear hh h
  rcases he with rfl | ⟨t, v, rfl⟩ <;> rcases hx with rfl | ⟨t', v', rfl⟩
  all_goals
    go_enter Tryd.func32, Tryd.ntmps32
    go_wp2_with fail
    refine (H.out _ ⟨w.heap.size, 0, none⟩ ⟨w.heap.size + 1, 0, none⟩ (by simp [go_sem]) (by simp [go_sem]) (by simp [go_sem])).mono ?_
    rintro r w1 ⟨rfl, hb⟩
    have hc : w1.cell? ⟨w.heap.size + 1, 0, none⟩ = some _ := (hb.cell (p := ⟨w.heap.size + 1, 0, none⟩) (by simp)).trans (World.cell?_setCell_same _ _ _ (u := .nilIface) (by simp [go_sem]))
    have HB := Hid.in hb
    clear hb
    go_wp2
    go_ret
    exact ⟨rfl, ((((Below.refl _ _).alloc (Nat.le_refl _) _).alloc (by simp) _).setCell (by simp) _).trans (HB.out.mono (by simp; omega))⟩

theorem below_snt (a : Addr) (w : World) : Calls Tryd.prog 32 #[snt a] w fun r w' => r = .returned .nilIface ∧ Below w.heap.size w w' :=
  below_of _ _ (.inr ⟨_, _, rfl⟩) (.inl rfl) w (fun p q o W h1 h2 h3 => below1_snt a p q o W h1 h2 h3)

theorem below_flt (op : ByteArray) (n : Int) (e : Value) (he : isIf e) (w : World) : Calls Tryd.prog 32 #[flt op n e] w fun r w' => r = .returned e ∧ Below w.heap.size w w' :=
  below_of _ _ (.inr ⟨_, _, rfl⟩) he w (fun p q o W h1 h2 h3 => below1_flt op n e he p q o W h1 h2 h3)

end Go.Proofs.YtncgjclehplfeaaDoor
