/- DERIVED of the program: fault.Find by its contracts; the closure of fault.Any. Own work. -/
import Derived.Test.YtgaajnefegjoeaaDoorFltA
namespace Go.Proofs.YtgaajnefegjoeaaDoor
open Go.RowKit Go.Extern.Stop Go.Stop Go.Extern

theorem find1_flt (op : ByteArray) (n : Int) (e : Value) (he : isIf e) (p : Addr) (tb : Nat) (w : World) (hp : w.cell? p = some (flt op n e)) (hg : ET w) (ht : IsVar3 w tb) :
    Calls Tryd.prog 21 #[.pointer (some p), .pointer (some ⟨tb, 0, none⟩)] w fun r w' => r = .returned (.bool true) ∧ Below w.heap.size (set3 w tb op n e) w' := by
  go_enter Tryd.func21, Tryd.ntmps21
  go_wp2_with (go_at_call 22; refine (As_flt op n e he tb _ hg ht).mono ?_; rintro e w' ⟨rfl, hb⟩)
  go_ret
  exact ⟨rfl, hb⟩

theorem find1_snt (a : Addr) (p t : Addr) (w : World) (hp : w.cell? p = some (snt a)) (hg : ET w) :
    Calls Tryd.prog 21 #[.pointer (some p), .pointer (some t)] w fun r w' => r = .returned (.bool false) ∧ Below w.heap.size w w' := by
  go_enter Tryd.func21, Tryd.ntmps21
  go_wp2_with (go_at_call 22; refine (As_snt a t _ hg).mono ?_; rintro e w' ⟨rfl, hb⟩)
  go_ret
  exact ⟨rfl, hb⟩

theorem find1_nil (p t : Addr) (w : World) (hp : w.cell? p = some .nilIface) :
    Calls Tryd.prog 21 #[.pointer (some p), .pointer (some t)] w fun r w' => r = .returned (.bool false) ∧ Below w.heap.size w w' := by
  go_enter Tryd.func21, Tryd.ntmps21
  go_wp2_with (go_at_call 22; refine (As_nil _ _).mono ?_; rintro e w' ⟨rfl, rfl⟩)
  go_ret
  exact ⟨rfl, Below.refl _ _⟩

theorem Tryd.enterFind1 (caps : Array Value) (w : World) : (callFunc 21 caps).run Tryd.prog w = .ok (.enter 21 caps) w := by kernel_rfl

theorem Tryd.enterAny1 (caps : Array Value) (w : World) : (callFunc 25 caps).run Tryd.prog w = .ok (.enter 25 caps) w := by kernel_rfl

/-- holds of a closure that sets a Fault. -/
theorem holds_set3 (k : FuncId) (caps : Array Value) (b : Bool) (W : World) (tb : Nat) (op : ByteArray) (n : Int) (e : Value) (hk : ∀ w, (callFunc k caps).run Tryd.prog w = .ok (.enter k caps) w) (ht : tb < W.heap.size)
    (h : Calls Tryd.prog k caps (W.alloc (.cells #[.bool false] 4)) fun r w' => r = .returned (.bool b) ∧ Below (W.heap.size + 1) (set3 (W.alloc (.cells #[.bool false] 4)) tb op n e) w') :
    Calls Tryd.prog 20 #[.func (.func k) #[] caps] W fun r w' => r = .returned (.bool b) ∧ Below W.heap.size (set3 W tb op n e) w' := by
  have hz := set3_size W tb op n e
  rw [set3_alloc _ _ _ _ _ _ ht] at h
  refine (holds_gen k caps b W ((set3 W tb op n e).alloc (.cells #[.bool false] 4)) hk ?_ ?_ h).mono ?_
  · rw [World.cell?_alloc_at _ _ _ _ hz.symm]; rfl
  · rw [World.frozen?_alloc_at _ _ _ _ hz.symm]
  · rintro r w' ⟨he, hb⟩
    exact ⟨he, ((Below.refl _ _).alloc (Nat.le_of_eq hz.symm) _).trans hb⟩

theorem findH_flt (op : ByteArray) (n : Int) (e : Value) (he : isIf e) (p : Addr) (tb : Nat) (W : World) (hp : W.cell? p = some (flt op n e)) (hg : ET W) (ht : IsVar3 W tb) :
    Calls Tryd.prog 20 #[.func (.func 21) #[] #[.pointer (some p), .pointer (some ⟨tb, 0, none⟩)]] W fun r w' => r = .returned (.bool true) ∧ Below W.heap.size (set3 W tb op n e) w' :=
  holds_set3 21 _ true W tb op n e (Tryd.enterFind1 _) ht.lt ((find1_flt op n e he p tb _ (alloc_cell _ hp) (hg.alloc _) (ht.alloc _)).mono (fun r w' hr => by simpa using hr))

theorem findH_snt (a : Addr) (p t : Addr) (W : World) (hp : W.cell? p = some (snt a)) (hg : ET W) :
    Calls Tryd.prog 20 #[.func (.func 21) #[] #[.pointer (some p), .pointer (some t)]] W fun r w' => r = .returned (.bool false) ∧ Below W.heap.size W w' :=
  holds_new 21 _ false W (Tryd.enterFind1 _) ((find1_snt a p t _ (alloc_cell _ hp) (hg.alloc _)).mono (fun r w' hr => by simpa using hr))

theorem findH_nil (p t : Addr) (W : World) (hp : W.cell? p = some .nilIface) :
    Calls Tryd.prog 20 #[.func (.func 21) #[] #[.pointer (some p), .pointer (some t)]] W fun r w' => r = .returned (.bool false) ∧ Below W.heap.size W w' :=
  holds_new 21 _ false W (Tryd.enterFind1 _) ((find1_nil p t _ (alloc_cell _ hp)).mono (fun r w' hr => by simpa using hr))

/-- What Find's three new blocks are, and what is left of them behind the closure's call. -/
theorem findW (w : World) (x : Value) (op : ByteArray) (n : Int) (e : Value) (w1 : World)
    (hb : Below (((w.alloc (.cells #[x] 23)).alloc (.cells #[.string ⟨#[]⟩, .int .i64 0, .nilIface] 26)).alloc (.cells #[.string ⟨#[]⟩, .int .i64 0, .nilIface] 26)).heap.size
      (set3 (((w.alloc (.cells #[x] 23)).alloc (.cells #[.string ⟨#[]⟩, .int .i64 0, .nilIface] 26)).alloc (.cells #[.string ⟨#[]⟩, .int .i64 0, .nilIface] 26)) (w.heap.size + 1 + 1) op n e) w1) :
    Zero3 w1 (w.heap.size + 1) ∧ w1.cell? ⟨w.heap.size + 1 + 1, 0, none⟩ = some (.string op) ∧ w1.cell? ⟨w.heap.size + 1 + 1, 1, none⟩ = some (.int .i64 n) ∧ w1.cell? ⟨w.heap.size + 1 + 1, 2, none⟩ = some e ∧ Below w.heap.size w w1 := by
  obtain ⟨c0, c1, c2⟩ := set3_cells op n e (new_var3 ((w.alloc (.cells #[x] 23)).alloc (.cells #[.string ⟨#[]⟩, .int .i64 0, .nilIface] 26)) (w.heap.size + 1 + 1) (by simp))
  refine ⟨?_, ?_, ?_, ?_, ?_⟩
  · exact (((Zero3.new _ _ (by simp)).alloc _).aft op n e (by simp)).below hb (by simp)
  · exact (hb.cell (p := ⟨w.heap.size + 1 + 1, 0, none⟩) (by simp)).trans c0
  · exact (hb.cell (p := ⟨w.heap.size + 1 + 1, 1, none⟩) (by simp)).trans c1
  · exact (hb.cell (p := ⟨w.heap.size + 1 + 1, 2, none⟩) (by simp)).trans c2
  · refine Below.trans ?_ (hb.mono (by simp; omega))
    unfold set3
    exact (((((((Below.refl _ _).alloc (Nat.le_refl _) _).alloc (by simp) _).alloc (by simp; omega) _).setCell (by simp; omega) _).setCell (by simp; omega) _).setCell (by simp; omega) _)

set_option maxHeartbeats 800000 in
theorem find_flt (op : ByteArray) (n : Int) (e : Value) (he : isIf e) (w : World) (hg : ET w) :
    Calls Tryd.prog 10 #[flt op n e] w fun r w' => r = .returned (.tuple #[.agg #[.string op, .int .i64 n, e], .bool true]) ∧ Below w.heap.size w w' := by
  have hmf : ∀ (fn : Fn) (first cap : Array Value) (w : World), (Instr.makeFunc fn first cap).run Tryd.prog w = .ok (.func fn first cap) w := fun _ _ _ _ => rfl
  have HG := Hid.in hg
  clear hg
  have HE := Hid.in he
  rcases he with rfl | ⟨t', v', rfl⟩
  · go_enter Tryd.func10, Tryd.ntmps10
    go_wp2_with fail
    refine (findH_flt op n _ HE.out ⟨w.heap.size, 0, none⟩ (w.heap.size + 1 + 1) _ (by simp [go_sem]) (((HG.out.alloc _).alloc _).alloc _) (new_var3 _ _ (by simp))).mono ?_
    rintro r w1 ⟨rfl, hb⟩
    obtain ⟨⟨z0, z1, z2, g0, g1, g2⟩, c0, c1, c2, hB⟩ := findW w _ op n _ w1 hb
    have HB := Hid.in hB
    clear hb hB
    go_wp2
    obtain ⟨s0, s1, s2⟩ := set3_steps op n (.nilIface) (⟨⟨_, z0⟩, ⟨_, z1⟩, ⟨_, z2⟩, g0, g1, g2⟩ : IsVar3 w1 (w.heap.size + 1))
    exact bodyPost_ret (v := .tuple #[.agg #[.string op, .int .i64 n, .nilIface], .bool true]) (by simp [results, Tryd.results10, go_sem, s0, s1, s2]) rfl ⟨rfl, ((HB.out.setCell (by simp) _).setCell (by simp) _).setCell (by simp) _⟩
  · go_enter Tryd.func10, Tryd.ntmps10
    go_wp2_with fail
    refine (findH_flt op n _ HE.out ⟨w.heap.size, 0, none⟩ (w.heap.size + 1 + 1) _ (by simp [go_sem]) (((HG.out.alloc _).alloc _).alloc _) (new_var3 _ _ (by simp))).mono ?_
    rintro r w1 ⟨rfl, hb⟩
    obtain ⟨⟨z0, z1, z2, g0, g1, g2⟩, c0, c1, c2, hB⟩ := findW w _ op n _ w1 hb
    have HB := Hid.in hB
    clear hb hB
    go_wp2
    obtain ⟨s0, s1, s2⟩ := set3_steps op n (.iface t' v') (⟨⟨_, z0⟩, ⟨_, z1⟩, ⟨_, z2⟩, g0, g1, g2⟩ : IsVar3 w1 (w.heap.size + 1))
    exact bodyPost_ret (v := .tuple #[.agg #[.string op, .int .i64 n, .iface t' v'], .bool true]) (by simp [results, Tryd.results10, go_sem, s0, s1, s2]) rfl ⟨rfl, ((HB.out.setCell (by simp) _).setCell (by simp) _).setCell (by simp) _⟩

/-- Behind a closure's call that turned nothing. -/
theorem findW0 (w : World) (x : Value) (w1 : World)
    (hb : Below (((w.alloc (.cells #[x] 23)).alloc (.cells #[.string ⟨#[]⟩, .int .i64 0, .nilIface] 26)).alloc (.cells #[.string ⟨#[]⟩, .int .i64 0, .nilIface] 26)).heap.size
      (((w.alloc (.cells #[x] 23)).alloc (.cells #[.string ⟨#[]⟩, .int .i64 0, .nilIface] 26)).alloc (.cells #[.string ⟨#[]⟩, .int .i64 0, .nilIface] 26)) w1) :
    Zero3 w1 (w.heap.size + 1) ∧ Below w.heap.size w w1 := by
  refine ⟨?_, ?_⟩
  · exact ((Zero3.new _ _ (by simp)).alloc _).below hb (by simp)
  · refine Below.trans ?_ (hb.mono (by simp; omega))
    exact ((((Below.refl _ _).alloc (Nat.le_refl _) _).alloc (by simp) _).alloc (by simp; omega) _)

set_option maxHeartbeats 800000 in
theorem find_snt (a : Addr) (w : World) (hg : ET w) :
    Calls Tryd.prog 10 #[snt a] w fun r w' => r = .returned (.tuple #[flt0, .bool false]) ∧ Below w.heap.size w w' := by
  have hmf : ∀ (fn : Fn) (first cap : Array Value) (w : World), (Instr.makeFunc fn first cap).run Tryd.prog w = .ok (.func fn first cap) w := fun _ _ _ _ => rfl
  have HG := Hid.in hg
  clear hg
  go_enter Tryd.func10, Tryd.ntmps10
  go_wp2_with fail
  refine (findH_snt a ⟨w.heap.size, 0, none⟩ _ _ (by simp [go_sem]) (((HG.out.alloc _).alloc _).alloc _)).mono ?_
  rintro r w1 ⟨rfl, hb⟩
  obtain ⟨⟨z0, z1, z2, g0, g1, g2⟩, hB⟩ := findW0 w _ w1 hb
  have HB := Hid.in hB
  clear hb hB
  go_wp2
  obtain ⟨s0, s1, s2⟩ := set3_steps ⟨#[]⟩ 0 .nilIface (⟨⟨_, z0⟩, ⟨_, z1⟩, ⟨_, z2⟩, g0, g1, g2⟩ : IsVar3 w1 (w.heap.size + 1))
  exact bodyPost_ret (v := .tuple #[flt0, .bool false]) (by simp [results, Tryd.results10, go_sem, s0, s1, s2]) rfl ⟨rfl, ((HB.out.setCell (by simp) _).setCell (by simp) _).setCell (by simp) _⟩

set_option maxHeartbeats 800000 in
theorem find_nil (w : World) :
    Calls Tryd.prog 10 #[.nilIface] w fun r w' => r = .returned (.tuple #[flt0, .bool false]) ∧ Below w.heap.size w w' := by
  have hmf : ∀ (fn : Fn) (first cap : Array Value) (w : World), (Instr.makeFunc fn first cap).run Tryd.prog w = .ok (.func fn first cap) w := fun _ _ _ _ => rfl
  go_enter Tryd.func10, Tryd.ntmps10
  go_wp2_with fail
  refine (findH_nil ⟨w.heap.size, 0, none⟩ _ _ (by simp [go_sem])).mono ?_
  rintro r w1 ⟨rfl, hb⟩
  obtain ⟨⟨z0, z1, z2, g0, g1, g2⟩, hB⟩ := findW0 w _ w1 hb
  have HB := Hid.in hB
  clear hb hB
  go_wp2
  obtain ⟨s0, s1, s2⟩ := set3_steps ⟨#[]⟩ 0 .nilIface (⟨⟨_, z0⟩, ⟨_, z1⟩, ⟨_, z2⟩, g0, g1, g2⟩ : IsVar3 w1 (w.heap.size + 1))
  exact bodyPost_ret (v := .tuple #[flt0, .bool false]) (by simp [results, Tryd.results10, go_sem, s0, s1, s2]) rfl ⟨rfl, ((HB.out.setCell (by simp) _).setCell (by simp) _).setCell (by simp) _⟩

theorem any1_chn (l : List (ByteArray × Int)) (a b : Addr) (p q : Addr) (w : World) (hp : w.cell? p = some (chn l (snt a))) (hq : w.cell? q = some (snt b)) (ha : Sen w a) (hb : Sen w b) :
    Calls Tryd.prog 25 #[.pointer (some p), .pointer (some q)] w fun r w' => r = .returned (.bool (decide (a = b))) ∧ Below w.heap.size w w' := by
  have HI := Hid.in (Is_chn l a b w ha hb)
  clear ha hb
  go_enter Tryd.func25, Tryd.ntmps25
  go_wp2_with (go_at_call 18; refine HI.out.mono ?_; rintro e w' ⟨rfl, hb⟩)
  go_ret
  exact ⟨rfl, hb⟩

theorem anyH_chn (l : List (ByteArray × Int)) (a b : Addr) (p q : Addr) (W : World) (hp : W.cell? p = some (chn l (snt a))) (hq : W.cell? q = some (snt b)) (ha : Sen W a) (hb : Sen W b) :
    Calls Tryd.prog 20 #[.func (.func 25) #[] #[.pointer (some p), .pointer (some q)]] W fun r w' => r = .returned (.bool (decide (a = b))) ∧ Below W.heap.size W w' :=
  holds_new 25 _ _ W (Tryd.enterAny1 _) ((any1_chn l a b p q _ (alloc_cell _ hp) (alloc_cell _ hq) (ha.alloc _) (hb.alloc _)).mono (fun r w' hr => by simpa using hr))

end Go.Proofs.YtgaajnefegjoeaaDoor
