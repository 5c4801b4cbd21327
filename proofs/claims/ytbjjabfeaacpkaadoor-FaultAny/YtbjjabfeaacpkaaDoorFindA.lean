/- DERIVED of the program: fault.Find and fault.strays by their contracts. Own work. -/
import Derived.Test.YtbjjabfeaacpkaaDoorAsD
namespace Go.Proofs.YtbjjabfeaacpkaaDoor
open Go.RowKit Go.Extern.Stop Go.Stop Go.Extern

/-- The one package variable that errors.As reads. -/
def ET (w : World) : Prop := w.cell? ⟨10, 0, none⟩ = some (rty 23)
theorem ET.alloc {w : World} (h : ET w) (o : Obj) : ET (w.alloc o) := alloc_cell o h
theorem ET.below {B : Nat} {w w' : World} (h : ET w) (hb : Below B w w') (hB : 10 < B) : ET w' := (hb.cell (p := ⟨10, 0, none⟩) hB).trans h
theorem ET.lt {w : World} (h : ET w) : 10 < w.heap.size := lt_cell h

theorem find1_flt (op : ByteArray) (n : Int) (e : Value) (he : isIf e) (p : Addr) (tb : Nat) (w : World) (hp : w.cell? p = some (flt op n e)) (hg : ET w) (ht : IsVar3 w tb) :
    Calls Tryd.prog 21 #[.pointer (some p), .pointer (some ⟨tb, 0, none⟩)] w fun r w' => r = .returned (.bool true) ∧ Below w.heap.size (set3 w tb op n e) w' := by
  go_enter Tryd.func21, Tryd.ntmps21
  go_wp2_with (go_at_call 22; refine (As_flt op n e he tb _ hg ht).mono ?_; rintro e w' ⟨rfl, hb⟩)
  go_ret
  exact ⟨rfl, hb⟩
theorem find1_snt (a : Addr) (p t : Addr) (w : World) (hp : w.cell? p = some (snt a)) (hg : ET w) :
    Calls Tryd.prog 21 #[.pointer (some p), .pointer (some t)] w fun r w' => r = .returned (.bool false) ∧ Below w.heap.size w w' := by
  go_enter Tryd.func21, Tryd.ntmps21
  go_wp2_with (go_at_call 22; refine (As_snt a t _ hg).mono ?_; rintro e w' ⟨rfl, hb⟩)
  go_ret
  exact ⟨rfl, hb⟩
theorem find1_nil (p t : Addr) (w : World) (hp : w.cell? p = some .nilIface) :
    Calls Tryd.prog 21 #[.pointer (some p), .pointer (some t)] w fun r w' => r = .returned (.bool false) ∧ Below w.heap.size w w' := by
  go_enter Tryd.func21, Tryd.ntmps21
  go_wp2_with (go_at_call 22; refine (As_nil _ _).mono ?_; rintro e w' ⟨rfl, rfl⟩)
  go_ret
  exact ⟨rfl, Below.refl _ _⟩

theorem Tryd.enterFind1 (caps : Array Value) (w : World) : (callFunc 21 caps).run Tryd.prog w = .ok (.enter 21 caps) w := by kernel_rfl
theorem Tryd.enterStrays1 (caps : Array Value) (w : World) : (callFunc 36 caps).run Tryd.prog w = .ok (.enter 36 caps) w := by kernel_rfl
theorem Tryd.enterSame1 (caps : Array Value) (w : World) : (callFunc 37 caps).run Tryd.prog w = .ok (.enter 37 caps) w := by kernel_rfl
theorem Tryd.enterAny1 (caps : Array Value) (w : World) : (callFunc 26 caps).run Tryd.prog w = .ok (.enter 26 caps) w := by kernel_rfl

/-- holds of a closure that sets a Fault. -/
theorem holds_set3 (k : FuncId) (caps : Array Value) (b : Bool) (W : World) (tb : Nat) (op : ByteArray) (n : Int) (e : Value) (hk : ∀ w, (callFunc k caps).run Tryd.prog w = .ok (.enter k caps) w) (ht : tb < W.heap.size)
    (h : Calls Tryd.prog k caps (W.alloc (.cells #[.bool false] 4)) fun r w' => r = .returned (.bool b) ∧ Below (W.heap.size + 1) (set3 (W.alloc (.cells #[.bool false] 4)) tb op n e) w') :
    Calls Tryd.prog 20 #[.func (.func k) #[] caps] W fun r w' => r = .returned (.bool b) ∧ Below W.heap.size (set3 W tb op n e) w' := by
  have hz := set3_size W tb op n e
  rw [set3_alloc _ _ _ _ _ _ ht] at h
  refine (holds_gen k caps b W ((set3 W tb op n e).alloc (.cells #[.bool false] 4)) hk ?_ ?_ h).mono ?_
  · rw [World.cell?_alloc_at _ _ _ _ hz.symm]; rfl
  · rw [World.frozen?_alloc_at _ _ _ _ hz.symm]
  · rintro r w' ⟨he, hb⟩
    exact ⟨he, ((Below.refl _ _).alloc (Nat.le_of_eq hz.symm) _).trans hb⟩

theorem set3_cells {W : World} {tb : Nat} (op : ByteArray) (n : Int) (e : Value) (h : IsVar3 W tb) :
    (set3 W tb op n e).cell? ⟨tb, 0, none⟩ = some (.string op) ∧ (set3 W tb op n e).cell? ⟨tb, 1, none⟩ = some (.int .i64 n) ∧ (set3 W tb op n e).cell? ⟨tb, 2, none⟩ = some e := by
  obtain ⟨⟨o0, h0⟩, ⟨o1, h1⟩, ⟨o2, h2⟩, f0, f1, f2⟩ := h
  unfold set3
  refine ⟨?_, ?_, ?_⟩
  · rw [World.cell?_setCell_other _ _ _ _ (by simp), World.cell?_setCell_other _ _ _ _ (by simp)]
    exact World.cell?_setCell_same _ _ _ h0
  · rw [World.cell?_setCell_other _ _ _ _ (by simp)]
    exact World.cell?_setCell_same _ _ _ (u := o1) (by rw [World.cell?_setCell_other _ _ _ _ (by simp)]; exact h1)
  · exact World.cell?_setCell_same _ _ _ (u := o2) (by rw [World.cell?_setCell_other _ _ _ _ (by simp), World.cell?_setCell_other _ _ _ _ (by simp)]; exact h2)

theorem set3_steps {W : World} {tb : Nat} (op : ByteArray) (n : Int) (e : Value) (h : IsVar3 W tb) :
    (W.setCell ⟨tb, 0, none⟩ (.string op)).cell? ⟨tb, 0, none⟩ = some (.string op) ∧ ((W.setCell ⟨tb, 0, none⟩ (.string op)).setCell ⟨tb, 1, none⟩ (.int .i64 n)).cell? ⟨tb, 1, none⟩ = some (.int .i64 n) ∧ (((W.setCell ⟨tb, 0, none⟩ (.string op)).setCell ⟨tb, 1, none⟩ (.int .i64 n)).setCell ⟨tb, 2, none⟩ e).cell? ⟨tb, 2, none⟩ = some e := by
  have h3 := set3_cells op n e h
  obtain ⟨⟨o0, h0⟩, ⟨o1, h1⟩, ⟨o2, h2⟩, f0, f1, f2⟩ := h
  refine ⟨World.cell?_setCell_same _ _ _ h0, World.cell?_setCell_same _ _ _ (u := o1) (by rw [World.cell?_setCell_other _ _ _ _ (by simp)]; exact h1), h3.2.2⟩

/-- The zero Fault. -/
abbrev flt0 : Value := .agg #[.string ⟨#[]⟩, .int .i64 0, .nilIface]

theorem findH_flt (op : ByteArray) (n : Int) (e : Value) (he : isIf e) (p : Addr) (tb : Nat) (W : World) (hp : W.cell? p = some (flt op n e)) (hg : ET W) (ht : IsVar3 W tb) :
    Calls Tryd.prog 20 #[.func (.func 21) #[] #[.pointer (some p), .pointer (some ⟨tb, 0, none⟩)]] W fun r w' => r = .returned (.bool true) ∧ Below W.heap.size (set3 W tb op n e) w' :=
  holds_set3 21 _ true W tb op n e (Tryd.enterFind1 _) ht.lt ((find1_flt op n e he p tb _ (alloc_cell _ hp) (hg.alloc _) (ht.alloc _)).mono (fun r w' hr => by simpa using hr))
theorem findH_snt (a : Addr) (p t : Addr) (W : World) (hp : W.cell? p = some (snt a)) (hg : ET W) :
    Calls Tryd.prog 20 #[.func (.func 21) #[] #[.pointer (some p), .pointer (some t)]] W fun r w' => r = .returned (.bool false) ∧ Below W.heap.size W w' :=
  holds_new 21 _ false W (Tryd.enterFind1 _) ((find1_snt a p t _ (alloc_cell _ hp) (hg.alloc _)).mono (fun r w' hr => by simpa using hr))
theorem findH_nil (p t : Addr) (W : World) (hp : W.cell? p = some .nilIface) :
    Calls Tryd.prog 20 #[.func (.func 21) #[] #[.pointer (some p), .pointer (some t)]] W fun r w' => r = .returned (.bool false) ∧ Below W.heap.size W w' :=
  holds_new 21 _ false W (Tryd.enterFind1 _) ((find1_nil p t _ (alloc_cell _ hp)).mono (fun r w' hr => by simpa using hr))

theorem new_var3 (w : World) (k : Nat) (hk : k = w.heap.size) : IsVar3 (w.alloc (.cells #[.string ⟨#[]⟩, .int .i64 0, .nilIface] 26)) k := by
  subst hk
  exact ⟨⟨.string ⟨#[]⟩, by simp⟩, ⟨.int .i64 0, by simp⟩, ⟨.nilIface, by simp⟩, by simp, by simp, by simp⟩

/-- A new Fault variable that is known whole. -/
structure Zero3 (W : World) (tb : Nat) : Prop where
  c0 : W.cell? ⟨tb, 0, none⟩ = some (.string ⟨#[]⟩)
  c1 : W.cell? ⟨tb, 1, none⟩ = some (.int .i64 0)
  c2 : W.cell? ⟨tb, 2, none⟩ = some .nilIface
  f0 : W.frozen? ⟨tb, 0, none⟩ = false
  f1 : W.frozen? ⟨tb, 1, none⟩ = false
  f2 : W.frozen? ⟨tb, 2, none⟩ = false
theorem Zero3.below {B : Nat} {W W' : World} {tb : Nat} (h : Zero3 W tb) (hb : Below B W W') (hB : tb < B) : Zero3 W' tb :=
  ⟨(hb.cell (p := ⟨tb, 0, none⟩) hB).trans h.c0, (hb.cell (p := ⟨tb, 1, none⟩) hB).trans h.c1, (hb.cell (p := ⟨tb, 2, none⟩) hB).trans h.c2,
   (hb.frozen (p := ⟨tb, 0, none⟩) hB).trans h.f0, (hb.frozen (p := ⟨tb, 1, none⟩) hB).trans h.f1, (hb.frozen (p := ⟨tb, 2, none⟩) hB).trans h.f2⟩
theorem Zero3.new (w : World) (k : Nat) (hk : k = w.heap.size) : Zero3 (w.alloc (.cells #[.string ⟨#[]⟩, .int .i64 0, .nilIface] 26)) k := by
  subst hk
  exact ⟨by simp, by simp, by simp, by simp, by simp, by simp⟩
theorem Zero3.alloc {W : World} {tb : Nat} (h : Zero3 W tb) (o : Obj) : Zero3 (W.alloc o) tb :=
  ⟨alloc_cell o h.c0, alloc_cell o h.c1, alloc_cell o h.c2, alloc_frozen o h.c0 h.f0, alloc_frozen o h.c1 h.f1, alloc_frozen o h.c2 h.f2⟩
theorem frozen_set (W : World) (a b : Addr) (v : Value) : (W.setCell a v).frozen? b = W.frozen? b := by simp
theorem Zero3.aft {W : World} {tb k : Nat} (h : Zero3 W tb) (op : ByteArray) (n : Int) (e : Value) (hk : k ≠ tb) : Zero3 (set3 W k op n e) tb := by
  unfold set3
  constructor
  all_goals
    first
    | (rw [World.cell?_setCell_other _ _ _ _ (fun h => hk (congrArg Addr.block h)), World.cell?_setCell_other _ _ _ _ (fun h => hk (congrArg Addr.block h)), World.cell?_setCell_other _ _ _ _ (fun h => hk (congrArg Addr.block h))])
    | (rw [frozen_set, frozen_set, frozen_set])
  · exact h.c0
  · exact h.c1
  · exact h.c2
  · exact h.f0
  · exact h.f1
  · exact h.f2

/-- What Find's three new blocks are, and what is left of them behind the closure's call. -/
theorem findW (w : World) (x : Value) (op : ByteArray) (n : Int) (e : Value) (w1 : World)
    (hb : Below (((w.alloc (.cells #[x] 23)).alloc (.cells #[.string ⟨#[]⟩, .int .i64 0, .nilIface] 26)).alloc (.cells #[.string ⟨#[]⟩, .int .i64 0, .nilIface] 26)).heap.size
      (set3 (((w.alloc (.cells #[x] 23)).alloc (.cells #[.string ⟨#[]⟩, .int .i64 0, .nilIface] 26)).alloc (.cells #[.string ⟨#[]⟩, .int .i64 0, .nilIface] 26)) (w.heap.size + 1 + 1) op n e) w1) :
    Zero3 w1 (w.heap.size + 1) ∧ w1.cell? ⟨w.heap.size + 1 + 1, 0, none⟩ = some (.string op) ∧ w1.cell? ⟨w.heap.size + 1 + 1, 1, none⟩ = some (.int .i64 n) ∧ w1.cell? ⟨w.heap.size + 1 + 1, 2, none⟩ = some e ∧ Below w.heap.size w w1 := by
  obtain ⟨c0, c1, c2⟩ := set3_cells op n e (new_var3 ((w.alloc (.cells #[x] 23)).alloc (.cells #[.string ⟨#[]⟩, .int .i64 0, .nilIface] 26)) (w.heap.size + 1 + 1) (by simp))
  refine ⟨?_, ?_, ?_, ?_, ?_⟩
  · exact (((Zero3.new _ _ (by simp)).alloc _).aft op n e (by simp)).below hb (by simp)
  · exact (hb.cell (p := ⟨w.heap.size + 1 + 1, 0, none⟩) (by simp)).trans c0
  · exact (hb.cell (p := ⟨w.heap.size + 1 + 1, 1, none⟩) (by simp)).trans c1
  · exact (hb.cell (p := ⟨w.heap.size + 1 + 1, 2, none⟩) (by simp)).trans c2
  · refine Below.trans ?_ (hb.mono (by simp; omega))
    unfold set3
    exact (((((((Below.refl _ _).alloc (Nat.le_refl _) _).alloc (by simp) _).alloc (by simp; omega) _).setCell (by simp; omega) _).setCell (by simp; omega) _).setCell (by simp; omega) _)

set_option maxHeartbeats 800000 in
theorem find_flt (op : ByteArray) (n : Int) (e : Value) (he : isIf e) (w : World) (hg : ET w) :
    Calls Tryd.prog 10 #[flt op n e] w fun r w' => r = .returned (.tuple #[.agg #[.string op, .int .i64 n, e], .bool true]) ∧ Below w.heap.size w w' := by
  have hmf : ∀ (fn : Fn) (first cap : Array Value) (w : World), (Instr.makeFunc fn first cap).run Tryd.prog w = .ok (.func fn first cap) w := fun _ _ _ _ => rfl
  have HG := Hid.in hg
  clear hg
  have HE := Hid.in he
  rcases he with rfl | ⟨t', v', rfl⟩
  · go_enter Tryd.func10, Tryd.ntmps10
    go_wp2_with fail
    refine (findH_flt op n _ HE.out ⟨w.heap.size, 0, none⟩ (w.heap.size + 1 + 1) _ (by simp [go_sem]) (((HG.out.alloc _).alloc _).alloc _) (new_var3 _ _ (by simp))).mono ?_
    rintro r w1 ⟨rfl, hb⟩
    obtain ⟨⟨z0, z1, z2, g0, g1, g2⟩, c0, c1, c2, hB⟩ := findW w _ op n _ w1 hb
    have HB := Hid.in hB
    clear hb hB
    go_wp2
    obtain ⟨s0, s1, s2⟩ := set3_steps op n (.nilIface) (⟨⟨_, z0⟩, ⟨_, z1⟩, ⟨_, z2⟩, g0, g1, g2⟩ : IsVar3 w1 (w.heap.size + 1))
    exact bodyPost_ret (v := .tuple #[.agg #[.string op, .int .i64 n, .nilIface], .bool true]) (by simp [results, Tryd.results10, go_sem, s0, s1, s2]) rfl ⟨rfl, ((HB.out.setCell (by simp) _).setCell (by simp) _).setCell (by simp) _⟩
  · go_enter Tryd.func10, Tryd.ntmps10
    go_wp2_with fail
    refine (findH_flt op n _ HE.out ⟨w.heap.size, 0, none⟩ (w.heap.size + 1 + 1) _ (by simp [go_sem]) (((HG.out.alloc _).alloc _).alloc _) (new_var3 _ _ (by simp))).mono ?_
    rintro r w1 ⟨rfl, hb⟩
    obtain ⟨⟨z0, z1, z2, g0, g1, g2⟩, c0, c1, c2, hB⟩ := findW w _ op n _ w1 hb
    have HB := Hid.in hB
    clear hb hB
    go_wp2
    obtain ⟨s0, s1, s2⟩ := set3_steps op n (.iface t' v') (⟨⟨_, z0⟩, ⟨_, z1⟩, ⟨_, z2⟩, g0, g1, g2⟩ : IsVar3 w1 (w.heap.size + 1))
    exact bodyPost_ret (v := .tuple #[.agg #[.string op, .int .i64 n, .iface t' v'], .bool true]) (by simp [results, Tryd.results10, go_sem, s0, s1, s2]) rfl ⟨rfl, ((HB.out.setCell (by simp) _).setCell (by simp) _).setCell (by simp) _⟩

/-- Behind a closure's call that turned nothing. -/
theorem findW0 (w : World) (x : Value) (w1 : World)
    (hb : Below (((w.alloc (.cells #[x] 23)).alloc (.cells #[.string ⟨#[]⟩, .int .i64 0, .nilIface] 26)).alloc (.cells #[.string ⟨#[]⟩, .int .i64 0, .nilIface] 26)).heap.size
      (((w.alloc (.cells #[x] 23)).alloc (.cells #[.string ⟨#[]⟩, .int .i64 0, .nilIface] 26)).alloc (.cells #[.string ⟨#[]⟩, .int .i64 0, .nilIface] 26)) w1) :
    Zero3 w1 (w.heap.size + 1) ∧ Below w.heap.size w w1 := by
  refine ⟨?_, ?_⟩
  · exact ((Zero3.new _ _ (by simp)).alloc _).below hb (by simp)
  · refine Below.trans ?_ (hb.mono (by simp; omega))
    exact ((((Below.refl _ _).alloc (Nat.le_refl _) _).alloc (by simp) _).alloc (by simp; omega) _)

set_option maxHeartbeats 800000 in
theorem find_snt (a : Addr) (w : World) (hg : ET w) :
    Calls Tryd.prog 10 #[snt a] w fun r w' => r = .returned (.tuple #[flt0, .bool false]) ∧ Below w.heap.size w w' := by
  have hmf : ∀ (fn : Fn) (first cap : Array Value) (w : World), (Instr.makeFunc fn first cap).run Tryd.prog w = .ok (.func fn first cap) w := fun _ _ _ _ => rfl
  have HG := Hid.in hg
  clear hg
  go_enter Tryd.func10, Tryd.ntmps10
  go_wp2_with fail
  refine (findH_snt a ⟨w.heap.size, 0, none⟩ _ _ (by simp [go_sem]) (((HG.out.alloc _).alloc _).alloc _)).mono ?_
  rintro r w1 ⟨rfl, hb⟩
  obtain ⟨⟨z0, z1, z2, g0, g1, g2⟩, hB⟩ := findW0 w _ w1 hb
  have HB := Hid.in hB
  clear hb hB
  go_wp2
  obtain ⟨s0, s1, s2⟩ := set3_steps ⟨#[]⟩ 0 .nilIface (⟨⟨_, z0⟩, ⟨_, z1⟩, ⟨_, z2⟩, g0, g1, g2⟩ : IsVar3 w1 (w.heap.size + 1))
  exact bodyPost_ret (v := .tuple #[flt0, .bool false]) (by simp [results, Tryd.results10, go_sem, s0, s1, s2]) rfl ⟨rfl, ((HB.out.setCell (by simp) _).setCell (by simp) _).setCell (by simp) _⟩

set_option maxHeartbeats 800000 in
theorem find_nil (w : World) :
    Calls Tryd.prog 10 #[.nilIface] w fun r w' => r = .returned (.tuple #[flt0, .bool false]) ∧ Below w.heap.size w w' := by
  have hmf : ∀ (fn : Fn) (first cap : Array Value) (w : World), (Instr.makeFunc fn first cap).run Tryd.prog w = .ok (.func fn first cap) w := fun _ _ _ _ => rfl
  go_enter Tryd.func10, Tryd.ntmps10
  go_wp2_with fail
  refine (findH_nil ⟨w.heap.size, 0, none⟩ _ _ (by simp [go_sem])).mono ?_
  rintro r w1 ⟨rfl, hb⟩
  obtain ⟨⟨z0, z1, z2, g0, g1, g2⟩, hB⟩ := findW0 w _ w1 hb
  have HB := Hid.in hB
  clear hb hB
  go_wp2
  obtain ⟨s0, s1, s2⟩ := set3_steps ⟨#[]⟩ 0 .nilIface (⟨⟨_, z0⟩, ⟨_, z1⟩, ⟨_, z2⟩, g0, g1, g2⟩ : IsVar3 w1 (w.heap.size + 1))
  exact bodyPost_ret (v := .tuple #[flt0, .bool false]) (by simp [results, Tryd.results10, go_sem, s0, s1, s2]) rfl ⟨rfl, ((HB.out.setCell (by simp) _).setCell (by simp) _).setCell (by simp) _⟩

/-- strays: of a way of Faults down to a sentinel, and of nil, no. -/
theorem strays1_chn (l : List (ByteArray × Int)) (a : Addr) (p q s : Addr) (w : World) (hp : w.cell? p = some (chn l (snt a))) :
    Calls Tryd.prog 36 #[.pointer (some p), .pointer (some q), .pointer (some s)] w fun r w' => r = .returned (.bool false) ∧ Below w.heap.size w w' := by
  have HP := Hid.in (fun (w1 : World) (hb : Below w.heap.size w w1) => (hb.cell (p := p) (lt_cell hp)).trans hp)
  go_enter Tryd.func36, Tryd.ntmps36
  go_wp2_with fail
  refine (As_chnA l a q _).mono ?_
  rintro r w1 ⟨rfl, hb⟩
  have hp1 := HP.out w1 hb
  go_wp2_with fail
  refine (As_chnU l a s _).mono ?_
  rintro r w2 ⟨rfl, hb2⟩
  go_wp2
  go_ret
  exact ⟨rfl, bstep hb (Nat.le_refl _) hb2⟩
theorem strays1_nil (p q s : Addr) (w : World) (hp : w.cell? p = some .nilIface) :
    Calls Tryd.prog 36 #[.pointer (some p), .pointer (some q), .pointer (some s)] w fun r w' => r = .returned (.bool false) ∧ Below w.heap.size w w' := by
  go_enter Tryd.func36, Tryd.ntmps36
  go_wp2_with fail
  refine (As_nil _ _).mono ?_
  rintro r w1 ⟨rfl, rfl⟩
  go_wp2_with fail
  refine (As_nil _ _).mono ?_
  rintro r w2 ⟨rfl, rfl⟩
  go_wp2
  go_ret
  exact ⟨rfl, Below.refl _ _⟩
theorem strays_of (x : Value) (hx : isIf x) (w : World) (h : ∀ (p q s : Addr) (W : World), W.cell? p = some x → Calls Tryd.prog 36 #[.pointer (some p), .pointer (some q), .pointer (some s)] W fun r w' => r = .returned (.bool false) ∧ Below W.heap.size W w') :
    Calls Tryd.prog 24 #[x] w fun r w' => r = .returned (.bool false) ∧ Below w.heap.size w w' := by
  have hmf : ∀ (fn : Fn) (first cap : Array Value) (w : World), (Instr.makeFunc fn first cap).run Tryd.prog w = .ok (.func fn first cap) w := fun _ _ _ _ => rfl
  have H := Hid.in (fun (p q s : Addr) (W : World) (hp : W.cell? p = some x) => holds_new 36 #[.pointer (some p), .pointer (some q), .pointer (some s)] false W (Tryd.enterStrays1 _) ((h p q s _ (alloc_cell _ hp)).mono (fun r w' hr => by simpa using hr)))
  clear h
  rcases hx with rfl | ⟨t', v', rfl⟩
  all_goals
    go_enter Tryd.func24, Tryd.ntmps24
    go_wp2_with fail
    refine (H.out _ _ _ _ (by simp [go_sem])).mono ?_
    rintro r w1 ⟨rfl, hb⟩
    go_wp2
    go_ret
    exact ⟨rfl, ((((Below.refl _ _).alloc (Nat.le_refl _) _).alloc (by simp) _).alloc (by simp; omega) _).trans (hb.mono (by simp; omega))⟩
theorem strays_chn (l : List (ByteArray × Int)) (a : Addr) (w : World) : Calls Tryd.prog 24 #[chn l (snt a)] w fun r w' => r = .returned (.bool false) ∧ Below w.heap.size w w' :=
  strays_of _ (chn_if _ _) w (fun p q s W hp => strays1_chn l a p q s W hp)
theorem strays_nil (w : World) : Calls Tryd.prog 24 #[.nilIface] w fun r w' => r = .returned (.bool false) ∧ Below w.heap.size w w' :=
  strays_of _ (.inl rfl) w (fun p q s W hp => strays1_nil p q s W hp)
end Go.Proofs.YtbjjabfeaacpkaaDoor
