/- DERIVED: a region that draws its order and ends with one operation that waits for all the others (a store): loads of what it overwrites may be taken first. Over the guide's Orders and OrdersHeld. Own work. -/
import Derived.Test.YtakomlmbdienpaaDoorGenA
import Derived.OrdersHeld
import Derived.Deep.RegionHeld3
namespace Go.Proofs.YtakomlmbdienpaaDoor
open Go.RowKit Go.Extern.Stop Go.Stop Go.Extern

/-- What a cell holds. -/
def cellIs (q i : Nat) (v : Value) (W : World) : Prop := W.cell? ⟨q, i, none⟩ = some v

section
variable {P : Program} {ops : Array Oper} {Q : Exit → Act → World → Prop} {md : Region.Mode} {S : World → Prop} {D : Nat}

/-- Whatever order is picked from here on; S holds behind every operation but number D. -/
def wpBut (P : Program) (md : Region.Mode) (ops : Array Oper) (Q : Exit → Act → World → Prop) (S : World → Prop) (D : Nat) : Nat → Array Bool → Act → World → Prop
  | 0, l, a, w => Region.ready md ops l = [] ∧ Q .normal a w
  | n + 1, l, a, w => (Region.ready md ops l = [] → Q .normal a w) ∧
    ∀ i, i ∈ Region.ready md ops l → wpOp P ops Q i (fun a' w' => (i ≠ D → S w') ∧ wpBut P md ops Q S D n (l.setIfInBounds i true) a' w') a w

theorem wpAny_of_but : ∀ (n : Nat) (l : Array Bool) (a : Act) (w : World), wpBut P md ops Q S D n l a w → wpAny P md ops Q n l a w := by
  intro n
  induction n with
  | zero => intro l a w h; exact h
  | succ n ih => intro l a w h; exact ⟨h.1, fun i hi => wpOp_mono (fun a' w' h' => ih _ a' w' h'.2) (h.2 i hi)⟩

/-- What has come up waited for what has come up. -/
def shutB (md : Region.Mode) (ops : Array Oper) (l : Array Bool) : Bool :=
  (List.range ops.size).all fun j => !l.getD j false || ((ops[j]?).map (·.after.all fun e => !Region.binds md e || l.getD e.on false)).getD true
/-- Each operation but the last is waited for by a later one. -/
def waitB (md : Region.Mode) (ops : Array Oper) : Bool :=
  (List.range (ops.size - 1)).all fun y => (List.range ops.size).any fun x => decide (y < x) && ((ops[x]?).map (·.after.any fun e => Region.binds md e && e.on == y)).getD false

theorem shut_of {l : Array Bool} (h : shutB md ops l = true) {j : Nat} {o : Oper} (ho : ops[j]? = some o) (hj : l.getD j false = true) : ∀ e ∈ o.after, Region.binds md e = true → l.getD e.on false = true := by
  intro e he hb
  have hlt : j < ops.size := (Array.getElem?_eq_some_iff.1 ho).1
  have h1 := (List.all_eq_true.1 h) j (List.mem_range.2 hlt)
  simp only [ho, hj, Bool.not_true, Bool.false_or, Option.map_some, Option.getD_some] at h1
  have h2 := (Array.all_eq_true_iff_forall_mem.1 h1) e he
  simpa [hb] using h2

theorem shut_set {l : Array Bool} (h : shutB md ops l = true) {j : Nat} (hj : j ∈ Region.ready md ops l) : shutB md ops (l.setIfInBounds j true) = true := by
  obtain ⟨_, o, ho, hall⟩ := mem_ready.1 hj
  unfold shutB
  refine List.all_eq_true.2 fun k hk => ?_
  cases hok : ops[k]? with
  | none => simp
  | some ok =>
    simp only [Option.map_some, Option.getD_some, Bool.or_eq_true]
    by_cases hl : (l.setIfInBounds j true).getD k false = true
    · refine .inr (Array.all_eq_true_iff_forall_mem.2 fun e he => ?_)
      by_cases hb : Region.binds md e = true
      · refine Bool.or_eq_true _ _ ▸ .inr ?_
        refine getD_set_true ?_
        by_cases hkj : k = j
        · subst hkj
          rw [ho] at hok
          cases hok
          exact hall e he hb
        · refine shut_of h hok ?_ e he hb
          rw [getD_set_ne false (Ne.symm hkj)] at hl
          exact hl
      · simp [hb]
    · exact .inl (by simpa using hl)

/-- When the last may come up, all the others have. -/
theorem wait_all {l : Array Bool} (hw : waitB md ops = true) (hs : shutB md ops l = true) {o : Oper} (ho : ops[ops.size - 1]? = some o) (hall : ∀ e ∈ o.after, Region.binds md e = true → l.getD e.on false = true) :
    ∀ (k y : Nat), y + k + 1 = ops.size - 1 → l.getD y false = true := by
  intro k
  induction k using Nat.strongRecOn with
  | ind k ih =>
    intro y hy
    have h1 := (List.all_eq_true.1 hw) y (List.mem_range.2 (by omega))
    obtain ⟨x, hx, h2⟩ := List.any_eq_true.1 h1
    have hxs := List.mem_range.1 hx
    simp only [Bool.and_eq_true, decide_eq_true_eq] at h2
    obtain ⟨hyx, h3⟩ := h2
    cases hox : ops[x]? with
    | none => rw [hox] at h3; simp at h3
    | some ox =>
      rw [hox] at h3
      simp only [Option.map_some, Option.getD_some] at h3
      obtain ⟨e, he, hb⟩ := Array.any_eq_true'.1 h3
      simp only [Bool.and_eq_true, beq_iff_eq] at hb
      rw [← hb.2]
      by_cases hxl : x = ops.size - 1
      · subst hxl
        rw [ho] at hox
        cases hox
        exact hall e he hb.1
      · have hlx := ih (k - (x - y)) (by omega) x (by omega)
        exact shut_of hs hox hlx e he hb.1

theorem getD_two {l : Array Bool} {i : Nat} (h : l.getD i false = true) : l.getD i true = true := by
  rw [Array.getD_eq_getD_getElem?] at *
  cases hx : l[i]? with
  | none => rfl
  | some b => rw [hx] at h; exact h

/-- An operation that yields its value in every world that meets S may be taken first. -/
theorem wpBut_first {i : Nat} {oi : Oper} {v : Value} (hi : ops[i]? = some oi) (hsel : ∀ (j : Nat) (o : Oper) cs b, ops[j]? = some o → o.op ≠ .select cs b) (hw : waitB md ops = true) (hD : D = ops.size - 1) (hiD : i ≠ D)
    (hQ : ∀ c a w, Q (.panic c) (a.put oi.dst v) w → Q (.panic c) a w) :
    ∀ (n : Nat) (l : Array Bool) (a : Act) (w : World), shutB md ops l = true →
      (∀ j oj, ops[j]? = some oj → j ≠ i → l.getD j true = false → (∀ e ∈ oj.after, Region.binds md e = true → e.on ≠ i) → oi.apart ops oj = true) →
      i ∈ Region.ready md ops l → YieldsIf P ops S oi v a → S w →
      wpBut P md ops Q S D n (l.setIfInBounds i true) (a.put oi.dst v) w → wpBut P md ops Q S D (n + 1) l a w := by
  intro n
  induction n with
  | zero =>
    intro l a w _ _ hr hy hS H
    refine ⟨fun h => (by rw [h] at hr; cases hr), fun j hj => ?_⟩
    by_cases hji : j = i
    · rw [hji]; exact hy.wpOp hi hS ⟨fun _ => hS, H⟩
    · have h0 := ready_mono hj hji
      rw [H.1] at h0
      cases h0
  | succ n ih =>
    intro l a w hsh hfree hr hy hS H
    refine ⟨fun h => (by rw [h] at hr; cases hr), fun j hj => ?_⟩
    by_cases hji : j = i
    · rw [hji]; exact hy.wpOp hi hS ⟨fun _ => hS, H⟩
    have hiu := (mem_ready.1 hr).1
    obtain ⟨hju, oj, hoj, hall⟩ := mem_ready.1 hj
    by_cases hjD : j = D
    · exfalso
      rw [hjD, hD] at hoj
      have hilt : i < ops.size := (Array.getElem?_eq_some_iff.1 hi).1
      have h0 := wait_all hw hsh hoj hall (ops.size - 1 - i - 1) i (by omega)
      rw [getD_two h0] at hiu
      cases hiu
    · have hnot : ∀ e ∈ oj.after, Region.binds md e = true → e.on ≠ i := fun e he hb heq => by
        have h1 := getD_two (hall e he hb)
        rw [heq, hiu] at h1
        cases h1
      have h2 := wpOp_putIf hoj (hfree j oj hoj hji hju hnot) (fun cs b => hsel i oi cs b hi) (fun cs b => hsel j oj cs b hoj) hQ hy (H.2 j (ready_mono hj hji))
      refine wpOp_mono (fun a' w' h3 => ?_) h2
      have hS' := h3.2.1 hjD
      refine ⟨fun _ => hS', ih (l.setIfInBounds j true) a' w' (shut_set hsh hj) (fun k ok hk hki hun hno => hfree k ok hk hki ?_ hno) (ready_mono hr (Ne.symm hji)) h3.1 hS' ?_⟩
      · by_cases hjk : j = k
        · rw [← hjk]; exact hju
        · rw [getD_set_ne true hjk] at hun; exact hun
      · rw [Array.setIfInBounds_comm _ _ hji]
        exact h3.2.2

theorem wpBut_take {i : Nat} {d : Option Tmp} {op : Op} {ty : TypeId} {pos : String} {af : Array Edge} {g : Option (Nat × Bool)} {v : Value} {n : Nat} {l : Array Bool} {a : Act} {w : World} (hi : ops[i]? = some ⟨d, op, ty, pos, af, g⟩) (hs : (Region.noSelect ops && waitB md ops && (D == ops.size - 1)) = true)
    (hf : (Region.free md ops l i && (Region.ready md ops l).contains i && shutB md ops l && (i != D)) = true) (hQ : ∀ c a w, Q (.panic c) (a.put d v) w → Q (.panic c) a w) (hS : S w) (hy : YieldsIf P ops S ⟨d, op, ty, pos, af, g⟩ v a)
    (h : wpBut P md ops Q S D n (l.setIfInBounds i true) (a.put d v) w) : wpBut P md ops Q S D (n + 1) l a w := by
  simp only [Bool.and_eq_true, beq_iff_eq, bne_iff_ne] at hs hf
  exact wpBut_first hi (Region.noSelect_spec hs.1.1) hs.1.2 hs.2 hf.2 hQ n l a w hf.1.2 (Region.free_spec hi hf.1.1.1) (by simpa using hf.1.1.2) hy hS h

/-- One alone may come up. -/
theorem wpBut_one {i : Nat} {d : Option Tmp} {op : Op} {ty : TypeId} {pos : String} {af : Array Edge} {g : Option (Nat × Bool)} {n : Nat} {l : Array Bool} {a : Act} {w : World} (ho : ops[i]? = some ⟨d, op, ty, pos, af, g⟩) (hr : Region.ready md ops l = [i])
    (h : ∀ K : Act → World → Prop, Hid (∀ a' w', (i ≠ D → S w') → wpBut P md ops Q S D n (l.setIfInBounds i true) a' w' → K a' w') → if Region.wanted ⟨d, op, ty, pos, af, g⟩ (yielded ops a.tmps) = true then Oper.wp P ⟨d, op, ty, pos, af, g⟩ a w K Q else K (a.put d undef) w) :
    wpBut P md ops Q S D (n + 1) l a w := by
  refine ⟨fun h0 => (by rw [hr] at h0; cases h0), fun j hj => ?_⟩
  rw [hr] at hj
  rw [List.mem_singleton.1 hj]
  exact wpOp_step ho (fun K' hK => h K' (Hid.in (fun a' w' h1 h2 => hK a' w' ⟨h1, h2⟩)))
/-- Two may. -/
theorem wpBut_two {i j : Nat} {d d' : Option Tmp} {op op' : Op} {ty ty' : TypeId} {pos pos' : String} {af af' : Array Edge} {g g' : Option (Nat × Bool)} {n : Nat} {l : Array Bool} {a : Act} {w : World} (hoi : ops[i]? = some ⟨d, op, ty, pos, af, g⟩) (hoj : ops[j]? = some ⟨d', op', ty', pos', af', g'⟩) (hr : Region.ready md ops l = [i, j])
    (hi : ∀ K : Act → World → Prop, Hid (∀ a' w', (i ≠ D → S w') → wpBut P md ops Q S D n (l.setIfInBounds i true) a' w' → K a' w') → if Region.wanted ⟨d, op, ty, pos, af, g⟩ (yielded ops a.tmps) = true then Oper.wp P ⟨d, op, ty, pos, af, g⟩ a w K Q else K (a.put d undef) w)
    (hj : ∀ K : Act → World → Prop, Hid (∀ a' w', (j ≠ D → S w') → wpBut P md ops Q S D n (l.setIfInBounds j true) a' w' → K a' w') → if Region.wanted ⟨d', op', ty', pos', af', g'⟩ (yielded ops a.tmps) = true then Oper.wp P ⟨d', op', ty', pos', af', g'⟩ a w K Q else K (a.put d' undef) w) :
    wpBut P md ops Q S D (n + 1) l a w := by
  refine ⟨fun h0 => (by rw [hr] at h0; cases h0), fun k hk => ?_⟩
  rw [hr] at hk
  simp only [List.mem_cons, List.not_mem_nil, or_false] at hk
  rcases hk with rfl | rfl
  · exact wpOp_step hoi (fun K' hK => hi K' (Hid.in (fun a' w' h1 h2 => hK a' w' ⟨h1, h2⟩)))
  · exact wpOp_step hoj (fun K' hK => hj K' (Hid.in (fun a' w' h1 h2 => hK a' w' ⟨h1, h2⟩)))
/-- All have come up. -/
theorem wpBut_done {l : Array Bool} {a : Act} {w : World} (hr : Region.ready md ops l = []) (h : Q .normal a w) : ∀ n, wpBut P md ops Q S D n l a w
  | 0 => ⟨hr, h⟩
  | _ + 1 => ⟨fun _ => h, fun i hi => (by rw [hr] at hi; cases hi)⟩
/-- The beginning. -/
theorem wp_region_but {id : Nat} {a : Act} {w : World} (S : World → Prop) (D : Nat) (hm : P.follows .mixedOrders = true)
    (h : wpBut P .any ops Q S D ops.size (Array.replicate ops.size false) a w.drew) : (Code.region id ops true).wp P Q a w :=
  wp_region_any hm (wpAny_of_but _ _ _ _ h)
end

end Go.Proofs.YtakomlmbdienpaaDoor
