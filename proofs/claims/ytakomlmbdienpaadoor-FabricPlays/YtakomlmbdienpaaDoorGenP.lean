/- DERIVED: a region that draws its order, in which four operations that each make a block may come up in any order: what follows is proved once, for four places of which no more is known than that they are the four new ones. Over GenD. Own work. -/
import Derived.Test.YtakomlmbdienpaaDoorGenD
namespace Go.Proofs.YtakomlmbdienpaaDoor
open Go.RowKit Go.Extern.Stop Go.Stop Go.Extern

section
variable {P : Program} {ops : Array Oper} {Q : Exit → Act → World → Prop} {md : Region.Mode} {S : World → Prop} {D : Nat}

def putO (a : Act) (d : Tmp) : Option Nat → Act
  | none => a
  | some x => a.put (some d) (.pointer (some ⟨x, 0, none⟩))
def setO (l : Array Bool) (i : Nat) : Option Nat → Array Bool
  | none => l
  | some _ => l.setIfInBounds i true

theorem putO_comm (a : Act) {d d' : Tmp} (h : d ≠ d') (x x' : Option Nat) : putO (putO a d x) d' x' = putO (putO a d' x') d x := by
  cases x <;> cases x' <;> simp only [putO, Act.put]
  rw [Array.setIfInBounds_comm _ _ h]
theorem setO_comm (l : Array Bool) {i i' : Nat} (h : i ≠ i') (x x' : Option Nat) : setO (setO l i x) i' x' = setO (setO l i' x') i x := by
  cases x <;> cases x' <;> simp only [setO]
  rw [Array.setIfInBounds_comm _ _ h]

/-- So many new blocks of one kind. -/
def allocs (o : Obj) : Nat → World → World
  | 0, w => w
  | n + 1, w => (allocs o n w).alloc o
theorem allocs_size (o : Obj) (w : World) : ∀ n, (allocs o n w).heap.size = w.heap.size + n
  | 0 => rfl
  | n + 1 => by simp [allocs, allocs_size o w n]; omega

theorem allocs_blk (o : Obj) (w : World) : ∀ n x, w.heap.size ≤ x → x < w.heap.size + n → (allocs o n w).heap[x]? = some o
  | 0, x, h1, h2 => by omega
  | n + 1, x, h1, h2 => by
    by_cases h : x < w.heap.size + n
    · have := allocs_blk o w n x h1 h
      exact ((below_alloc (allocs o n w) o).block x (by rw [allocs_size]; exact h)).trans this
    · have e : x = (allocs o n w).heap.size := by rw [allocs_size]; omega
      rw [e]
      exact heap_alloc_new _ _
theorem allocs_below (o : Obj) (w : World) : ∀ n, Below w.heap.size w (allocs o n w)
  | 0 => Below.refl _ _
  | n + 1 => bstep (allocs_below o w n) (Nat.le_refl _) (below_alloc _ _)
/-- How many have come up. -/
def cnt : Option Nat → Nat
  | none => 0
  | some _ => 1
/-- Each that has come up has a place of its own, among the first c. -/
def okAt (N c : Nat) (x : Option Nat) : Prop := ∀ v, x = some v → N ≤ v ∧ v < N + c
def apartO (x y : Option Nat) : Prop := ∀ v v', x = some v → y = some v' → v ≠ v'
theorem okAt.more {N c : Nat} {x : Option Nat} (h : okAt N c x) : okAt N (c + 1) x := fun v e => by have := h v e; omega
theorem okAt.new (N c : Nat) : okAt N (c + 1) (some (N + c)) := fun v e => by cases e; omega
theorem apartO.newR {N c : Nat} {x : Option Nat} (h : okAt N c x) : apartO x (some (N + c)) := fun v v' e e' => by cases e'; have := h v e; omega
theorem apartO.newL {N c : Nat} {x : Option Nat} (h : okAt N c x) : apartO (some (N + c)) x := fun v v' e e' => by cases e; have := h v' e'; omega

theorem wpBut_allocs4 {o : Obj} {n i1 i2 i3 i4 : Nat} {d1 d2 d3 d4 : Tmp} {l : Array Bool} {a : Act} {w : World}
    (hd : d1 ≠ d2 ∧ d1 ≠ d3 ∧ d1 ≠ d4 ∧ d2 ≠ d3 ∧ d2 ≠ d4 ∧ d3 ≠ d4) (hi : i1 ≠ i2 ∧ i1 ≠ i3 ∧ i1 ≠ i4 ∧ i2 ≠ i3 ∧ i2 ≠ i4 ∧ i3 ≠ i4)
    (h1 : ∀ (K : Act → World → Prop) (a : Act) (w : World), K (a.put (some d1) (.pointer (some ⟨w.heap.size, 0, none⟩))) (w.alloc o) → wpOp P ops Q i1 K a w)
    (h2 : ∀ (K : Act → World → Prop) (a : Act) (w : World), K (a.put (some d2) (.pointer (some ⟨w.heap.size, 0, none⟩))) (w.alloc o) → wpOp P ops Q i2 K a w)
    (h3 : ∀ (K : Act → World → Prop) (a : Act) (w : World), K (a.put (some d3) (.pointer (some ⟨w.heap.size, 0, none⟩))) (w.alloc o) → wpOp P ops Q i3 K a w)
    (h4 : ∀ (K : Act → World → Prop) (a : Act) (w : World), K (a.put (some d4) (.pointer (some ⟨w.heap.size, 0, none⟩))) (w.alloc o) → wpOp P ops Q i4 K a w)
    (hr : ∀ x1 x2 x3 x4 : Option Nat, cnt x1 + cnt x2 + cnt x3 + cnt x4 < 4 → ∃ L, Region.ready md ops (setO (setO (setO (setO l i1 x1) i2 x2) i3 x3) i4 x4) = L ∧ L ≠ [] ∧ ∀ j ∈ L, (j = i1 ∧ x1 = none) ∨ (j = i2 ∧ x2 = none) ∨ (j = i3 ∧ x3 = none) ∨ (j = i4 ∧ x4 = none))
    (hS : ∀ c, S (allocs o c w))
    (H : ∀ x1 x2 x3 x4 : Nat, (w.heap.size ≤ x1 ∧ x1 < w.heap.size + 4) → (w.heap.size ≤ x2 ∧ x2 < w.heap.size + 4) → (w.heap.size ≤ x3 ∧ x3 < w.heap.size + 4) → (w.heap.size ≤ x4 ∧ x4 < w.heap.size + 4) →
      x1 ≠ x2 → x1 ≠ x3 → x1 ≠ x4 → x2 ≠ x3 → x2 ≠ x4 → x3 ≠ x4 →
      wpBut P md ops Q S D n (setO (setO (setO (setO l i1 (some x1)) i2 (some x2)) i3 (some x3)) i4 (some x4)) (putO (putO (putO (putO a d1 (some x1)) d2 (some x2)) d3 (some x3)) d4 (some x4)) (allocs o 4 w)) :
    wpBut P md ops Q S D (n + 4) l a w := by
  obtain ⟨d12, d13, d14, d23, d24, d34⟩ := hd
  obtain ⟨i12, i13, i14, i23, i24, i34⟩ := hi
  have key : ∀ (m c : Nat) (x1 x2 x3 x4 : Option Nat), cnt x1 + cnt x2 + cnt x3 + cnt x4 = c → m + c = 4 → okAt w.heap.size c x1 → okAt w.heap.size c x2 → okAt w.heap.size c x3 → okAt w.heap.size c x4 →
      apartO x1 x2 → apartO x1 x3 → apartO x1 x4 → apartO x2 x3 → apartO x2 x4 → apartO x3 x4 →
      wpBut P md ops Q S D (n + m) (setO (setO (setO (setO l i1 x1) i2 x2) i3 x3) i4 x4) (putO (putO (putO (putO a d1 x1) d2 x2) d3 x3) d4 x4) (allocs o c w) := by
    intro m
    induction m with
    | zero =>
      intro c x1 x2 x3 x4 hc hm o1 o2 o3 o4 a12 a13 a14 a23 a24 a34
      obtain rfl : c = 4 := by omega
      cases x1 with
      | none => cases x2 <;> cases x3 <;> cases x4 <;> simp [cnt] at hc
      | some y1 =>
        cases x2 with
        | none => cases x3 <;> cases x4 <;> simp [cnt] at hc
        | some y2 =>
          cases x3 with
          | none => cases x4 <;> simp [cnt] at hc
          | some y3 =>
            cases x4 with
            | none => simp [cnt] at hc
            | some y4 => exact H y1 y2 y3 y4 (o1 y1 rfl) (o2 y2 rfl) (o3 y3 rfl) (o4 y4 rfl) (a12 _ _ rfl rfl) (a13 _ _ rfl rfl) (a14 _ _ rfl rfl) (a23 _ _ rfl rfl) (a24 _ _ rfl rfl) (a34 _ _ rfl rfl)
    | succ m ih =>
      intro c x1 x2 x3 x4 hc hm o1 o2 o3 o4 a12 a13 a14 a23 a24 a34
      have hlt : cnt x1 + cnt x2 + cnt x3 + cnt x4 < 4 := by omega
      obtain ⟨L, hL, hL0, hLj⟩ := hr x1 x2 x3 x4 hlt
      refine ⟨fun h0 => absurd (hL.symm.trans h0) hL0, fun j hj => ?_⟩
      rw [hL] at hj
      have hsz := allocs_size o w c
      have hSn := hS (c + 1)
      rcases hLj j hj with ⟨ej, rfl⟩ | ⟨ej, rfl⟩ | ⟨ej, rfl⟩ | ⟨ej, rfl⟩ <;> rw [ej]
      · refine h1 _ _ _ ⟨fun _ => hSn, ?_⟩
        have := ih (c + 1) (some (w.heap.size + c)) x2 x3 x4 (by simp only [cnt] at hc ⊢; omega) (by omega) (okAt.new _ _) o2.more o3.more o4.more (apartO.newL o2) (apartO.newL o3) (apartO.newL o4) a23 a24 a34
        rw [hsz]
        have e1 : (putO (putO (putO (putO a d1 none) d2 x2) d3 x3) d4 x4).put (some d1) (.pointer (some ⟨w.heap.size + c, 0, none⟩)) = putO (putO (putO (putO a d1 (some (w.heap.size + c))) d2 x2) d3 x3) d4 x4 := by
          show putO (putO (putO (putO a d2 x2) d3 x3) d4 x4) d1 (some (w.heap.size + c)) = _
          rw [putO_comm _ (Ne.symm d14), putO_comm _ (Ne.symm d13), putO_comm _ (Ne.symm d12)]
        have e2 : (setO (setO (setO (setO l i1 none) i2 x2) i3 x3) i4 x4).setIfInBounds i1 true = setO (setO (setO (setO l i1 (some (w.heap.size + c))) i2 x2) i3 x3) i4 x4 := by
          show setO (setO (setO (setO l i2 x2) i3 x3) i4 x4) i1 (some (w.heap.size + c)) = _
          rw [setO_comm _ (Ne.symm i14), setO_comm _ (Ne.symm i13), setO_comm _ (Ne.symm i12)]
        rw [e1, e2]
        exact this
      · refine h2 _ _ _ ⟨fun _ => hSn, ?_⟩
        have := ih (c + 1) x1 (some (w.heap.size + c)) x3 x4 (by simp only [cnt] at hc ⊢; omega) (by omega) o1.more (okAt.new _ _) o3.more o4.more (apartO.newR o1) a13 a14 (apartO.newL o3) (apartO.newL o4) a34
        rw [hsz]
        have e1 : (putO (putO (putO (putO a d1 x1) d2 none) d3 x3) d4 x4).put (some d2) (.pointer (some ⟨w.heap.size + c, 0, none⟩)) = putO (putO (putO (putO a d1 x1) d2 (some (w.heap.size + c))) d3 x3) d4 x4 := by
          show putO (putO (putO (putO a d1 x1) d3 x3) d4 x4) d2 (some (w.heap.size + c)) = _
          rw [putO_comm _ (Ne.symm d24), putO_comm _ (Ne.symm d23)]
        have e2 : (setO (setO (setO (setO l i1 x1) i2 none) i3 x3) i4 x4).setIfInBounds i2 true = setO (setO (setO (setO l i1 x1) i2 (some (w.heap.size + c))) i3 x3) i4 x4 := by
          show setO (setO (setO (setO l i1 x1) i3 x3) i4 x4) i2 (some (w.heap.size + c)) = _
          rw [setO_comm _ (Ne.symm i24), setO_comm _ (Ne.symm i23)]
        rw [e1, e2]
        exact this
      · refine h3 _ _ _ ⟨fun _ => hSn, ?_⟩
        have := ih (c + 1) x1 x2 (some (w.heap.size + c)) x4 (by simp only [cnt] at hc ⊢; omega) (by omega) o1.more o2.more (okAt.new _ _) o4.more a12 (apartO.newR o1) a14 (apartO.newR o2) a24 (apartO.newL o4)
        rw [hsz]
        have e1 : (putO (putO (putO (putO a d1 x1) d2 x2) d3 none) d4 x4).put (some d3) (.pointer (some ⟨w.heap.size + c, 0, none⟩)) = putO (putO (putO (putO a d1 x1) d2 x2) d3 (some (w.heap.size + c))) d4 x4 := by
          show putO (putO (putO (putO a d1 x1) d2 x2) d4 x4) d3 (some (w.heap.size + c)) = _
          rw [putO_comm _ (Ne.symm d34)]
        have e2 : (setO (setO (setO (setO l i1 x1) i2 x2) i3 none) i4 x4).setIfInBounds i3 true = setO (setO (setO (setO l i1 x1) i2 x2) i3 (some (w.heap.size + c))) i4 x4 := by
          show setO (setO (setO (setO l i1 x1) i2 x2) i4 x4) i3 (some (w.heap.size + c)) = _
          rw [setO_comm _ (Ne.symm i34)]
        rw [e1, e2]
        exact this
      · refine h4 _ _ _ ⟨fun _ => hSn, ?_⟩
        have := ih (c + 1) x1 x2 x3 (some (w.heap.size + c)) (by simp only [cnt] at hc ⊢; omega) (by omega) o1.more o2.more o3.more (okAt.new _ _) a12 a13 (apartO.newR o1) a23 (apartO.newR o2) (apartO.newR o3)
        rw [hsz]
        exact this
  have := key 4 0 none none none none rfl rfl (fun v e => by cases e) (fun v e => by cases e) (fun v e => by cases e) (fun v e => by cases e) (fun _ _ e => by cases e) (fun _ _ e => by cases e) (fun _ _ e => by cases e) (fun _ _ e => by cases e) (fun _ _ e => by cases e) (fun _ _ e => by cases e)
  exact this
end

end Go.Proofs.YtakomlmbdienpaaDoor
