/- DERIVED of the program: a function value that is asked for numbers, by a contract; what walk has in memory. Own work. -/
import Derived.Test.YtakomlmbdienpaaDoorSgPureB
import Derived.Test.YtakomlmbdienpaaDoorPkM
import Derived.Test.YtakomlmbdienpaaDoorGenB
import Derived.Test.YtakomlmbdienpaaDoorGenE
import Derived.Shelf.Abstract
namespace Go.Proofs.YtakomlmbdienpaaDoor
open Go.RowKit Go.Extern.Stop Go.Stop Go.Extern

theorem blk_step {w w' : World} {g : Nat} {o : Obj} (h : w.heap[g]? = some o) (hb : Below w.heap.size w w') : w'.heap[g]? = some o := (hb.block g (blk_lt h)).trans h

theorem results_cell1 {fn : Func} {p : Tmp} {ty : TypeId} (h : fn.results = #[.cell p ty]) (tmps : Array Value) (P : Program) (w : World) :
    (results fn tmps).run P w = ((asAddr (tmps.getD p undef)).run P w).andThen fun a w₁ => (loadVar ty a).run P w₁ := by
  simp only [results, h]
  simp [Sem.run_bind, Result.andThen]

theorem grown_own {w w' : World} {row : Option Nat} {g i : Nat} (v : Value) (h : w.grownBy w' row) (hg : w.heap.size ≤ g) : w.grownBy (w'.setCell ⟨g, i, none⟩ v) row :=
  ⟨h.os, h.tape, h.output, by simpa [World.setCell] using h.size, fun k hk hn => (Below.heap_setCell _ _ _ k (by show k ≠ g; omega)).trans (h.block k hk hn)⟩

/-- Function K, which has the variable p and writes block q alone, answers what st says; Inv tells what it lives on, which is in none of the blocks O. -/
structure AskC (K q : Nat) (pv : Value) {σ : Type} (st : σ → Int → Int → Int → σ × Int) (fuel : σ → Nat) (Inv : (Nat → Prop) → σ → World → Prop) : Prop where
  enters : ∀ (args : Array Value) (w : World), (callFunc K args).run Tryd.prog w = .ok (.enter K args) w
  call : ∀ (O : Nat → Prop) (s : σ) (w : World) (n lo hi : Int), Inv O s w → 0 < fuel s → -9223372036854775808 ≤ n → n ≤ 9223372036854775807 →
    Calls Tryd.prog K #[.int .i64 n, .int .i64 lo, .int .i64 hi, pv] w fun r w' => r = .returned (.int .i64 (st s n lo hi).2) ∧ Inv O (st s n lo hi).1 w' ∧ w.grownBy w' (some q)
  less : ∀ (s : σ) (n lo hi : Int), fuel s ≤ fuel (st s n lo hi).1 + 1
  set : ∀ (O : Nat → Prop) (s : σ) (w : World) (x i : Nat) (v : Value), Inv O s w → O x → Inv O s (w.setCell ⟨x, i, none⟩ v)
  new : ∀ (O : Nat → Prop) (s : σ) (w : World) (o : Obj), Inv O s w → Inv (fun k => O k ∨ k = w.heap.size) s (w.alloc o)
  sub : ∀ (O O' : Nat → Prop) (s : σ) (w : World), Inv O' s w → (∀ x, O x → O' x) → Inv O s w
  own : ∀ (O : Nat → Prop) (s : σ) (w : World), Inv O s w → ¬ O q ∧ q < w.heap.size

/-- In the midst of walk, or walkLine: its three blocks from A on (the parameter, the result, out), of types of one kind. -/
structure WS {σ : Type} (Inv : (Nat → Prop) → σ → World → Prop) (O : Nat → Prop) (t : TypeId) (w : World) (q A : Nat) (mc zc oc : Array Value) (s : σ) (wr : World) : Prop where
  inv : Inv O s wr
  gr : w.grownBy wr (some q)
  bA : wr.heap[A]? = some (.cells mc t (0, 0))
  bB : wr.heap[A + 1]? = some (.cells zc t (0, 0))
  bC : wr.heap[A + 1 + 1]? = some (.cells oc t (0, 0))
  oA : O A
  oB : O (A + 1)
  oC : O (A + 1 + 1)
  sz : A = w.heap.size

theorem WS.start {K q : Nat} {pv : Value} {σ : Type} {st : σ → Int → Int → Int → σ × Int} {fuel : σ → Nat} {Inv : (Nat → Prop) → σ → World → Prop} (HA : AskC K q pv st fuel Inv) {O : Nat → Prop} {s : σ} {w : World} (h : Inv O s w) (t : TypeId) (mc zc oc : Array Value) :
    WS Inv (fun k => ((O k ∨ k = w.heap.size) ∨ k = w.heap.size + 1) ∨ k = w.heap.size + 1 + 1) t w q w.heap.size mc zc oc s (((w.alloc (.cells mc t)).alloc (.cells zc t)).alloc (.cells oc t)) := by
  have h1 := HA.new _ _ _ (.cells mc t) h
  have h2 := HA.new _ _ _ (.cells zc t) h1
  have h3 := HA.new _ _ _ (.cells oc t) h2
  have s1 : (w.alloc (.cells mc t)).heap.size = w.heap.size + 1 := by simp
  have s2 : ((w.alloc (.cells mc t)).alloc (.cells zc t)).heap.size = w.heap.size + 1 + 1 := by simp
  rw [s1] at h3
  rw [s2] at h3
  have b1 := below_alloc w (.cells mc t)
  have b2 := below_alloc (w.alloc (.cells mc t)) (.cells zc t)
  have b3 := below_alloc ((w.alloc (.cells mc t)).alloc (.cells zc t)) (.cells oc t)
  refine ⟨h3, grown_of_below (bstep (bstep b1 (Nat.le_refl _) b2) (Nat.le_refl _) b3) _, blk_step (blk_step (heap_alloc_new _ _) b2) b3, ?_, ?_, .inl (.inl (.inr rfl)), .inl (.inr rfl), .inr rfl, rfl⟩
  · have := blk_step (heap_alloc_new (w.alloc (.cells mc t)) (.cells zc t)) b3
    rwa [s1] at this
  · have := heap_alloc_new ((w.alloc (.cells mc t)).alloc (.cells zc t)) (.cells oc t)
    rwa [s2] at this

theorem WS.in {K q : Nat} {pv : Value} {σ : Type} {st : σ → Int → Int → Int → σ × Int} {fuel : σ → Nat} {Inv : (Nat → Prop) → σ → World → Prop} (HA : AskC K q pv st fuel Inv) {O : Nat → Prop} {t : TypeId} {w wr w' : World} {A : Nat} {mc zc oc : Array Value} {s s' : σ} (h : WS Inv O t w q A mc zc oc s wr) (hi : Inv O s' w') (hg : wr.grownBy w' (some q)) : WS Inv O t w q A mc zc oc s' w' := by
  have hq := (HA.own _ _ _ h.inv).1
  have bl : ∀ (k : Nat) (ob : Obj), O k → wr.heap[k]? = some ob → w'.heap[k]? = some ob := fun k ob hk hb => (hg.block k (blk_lt hb) (by intro e; cases e; exact hq hk)).trans hb
  exact ⟨hi, grown_trans h.gr hg, bl _ _ h.oA h.bA, bl _ _ h.oB h.bB, bl _ _ h.oC h.bC, h.oA, h.oB, h.oC, h.sz⟩

theorem WS.set {K q : Nat} {pv : Value} {σ : Type} {st : σ → Int → Int → Int → σ × Int} {fuel : σ → Nat} {Inv : (Nat → Prop) → σ → World → Prop} (HA : AskC K q pv st fuel Inv) {O : Nat → Prop} {t : TypeId} {w wr : World} {A : Nat} {mc zc oc : Array Value} {s : σ} (h : WS Inv O t w q A mc zc oc s wr) (i : Nat) (v : Value) : WS Inv O t w q A mc zc (oc.setIfInBounds i v) s (wr.setCell ⟨A + 1 + 1, i, none⟩ v) := by
  have bl : ∀ (k : Nat) (ob : Obj), k ≠ A + 1 + 1 → wr.heap[k]? = some ob → (wr.setCell ⟨A + 1 + 1, i, none⟩ v).heap[k]? = some ob := fun k ob hk hb => (Below.heap_setCell _ _ _ k hk).trans hb
  exact ⟨HA.set _ _ _ _ _ _ h.inv h.oC, grown_own v h.gr (by have := h.sz; omega), bl _ _ (by omega) h.bA, bl _ _ (by omega) h.bB, blk_set v h.bC, h.oA, h.oB, h.oC, h.sz⟩

theorem WS.setB {K q : Nat} {pv : Value} {σ : Type} {st : σ → Int → Int → Int → σ × Int} {fuel : σ → Nat} {Inv : (Nat → Prop) → σ → World → Prop} (HA : AskC K q pv st fuel Inv) {O : Nat → Prop} {t : TypeId} {w wr : World} {A : Nat} {mc zc oc : Array Value} {s : σ} (h : WS Inv O t w q A mc zc oc s wr) (i : Nat) (v : Value) : WS Inv O t w q A mc (zc.setIfInBounds i v) oc s (wr.setCell ⟨A + 1, i, none⟩ v) := by
  have bl : ∀ (k : Nat) (ob : Obj), k ≠ A + 1 → wr.heap[k]? = some ob → (wr.setCell ⟨A + 1, i, none⟩ v).heap[k]? = some ob := fun k ob hk hb => (Below.heap_setCell _ _ _ k hk).trans hb
  exact ⟨HA.set _ _ _ _ _ _ h.inv h.oB, grown_own v h.gr (by have := h.sz; omega), bl _ _ (by omega) h.bA, blk_set v h.bB, bl _ _ (by omega) h.bC, h.oA, h.oB, h.oC, h.sz⟩

theorem AskC.next {K q : Nat} {pv : Value} {σ : Type} {st : σ → Int → Int → Int → σ × Int} {fuel : σ → Nat} {Inv : (Nat → Prop) → σ → World → Prop} (HA : AskC K q pv st fuel Inv) {s s' : σ} {n lo hi z : Int} (h : st s n lo hi = (s', z)) : fuel s ≤ fuel s' + 1 := by
  have := HA.less s n lo hi
  rwa [h] at this

theorem AskC.met {K q : Nat} {pv : Value} {σ : Type} {st : σ → Int → Int → Int → σ × Int} {fuel : σ → Nat} {Inv : (Nat → Prop) → σ → World → Prop} (HA : AskC K q pv st fuel Inv) {O : Nat → Prop} {s s' : σ} {w : World} {n lo hi z : Int} (h : st s n lo hi = (s', z)) (hI : Inv O s w) (hf : 0 < fuel s) (h0 : -9223372036854775808 ≤ n) (h1 : n ≤ 9223372036854775807) :
    Calls Tryd.prog K #[.int .i64 n, .int .i64 lo, .int .i64 hi, pv] w fun r w' => r = .returned (.int .i64 z) ∧ Inv O s' w' ∧ w.grownBy w' (some q) := by
  have := HA.call O s w n lo hi hI hf h0 h1
  rwa [h] at this

end Go.Proofs.YtakomlmbdienpaaDoor
