/- DERIVED of the program: the x86-TSO model as lists: what a core reads, which event is refused, what is done. Own work. -/
import Derived.Test.YtncgjclehplfeaaDoorBfA
namespace Go.Proofs.YtncgjclehplfeaaDoor
open Go.RowKit Go.Extern.Stop Go.Stop Go.Extern

theorem snoc_ind {α : Type} {P : List α → Prop} (h0 : P []) (h1 : ∀ L x, P L → P (L ++ [x])) (L : List α) : P L := by
  rw [← List.reverse_reverse L]
  induction L.reverse with
  | nil => exact h0
  | cons x r ih => rw [List.reverse_cons]; exact h1 _ x ih

/-- Of a core's stores that wait: which is the last to a word, from 1 on; 0: none. -/
def idx (a : Int) : List (Int × Int) → Nat
  | [] => 0
  | x :: r => if idx a r = 0 then (if x.1 = a then 1 else 0) else idx a r + 1
theorem idx_le (a : Int) : ∀ L : List (Int × Int), idx a L ≤ L.length
  | [] => Nat.le_refl _
  | x :: r => by have := idx_le a r; simp only [idx, List.length_cons]; split; (· split <;> omega); omega
theorem idx_snoc (a : Int) (x : Int × Int) : ∀ L : List (Int × Int), idx a (L ++ [x]) = if x.1 = a then L.length + 1 else idx a L
  | [] => by simp [idx]
  | y :: r => by
    have h := idx_snoc a x r
    simp only [List.cons_append, idx, h, List.length_cons]
    by_cases hx : x.1 = a
    · rw [if_pos hx, if_pos hx, if_neg (by omega)]
    · rw [if_neg hx, if_neg hx]
theorem idx_tail (a : Int) (L : List (Int × Int)) : idx a (L.drop 1) = idx a L - 1 := by
  cases L with
  | nil => rfl
  | cons x r =>
    simp only [List.drop_succ_cons, List.drop_zero, idx]
    by_cases h : idx a r = 0
    · rw [if_pos h, h]; split <;> rfl
    · rw [if_neg h]; omega
theorem fwd_snoc (a : Int) (x : Int × Int) (L : List (Int × Int)) : fwdL (L ++ [x]) a = if x.1 = a then (x.2, true) else fwdL L a := by
  unfold fwdL
  rw [List.foldl_append]
  rfl
theorem fwd_idx0 (a : Int) (L : List (Int × Int)) : idx a L = 0 → fwdL L a = (0, false) := by
  refine snoc_ind (P := fun L => idx a L = 0 → fwdL L a = (0, false)) (fun _ => rfl) (fun L x ih h => ?_) L
  rw [idx_snoc] at h
  by_cases hx : x.1 = a
  · rw [if_pos hx] at h; omega
  · rw [if_neg hx] at h; rw [fwd_snoc, if_neg hx, ih h]
theorem fwd_idx (a : Int) (L : List (Int × Int)) : ∀ p, idx a L = p + 1 → ∃ y, L[p]? = some (a, y) ∧ fwdL L a = (y, true) := by
  refine snoc_ind (P := fun L => ∀ p, idx a L = p + 1 → ∃ y, L[p]? = some (a, y) ∧ fwdL L a = (y, true)) (fun p h => by cases h) (fun L x ih p h => ?_) L
  rw [idx_snoc] at h
  by_cases hx : x.1 = a
  · rw [if_pos hx] at h
    obtain rfl : L.length = p := by omega
    exact ⟨x.2, by rw [List.getElem?_append_right (Nat.le_refl _), Nat.sub_self]; simp [← hx], by rw [fwd_snoc, if_pos hx]⟩
  · rw [if_neg hx] at h
    obtain ⟨y, h1, h2⟩ := ih p h
    exact ⟨y, by rw [List.getElem?_append_left (List.getElem?_eq_some_iff.1 h1).1, h1], by rw [fwd_snoc, if_neg hx, h2]⟩

/-- An event. -/
structure Ev where
  k : Int
  c : Int
  a : Int
  v : Int
  n : Int
  d : Bool

/-- What a core reads. -/
def rdL (L : List (Int × Int)) (M : List Int) (a : Nat) : Int := if (fwdL L (a : Int)).2 = true then (fwdL L (a : Int)).1 else M.getD a 0
def rdP (A : List (List (Int × Int))) (M : List Int) (c a : Nat) : Int := rdL (A.getD c []) M a
theorem rdL_nil (M : List Int) (a : Nat) : rdL [] M a = M.getD a 0 := rfl
theorem rdL_some {L : List (Int × Int)} {M : List Int} {a : Nat} {v : Int} (h : fwdL L (a : Int) = (v, true)) : rdL L M a = v := by unfold rdL; rw [h]; rfl
theorem rdL_none {L : List (Int × Int)} {M : List Int} {a : Nat} (h : fwdL L (a : Int) = (0, false)) : rdL L M a = M.getD a 0 := by unfold rdL; rw [h]; rfl

/-- Does it name what there is? -/
def knP (nc nw : Nat) (e : Ev) : Bool := (wB e.k 1 5 && wB e.c 0 ((nc : Int) - 1)) && (decide (e.k = 5) || wB e.a 0 ((nw : Int) - 1))
/-- Why an event is refused; 0: it isn't. -/
def refL (L : List (Int × Int)) (M : List Int) (e : Ev) : Nat :=
  if e.k = 1 then (if rdL L M e.a.toNat = e.v then 0 else 10)
  else if e.k = 3 then (match L with | [] => 9 | x :: _ => if x = (e.a, e.v) then 0 else 10)
  else if e.k = 4 then (if L ≠ [] then 9 else if rdL L M e.a.toNat = e.v then 0 else 10)
  else if e.k = 5 then (if L ≠ [] then 9 else 0)
  else 0
def refP (A : List (List (Int × Int))) (M : List Int) (e : Ev) : Nat :=
  if knP A.length M.length e = false then 1 else refL (A.getD e.c.toNat []) M e
/-- What is done. -/
def doA (A : List (List (Int × Int))) (e : Ev) : List (List (Int × Int)) :=
  if e.k = 2 then A.set e.c.toNat (A.getD e.c.toNat [] ++ [(e.a, e.v)])
  else if e.k = 3 then A.set e.c.toNat ((A.getD e.c.toNat []).drop 1)
  else A
def doM (M : List Int) (e : Ev) : List Int :=
  if e.k = 3 then M.set e.a.toNat e.v
  else if e.k = 4 ∧ e.d = true then M.set e.a.toNat e.n
  else M
def stA (A : List (List (Int × Int))) (M : List Int) (e : Ev) : List (List (Int × Int)) := if refP A M e = 0 then doA A e else A
def stM (A : List (List (Int × Int))) (M : List Int) (e : Ev) : List Int := if refP A M e = 0 then doM M e else M
theorem doA_len (A : List (List (Int × Int))) (e : Ev) : (doA A e).length = A.length := by unfold doA; split; (· simp); split <;> simp
theorem doM_len (M : List Int) (e : Ev) : (doM M e).length = M.length := by unfold doM; split; (· simp); split <;> simp
theorem stA_len (A : List (List (Int × Int))) (M : List Int) (e : Ev) : (stA A M e).length = A.length := by unfold stA; split; (· exact doA_len A e); rfl
theorem stM_len (A : List (List (Int × Int))) (M : List Int) (e : Ev) : (stM A M e).length = M.length := by unfold stM; split; (· exact doM_len M e); rfl
theorem refL_le (L : List (Int × Int)) (M : List Int) (e : Ev) : refL L M e ≤ 10 := by
  unfold refL
  split; (· split <;> omega)
  split; (· split; (· omega); split <;> omega)
  split; (· split; (· omega); split <;> omega)
  split; (· split <;> omega)
  omega
theorem refP_le (A : List (List (Int × Int))) (M : List Int) (e : Ev) : refP A M e ≤ 10 := by
  unfold refP
  split; (· omega)
  exact refL_le _ _ _
end Go.Proofs.YtncgjclehplfeaaDoor
