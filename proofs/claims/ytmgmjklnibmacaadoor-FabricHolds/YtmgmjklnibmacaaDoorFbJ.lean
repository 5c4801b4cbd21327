/- DERIVED of the program: what was sent, pool by pool; a number within bounds. Own work. -/
import Derived.Test.YtmgmjklnibmacaaDoorFbRuns
namespace Go.Proofs.YtmgmjklnibmacaaDoor
open Go.RowKit Go.Extern.Stop Go.Stop Go.Extern

theorem putF_row {cs : Nat} {P : List (List M13)} {m : M13} (h : thM cs m < P.length) (i : Nat) : (putF cs P m).getD i [] = P.getD i [] ++ (if thM cs m = i then [m] else []) := by
  unfold putF
  by_cases e : thM cs m = i
  · subst e
    rw [if_pos rfl]
    simp [List.getD, h]
  · rw [if_neg e]
    simp [List.getD, List.getElem?_set_ne e]
theorem putsF_row {cs : Nat} : ∀ {l : List M13} {P : List (List M13)} (_ : P.length = 2 + 2 * cs) (_ : ∀ m ∈ l, okM cs m = true) (i : Nat), (putsF cs P l).getD i [] = P.getD i [] ++ l.filter (fun m => decide (thM cs m = i))
  | [], P, _, _, i => by simp [putsF]
  | m :: r, P, hP, h, i => by
    have h1 := putF_row (m := m) (P := P) (by rw [hP]; exact (okM_th (h m List.mem_cons_self)).2) i
    have h2 := putsF_row (l := r) (P := putF cs P m) (by rw [len_putF]; exact hP) (fun x hx => h x (List.mem_cons_of_mem _ hx)) i
    show (putsF cs (putF cs P m) r).getD i [] = _
    rw [h2, h1, List.filter_cons, List.append_assoc]
    congr 1
    by_cases e : thM cs m = i
    · simp [e]
    · simp [e]
theorem fullF_room {cs rm : Nat} {l : List M13} {P : List (List M13)} (hP : P.length = 2 + 2 * cs) (h : ∀ m ∈ l, okM cs m = true) (hr : ∀ i, lenF P i + l.length ≤ rm) : fullF cs rm P l = none := by
  refine fullF_none (fun j m hm => ?_)
  have hj := (List.getElem?_eq_some_iff.1 hm).1
  have h1 := putsF_row (l := l.take j) hP (fun x hx => h x (List.mem_of_mem_take hx)) (thM cs m)
  have h2 := hr (thM cs m)
  unfold lenF at h2 ⊢
  rw [h1, List.length_append]
  have h3 : ((l.take j).filter (fun x => decide (thM cs x = thM cs m))).length ≤ j := Nat.le_trans (List.length_filter_le _ _) (by rw [List.length_take]; omega)
  omega
theorem badF_all {cs : Nat} {l : List M13} (h : ∀ m ∈ l, okM cs m = true) : badF cs l = none := badF_none (fun _ m hm => h m (List.mem_of_getElem? hm))
theorem noneF_row (cs i : Nat) : (noneF cs).getD i [] = [] := by
  unfold noneF
  simp only [List.getD, List.getElem?_replicate]
  split <;> rfl
theorem noneF_len (cs : Nat) : (noneF cs).length = 2 + 2 * cs := List.length_replicate
theorem peekF_row {cs : Nat} {P : List (List M13)} {p c k : Int} {i : Nat} {r : List M13} {m : M13} {b : Bool} (h : plN cs p c = some i) (hr : P.getD i [] = r) (hb : (if 0 ≤ k ∧ k < (r.length : Int) then (r.getD k.toNat zero13, true) else (zero13, false)) = (m, b)) : peekF cs P p c k = (m, b) := by
  unfold peekF lenF
  rw [h]
  simp only [hr]
  exact hb
theorem thM_of {cs : Nat} {m : M13} {i : Nat} (h : plN cs (poolS m.1) m.2.1 = some i) : thM cs m = i := by unfold thM; rw [h]; rfl
/-- Within's answer as a number of the right size. -/
theorem within_n (n lo hi : Int) (w : World) (h0 : 0 ≤ lo) (h1 : lo ≤ hi) (h2 : hi ≤ 1000) (q : Nat) (hq : wI n lo hi = (q : Int)) :
    Calls Tryd.prog 26 #[.int .i64 n, .int .i64 lo, .int .i64 hi] w fun r w' => r = .returned (.int .i64 (q : Int)) ∧ w' = w := by
  rw [← hq]; exact within_i n lo hi w (by omega) h1 h2
theorem wI_nat (n lo hi : Int) (h0 : 0 ≤ lo) (h1 : lo ≤ hi) : ∃ q : Nat, wI n lo hi = (q : Int) ∧ lo ≤ (q : Int) ∧ (q : Int) ≤ hi := by
  have h := wI_le n lo hi h1
  exact ⟨(wI n lo hi).toNat, by omega, by omega, by omega⟩

end Go.Proofs.YtmgmjklnibmacaaDoor
