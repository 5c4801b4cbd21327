/- DERIVED of the program: fault.Any of a way of Faults down to a sentinel, over a row of sentinels. Own work. -/
import Derived.Test.YtncgjclehplfeaaDoorFltB
namespace Go.Proofs.YtncgjclehplfeaaDoor
open Go.RowKit Go.Extern.Stop Go.Stop Go.Extern

/-- The place of the first a in the row, from i on; -1: nowhere. -/
def fidx (a : Addr) : List Addr → Nat → Int
  | [], _ => -1
  | b :: r, i => if a = b then (i : Int) else fidx a r (i + 1)
theorem fidx_drop (a : Addr) : ∀ (bs : List Addr) (i k : Nat), k ≤ bs.length → (∀ j (h : j < bs.length), j < k → a ≠ bs[j]) → fidx a bs i = fidx a (bs.drop k) (i + k)
  | bs, i, 0, _, _ => by simp
  | [], i, k + 1, h, _ => by simp at h
  | b :: r, i, k + 1, h, hn => by
    have h0 := hn 0 (by simp) (by omega)
    simp only [fidx, List.drop_succ_cons]
    rw [if_neg (by simpa using h0), fidx_drop a r (i + 1) k (by simpa using h) (fun j hj hk => by have := hn (j + 1) (by simpa using hj) (by omega); simpa using this)]
    congr 1; omega
theorem fidx_hit (a : Addr) (bs : List Addr) (k : Nat) (h : k < bs.length) (hn : ∀ j (h : j < bs.length), j < k → a ≠ bs[j]) (he : a = bs[k]) : fidx a bs 0 = k := by
  rw [fidx_drop a bs 0 k (Nat.le_of_lt h) hn, List.drop_eq_getElem_cons h]
  simp [fidx, he]
theorem fidx_miss (a : Addr) (bs : List Addr) (hn : ∀ j (h : j < bs.length), j < bs.length → a ≠ bs[j]) : fidx a bs 0 = -1 := by
  rw [fidx_drop a bs 0 bs.length (Nat.le_refl _) hn]
  simp [fidx]

end Go.Proofs.YtncgjclehplfeaaDoor
