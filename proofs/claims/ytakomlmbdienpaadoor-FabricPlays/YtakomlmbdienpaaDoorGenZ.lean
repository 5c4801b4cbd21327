/- DERIVED of the program: one cell of a row of structs written anew. For every seat. Own work. -/
import Derived.Test.YtakomlmbdienpaaDoorGenE
namespace Go.Proofs.YtakomlmbdienpaaDoor
open Go.RowKit Go.Extern.Stop Go.Stop Go.Extern

/-- One cell of one row written anew. -/
theorem OwnA.putc {t : TypeId} {m : Nat} {w : World} {B n cap g o : Nat} {rs : List (List Value)} (h : OwnA t m w B (some ⟨g, o, none⟩) n cap rs) (hm : 0 < m) (j : Nat) (hj : j < n) (r : List Value) (hr : rs[j]? = some r) (c : Nat) (hcm : c < m) (v : Value) : OwnA t m (w.setCell ⟨g, o + j * m + c, none⟩ v) B (some ⟨g, o, none⟩) n cap (rs.set j (r.set c v)) := by
  have hl := h.len
  have he : ∀ x ∈ rs.set j (r.set c v), x.length = m := fun x hx => by
    rcases List.mem_or_eq_of_mem_set hx with hx | hx
    · exact h.each x hx
    · rw [hx, List.length_set]; exact h.each r (List.mem_of_getElem? hr)
  refine ⟨he, by rw [List.length_set, hl], h.le, h.max, (fun e => by cases e), fun ad e => ?_⟩
  obtain ⟨g', o', cur, e', hg, hh, hsz, hrd⟩ := h.at_ _ rfl
  cases e'
  cases e
  refine ⟨g, o, _, rfl, hg, blk_set v hh, by rw [Array.size_setIfInBounds]; exact hsz, fun i u hi => ?_⟩
  have hi' : i < n * m := by
    have := (List.getElem?_eq_some_iff.1 hi).1
    rwa [flat_len he, List.length_set, hl] at this
  have hd : i / m < n := (Nat.div_lt_iff_lt_mul hm).2 hi'
  have hc : i % m < m := Nat.mod_lt _ hm
  have hq : i / m * m + i % m = i := by rw [Nat.mul_comm]; exact Nat.div_add_mod i _
  have hd2 : i / m < (rs.set j (r.set c v)).length := by rw [List.length_set, hl]; exact hd
  have hu : ((rs.set j (r.set c v))[i / m])[i % m]? = some u := by
    rw [← flat_get he (i / m) (i % m) hd2 hc, hq]; exact hi
  have hjm : (j + 1) * m ≤ n * m := Nat.mul_le_mul_right _ hj
  have hnm : n * m ≤ cap * m := Nat.mul_le_mul_right _ h.le
  rw [Nat.add_mul, Nat.one_mul] at hjm
  have hjr : j < rs.length := by omega
  have hrj : rs[j] = r := by rw [List.getElem?_eq_getElem hjr] at hr; exact Option.some.inj hr
  have hold : ∀ x, i / m = x → ∀ (hx : x < rs.length), rs[x][i % m]? = some u → cur[o + i]? = some u := fun x hx hl2 hy => hrd i u (by rw [← hq, flat_get h.each (i / m) (i % m) (by omega) hc]; subst hx; exact hy)
  by_cases hij : i / m = j
  · rw [List.getElem_set, if_pos hij.symm] at hu
    by_cases hcc : i % m = c
    · have e : o + j * m + c = o + i := by rw [← hij, ← hcc]; omega
      have hlt : o + i < cur.size := by omega
      have hcr : c < r.length := by rw [h.each r (List.mem_of_getElem? hr)]; exact hcm
      rw [hcc, List.getElem?_set_self hcr] at hu
      rw [e, Array.getElem?_setIfInBounds_self_of_lt hlt]
      exact hu
    · have e : o + j * m + c ≠ o + i := by rw [← hij]; omega
      rw [List.getElem?_set_ne (fun e => hcc e.symm)] at hu
      rw [Array.getElem?_setIfInBounds_ne e]
      exact hold j hij hjr (by rw [hrj]; exact hu)
  · rw [List.getElem_set, if_neg (fun e => hij e.symm)] at hu
    have e : o + j * m + c ≠ o + i := by
      intro e
      refine hij ?_
      rw [show i = c + j * m by omega, Nat.add_mul_div_right _ _ hm, Nat.div_eq_of_lt hcm, Nat.zero_add]
    rw [Array.getElem?_setIfInBounds_ne e]
    exact hold (i / m) rfl (by omega) hu

end Go.Proofs.YtakomlmbdienpaaDoor
