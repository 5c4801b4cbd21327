/- DERIVED of the program: slices.Delete of the first store; Pop by its contract. Own work. -/
import Derived.Test.YtncgjclehplfeaaDoorBfA
namespace Go.Proofs.YtncgjclehplfeaaDoor
open Go.RowKit Go.Extern.Stop Go.Stop Go.Extern

/-- 's[1:]' of a row of structs of two cells. -/
theorem slice_from1 (ts te : TypeId) (z : Value) (by_ : Nat) (hts : Tryd.prog.underlying ts = some (.slice te)) (hte : (Tryd.prog.info? te).map (fun i => (i.zero, i.size, i.bytes)) = some (some z, 2, by_)) (b o n cap : Nat) (hn : 1 ≤ n) (w : World) :
    (Instr.sliceAt ts (.slice (some ⟨b, o, none⟩) n cap) (some (.int .i64 1)) none none).run Tryd.prog w = .ok (.slice (some (if cap = 1 then ⟨b, o, none⟩ else ⟨b, o + 2, none⟩)) (n - 1) (cap - 1)) w := by
  obtain ⟨i0, hi, hz0, hz1, hz2⟩ := info_parts hte
  have hj2 : (1 : Int) ≤ (n : Int) := by omega
  simp [Instr.sliceAt, Instr.slice, Instr.sliceBounds, Instr.sliceBound, asIntOf, Sem.run_bind, run_underlying hts, hj2, sizeOf, typeInfo, hi, hz1]
  split <;> rfl
theorem OwnA.tail {t : TypeId} {w : World} {B n cap b o : Nat} {L : List (Int × Int)} (h : OwnW t w B (some ⟨b, o, none⟩) n cap L) (hn : 1 ≤ n) : OwnW t w B (some (if cap = 1 then ⟨b, o, none⟩ else ⟨b, o + 2, none⟩)) (n - 1) (cap - 1) (L.drop 1) := by
  unfold OwnW
  rw [List.map_drop]
  by_cases hc : cap = 1
  · rw [if_pos hc]
    have hle := h.le
    have hl := h.len
    obtain rfl : n = 1 := by omega
    subst hc
    rw [List.drop_eq_nil_of_le (by omega)]
    exact h.gone
  · rw [if_neg hc]
    have := h.drop 1 hn
    rwa [Nat.one_mul] at this

/-- 'clear(s)' of one struct of two numbers. -/
theorem run_clear_one (w : World) (t e ty : TypeId) (z : Value) (zs : List Value) (ht : Tryd.prog.underlying t = some (.slice e)) (hv : ∀ w, (zeroValue e).run Tryd.prog w = .ok z w) (hz : (Builtin.zeroCells z.cells 1).toList = zs) (h1 : ∀ v ∈ zs, v.oneCell' = true) (b o c : Nat)
    (hc : ∀ j, j < zs.length → (w.cell? ⟨b, o + j, none⟩).isSome = true) (hf : ∀ j, j < zs.length → w.frozen? ⟨b, o + j, none⟩ = false) :
    (Builtin.clear_ #[t] ty #[.slice (some ⟨b, o, none⟩) 1 c]).run Tryd.prog w = .ok (.tuple #[]) (w.setCells b o zs) := by
  have hst := run_storeCells_cells (P := Tryd.prog) b o zs 0 w (by simpa using hc) (by simpa using hf) h1
  simp only [Nat.add_zero] at hst
  simp [Builtin.clear_, run_underlying ht, hv, hz, hst]
/-- Cells behind a row's last one written: it stays. -/
theorem OwnA.past {t : TypeId} {m : Nat} {w : World} {B n cap g o p : Nat} {rs : List (List Value)} {vs : List Value} (h : OwnA t m w B (some ⟨g, o, none⟩) n cap rs) (hp : o + n * m ≤ p) : OwnA t m (w.setCells g p vs) B (some ⟨g, o, none⟩) n cap rs := by
  refine ⟨h.each, h.len, h.le, h.max, h.nil0, fun ad e => ?_⟩
  obtain ⟨g', o', cur, e', hg, hh, hsz, hrd⟩ := h.at_ _ rfl
  cases e'
  cases e
  obtain ⟨cs', h1, h2, h3, h4⟩ := blk_setCells vs p w cur hh
  refine ⟨g, o, cs', rfl, hg, h1, by rw [h2]; exact hsz, fun j u hj => ?_⟩
  have hlt := (List.getElem?_eq_some_iff.1 hj).1
  rw [flat_len h.each, h.len] at hlt
  rw [h3 _ (by omega)]
  exact hrd j u hj

/-- 's[p:p+1]' of a row of p structs of two cells that has more room. -/
theorem slice_mid (ts te : TypeId) (z : Value) (by_ : Nat) (hts : Tryd.prog.underlying ts = some (.slice te)) (hte : (Tryd.prog.info? te).map (fun i => (i.zero, i.size, i.bytes)) = some (some z, 2, by_)) (b o p n cap : Nat) (hn : n = p + 1) (hc : n ≤ cap) (w : World) :
    (Instr.sliceAt ts (.slice (some ⟨b, o, none⟩) p cap) (some (.int .i64 (p : Int))) (some (.int .i64 (n : Int))) none).run Tryd.prog w = .ok (.slice (some ⟨b, o + p * 2, none⟩) 1 (cap - p)) w := by
  obtain ⟨i0, hi, hz0, hz1, hz2⟩ := info_parts hte
  subst hn
  have hj3 : ¬ cap = p := by omega
  have hj4 : (0 : Int) ≤ (p : Int) + 1 ∧ (p : Int) + 1 ≤ (cap : Int) := by omega
  have hj6 : ((p : Int) + 1).toNat = p + 1 := by omega
  simp [Instr.sliceAt, Instr.slice, Instr.sliceBounds, Instr.sliceBound, asIntOf, Sem.run_bind, run_underlying hts, sizeOf, typeInfo, hi, hz1, hj3, hj4, hj6, Addr.add_lit]

end Go.Proofs.YtncgjclehplfeaaDoor
