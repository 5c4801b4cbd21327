/- DERIVED of the program: 'make' of rows. For every seat. Own work. -/
import Derived.Test.YtakomlmbdienpaaDoorGenE
import Derived.Laws.MakeOwn
namespace Go.Proofs.YtakomlmbdienpaaDoor
open Go.RowKit Go.Extern.Stop Go.Stop Go.Extern

theorem OwnA.zeros {t : TypeId} {w : World} {B : Nat} (z : Array Value) (n : Nat) (hB : B ≤ w.heap.size) (hz : 0 < z.size) (hx : n ≤ maxLen) : OwnA t z.size (w.alloc (.cells (madeCells z (n * z.size)) t)) B (some ⟨w.heap.size, 0, none⟩) n n (List.replicate n z.toList) := by
  have he : ∀ r ∈ List.replicate n z.toList, r.length = z.size := fun r hr => by rw [List.eq_of_mem_replicate hr]; simp
  refine ⟨he, by simp, Nat.le_refl _, hx, (fun e => by cases e), fun ad e => ?_⟩
  cases e
  refine ⟨w.heap.size, 0, _, rfl, hB, heap_alloc_new _ _, by rw [size_madeCells]; omega, fun i u hi => ?_⟩
  have hi' : i < n * z.size := by
    have := (List.getElem?_eq_some_iff.1 hi).1
    rwa [flat_len he, List.length_replicate] at this
  have hd : i / z.size < n := (Nat.div_lt_iff_lt_mul hz).2 hi'
  have hc : i % z.size < z.size := Nat.mod_lt _ hz
  have hq : i / z.size * z.size + i % z.size = i := by rw [Nat.mul_comm]; exact Nat.div_add_mod i _
  rw [← hq, flat_get he (i / z.size) (i % z.size) (by simpa using hd) hc, List.getElem_replicate] at hi
  rw [Nat.zero_add]
  have : z[i % z.size]? = some u := by simpa using hi
  simp only [madeCells, Array.getElem?_map]
  rw [Array.getElem?_range, if_pos hi']
  simp only [Option.map_some, Option.some.injEq]
  rw [Array.getElem?_eq_getElem hc] at this
  rw [getElem!_pos z (i % z.size) hc]
  exact Option.some.inj this

/-- 'make([]T, n)' of whatever elements. -/
theorem wp_make {w : World} {o : Oper} {a : Act} {K : Act → World → Prop} {Q : Exit → Act → World → Prop}
    (l : Operand) (t e : TypeId) (hop : o.op = Op.makeSlice t l l) (m by_ : Nat) (z : Value) (h1 : Tryd.prog.underlying t = some (.slice e)) (hte : (Tryd.prog.info? e).map (fun i => (i.zero, i.size, i.bytes)) = some (some z, m, by_)) (hzm : z.cells.size = m) (hm : 0 < m) (hby : by_ ≤ 1000)
    (L : Int) (n B : Nat) (hl : a.eval l = .int .i64 L) (hL : L = (n : Int)) (hn : n ≤ 1000000) (hB : B ≤ w.heap.size)
    (hK : ∀ w', Hid (OwnA e m w' B (some ⟨w.heap.size, 0, none⟩) n n (List.replicate n z.cells.toList)) → Hid (Below w.heap.size w w') → Hid (w'.heap.size = w.heap.size + 1) → K (a.put o.dst (.slice (some ⟨w.heap.size, 0, none⟩) n n)) w') :
    o.wp Tryd.prog a w K Q := by
  obtain ⟨i, hi, hz0, hz1, hz2⟩ := info_parts hte
  subst hz1
  subst hz2
  subst hL
  have hrun := run_make (P := Tryd.prog) w t e i z h1 hi hz0 .i64 .i64 (n : Int) (n : Int) (by omega) (by omega) (by
    have : i.bytes * n ≤ 1000 * 1000000 := Nat.mul_le_mul hby hn
    have h2 : ((i.bytes * n : Nat) : Int) ≤ 1000000000 := by omega
    rw [Int.natCast_mul] at h2
    omega) (by omega)
  simp only [Int.toNat_natCast] at hrun
  have hO := OwnA.zeros (t := e) (w := w) (B := B) z.cells n hB (by omega) (by unfold maxLen; omega)
  rw [hzm] at hO
  unfold Oper.wp
  simp [execOp, hop, hl, hrun, Result.andThen]
  exact hK _ (Hid.in hO) (Hid.in (below_alloc _ _)) (Hid.in (by simp))
theorem step_make {w : World} {ops : Array Oper} {o : Oper} {a : Act} {K : Act → World → Prop} {Q : Exit → Act → World → Prop} {E : Prop} (hgd : o.guard = none)
    (l : Operand) (t e : TypeId) (hop : o.op = Op.makeSlice t l l) (m by_ : Nat) (z : Value) (h1 : Tryd.prog.underlying t = some (.slice e)) (hte : (Tryd.prog.info? e).map (fun i => (i.zero, i.size, i.bytes)) = some (some z, m, by_)) (hzm : z.cells.size = m) (hm : 0 < m) (hby : by_ ≤ 1000)
    (L : Int) (n B : Nat) (hl : a.eval l = .int .i64 L) (hL : L = (n : Int)) (hn : n ≤ 1000000) (hB : B ≤ w.heap.size)
    (hK : ∀ w', Hid (OwnA e m w' B (some ⟨w.heap.size, 0, none⟩) n n (List.replicate n z.cells.toList)) → Hid (Below w.heap.size w w') → Hid (w'.heap.size = w.heap.size + 1) → K (a.put o.dst (.slice (some ⟨w.heap.size, 0, none⟩) n n)) w') :
    if Region.wanted o (yielded ops a.tmps) = true then Oper.wp Tryd.prog o a w K Q else E := by
  have hw : Region.wanted o (yielded ops a.tmps) = true := by simp [Region.wanted, hgd]
  rw [if_pos hw]
  exact wp_make l t e hop m by_ z h1 hte hzm hm hby L n B hl hL hn hB hK
end Go.Proofs.YtakomlmbdienpaaDoor
