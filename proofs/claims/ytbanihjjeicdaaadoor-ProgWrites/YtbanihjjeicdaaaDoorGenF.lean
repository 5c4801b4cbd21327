/- DERIVED of the program: rows of structs of the call's own, made ('make'), copied into ('copy'), a row of them written anew. Own work. -/
import Derived.Test.YtbanihjjeicdaaaDoorGenE
import Derived.Laws.CopyOwn
import Derived.Laws.MakeOwn
namespace Go.Proofs.YtbanihjjeicdaaaDoor
open Go.RowKit Go.Extern.Stop Go.Stop Go.Extern

theorem run_copy_rows {P : Program} (w : World) (dT sT ty elem : TypeId) (i : TypeInfo) (hu : P.underlying dT = some (.slice elem)) (hi : P.info? elem = some i) (b o dLen dCap : Nat) (a : Addr) (sLen sCap n : Nat) (hn : Nat.min sLen dLen = n) (cs : List Value) (hl : cs.length = n * i.size)
    (hsrc : ∀ j v, cs[j]? = some v → w.cell? (a.add j) = some v) (hc : ∀ j, j < cs.length → (w.cell? ⟨b, o + j, none⟩).isSome = true) (hf : ∀ j, j < cs.length → w.frozen? ⟨b, o + j, none⟩ = false) (h1 : ∀ v ∈ cs, v.oneCell' = true) :
    (Builtin.copy_ #[dT, sT] ty #[.slice (some ⟨b, o, none⟩) dLen dCap, .slice (some a) sLen sCap]).run P w = .ok (goInt n) (w.setCells b o cs) := by
  have hld := run_loadCells_list (P := P) w a cs hsrc
  have hst := run_storeCells_cells (P := P) b o cs 0 w (by simpa using hc) (by simpa using hf) h1
  simp [Builtin.copy_, run_underlying hu, Builtin.lenOf, Builtin.firstCells, sizeOf, typeInfo, hi, hn, ← hl, hld, hst]
theorem run_copy_norows {P : Program} (w : World) (dT sT ty elem : TypeId) (i : TypeInfo) (hu : P.underlying dT = some (.slice elem)) (hi : P.info? elem = some i) (d a : Option Addr) (dLen dCap sLen sCap : Nat) (hn : Nat.min sLen dLen = 0) :
    (Builtin.copy_ #[dT, sT] ty #[.slice d dLen dCap, .slice a sLen sCap]).run P w = .ok (goInt 0) w := by
  have hl : ∀ (x : Addr), (loadCells x 0).run P w = .ok #[] w := fun x => by simpa using run_loadCells_list (P := P) w x [] (by simp)
  cases d <;> cases a <;> simp [Builtin.copy_, run_underlying hu, Builtin.lenOf, Builtin.firstCells, sizeOf, typeInfo, hi, hn, storeCells, hl]

/-- One row of it written anew. -/
theorem OwnA.put {t : TypeId} {m : Nat} {w : World} {B n cap g o : Nat} {rs : List (List Value)} (h : OwnA t m w B (some ⟨g, o, none⟩) n cap rs) (hm : 0 < m) (j : Nat) (hj : j < n) (r : List Value) (hr : r.length = m) : OwnA t m (w.setCells g (o + j * m) r) B (some ⟨g, o, none⟩) n cap (rs.set j r) := by
  have hl := h.len
  have he : ∀ x ∈ rs.set j r, x.length = m := fun x hx => by
    rcases List.mem_or_eq_of_mem_set hx with hx | hx
    · exact h.each x hx
    · rw [hx]; exact hr
  refine ⟨he, by rw [List.length_set, hl], h.le, h.max, (fun e => by cases e), fun ad e => ?_⟩
  obtain ⟨g', o', cur, e', hg, hh, hsz, hrd⟩ := h.at_ _ rfl
  cases e'
  cases e
  obtain ⟨cs', h1, h2, h3, h4⟩ := blk_setCells r (o + j * m) w cur hh
  refine ⟨g, o, cs', rfl, hg, h1, by rw [h2]; exact hsz, fun i u hi => ?_⟩
  have hi' : i < n * m := by
    have := (List.getElem?_eq_some_iff.1 hi).1
    rwa [flat_len he, List.length_set, hl] at this
  have hd : i / m < n := (Nat.div_lt_iff_lt_mul hm).2 hi'
  have hc : i % m < m := Nat.mod_lt _ hm
  have hq : i / m * m + i % m = i := by rw [Nat.mul_comm]; exact Nat.div_add_mod i _
  have hd2 : i / m < (rs.set j r).length := by rw [List.length_set, hl]; exact hd
  have hu : ((rs.set j r)[i / m])[i % m]? = some u := by
    rw [← flat_get he (i / m) (i % m) hd2 hc, hq]; exact hi
  have hjm : (j + 1) * m ≤ n * m := Nat.mul_le_mul_right _ hj
  have hnm : n * m ≤ cap * m := Nat.mul_le_mul_right _ h.le
  rw [Nat.add_mul, Nat.one_mul] at hjm
  by_cases hij : i / m = j
  · rw [List.getElem_set] at hu
    rw [if_pos hij.symm] at hu
    have := h4 (i % m) u hu (by omega)
    rwa [show o + j * m + i % m = o + i by rw [← hij]; omega] at this
  · rw [List.getElem_set, if_neg (fun e => hij e.symm)] at hu
    have hx : o + i < o + j * m ∨ o + j * m + m ≤ o + i := by
      rcases Nat.lt_or_gt_of_ne hij with hlt | hgt
      · left
        have : (i / m + 1) * m ≤ j * m := Nat.mul_le_mul_right _ hlt
        rw [Nat.add_mul, Nat.one_mul] at this
        omega
      · right
        have : (j + 1) * m ≤ i / m * m := Nat.mul_le_mul_right _ hgt
        rw [Nat.add_mul, Nat.one_mul] at this
        omega
    rw [h3 (o + i) (by rw [hr]; omega)]
    refine hrd i u ?_
    rw [← hq, flat_get h.each (i / m) (i % m) (by omega) hc]
    exact hu

/-- Its first rows written over. -/
theorem OwnA.over {t : TypeId} {m : Nat} {w : World} {B n cap g o : Nat} {rs new : List (List Value)} (h : OwnA t m w B (some ⟨g, o, none⟩) n cap rs) (he : ∀ r ∈ new, r.length = m) (hk : new.length ≤ n) : OwnA t m (w.setCells g o new.flatten) B (some ⟨g, o, none⟩) n cap (new ++ rs.drop new.length) := by
  have hl := h.len
  refine ⟨fun r hr => ?_, by rw [List.length_append, List.length_drop]; omega, h.le, h.max, (fun e => by cases e), fun ad e => ?_⟩
  · rcases List.mem_append.1 hr with hr | hr
    · exact he r hr
    · exact h.each r (List.mem_of_mem_drop hr)
  obtain ⟨g', o', cur, e', hg, hh, hsz, hrd⟩ := h.at_ _ rfl
  cases e'
  cases e
  obtain ⟨cs', h1, h2, h3, h4⟩ := blk_setCells new.flatten o w cur hh
  have hfn := flat_len he
  have hnm : new.length * m ≤ n * m := Nat.mul_le_mul_right _ hk
  have hcm : n * m ≤ cap * m := Nat.mul_le_mul_right _ h.le
  refine ⟨g, o, cs', rfl, hg, h1, by rw [h2]; exact hsz, fun i u hi => ?_⟩
  rw [List.flatten_append] at hi
  rcases Nat.lt_or_ge i new.flatten.length with hi' | hi'
  · rw [List.getElem?_append_left hi'] at hi
    exact h4 i u hi (by omega)
  · rw [List.getElem?_append_right hi'] at hi
    rw [h3 (o + i) (by omega)]
    refine hrd i u ?_
    have ht : (rs.take new.length).flatten.length = new.length * m := by rw [flat_len (m := m) (fun r hr => h.each r (List.mem_of_mem_take hr)), List.length_take]; congr 1; omega
    rw [← List.take_append_drop new.length rs, List.flatten_append, List.getElem?_append_right (by omega), ht, ← hfn]
    exact hi

/-- Made: zeros. -/
theorem OwnA.zeros {t : TypeId} {w : World} {B : Nat} (z : Array Value) (n : Nat) (hB : B ≤ w.heap.size) (hz : 0 < z.size) (hx : n ≤ maxLen) : OwnA t z.size (w.alloc (.cells (madeCells z (n * z.size)) t)) B (some ⟨w.heap.size, 0, none⟩) n n (List.replicate n z.toList) := by
  have he : ∀ r ∈ List.replicate n z.toList, r.length = z.size := fun r hr => by rw [List.eq_of_mem_replicate hr]; simp
  refine ⟨he, by simp, Nat.le_refl _, hx, (fun e => by cases e), fun ad e => ?_⟩
  cases e
  refine ⟨w.heap.size, 0, _, rfl, hB, heap_alloc_new _ _, by rw [size_madeCells]; omega, fun i u hi => ?_⟩
  have hi' : i < n * z.size := by
    have := (List.getElem?_eq_some_iff.1 hi).1
    rwa [flat_len he, List.length_replicate] at this
  have hd : i / z.size < n := (Nat.div_lt_iff_lt_mul hz).2 hi'
  have hc : i % z.size < z.size := Nat.mod_lt _ hz
  have hq : i / z.size * z.size + i % z.size = i := by rw [Nat.mul_comm]; exact Nat.div_add_mod i _
  rw [← hq, flat_get he (i / z.size) (i % z.size) (by simpa using hd) hc, List.getElem_replicate] at hi
  rw [Nat.zero_add]
  have : z[i % z.size]? = some u := by simpa using hi
  simp only [madeCells, Array.getElem?_map]
  rw [Array.getElem?_range, if_pos hi']
  simp only [Option.map_some, Option.some.injEq]
  rw [Array.getElem?_eq_getElem hc] at this
  rw [getElem!_pos z (i % z.size) hc]
  exact Option.some.inj this

/-- 'make([]T, n)' of structs. -/
theorem wpList_make_rows {w : World} {ops : Array Oper} {rest : List Oper} {o : Oper} {a : Act} {Q : Exit → Act → World → Prop}
    (hg : o.guard = none) (l : Operand) (t e : TypeId) (hop : o.op = Op.makeSlice t l l) (m by_ : Nat) (z : Array Value) (h1 : Tryd.prog.underlying t = some (.slice e)) (hte : (Tryd.prog.info? e).map (fun i => (i.zero, i.size, i.bytes)) = some (some (.agg z), m, by_)) (hzm : z.size = m) (hm : 0 < m) (hby : by_ ≤ 1000)
    (L : Int) (n B : Nat) (hl : a.eval l = .int .i64 L) (hL : L = (n : Int)) (hn : n ≤ 1000000) (hB : B ≤ w.heap.size)
    (hK : ∀ w', Hid (OwnA e m w' B (some ⟨w.heap.size, 0, none⟩) n n (List.replicate n z.toList)) → Hid (Below w.heap.size w w') → wpList Tryd.prog ops Q rest (a.put o.dst (.slice (some ⟨w.heap.size, 0, none⟩) n n)) w') :
    wpList Tryd.prog ops Q (o :: rest) a w := by
  refine wpList_plain hg fun K hK' => ?_
  obtain ⟨i, hi, hz0, hz1, hz2⟩ := info_parts hte
  subst hz1
  subst hz2
  subst hL
  have hrun := run_make (P := Tryd.prog) w t e i (.agg z) h1 hi hz0 .i64 .i64 (n : Int) (n : Int) (by omega) (by omega) (by
    have : i.bytes * n ≤ 1000 * 1000000 := Nat.mul_le_mul hby hn
    have h2 : ((i.bytes * n : Nat) : Int) ≤ 1000000000 := by omega
    rw [Int.natCast_mul] at h2
    omega) (by omega)
  simp only [Int.toNat_natCast] at hrun
  have hO := OwnA.zeros (t := e) (w := w) (B := B) z n hB (by omega) (by unfold maxLen; omega)
  rw [hzm] at hO
  unfold Oper.wp
  simp [execOp, hop, hl, hrun, Result.andThen]
  exact hK' _ _ (hK _ (Hid.in hO) (Hid.in (below_alloc _ _)))

/-- 'copy(dst, src)' of structs, into the call's own. -/
theorem wpList_copy_rows {w : World} {ops : Array Oper} {rest : List Oper} {o : Oper} {a : Act} {Q : Exit → Act → World → Prop} (hgd : o.guard = none) (d s : Operand) (ts te : TypeId)
    (ho : o.op = .call { callee := .builtin .copy, args := #[d, s], argTypes := #[ts, ts] }) (m by_ : Nat) (z : Value) (hts : Tryd.prog.underlying ts = some (.slice te)) (hte : (Tryd.prog.info? te).map (fun i => (i.zero, i.size, i.bytes)) = some (some z, m, by_)) (hm : 0 < m)
    (B g off n cap : Nat) (sp : Option Addr) (k cap2 : Nat) (rs new : List (List Value)) (hd : a.eval d = .slice (some ⟨g, off, none⟩) n cap) (hs : a.eval s = .slice sp k cap2) (hown : OwnA te m w B (some ⟨g, off, none⟩) n cap rs) (hk : k = new.length) (hL : Rows' m w sp cap2 new) (hkn : k ≤ n)
    (h : ∀ w', Hid (OwnA te m w' B (some ⟨g, off, none⟩) n cap (new ++ rs.drop k)) → Hid (w.grownBy w' (some g)) → wpList Tryd.prog ops Q rest (a.put o.dst (goInt k)) w') : wpList Tryd.prog ops Q (o :: rest) a w := by
  refine wpList_plain hgd fun K hK => ?_
  obtain ⟨i, hi, hz0, hz1, hz2⟩ := info_parts hte
  subst hz1
  have hmin : Nat.min k n = k := Nat.min_eq_left hkn
  have hev : ∀ r ∈ new, r.length = i.size := fun r hr => (hL.each r hr).1
  have hln := flat_len hev
  by_cases h0 : k = 0
  · subst h0
    have hnw : new = [] := List.length_eq_zero_iff.1 hk.symm
    subst hnw
    have hrun := run_copy_norows (P := Tryd.prog) w ts ts o.type te i hts hi (some ⟨g, off, none⟩) sp n cap 0 cap2 (by simp)
    unfold Oper.wp
    simp [execOp, ho, resolve, invoke, builtin, hd, hs, hrun, Result.andThen]
    exact hK _ _ (h w (Hid.in (by simpa using hown)) (Hid.in (grown_of_below (Below.refl _ _) _)))
  · have hc0 : 0 < new.length := by omega
    obtain ⟨g', o', cur, e', hg, hh, hsz, hrd⟩ := hown.at_ _ rfl
    cases e'
    obtain ⟨b', ob', e1, _⟩ := hL.cell 0 hc0 0 (new[0][0]'(by rw [hev _ (List.getElem_mem hc0)]; exact hm)) (List.getElem?_eq_getElem _)
    subst e1
    have hsrc : ∀ j u, new.flatten[j]? = some u → w.cell? ((⟨b', ob', none⟩ : Addr).add j) = some u := by
      intro j u hj
      have hj' : j < new.length * i.size := by have := (List.getElem?_eq_some_iff.1 hj).1; rwa [hln] at this
      have hdv : j / i.size < new.length := (Nat.div_lt_iff_lt_mul hm).2 hj'
      have hr : j % i.size < i.size := Nat.mod_lt _ hm
      have he : j / i.size * i.size + j % i.size = j := by rw [Nat.mul_comm]; exact Nat.div_add_mod j _
      have hu : new[j / i.size][j % i.size]? = some u := by rw [← flat_get hev (j / i.size) (j % i.size) hdv hr, he]; exact hj
      obtain ⟨b2, o2, e, hc⟩ := hL.cell (j / i.size) hdv (j % i.size) u hu
      cases e
      rw [Addr.add_lit]
      rw [show ob' + j / i.size * i.size + j % i.size = ob' + j by omega] at hc
      exact hc
    have hkm : k * i.size ≤ n * i.size := Nat.mul_le_mul_right _ hkn
    have hnm : n * i.size ≤ cap * i.size := Nat.mul_le_mul_right _ hown.le
    have hrun := run_copy_rows (P := Tryd.prog) w ts ts o.type te i hts hi g off n cap ⟨b', ob', none⟩ k cap2 k hmin new.flatten (by rw [hln, hk]) hsrc
      (fun j hj => by
        have hlt : off + j < cur.size := by rw [hln, ← hk] at hj; omega
        rw [blk_cell hh (Array.getElem?_eq_getElem hlt)]; rfl)
      (fun j hj => blk_free hh)
      (fun u hu => by
        obtain ⟨r, hr, hur⟩ := List.mem_flatten.1 hu
        exact (hL.each r hr).2 u hur)
    unfold Oper.wp
    simp [execOp, ho, resolve, invoke, builtin, hd, hs, hrun, Result.andThen]
    refine hK _ _ (h _ (Hid.in ?_) (Hid.in (grown_setCells w g _ _)))
    have := hown.over hev (by omega)
    rwa [← hk] at this

end Go.Proofs.YtbanihjjeicdaaaDoor
