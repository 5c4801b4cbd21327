/- DERIVED of the program: rows of structs of the call's own, at whatever place of their block ('s[1:]', append in place): OwnA; what is written outside a list of blocks: Fr. For every seat. Own work. -/
import Derived.Test.YtakomlmbdienpaaDoorGenB
import Derived.ArgAppend
import Derived.Laws.IdiomCopy
namespace Go.Proofs.YtakomlmbdienpaaDoor
open Go.RowKit Go.Extern.Stop Go.Stop Go.Extern

/-- Cells written one behind the other into a block. -/
theorem blk_setCells {q : Nat} {t : TypeId} : ∀ (vs : List Value) (o : Nat) (w : World) (cs : Array Value), w.heap[q]? = some (.cells cs t (0, 0)) →
    ∃ cs', (w.setCells q o vs).heap[q]? = some (.cells cs' t (0, 0)) ∧ cs'.size = cs.size ∧ (∀ k, k < o ∨ o + vs.length ≤ k → cs'[k]? = cs[k]?) ∧ ∀ j u, vs[j]? = some u → o + j < cs.size → cs'[o + j]? = some u
  | [], o, w, cs, h => ⟨cs, h, rfl, fun _ _ => rfl, fun j u hj => by simp at hj⟩
  | v :: r, o, w, cs, h => by
    obtain ⟨cs', h1, h2, h3, h4⟩ := blk_setCells (t := t) r (o + 1) (w.setCell ⟨q, o, none⟩ v) (cs.setIfInBounds o v) (blk_set v h)
    refine ⟨cs', h1, by rw [h2]; simp, fun k hk => ?_, fun j u hj hlt => ?_⟩
    · simp only [List.length_cons] at hk
      rw [h3 k (by omega), Array.getElem?_setIfInBounds_ne (by omega)]
    · cases j with
      | zero =>
        obtain rfl : v = u := by simpa using hj
        rw [Nat.add_zero] at hlt ⊢
        rw [h3 o (.inl (Nat.lt_succ_self o))]
        simp [hlt]
      | succ j =>
        have := h4 j u (by simpa using hj) (by simp only [Array.size_setIfInBounds]; omega)
        rwa [show o + 1 + j = o + (j + 1) by omega] at this
theorem size_setCells (q : Nat) : ∀ (vs : List Value) (o : Nat) (w : World), (w.setCells q o vs).heap.size = w.heap.size
  | [], _, _ => rfl
  | v :: r, o, w => by rw [World.setCells, size_setCells q r]; simp [World.setCell]
theorem tape_setCells (q : Nat) : ∀ (vs : List Value) (o : Nat) (w : World), (w.setCells q o vs).tape = w.tape
  | [], _, _ => rfl
  | v :: r, o, w => by rw [World.setCells, tape_setCells q r]; rfl
theorem os_setCells' (q : Nat) : ∀ (vs : List Value) (o : Nat) (w : World), (w.setCells q o vs).os = w.os
  | [], _, _ => rfl
  | v :: r, o, w => by rw [World.setCells, os_setCells' q r]; rfl
theorem output_setCells' (q : Nat) : ∀ (vs : List Value) (o : Nat) (w : World), (w.setCells q o vs).output = w.output
  | [], _, _ => rfl
  | v :: r, o, w => by rw [World.setCells, output_setCells' q r]; rfl
theorem other_setCells (q k : Nat) (hne : k ≠ q) : ∀ (vs : List Value) (o : Nat) (w : World), (w.setCells q o vs).heap[k]? = w.heap[k]?
  | [], _, _ => rfl
  | v :: r, o, w => by rw [World.setCells, other_setCells q k hne r]; simp [World.setCell, Array.getElem?_modify, Ne.symm hne]
theorem grown_setCells (w : World) (q o : Nat) (vs : List Value) : w.grownBy (w.setCells q o vs) (some q) :=
  ⟨os_setCells' q vs o w, tape_setCells q vs o w, output_setCells' q vs o w, Nat.le_of_eq (size_setCells q vs o w).symm, fun k _ hne => other_setCells q k (fun e => hne (by rw [e])) vs o w⟩

/-- The call's own row of structs of m cells, at whatever place of its block. -/
structure OwnA (t : TypeId) (m : Nat) (w : World) (B : Nat) (ao : Option Addr) (n cap : Nat) (rs : List (List Value)) : Prop where
  each : ∀ r ∈ rs, r.length = m
  len : rs.length = n
  le : n ≤ cap
  max : cap ≤ maxLen
  nil0 : ao = none → cap = 0
  at_ : ∀ ad, ao = some ad → ∃ g o cur, ad = ⟨g, o, none⟩ ∧ B ≤ g ∧ w.heap[g]? = some (.cells cur t (0, 0)) ∧ o + cap * m ≤ cur.size ∧ ∀ j u, rs.flatten[j]? = some u → cur[o + j]? = some u

theorem OwnA.nil (t : TypeId) (m : Nat) (w : World) (B : Nat) : OwnA t m w B none 0 0 [] := ⟨fun _ h => absurd h List.not_mem_nil, rfl, Nat.le_refl _, Nat.zero_le _, fun _ => rfl, fun _ h => by cases h⟩
theorem OwnA.blk {t : TypeId} {m : Nat} {w : World} {B n cap : Nat} {ao : Option Addr} {rs : List (List Value)} (h : OwnA t m w B ao n cap rs) : ∀ k, oblk ao = some k → B ≤ k ∧ ∃ cur, w.heap[k]? = some (.cells cur t (0, 0)) := by
  intro k hk
  cases ao with
  | none => cases hk
  | some ad =>
    obtain ⟨g, o, cur, rfl, hg, hh, _⟩ := h.at_ ad rfl
    cases hk
    exact ⟨hg, cur, hh⟩
theorem OwnA.keep {t : TypeId} {m : Nat} {w w' : World} {B n cap : Nat} {ao : Option Addr} {rs : List (List Value)} (h : OwnA t m w B ao n cap rs) (hb : ∀ k, oblk ao = some k → w'.heap[k]? = w.heap[k]?) : OwnA t m w' B ao n cap rs := by
  refine ⟨h.each, h.len, h.le, h.max, h.nil0, fun ad e => ?_⟩
  obtain ⟨g, o, cur, rfl, hg, hh, r⟩ := h.at_ ad e
  exact ⟨g, o, cur, rfl, hg, (hb g (by rw [e]; rfl)).trans hh, r⟩
theorem OwnA.kept {t : TypeId} {m : Nat} {w w' : World} {B n cap : Nat} {ao : Option Addr} {rs : List (List Value)} {row : Option Nat} (h : OwnA t m w B ao n cap rs) (hg : w.grownBy w' row) (hne : ∀ k, oblk ao = some k → some k ≠ row) : OwnA t m w' B ao n cap rs :=
  h.keep fun k hk => by obtain ⟨_, cur, hc⟩ := h.blk k hk; exact hg.block k (blk_lt hc) (hne k hk)
theorem OwnA.step {t : TypeId} {m : Nat} {w w' : World} {B n cap : Nat} {ao : Option Addr} {rs : List (List Value)} (h : OwnA t m w B ao n cap rs) (hb : Below w.heap.size w w') : OwnA t m w' B ao n cap rs :=
  h.keep fun k hk => by obtain ⟨_, cur, hc⟩ := h.blk k hk; exact hb.block k (blk_lt hc)
theorem OwnA.low {t : TypeId} {m : Nat} {w : World} {B B' n cap : Nat} {ao : Option Addr} {rs : List (List Value)} (h : OwnA t m w B ao n cap rs) (hB : B' ≤ B) : OwnA t m w B' ao n cap rs := by
  refine ⟨h.each, h.len, h.le, h.max, h.nil0, fun ad e => ?_⟩
  obtain ⟨g, o, cur, rfl, hg, r⟩ := h.at_ ad e
  exact ⟨g, o, cur, rfl, Nat.le_trans hB hg, r⟩
theorem OwnA.cell {t : TypeId} {m : Nat} {w : World} {B n cap : Nat} {ao : Option Addr} {rs : List (List Value)} (h : OwnA t m w B ao n cap rs) (j : Nat) (hj : j < rs.length) (c : Nat) (v : Value) (hv : rs[j][c]? = some v) : ∃ b o, ao = some ⟨b, o, none⟩ ∧ w.cell? ⟨b, o + j * m + c, none⟩ = some v := by
  have hc : c < m := by have := (List.getElem?_eq_some_iff.1 hv).1; rwa [h.each _ (List.getElem_mem hj)] at this
  cases ao with
  | none => exact absurd (h.nil0 rfl) (by have := h.len; have := h.le; omega)
  | some ad =>
    obtain ⟨g, o, cur, rfl, hg, hh, hsz, hr⟩ := h.at_ ad rfl
    exact ⟨g, o, rfl, blk_cell hh (by rw [Nat.add_assoc]; exact hr _ _ (by rw [flat_get h.each j c hj hc]; exact hv))⟩
theorem OwnA.rows {t : TypeId} {m : Nat} {w : World} {B n cap : Nat} {ao : Option Addr} {rs : List (List Value)} (h : OwnA t m w B ao n cap rs) (h1 : ∀ r ∈ rs, ∀ v ∈ r, v.oneCell' = true) : Rows' m w ao cap rs :=
  ⟨by rw [h.len]; exact h.le, fun k hk c v hv => h.cell k hk c v hv, fun r hr => ⟨h.each r hr, h1 r hr⟩, h.nil0⟩
/-- 's[:i]'. -/
theorem OwnA.take {t : TypeId} {m : Nat} {w : World} {B n cap : Nat} {ao : Option Addr} {rs : List (List Value)} (h : OwnA t m w B ao n cap rs) (i : Nat) (hi : i ≤ n) : OwnA t m w B ao i cap (rs.take i) := by
  have hl := h.len
  refine ⟨fun r hr => h.each r (List.mem_of_mem_take hr), by rw [List.length_take]; omega, Nat.le_trans hi h.le, h.max, h.nil0, fun ad e => ?_⟩
  obtain ⟨g, o, cur, rfl, hg, hh, hsz, hr⟩ := h.at_ ad e
  refine ⟨g, o, cur, rfl, hg, hh, hsz, fun j u hj => hr j u ?_⟩
  rw [← List.take_append_drop i rs, List.flatten_append, List.getElem?_append_left (List.getElem?_eq_some_iff.1 hj).1]
  exact hj
/-- 's[i:]'. -/
theorem OwnA.drop {t : TypeId} {m : Nat} {w : World} {B n cap g o : Nat} {rs : List (List Value)} (h : OwnA t m w B (some ⟨g, o, none⟩) n cap rs) (i : Nat) (hi : i ≤ n) : OwnA t m w B (some ⟨g, o + i * m, none⟩) (n - i) (cap - i) (rs.drop i) := by
  have hl := h.len
  have hle := h.le
  have hmx := h.max
  refine ⟨fun r hr => h.each r (List.mem_of_mem_drop hr), by rw [List.length_drop, hl], by omega, by omega, (fun e => by cases e), fun ad e => ?_⟩
  obtain ⟨g', o', cur, e', hg, hh, hsz, hr⟩ := h.at_ _ rfl
  cases e'
  cases e
  refine ⟨g, o + i * m, cur, rfl, hg, hh, ?_, fun j u hj => ?_⟩
  · have : (cap - i) * m + i * m = cap * m := by rw [← Nat.add_mul]; congr 1; omega
    omega
  · rw [Nat.add_assoc]
    refine hr _ u ?_
    have ht : (rs.take i).flatten.length = i * m := by rw [flat_len (m := m) (fun r hr => h.each r (List.mem_of_mem_take hr)), List.length_take]; congr 1; omega
    rw [← List.take_append_drop i rs, List.flatten_append, List.getElem?_append_right (by omega), ht, Nat.add_sub_cancel_left]
    exact hj
/-- 's[n:]' where nothing is left of the room: the address stays. -/
theorem OwnA.gone {t : TypeId} {m : Nat} {w : World} {B n cap g o : Nat} {rs : List (List Value)} (h : OwnA t m w B (some ⟨g, o, none⟩) n cap rs) : OwnA t m w B (some ⟨g, o, none⟩) 0 0 [] := by
  refine ⟨fun _ h => absurd h List.not_mem_nil, rfl, Nat.le_refl _, Nat.zero_le _, (fun e => by cases e), fun ad e => ?_⟩
  obtain ⟨g', o', cur, e', hg, hh, hsz, hr⟩ := h.at_ _ rfl
  cases e'
  cases e
  exact ⟨g, o, cur, rfl, hg, hh, by omega, fun j u hj => by simp at hj⟩
theorem OwnA.made {t : TypeId} {m : Nat} {w : World} {B : Nat} (rs : List (List Value)) (z : Value) (cap : Nat) (cur : Array Value) (hB : B ≤ w.heap.size) (he : ∀ r ∈ rs, r.length = m) (hc : rs.length ≤ cap) (hx : cap ≤ maxLen) (hz : z.cells.size = m) (hcur : cur = rs.flatten.toArray ++ Builtin.zeroCells z.cells (cap - rs.length)) : OwnA t m (w.drew.alloc (.cells cur t)) B (some ⟨w.heap.size, 0, none⟩) rs.length cap rs := by
  refine ⟨he, rfl, hc, hx, (fun e => by cases e), fun ad e => ?_⟩
  cases e
  refine ⟨w.heap.size, 0, cur, rfl, hB, heap_alloc_new w.drew _, ?_, fun j u hj => ?_⟩
  · subst hcur
    simp only [Array.size_append, List.size_toArray, size_zeroCells, hz, flat_len he, ← Nat.add_mul, Nat.zero_add]
    exact Nat.le_of_eq (by congr 1; omega)
  · subst hcur
    rw [Nat.zero_add, Array.getElem?_append_left (by simpa using (List.getElem?_eq_some_iff.1 hj).1)]
    simpa using hj
/-- Rows written behind it, into its room. -/
theorem OwnA.wrote {t : TypeId} {m : Nat} {w : World} {B n cap g o k : Nat} {rs new : List (List Value)} (h : OwnA t m w B (some ⟨g, o, none⟩) n cap rs) (he : ∀ r ∈ new, r.length = m) (hk : new.length = k) (hr : n + k ≤ cap) : OwnA t m (w.setCells g (o + n * m) new.flatten) B (some ⟨g, o, none⟩) (n + k) cap (rs ++ new) := by
  have hl := h.len
  refine ⟨fun r hr => ?_, by rw [List.length_append, hl, hk], hr, h.max, (fun e => by cases e), fun ad e => ?_⟩
  · rcases List.mem_append.1 hr with hr | hr
    · exact h.each r hr
    · exact he r hr
  obtain ⟨g', o', cur, e', hg, hh, hsz, hrd⟩ := h.at_ _ rfl
  cases e'
  cases e
  obtain ⟨cs', h1, h2, h3, h4⟩ := blk_setCells new.flatten (o + n * m) w cur hh
  have hfl := flat_len h.each
  have hfn := flat_len he
  rw [hl] at hfl
  rw [hk] at hfn
  have hmm : n * m + k * m ≤ cap * m := by rw [← Nat.add_mul]; exact Nat.mul_le_mul_right m hr
  refine ⟨g, o, cs', rfl, hg, h1, by rw [h2]; exact hsz, fun j u hj => ?_⟩
  rw [List.flatten_append] at hj
  rcases Nat.lt_or_ge j rs.flatten.length with hj' | hj'
  · rw [List.getElem?_append_left hj'] at hj
    rw [h3 _ (by omega)]
    exact hrd j u hj
  · rw [List.getElem?_append_right hj'] at hj
    have hlt := (List.getElem?_eq_some_iff.1 hj).1
    have := h4 (j - rs.flatten.length) u hj (by omega)
    rwa [show o + n * m + (j - rs.flatten.length) = o + j by omega] at this

theorem run_append_none {P : Program} (w : World) (t ty e : TypeId) (i : TypeInfo) (ht : P.underlying t = some (.slice e)) (hi : P.info? e = some i) (ao : Option Addr) (n cap : Nat) (hle : n ≤ cap) (hs : ∀ ad, ao = some ad → ad.spot = none) :
    (Builtin.append_ #[t, t] ty #[.slice ao n cap, .slice none 0 0]).run P w = .ok (.slice ao n cap) w := by
  cases ao with
  | none => simp [Builtin.append_, run_underlying ht, sizeOf, typeInfo, hi, Builtin.lenOf, Builtin.firstCells, hle]
  | some ad =>
    obtain ⟨g, o, sp⟩ := ad
    have := hs _ rfl
    simp only [] at this
    subst this
    simp [Builtin.append_, run_underlying ht, sizeOf, typeInfo, hi, Builtin.lenOf, Builtin.firstCells, hle, storeCells]

/-- 'append(out, src...)' of structs, out the call's own, at whatever place: one law for whatever source. -/
theorem wp_concatA5 {w : World} {o : Oper} {a : Act} {K : Act → World → Prop} {Q : Exit → Act → World → Prop} (ts te : TypeId) (m by_ : Nat) (z : Value) (s x : Operand)
    (ho : o.op = .call { callee := .builtin .append, args := #[s, x], argTypes := #[ts, ts] }) (hts : Tryd.prog.underlying ts = some (.slice te)) (hte : (Tryd.prog.info? te).map (fun i => (i.zero, i.size, i.bytes)) = some (some z, m, by_)) (hzs : z.cells.size = m) (hm0 : 0 < m) (hby : by_ ≤ 1000) (B : Nat)
    (ao ao2 : Option Addr) (n cap k cap2 : Nat) (rs new : List (List Value)) (hs : a.eval s = .slice ao n cap) (hown : OwnA te m w B ao n cap rs) (hx : a.eval x = .slice ao2 k cap2) (hk : k = new.length) (hL : Rows' m w ao2 cap2 new)
    (hB : B ≤ w.heap.size) (hlen : n + k ≤ 1000000)
    (h : ∀ ao' cap' w', Hid (OwnA te m w' B ao' (n + k) cap' (rs ++ new)) → Hid (w.grownBy w' (oblk ao)) → Hid (∀ b, oblk ao' = some b → oblk ao = some b ∨ w.heap.size ≤ b) → Hid (n + k ≤ cap → ao' = ao ∧ cap' = cap) → Hid (cap < n + k → Below w.heap.size w w') → K (a.put o.dst (.slice ao' (n + k) cap')) w') : o.wp Tryd.prog a w K Q := by
  obtain ⟨i0, hi, hz0, hz1, hz2⟩ := info_parts hte
  subst hz1
  subst hz2
  have hln := flat_len (fun r hr => (hL.each r hr).1)
  have hlo := flat_len hown.each
  have hll := hown.len
  have hev : ∀ r ∈ rs ++ new, r.length = i0.size := fun r hr => by
    rcases List.mem_append.1 hr with hr | hr
    · exact hown.each r hr
    · exact (hL.each r hr).1
  have hone : ∀ u ∈ new.flatten, u.oneCell' = true := fun u hu => by
    obtain ⟨r, hr, hur⟩ := List.mem_flatten.1 hu
    exact (hL.each r hr).2 u hur
  have src : ∀ ad, ao2 = some ad → ∀ j u, new.flatten[j]? = some u → w.cell? (ad.add j) = some u := by
    rintro ad rfl j u hj
    have hj' : j < new.length * i0.size := by have := (List.getElem?_eq_some_iff.1 hj).1; rwa [hln] at this
    have hd : j / i0.size < new.length := (Nat.div_lt_iff_lt_mul hm0).2 hj'
    have hr : j % i0.size < i0.size := Nat.mod_lt _ hm0
    have he : j / i0.size * i0.size + j % i0.size = j := by rw [Nat.mul_comm]; exact Nat.div_add_mod j _
    have hu : new[j / i0.size][j % i0.size]? = some u := by rw [← flat_get (fun r hr => (hL.each r hr).1) (j / i0.size) (j % i0.size) hd hr, he]; exact hj
    obtain ⟨b', o', e, hc⟩ := hL.cell (j / i0.size) hd (j % i0.size) u hu
    cases e
    rw [Addr.add_lit]
    rw [show o' + j / i0.size * i0.size + j % i0.size = o' + j by omega] at hc
    exact hc
  have go : ∀ v' w', (Builtin.append_ #[ts, ts] o.type #[.slice ao n cap, .slice ao2 k cap2]).run Tryd.prog w = .ok v' w' → K (a.put o.dst v') w' → o.wp Tryd.prog a w K Q := by
    intro v' w' hr hK
    unfold Oper.wp execOp
    simp only [ho, resolve, invoke, builtin, Sem.run_bind, Sem.run_pure, Result.andThen_ok, List.map_toArray, List.map_cons, List.map_nil, hs, hx, hr]
    exact hK
  have same : (Builtin.append_ #[ts, ts] o.type #[.slice ao n cap, .slice ao2 k cap2]).run Tryd.prog w = .ok (.slice ao n cap) w → k = 0 → o.wp Tryd.prog a w K Q := by
    intro hr hk0
    subst hk0
    have hnw : new = [] := List.length_eq_zero_iff.1 hk.symm
    subst hnw
    exact go _ _ hr (h ao cap w (Hid.in (by rw [List.append_nil]; exact hown)) (Hid.in (grown_of_below (Below.refl _ _) _)) (Hid.in fun b hb => .inl hb) (Hid.in fun _ => ⟨rfl, rfl⟩) (Hid.in fun _ => Below.refl _ _))
  have grow : ∀ (old : Nat) (cs : Array Value), cap < n + k → cs = (rs ++ new).flatten.toArray ++ Builtin.zeroCells z.cells (grownCap w (n + k) old te - (n + k)) → (Builtin.append_ #[ts, ts] o.type #[.slice ao n cap, .slice ao2 k cap2]).run Tryd.prog w = .ok (.slice (some ⟨w.heap.size, 0, none⟩) (n + k) (grownCap w (n + k) old te)) (w.drew.alloc (.cells cs te)) → o.wp Tryd.prog a w K Q := by
    intro old cs hgr hcs hr
    have hlr : (rs ++ new).length = n + k := by rw [List.length_append, hll, hk]
    have hM : n + k ≤ maxLen := by unfold maxLen; omega
    have hO : OwnA te i0.size (w.drew.alloc (.cells cs te)) B (some ⟨w.heap.size, 0, none⟩) (n + k) (grownCap w (n + k) old te) (rs ++ new) := by
      have := OwnA.made (t := te) (w := w) (rs ++ new) z (grownCap w (n + k) old te) cs hB hev (by rw [hlr]; exact grownCap_ge w _ _ _) (grownCap_le_maxLen w _ _ _ hM) hzs (by rw [hlr]; exact hcs)
      rwa [hlr] at this
    refine go _ _ hr (h _ _ _ (Hid.in hO) (Hid.in ⟨rfl, rfl, rfl, by simp, fun b hb _ => (below_alloc w.drew _).block b hb⟩) (Hid.in fun b hb => ?_) (Hid.in fun hh => absurd hh (by omega)) (Hid.in fun _ => ⟨rfl, rfl, rfl, by simp, fun b hb => (below_alloc w.drew _).block b hb⟩))
    cases hb
    exact .inr (Nat.le_refl _)
  cases ao2 with
  | none =>
    have hc0 := hL.nil0 rfl
    subst hc0
    have h0 : new = [] := List.length_eq_zero_iff.1 (by have := hL.le; omega)
    subst h0
    have hk0 : k = 0 := hk
    subst hk0
    exact same (run_append_none w ts o.type te i0 hts hi ao n cap hown.le (fun ad e => by obtain ⟨g, o', _, rfl, _⟩ := hown.at_ ad e; rfl)) rfl
  | some ad2 =>
    have hsrc := src ad2 rfl
    have hl2 : new.flatten.length = k * i0.size := by rw [hln, hk]
    cases ao with
    | none =>
      have hc0 := hown.nil0 rfl
      have hle := hown.le
      subst hc0
      obtain rfl : n = 0 := by omega
      have hr0 : rs = [] := List.length_eq_zero_iff.1 hll
      subst hr0
      by_cases hk0 : k = 0
      · refine same ?_ hk0
        subst hk0
        simp [Builtin.append_, run_underlying hts, sizeOf, typeInfo, hi, Builtin.lenOf, Builtin.firstCells, loadCells, loadCellsFrom]
      · have hr := run_append_nil (P := Tryd.prog) w ts o.type te i0 z hts hi hz0 ad2 k cap2 new.flatten hl2 hsrc (by omega) (by omega) (Nat.le_trans (Nat.mul_le_mul (show k ≤ 1000000 by omega) hby) (by decide))
        refine grow 0 _ (by omega) ?_ (by rw [Nat.zero_add]; exact hr)
        rw [Nat.zero_add, List.nil_append]
    | some ad =>
      obtain ⟨g, of, cur, rfl, hg, hh, hsz, hrd⟩ := hown.at_ ad rfl
      have hlo' : rs.flatten.length = n * i0.size := by rw [hlo, hll]
      by_cases hroom : n + k ≤ cap
      · have hmm : n * i0.size + k * i0.size ≤ cap * i0.size := by rw [← Nat.add_mul]; exact Nat.mul_le_mul_right _ hroom
        have hr := run_append_room_cells (P := Tryd.prog) w ts o.type te i0 hts hi g of n cap ad2 k cap2 new.flatten hl2 hsrc hone hroom
          (fun j hj => by
            have hlt : of + n * i0.size + j < cur.size := by omega
            rw [blk_cell hh (Array.getElem?_eq_getElem hlt)]; rfl)
          (fun j hj => blk_free hh)
        exact go _ _ hr (h _ _ _ (Hid.in (hown.wrote (fun r hr => (hL.each r hr).1) hk.symm hroom)) (Hid.in (grown_setCells w g _ _)) (Hid.in fun b hb => .inl hb) (Hid.in fun _ => ⟨rfl, rfl⟩) (Hid.in fun hh => absurd hh (by omega)))
      · have hr := run_append_grow (P := Tryd.prog) w ts o.type te i0 z hts hi hz0 ⟨g, of, none⟩ n cap rs.flatten hlo' (fun j v hj => by rw [Addr.add_lit]; exact blk_cell hh (hrd j v hj)) ad2 k cap2 new.flatten hl2 hsrc (by omega) (by omega) (growslice_fits (by omega) (Nat.le_trans (Nat.mul_le_mul hlen hby) (by decide)))
        exact grow cap _ (by omega) (by simp only [List.flatten_append, List.append_toArray]) hr

theorem wp_concatA {w : World} {o : Oper} {a : Act} {K : Act → World → Prop} {Q : Exit → Act → World → Prop} (ts te : TypeId) (m by_ : Nat) (z : Value) (s x : Operand)
    (ho : o.op = .call { callee := .builtin .append, args := #[s, x], argTypes := #[ts, ts] }) (hts : Tryd.prog.underlying ts = some (.slice te)) (hte : (Tryd.prog.info? te).map (fun i => (i.zero, i.size, i.bytes)) = some (some z, m, by_)) (hzs : z.cells.size = m) (hm0 : 0 < m) (hby : by_ ≤ 1000) (B : Nat)
    (ao ao2 : Option Addr) (n cap k cap2 : Nat) (rs new : List (List Value)) (hs : a.eval s = .slice ao n cap) (hown : OwnA te m w B ao n cap rs) (hx : a.eval x = .slice ao2 k cap2) (hk : k = new.length) (hL : Rows' m w ao2 cap2 new)
    (hB : B ≤ w.heap.size) (hlen : n + k ≤ 1000000)
    (h : ∀ ao' cap' w', Hid (OwnA te m w' B ao' (n + k) cap' (rs ++ new)) → Hid (w.grownBy w' (oblk ao)) → Hid (∀ b, oblk ao' = some b → oblk ao = some b ∨ w.heap.size ≤ b) → Hid (n + k ≤ cap → ao' = ao ∧ cap' = cap) → K (a.put o.dst (.slice ao' (n + k) cap')) w') : o.wp Tryd.prog a w K Q :=
  wp_concatA5 ts te m by_ z s x ho hts hte hzs hm0 hby B ao ao2 n cap k cap2 rs new hs hown hx hk hL hB hlen fun ao' cap' w' h1 h2 h3 h4 _ => h ao' cap' w' h1 h2 h3 h4

theorem wpList_concatA {w : World} {ops : Array Oper} {rest : List Oper} {o : Oper} {a : Act} {Q : Exit → Act → World → Prop} (hgd : o.guard = none) (ts te : TypeId) (m by_ : Nat) (z : Value) (s x : Operand)
    (ho : o.op = .call { callee := .builtin .append, args := #[s, x], argTypes := #[ts, ts] }) (hts : Tryd.prog.underlying ts = some (.slice te)) (hte : (Tryd.prog.info? te).map (fun i => (i.zero, i.size, i.bytes)) = some (some z, m, by_)) (hzs : z.cells.size = m) (hm0 : 0 < m) (hby : by_ ≤ 1000) (B : Nat)
    (ao ao2 : Option Addr) (n cap k cap2 : Nat) (rs new : List (List Value)) (hs : a.eval s = .slice ao n cap) (hown : OwnA te m w B ao n cap rs) (hx : a.eval x = .slice ao2 k cap2) (hk : k = new.length) (hL : Rows' m w ao2 cap2 new)
    (hB : B ≤ w.heap.size) (hlen : n + k ≤ 1000000)
    (h : ∀ ao' cap' w', Hid (OwnA te m w' B ao' (n + k) cap' (rs ++ new)) → Hid (w.grownBy w' (oblk ao)) → Hid (∀ b, oblk ao' = some b → oblk ao = some b ∨ w.heap.size ≤ b) → Hid (n + k ≤ cap → ao' = ao ∧ cap' = cap) → wpList Tryd.prog ops Q rest (a.put o.dst (.slice ao' (n + k) cap')) w') : wpList Tryd.prog ops Q (o :: rest) a w :=
  wpList_plain hgd fun _ hK => wp_concatA ts te m by_ z s x ho hts hte hzs hm0 hby B ao ao2 n cap k cap2 rs new hs hown hx hk hL hB hlen fun ao' cap' w' h1 h2 h3 h4 => hK _ _ (h ao' cap' w' h1 h2 h3 h4)

theorem wpList_concatA5 {w : World} {ops : Array Oper} {rest : List Oper} {o : Oper} {a : Act} {Q : Exit → Act → World → Prop} (hgd : o.guard = none) (ts te : TypeId) (m by_ : Nat) (z : Value) (s x : Operand)
    (ho : o.op = .call { callee := .builtin .append, args := #[s, x], argTypes := #[ts, ts] }) (hts : Tryd.prog.underlying ts = some (.slice te)) (hte : (Tryd.prog.info? te).map (fun i => (i.zero, i.size, i.bytes)) = some (some z, m, by_)) (hzs : z.cells.size = m) (hm0 : 0 < m) (hby : by_ ≤ 1000) (B : Nat)
    (ao ao2 : Option Addr) (n cap k cap2 : Nat) (rs new : List (List Value)) (hs : a.eval s = .slice ao n cap) (hown : OwnA te m w B ao n cap rs) (hx : a.eval x = .slice ao2 k cap2) (hk : k = new.length) (hL : Rows' m w ao2 cap2 new)
    (hB : B ≤ w.heap.size) (hlen : n + k ≤ 1000000)
    (h : ∀ ao' cap' w', Hid (OwnA te m w' B ao' (n + k) cap' (rs ++ new)) → Hid (w.grownBy w' (oblk ao)) → Hid (∀ b, oblk ao' = some b → oblk ao = some b ∨ w.heap.size ≤ b) → Hid (n + k ≤ cap → ao' = ao ∧ cap' = cap) → Hid (cap < n + k → Below w.heap.size w w') → wpList Tryd.prog ops Q rest (a.put o.dst (.slice ao' (n + k) cap')) w') : wpList Tryd.prog ops Q (o :: rest) a w :=
  wpList_plain hgd fun _ hK => wp_concatA5 ts te m by_ z s x ho hts hte hzs hm0 hby B ao ao2 n cap k cap2 rs new hs hown hx hk hL hB hlen fun ao' cap' w' h1 h2 h3 h4 h5 => hK _ _ (h ao' cap' w' h1 h2 h3 h4 h5)

theorem step_concatA {w : World} {ops : Array Oper} {o : Oper} {a : Act} {K : Act → World → Prop} {Q : Exit → Act → World → Prop} {E : Prop} (hgd : o.guard = none) (ts te : TypeId) (m by_ : Nat) (z : Value) (s x : Operand)
    (ho : o.op = .call { callee := .builtin .append, args := #[s, x], argTypes := #[ts, ts] }) (hts : Tryd.prog.underlying ts = some (.slice te)) (hte : (Tryd.prog.info? te).map (fun i => (i.zero, i.size, i.bytes)) = some (some z, m, by_)) (hzs : z.cells.size = m) (hm0 : 0 < m) (hby : by_ ≤ 1000) (B : Nat)
    (ao ao2 : Option Addr) (n cap k cap2 : Nat) (rs new : List (List Value)) (hs : a.eval s = .slice ao n cap) (hown : OwnA te m w B ao n cap rs) (hx : a.eval x = .slice ao2 k cap2) (hk : k = new.length) (hL : Rows' m w ao2 cap2 new)
    (hB : B ≤ w.heap.size) (hlen : n + k ≤ 1000000)
    (h : ∀ ao' cap' w', Hid (OwnA te m w' B ao' (n + k) cap' (rs ++ new)) → Hid (w.grownBy w' (oblk ao)) → Hid (∀ b, oblk ao' = some b → oblk ao = some b ∨ w.heap.size ≤ b) → Hid (n + k ≤ cap → ao' = ao ∧ cap' = cap) → K (a.put o.dst (.slice ao' (n + k) cap')) w') :
    if Region.wanted o (yielded ops a.tmps) = true then Oper.wp Tryd.prog o a w K Q else E := by
  have hw : Region.wanted o (yielded ops a.tmps) = true := by simp [Region.wanted, hgd]
  rw [if_pos hw]
  exact wp_concatA ts te m by_ z s x ho hts hte hzs hm0 hby B ao ao2 n cap k cap2 rs new hs hown hx hk hL hB hlen h

end Go.Proofs.YtakomlmbdienpaaDoor
