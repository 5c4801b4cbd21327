/- DERIVED of the program: the document's own fabric as a value: copied into another variable, and written back. Own work. -/
import Derived.Test.YtakomlmbdienpaaDoorFbR8
import Derived.Test.YtakomlmbdienpaaDoorGenE
import Derived.Test.YtakomlmbdienpaaDoorFbArg
namespace Go.Proofs.YtakomlmbdienpaaDoor
open Go.RowKit Go.Extern.Stop Go.Stop Go.Extern

/-- What six cells stand for, once they lie in a block of their own: the rows behind them lie in T. -/
structure RBody (w : World) (v : List Value) (T : List Nat) (cs rm : Nat) (P : List (List M13)) : Prop where
  len : v.length = 6
  one : ∀ u ∈ v, u.oneCell' = true
  mem : ∀ k ∈ T, k < w.heap.size
  go : ∀ (w' : World) (q' : Nat), (∀ k ∈ T, w'.heap[k]? = w.heap[k]?) → w'.heap[q']? = some (.cells v.toArray 50 (0, 0)) → q' ∉ T → RFab w' q' (q' :: T) cs rm P
theorem RFab.body {w : World} {q cs rm : Nat} {S : List Nat} {P : List (List M13)} (h : RFab w q S cs rm P) : ∃ v T, S = q :: T ∧ q ∉ T ∧ w.heap[q]? = some (.cells v.toArray 50 (0, 0)) ∧ RBody w v T cs rm P := by
  have hm := h.mem
  obtain ⟨⟨b, cp, C, h1, h2, h3, h4, h5, h6, rfl⟩, h7⟩ := h
  refine ⟨[.int .i64 (cs : Int), .int .i64 (rm : Int), .slice (some ⟨b 0, 0, none⟩) cs (cp 0), .slice (some ⟨b 1, 0, none⟩) cs (cp 1), .slice (some ⟨b 2, 0, none⟩) cs (cp 2), .slice (some ⟨b 3, 0, none⟩) cs (cp 3)], bksS C, rfl, h3, h1, rfl, ?_, fun k hk => hm k (List.mem_cons_of_mem _ hk), fun w' q' hT hq hn => ⟨⟨b, cp, C, hq, h2.keep hT, hn, h4, h5, h6, rfl⟩, h7⟩⟩
  intro u hu
  simp only [List.mem_cons, List.not_mem_nil, or_false] at hu
  rcases hu with rfl | rfl | rfl | rfl | rfl | rfl <;> rfl
theorem RBody.step {w w' : World} {v : List Value} {T : List Nat} {cs rm : Nat} {P : List (List M13)} (h : RBody w v T cs rm P) (hf : ∀ k ∈ T, w'.heap[k]? = w.heap[k]?) (hs : w.heap.size ≤ w'.heap.size) : RBody w' v T cs rm P :=
  ⟨h.len, h.one, fun k hk => Nat.lt_of_lt_of_le (h.mem k hk) hs, fun X q' hX hq hn => h.go X q' (fun k hk => (hX k hk).trans (hf k hk)) hq hn⟩
theorem RBody.below {w w' : World} {v : List Value} {T : List Nat} {cs rm : Nat} {P : List (List M13)} (h : RBody w v T cs rm P) (hb : Below w.heap.size w w') : RBody w' v T cs rm P :=
  h.step (fun k hk => hb.block k (h.mem k hk)) hb.size
/-- A block that is written over as a whole. -/
theorem blk_over {w : World} {q : Nat} {t : TypeId} {cur : Array Value} {v : List Value} (h : w.heap[q]? = some (.cells cur t (0, 0))) (hs : cur.size = v.length) : (w.setCells q 0 v).heap[q]? = some (.cells v.toArray t (0, 0)) := by
  obtain ⟨c', h1, h2, _, h4⟩ := blk_setCells v 0 w cur h
  rw [h1]
  congr 2
  apply Array.ext
  · rw [h2, hs]; simp
  · intro i hi _
    have hv : i < v.length := by rw [h2, hs] at hi; exact hi
    have h5 := h4 i v[i] (List.getElem?_eq_getElem hv) (by omega)
    rw [Nat.zero_add] at h5
    rw [Array.getElem?_eq_getElem hi] at h5
    have h6 := Option.some.inj h5
    rw [h6]
    simp
theorem blk_range {w : World} {q : Nat} {t : TypeId} {v : List Value} (h : w.heap[q]? = some (.cells v.toArray t (0, 0))) : w.rangeAt q 0 v := fun j u hj => by
  rw [Nat.zero_add]
  exact blk_cell h (by simpa using hj)
theorem blk_there {w : World} {q : Nat} {t : TypeId} {cur : Array Value} (h : w.heap[q]? = some (.cells cur t (0, 0))) : w.there q 0 cur.size := fun j hj => by
  rw [Nat.zero_add]
  exact ⟨by rw [blk_cell h (Array.getElem?_eq_getElem hj)]; rfl, blk_free h⟩
theorem Tryd.sizeRFab {v : List Value} (h : v.length = 6) : (Tryd.prog.info? 50).map (·.size) = some v.length := by
  rw [h]
  kernel_rfl

end Go.Proofs.YtakomlmbdienpaaDoor

namespace Go.Proofs.YtakomlmbdienpaaDoor
open Go.RowKit Go.Extern.Stop Go.Stop Go.Extern

/-- 'append(out, src...)' of structs, out the call's own, at whatever place: one law for whatever source. -/
theorem wp_concatA6 {w : World} {o : Oper} {a : Act} {K : Act → World → Prop} {Q : Exit → Act → World → Prop} (ts te : TypeId) (m by_ : Nat) (z : Value) (s x : Operand)
    (ho : o.op = .call { callee := .builtin .append, args := #[s, x], argTypes := #[ts, ts] }) (hts : Tryd.prog.underlying ts = some (.slice te)) (hte : (Tryd.prog.info? te).map (fun i => (i.zero, i.size, i.bytes)) = some (some z, m, by_)) (hzs : z.cells.size = m) (hm0 : 0 < m) (hby : by_ ≤ 1000) (B : Nat)
    (ao ao2 : Option Addr) (n cap k cap2 : Nat) (rs new : List (List Value)) (hs : a.eval s = .slice ao n cap) (hown : OwnA te m w B ao n cap rs) (hx : a.eval x = .slice ao2 k cap2) (hk : k = new.length) (hL : Rows' m w ao2 cap2 new)
    (hB : B ≤ w.heap.size) (hlen : n + k ≤ 1000000)
    (h : ∀ ao' cap' w', Hid (OwnA te m w' B ao' (n + k) cap' (rs ++ new)) → Hid (w.grownBy w' (oblk ao)) → Hid (∀ b, oblk ao' = some b → oblk ao = some b ∨ w.heap.size ≤ b) → Hid (n + k ≤ cap → ao' = ao ∧ cap' = cap) → Hid (cap < n + k → Below w.heap.size w w' ∧ ao' = some ⟨w.heap.size, 0, none⟩) → K (a.put o.dst (.slice ao' (n + k) cap')) w') : o.wp Tryd.prog a w K Q := by
  obtain ⟨i0, hi, hz0, hz1, hz2⟩ := info_parts hte
  subst hz1
  subst hz2
  have hln := flat_len (fun r hr => (hL.each r hr).1)
  have hlo := flat_len hown.each
  have hll := hown.len
  have hev : ∀ r ∈ rs ++ new, r.length = i0.size := fun r hr => by
    rcases List.mem_append.1 hr with hr | hr
    · exact hown.each r hr
    · exact (hL.each r hr).1
  have hone : ∀ u ∈ new.flatten, u.oneCell' = true := fun u hu => by
    obtain ⟨r, hr, hur⟩ := List.mem_flatten.1 hu
    exact (hL.each r hr).2 u hur
  have src : ∀ ad, ao2 = some ad → ∀ j u, new.flatten[j]? = some u → w.cell? (ad.add j) = some u := by
    rintro ad rfl j u hj
    have hj' : j < new.length * i0.size := by have := (List.getElem?_eq_some_iff.1 hj).1; rwa [hln] at this
    have hd : j / i0.size < new.length := (Nat.div_lt_iff_lt_mul hm0).2 hj'
    have hr : j % i0.size < i0.size := Nat.mod_lt _ hm0
    have he : j / i0.size * i0.size + j % i0.size = j := by rw [Nat.mul_comm]; exact Nat.div_add_mod j _
    have hu : new[j / i0.size][j % i0.size]? = some u := by rw [← flat_get (fun r hr => (hL.each r hr).1) (j / i0.size) (j % i0.size) hd hr, he]; exact hj
    obtain ⟨b', o', e, hc⟩ := hL.cell (j / i0.size) hd (j % i0.size) u hu
    cases e
    rw [Addr.add_lit]
    rw [show o' + j / i0.size * i0.size + j % i0.size = o' + j by omega] at hc
    exact hc
  have go : ∀ v' w', (Builtin.append_ #[ts, ts] o.type #[.slice ao n cap, .slice ao2 k cap2]).run Tryd.prog w = .ok v' w' → K (a.put o.dst v') w' → o.wp Tryd.prog a w K Q := by
    intro v' w' hr hK
    unfold Oper.wp execOp
    simp only [ho, resolve, invoke, builtin, Sem.run_bind, Sem.run_pure, Result.andThen_ok, List.map_toArray, List.map_cons, List.map_nil, hs, hx, hr]
    exact hK
  have same : (Builtin.append_ #[ts, ts] o.type #[.slice ao n cap, .slice ao2 k cap2]).run Tryd.prog w = .ok (.slice ao n cap) w → k = 0 → o.wp Tryd.prog a w K Q := by
    intro hr hk0
    subst hk0
    have hnw : new = [] := List.length_eq_zero_iff.1 hk.symm
    subst hnw
    exact go _ _ hr (h ao cap w (Hid.in (by rw [List.append_nil]; exact hown)) (Hid.in (grown_of_below (Below.refl _ _) _)) (Hid.in fun b hb => .inl hb) (Hid.in fun _ => ⟨rfl, rfl⟩) (Hid.in fun hh => absurd hh (by have := hown.le; omega)))
  have grow : ∀ (old : Nat) (cs : Array Value), cap < n + k → cs = (rs ++ new).flatten.toArray ++ Builtin.zeroCells z.cells (grownCap w (n + k) old te - (n + k)) → (Builtin.append_ #[ts, ts] o.type #[.slice ao n cap, .slice ao2 k cap2]).run Tryd.prog w = .ok (.slice (some ⟨w.heap.size, 0, none⟩) (n + k) (grownCap w (n + k) old te)) (w.drew.alloc (.cells cs te)) → o.wp Tryd.prog a w K Q := by
    intro old cs hgr hcs hr
    have hlr : (rs ++ new).length = n + k := by rw [List.length_append, hll, hk]
    have hM : n + k ≤ maxLen := by unfold maxLen; omega
    have hO : OwnA te i0.size (w.drew.alloc (.cells cs te)) B (some ⟨w.heap.size, 0, none⟩) (n + k) (grownCap w (n + k) old te) (rs ++ new) := by
      have := OwnA.made (t := te) (w := w) (rs ++ new) z (grownCap w (n + k) old te) cs hB hev (by rw [hlr]; exact grownCap_ge w _ _ _) (grownCap_le_maxLen w _ _ _ hM) hzs (by rw [hlr]; exact hcs)
      rwa [hlr] at this
    refine go _ _ hr (h _ _ _ (Hid.in hO) (Hid.in ⟨rfl, rfl, rfl, by simp, fun b hb _ => (below_alloc w.drew _).block b hb⟩) (Hid.in fun b hb => ?_) (Hid.in fun hh => absurd hh (by omega)) (Hid.in fun _ => ⟨⟨rfl, rfl, rfl, by simp, fun b hb => (below_alloc w.drew _).block b hb⟩, rfl⟩))
    cases hb
    exact .inr (Nat.le_refl _)
  cases ao2 with
  | none =>
    have hc0 := hL.nil0 rfl
    subst hc0
    have h0 : new = [] := List.length_eq_zero_iff.1 (by have := hL.le; omega)
    subst h0
    have hk0 : k = 0 := hk
    subst hk0
    exact same (run_append_none w ts o.type te i0 hts hi ao n cap hown.le (fun ad e => by obtain ⟨g, o', _, rfl, _⟩ := hown.at_ ad e; rfl)) rfl
  | some ad2 =>
    have hsrc := src ad2 rfl
    have hl2 : new.flatten.length = k * i0.size := by rw [hln, hk]
    cases ao with
    | none =>
      have hc0 := hown.nil0 rfl
      have hle := hown.le
      subst hc0
      obtain rfl : n = 0 := by omega
      have hr0 : rs = [] := List.length_eq_zero_iff.1 hll
      subst hr0
      by_cases hk0 : k = 0
      · refine same ?_ hk0
        subst hk0
        simp [Builtin.append_, run_underlying hts, sizeOf, typeInfo, hi, Builtin.lenOf, Builtin.firstCells, loadCells, loadCellsFrom]
      · have hr := run_append_nil (P := Tryd.prog) w ts o.type te i0 z hts hi hz0 ad2 k cap2 new.flatten hl2 hsrc (by omega) (by omega) (Nat.le_trans (Nat.mul_le_mul (show k ≤ 1000000 by omega) hby) (by decide))
        refine grow 0 _ (by omega) ?_ (by rw [Nat.zero_add]; exact hr)
        rw [Nat.zero_add, List.nil_append]
    | some ad =>
      obtain ⟨g, of, cur, rfl, hg, hh, hsz, hrd⟩ := hown.at_ ad rfl
      have hlo' : rs.flatten.length = n * i0.size := by rw [hlo, hll]
      by_cases hroom : n + k ≤ cap
      · have hmm : n * i0.size + k * i0.size ≤ cap * i0.size := by rw [← Nat.add_mul]; exact Nat.mul_le_mul_right _ hroom
        have hr := run_append_room_cells (P := Tryd.prog) w ts o.type te i0 hts hi g of n cap ad2 k cap2 new.flatten hl2 hsrc hone hroom
          (fun j hj => by
            have hlt : of + n * i0.size + j < cur.size := by omega
            rw [blk_cell hh (Array.getElem?_eq_getElem hlt)]; rfl)
          (fun j hj => blk_free hh)
        exact go _ _ hr (h _ _ _ (Hid.in (hown.wrote (fun r hr => (hL.each r hr).1) hk.symm hroom)) (Hid.in (grown_setCells w g _ _)) (Hid.in fun b hb => .inl hb) (Hid.in fun _ => ⟨rfl, rfl⟩) (Hid.in fun hh => absurd hh (by omega)))
      · have hr := run_append_grow (P := Tryd.prog) w ts o.type te i0 z hts hi hz0 ⟨g, of, none⟩ n cap rs.flatten hlo' (fun j v hj => by rw [Addr.add_lit]; exact blk_cell hh (hrd j v hj)) ad2 k cap2 new.flatten hl2 hsrc (by omega) (by omega) (growslice_fits (by omega) (Nat.le_trans (Nat.mul_le_mul hlen hby) (by decide)))
        exact grow cap _ (by omega) (by simp only [List.flatten_append, List.append_toArray]) hr


theorem step_concatA6 {w : World} {ops : Array Oper} {o : Oper} {a : Act} {K : Act → World → Prop} {Q : Exit → Act → World → Prop} {E : Prop} (hgd : o.guard = none) (ts te : TypeId) (m by_ : Nat) (z : Value) (s x : Operand)
    (ho : o.op = .call { callee := .builtin .append, args := #[s, x], argTypes := #[ts, ts] }) (hts : Tryd.prog.underlying ts = some (.slice te)) (hte : (Tryd.prog.info? te).map (fun i => (i.zero, i.size, i.bytes)) = some (some z, m, by_)) (hzs : z.cells.size = m) (hm0 : 0 < m) (hby : by_ ≤ 1000) (B : Nat)
    (ao ao2 : Option Addr) (n cap k cap2 : Nat) (rs new : List (List Value)) (hs : a.eval s = .slice ao n cap) (hown : OwnA te m w B ao n cap rs) (hx : a.eval x = .slice ao2 k cap2) (hk : k = new.length) (hL : Rows' m w ao2 cap2 new)
    (hB : B ≤ w.heap.size) (hlen : n + k ≤ 1000000)
    (h : ∀ ao' cap' w', Hid (OwnA te m w' B ao' (n + k) cap' (rs ++ new)) → Hid (w.grownBy w' (oblk ao)) → Hid (∀ b, oblk ao' = some b → oblk ao = some b ∨ w.heap.size ≤ b) → Hid (n + k ≤ cap → ao' = ao ∧ cap' = cap) → Hid (cap < n + k → Below w.heap.size w w' ∧ ao' = some ⟨w.heap.size, 0, none⟩) → K (a.put o.dst (.slice ao' (n + k) cap')) w') :
    if Region.wanted o (yielded ops a.tmps) = true then Oper.wp Tryd.prog o a w K Q else E := by
  have hw : Region.wanted o (yielded ops a.tmps) = true := by simp [Region.wanted, hgd]
  rw [if_pos hw]
  exact wp_concatA6 ts te m by_ z s x ho hts hte hzs hm0 hby B ao ao2 n cap k cap2 rs new hs hown hx hk hL hB hlen h

end Go.Proofs.YtakomlmbdienpaaDoor

namespace Go.Proofs.YtakomlmbdienpaaDoor
open Go.RowKit Go.Extern.Stop Go.Stop Go.Extern

/-- How many rows the copy has of pool a, when p pools are whole and j rows of the next are there. -/
def lnT (cs p j a : Nat) : Nat := if a < p then cs else if a = p then j else 0
/-- A copied row: where it lies, its room, what is in it. -/
structure Td where
  ao : Option Addr
  cap : Nat
  L : List M13
def Td.val (d : Td) : Value := .slice d.ao d.L.length d.cap
def rowsT (cs : Nat) (D : List Td) (a : Nat) : List (List Value) := ((D.drop (a * cs)).take cs).map fun d => [d.val]
theorem rowsT_snoc {cs p j : Nat} {D : List Td} (d : Td) (h : D.length = p * cs + j) (hj : j < cs) (a : Nat) : rowsT cs (D ++ [d]) a = if a = p then rowsT cs D a ++ [[d.val]] else rowsT cs D a := by
  unfold rowsT
  by_cases e : a = p
  · subst e
    rw [if_pos rfl, List.drop_append_of_le_length (by omega), List.take_of_length_le (by simp [h]; omega), List.take_of_length_le (by simp [h]; omega)]
    simp
  · rw [if_neg e]
    rcases Nat.lt_or_ge a p with hl | hl
    · have h1 : (a + 1) * cs ≤ p * cs := Nat.mul_le_mul_right _ hl
      rw [Nat.add_mul, Nat.one_mul] at h1
      rw [List.drop_append_of_le_length (by omega), List.take_append_of_le_length (by simp [h]; omega)]
    · have h1 : (p + 1) * cs ≤ a * cs := Nat.mul_le_mul_right _ (by omega)
      rw [Nat.add_mul, Nat.one_mul] at h1
      rw [List.drop_of_length_le (by simp [h]; omega), List.drop_of_length_le (by omega)]
theorem rowsT_get {cs a c : Nat} {D : List Td} {d : Td} (hc : c < cs) (hd : D[a * cs + c]? = some d) : (rowsT cs D a).flatten[c]? = some d.val := by
  have h1 : (rowsT cs D a).flatten = ((D.drop (a * cs)).take cs).map Td.val := by
    unfold rowsT
    induction (D.drop (a * cs)).take cs with
    | nil => rfl
    | cons x r ih => simp [ih]
  rw [h1, List.getElem?_map, List.getElem?_take_of_lt hc, List.getElem?_drop, hd]
  rfl

/-- The copy: p pools are whole, of the next one j rows are there. -/
structure Tw (w X : World) (z cs rm : Nat) (P : List (List M13)) (p j : Nat) : Prop where
  ex : ∃ (pt : Nat → Option Addr) (cp : Nat → Nat) (D : List Td),
    X.heap[z]? = some (.cells #[.int .i64 (cs : Int), .int .i64 (rm : Int), .slice (pt 0) (lnT cs p j 0) (cp 0), .slice (pt 1) (lnT cs p j 1) (cp 1), .slice (pt 2) (lnT cs p j 2) (cp 2), .slice (pt 3) (lnT cs p j 3) (cp 3)] 50 (0, 0)) ∧
    (∀ a, a < 4 → (pt a = none ∨ ∃ g, pt a = some ⟨g, 0, none⟩) ∧ OwnA 44 1 X w.heap.size (pt a) (lnT cs p j a) (cp a) (rowsT cs D a)) ∧
    (∀ a a', a < 4 → a' < 4 → a ≠ a' → ∀ k, oblk (pt a) = some k → oblk (pt a') ≠ some k) ∧
    D.length = p * cs + j ∧
    (∀ (i : Nat) (d : Td), D[i]? = some d → d.L = ofP cs P i ∧ OwnA 32 13 X w.heap.size d.ao d.L.length d.cap (d.L.map mc)) ∧
    (∀ (i i' : Nat) (d e : Td), i ≠ i' → D[i]? = some d → D[i']? = some e → ∀ k, oblk d.ao = some k → oblk e.ao ≠ some k)
  lo : w.heap.size ≤ z
  b : Below w.heap.size w X
theorem Tw.next {w X : World} {z cs rm p : Nat} {P : List (List M13)} (h : Tw w X z cs rm P p cs) : Tw w X z cs rm P (p + 1) 0 := by
  have hl : ∀ a, lnT cs (p + 1) 0 a = lnT cs p cs a := fun a => by unfold lnT; (repeat' split) <;> omega
  obtain ⟨⟨pt, cp, D, h1, h2, h3, h4, h5, h6⟩, h7, h8⟩ := h
  exact ⟨⟨pt, cp, D, by simp only [hl]; exact h1, fun a ha => by rw [hl]; exact h2 a ha, h3, by rw [h4, Nat.add_mul]; omega, h5, h6⟩, h7, h8⟩
theorem Tw.keep {w X X' : World} {z cs rm p j : Nat} {P : List (List M13)} (h : Tw w X z cs rm P p j) (hb : Below X.heap.size X X') : Tw w X' z cs rm P p j := by
  obtain ⟨⟨pt, cp, D, h1, h2, h3, h4, h5, h6⟩, h7, h8⟩ := h
  exact ⟨⟨pt, cp, D, (hb.block z (blk_lt h1)).trans h1, fun a ha => ⟨(h2 a ha).1, (h2 a ha).2.step hb⟩, h3, h4, fun i d hd => ⟨(h5 i d hd).1, (h5 i d hd).2.step hb⟩, h6⟩, h7, bstep h8 (Nat.le_refl _) hb⟩
/-- What the copy's next pool is now, and what becomes of it, when one row more is hung on. -/
theorem Tw.row {w X : World} {z cs rm p j : Nat} {P : List (List M13)} (h : Tw w X z cs rm P p j) (hp : p < 4) (hj : j < cs) : ∃ ao cap rs, X.cell? ⟨z, 2 + p, none⟩ = some (.slice ao j cap) ∧ X.frozen? ⟨z, 2 + p, none⟩ = false ∧ OwnA 44 1 X w.heap.size ao j cap rs ∧ (∀ k, oblk ao = some k → k ≠ z ∧ k < X.heap.size) ∧
    ∀ (X1 X2 : World) (d : Td) (ao' : Option Addr) (cap' : Nat), Below X.heap.size X X1 → d.L = ofP cs P (p * cs + j) → OwnA 32 13 X1 w.heap.size d.ao d.L.length d.cap (d.L.map mc) → (∀ k, oblk d.ao = some k → X.heap.size ≤ k) → X1.grownBy X2 (oblk ao) →
      OwnA 44 1 X2 w.heap.size ao' (j + 1) cap' (rs ++ [[d.val]]) → (ao' = ao ∨ ao' = some ⟨X1.heap.size, 0, none⟩) →
      Tw w (X2.setCell ⟨z, 2 + p, none⟩ (.slice ao' (j + 1) cap')) z cs rm P p (j + 1) := by
  obtain ⟨⟨pt, cp, D, h1, h2, h3, h4, h5, h6⟩, h7, h8⟩ := h
  have four : ∀ x : Nat, x < 4 → x = 0 ∨ x = 1 ∨ x = 2 ∨ x = 3 := fun x hx => by omega
  have hlp : lnT cs p j p = j := by unfold lnT; rw [if_neg (by omega), if_pos rfl]
  have hO := (h2 p hp).2
  rw [hlp] at hO
  have hbl : ∀ a, a < 4 → ∀ k, oblk (pt a) = some k → k ≠ z ∧ k < X.heap.size := fun a ha k hk => by
    obtain ⟨_, cur, hc⟩ := (h2 a ha).2.blk k hk
    refine ⟨fun e => ?_, blk_lt hc⟩
    rw [e, h1] at hc
    exact absurd hc (by simp)
  refine ⟨pt p, cp p, rowsT cs D p, ?_, blk_free h1, hO, hbl p hp, fun X1 X2 d ao' cap' hb1 hdL hdO hdn hg hO' hao => ?_⟩
  · rcases four p hp with rfl | rfl | rfl | rfl <;> (refine (blk_cell h1 rfl).trans ?_; rw [hlp]; rfl)
  have hzX1 := (hb1.block z (blk_lt h1)).trans h1
  have hz2 : X2.heap[z]? = X1.heap[z]? := hg.block z (blk_lt hzX1) (fun e => (hbl p hp z e.symm).1 rfl)
  have hzX2 := hz2.trans hzX1
  have hgX : X.grownBy X2 (oblk (pt p)) := grown_trans' (grown_of_below hb1 _) hg
  -- a block that is neither z nor the pool's own stays
  have stay : ∀ k, k < X.heap.size → k ≠ z → some k ≠ oblk (pt p) → (X2.setCell ⟨z, 2 + p, none⟩ (.slice ao' (j + 1) cap')).heap[k]? = X.heap[k]? := fun k hk hz hn => by
    rw [show (X2.setCell ⟨z, 2 + p, none⟩ (.slice ao' (j + 1) cap')).heap[k]? = X2.heap[k]? by simp [World.setCell, Array.getElem?_modify, Ne.symm hz]]
    exact hgX.block k hk hn
  have hX2k : ∀ k, k ≠ z → (X2.setCell ⟨z, 2 + p, none⟩ (.slice ao' (j + 1) cap')).heap[k]? = X2.heap[k]? := fun k hz => by simp [World.setCell, Array.getElem?_modify, Ne.symm hz]
  have hmz : ∀ (i : Nat) (e : Td), D[i]? = some e → ∀ k, oblk e.ao = some k → k < X.heap.size ∧ k ≠ z ∧ some k ≠ oblk (pt p) := fun i e he k hk => by
    obtain ⟨_, cur, hc⟩ := (h5 i e he).2.blk k hk
    refine ⟨blk_lt hc, fun ez => ?_, fun ep => ?_⟩
    · rw [ez, h1] at hc; exact absurd hc (by simp)
    · obtain ⟨_, cur', hc'⟩ := hO.blk k ep.symm
      rw [hc] at hc'; exact absurd hc' (by simp)
  refine ⟨⟨fun a => if a = p then ao' else pt a, fun a => if a = p then cap' else cp a, D ++ [d], ?_, fun a ha => ?_, fun a a' ha ha' hne k hk hk' => ?_, by simp [h4]; omega, fun i e he => ?_, fun i i' e e' hne he he' k hk hk' => ?_⟩, h7, ?_⟩
  · have hs := blk_set (i := 2 + p) (.slice ao' (j + 1) cap') hzX2
    rw [hs]
    congr 2
    have hl : ∀ a, lnT cs p (j + 1) a = if a = p then j + 1 else lnT cs p j a := fun a => by unfold lnT; (repeat' split) <;> omega
    simp only [hl]
    rcases four p hp with rfl | rfl | rfl | rfl <;> simp
  · have hl : lnT cs p (j + 1) a = if a = p then j + 1 else lnT cs p j a := by unfold lnT; (repeat' split) <;> omega
    rw [rowsT_snoc d h4 hj a, hl]
    by_cases e : a = p
    · subst e
      simp only [if_true]
      refine ⟨?_, hO'.keep (fun k hk => hX2k k (fun ez => ?_))⟩
      · rcases hao with e | e
        · rw [e]; exact (h2 a hp).1
        · exact .inr ⟨_, e⟩
      · subst ez
        obtain ⟨_, cur, hc⟩ := hO'.blk k hk
        rw [hzX2] at hc
        exact absurd hc (by simp)
    · simp only [if_neg e]
      refine ⟨(h2 a ha).1, (h2 a ha).2.keep (fun k hk => ?_)⟩
      have hb := hbl a ha k hk
      exact stay k hb.2 hb.1 (fun ep => h3 a p ha hp e k hk ep.symm)
  · have hnew : ∀ k, oblk ao' = some k → oblk (pt p) = some k ∨ X1.heap.size ≤ k := fun k hk => by
      rcases hao with e | e
      · rw [e] at hk; exact .inl hk
      · rw [e] at hk; cases hk; exact .inr (Nat.le_refl _)
    have hs1 := hb1.size
    by_cases e : a = p
    · subst e
      have e' : ¬ a' = a := fun h => hne h.symm
      simp only [if_true, if_neg e'] at hk hk'
      rcases hnew k hk with h9 | h9
      · exact h3 a a' ha ha' hne k h9 hk'
      · have := (hbl a' ha' k hk').2; omega
    · by_cases e' : a' = p
      · subst e'
        simp only [if_true, if_neg e] at hk hk'
        rcases hnew k hk' with h9 | h9
        · exact h3 a a' ha ha' hne k hk h9
        · have := (hbl a ha k hk).2; omega
      · simp only [if_neg e, if_neg e'] at hk hk'
        exact h3 a a' ha ha' hne k hk hk'
  · rcases Nat.lt_or_ge i D.length with hl | hl
    · rw [List.getElem?_append_left hl] at he
      refine ⟨(h5 i e he).1, (h5 i e he).2.keep (fun k hk => ?_)⟩
      obtain ⟨a1, a2, a3⟩ := hmz i e he k hk
      exact stay k a1 a2 a3
    · have hi : i = D.length := by have := (List.getElem?_eq_some_iff.1 he).1; simp at this; omega
      subst hi
      rw [List.getElem?_append_right (by omega)] at he
      simp at he
      subst he
      refine ⟨by rw [h4]; exact hdL, hdO.keep (fun k hk => ?_)⟩
      obtain ⟨_, cur, hc⟩ := hdO.blk k hk
      have hkn : k ≠ z := fun ez => by rw [ez, hzX1] at hc; exact absurd hc (by simp)
      rw [hX2k k hkn]
      exact hg.block k (blk_lt hc) (fun ep => by have := (hbl p hp k ep.symm).2; have := hdn k hk; omega)
  · have at_ : ∀ (i : Nat) (e : Td), (D ++ [d])[i]? = some e → (i < D.length ∧ D[i]? = some e) ∨ (i = D.length ∧ e = d) := fun i e he => by
      rcases Nat.lt_or_ge i D.length with hl | hl
      · rw [List.getElem?_append_left hl] at he; exact .inl ⟨hl, he⟩
      · have hi : i = D.length := by have := (List.getElem?_eq_some_iff.1 he).1; simp at this; omega
        subst hi
        rw [List.getElem?_append_right (by omega)] at he
        simp at he
        exact .inr ⟨rfl, he.symm⟩
    rcases at_ i e he with ⟨b1, b2⟩ | ⟨b1, b2⟩ <;> rcases at_ i' e' he' with ⟨c1, c2⟩ | ⟨c1, c2⟩
    · exact h6 i i' e e' hne b2 c2 k hk hk'
    · subst c2
      have := (hmz i e b2 k hk).1
      have := hdn k hk'
      omega
    · subst b2
      have := (hmz i' e' c2 k hk').1
      have := hdn k hk
      omega
    · omega
  · have hg2 : X.grownBy X2 (oblk (pt p)) := hgX
    refine ⟨hg2.os.trans h8.os, hg2.tape.trans h8.tape, hg2.output.trans h8.output, ?_, fun k hk => ?_⟩
    · have := hg2.size
      have := h8.size
      simp [World.setCell]
      omega
    · have hs := h8.size
      rw [stay k (by omega) (by omega) (fun ep => by have := (hO.blk k ep.symm).1; omega)]
      exact h8.block k hk
/-- The whole copy is a fabric. -/
theorem Tw.fab {w X : World} {z cs rm : Nat} {P : List (List M13)} (h : Tw w X z cs rm P 4 0) (hok : FbOk cs rm P) : ∃ S, RFab X z S cs rm P ∧ ∀ k ∈ S, w.heap.size ≤ k := by
  have hcs := hok.cs1
  obtain ⟨⟨pt, cp, D, h1, h2, h3, h4, h5, h6⟩, h7, h8⟩ := h
  have hl : ∀ a, a < 4 → lnT cs 4 0 a = cs := fun a ha => by unfold lnT; rw [if_pos ha]
  have hpt : ∀ a, a < 4 → ∃ g, pt a = some ⟨g, 0, none⟩ := fun a ha => by
    rcases (h2 a ha).1 with e | e
    · have h9 := (h2 a ha).2
      have := h9.nil0 e
      have := h9.le
      rw [hl a ha] at this
      omega
    · exact e
  obtain ⟨b, hb⟩ : ∃ b : Nat → Nat, ∀ a, a < 4 → pt a = some ⟨b a, 0, none⟩ := by
    refine ⟨fun a => (oblk (pt a)).getD 0, fun a ha => ?_⟩
    obtain ⟨g, hg⟩ := hpt a ha
    simp [hg, oblk]
  have sp : ∀ i, i < 4 * cs → i / cs < 4 ∧ i % cs < cs ∧ i = i / cs * cs + i % cs := fun i hi => ⟨(Nat.div_lt_iff_lt_mul hcs).2 hi, Nat.mod_lt _ hcs, by rw [Nat.mul_comm]; exact (Nat.div_add_mod i cs).symm⟩
  obtain ⟨C, hC⟩ : ∃ C : List Sl, C = D.mapIdx fun i d => ⟨b (i / cs), i % cs, d.ao, d.cap, d.L⟩ := ⟨_, rfl⟩
  have hCl : C.length = 4 * cs := by rw [hC]; simp [h4]
  have hCg : ∀ (i : Nat) (c : Sl), C[i]? = some c → ∃ d, D[i]? = some d ∧ c = ⟨b (i / cs), i % cs, d.ao, d.cap, d.L⟩ ∧ i < 4 * cs := fun i c hc => by
    have hi := (List.getElem?_eq_some_iff.1 hc).1
    rw [hC, List.getElem?_mapIdx] at hc
    obtain ⟨d, hd, rfl⟩ := Option.map_eq_some_iff.1 hc
    exact ⟨d, hd, rfl, by omega⟩
  have hCm : ∀ c, c ∈ C → ∃ i, C[i]? = some c := fun c hc => List.getElem?_of_mem hc
  have hblk : ∀ a, a < 4 → w.heap.size ≤ b a ∧ ∃ cur, X.heap[b a]? = some (.cells cur 44 (0, 0)) ∧ ∀ (c : Nat) (d : Td), c < cs → D[a * cs + c]? = some d → cur[c]? = some d.val := fun a ha => by
    obtain ⟨g, o, cur, e, hg, hh, _, hr⟩ := (h2 a ha).2.at_ _ (hb a ha)
    cases e
    refine ⟨hg, cur, hh, fun c d hc hd => ?_⟩
    have := hr c d.val (rowsT_get hc hd)
    rwa [Nat.zero_add] at this
  have hbi : ∀ a a', a < 4 → a' < 4 → b a = b a' → a = a' := fun a a' ha ha' e => by
    by_cases hne : a = a'
    · exact hne
    · exact absurd (show oblk (pt a') = some (b a) by rw [hb a' ha', e]; rfl) (h3 a a' ha ha' hne (b a) (by rw [hb a ha]; rfl))
  have hmb : ∀ (i : Nat) (d : Td), D[i]? = some d → ∀ k, oblk d.ao = some k → w.heap.size ≤ k ∧ ∃ cur, X.heap[k]? = some (.cells cur 32 (0, 0)) := fun i d hd k hk => (h5 i d hd).2.blk k hk
  have hS : Slots X C := by
    refine ⟨fun c hc => ?_, fun c hc => ?_, fun i i' c d hne hc hd => ?_, fun c hc d hd k hk hkd => ?_⟩
    · obtain ⟨i, hi⟩ := hCm c hc
      obtain ⟨d, hd, rfl, hil⟩ := hCg i c hi
      obtain ⟨s1, s2, s3⟩ := sp i hil
      obtain ⟨_, cur, hcur, hr⟩ := hblk _ s1
      exact ⟨cur, hcur, hr _ d s2 (by rw [← s3]; exact hd)⟩
    · obtain ⟨i, hi⟩ := hCm c hc
      obtain ⟨d, hd, rfl, _⟩ := hCg i c hi
      exact ((h5 i d hd).2).low (Nat.zero_le _)
    · obtain ⟨x, hx, rfl, hil⟩ := hCg i c hc
      obtain ⟨y, hy, rfl, hil'⟩ := hCg i' d hd
      obtain ⟨s1, s2, s3⟩ := sp i hil
      obtain ⟨t1, t2, t3⟩ := sp i' hil'
      refine ⟨fun h => hne ?_, fun k hk => h6 i i' x y hne hx hy k hk⟩
      have e1 := hbi _ _ s1 t1 h.1
      have e2 : i % cs = i' % cs := h.2
      rw [s3, t3, e1, e2]
    · obtain ⟨i, hi⟩ := hCm c hc
      obtain ⟨x, hx, rfl, _⟩ := hCg i c hi
      obtain ⟨i', hi'⟩ := hCm d hd
      obtain ⟨y, hy, rfl, hil'⟩ := hCg i' d hi'
      obtain ⟨_, cur, hcur⟩ := hmb i x hx k hk
      obtain ⟨_, cur', hcur', _⟩ := hblk _ (sp i' hil').1
      have hkd' : k = b (i' / cs) := hkd
      rw [hkd', hcur'] at hcur
      exact absurd hcur (by simp)
  have hmem : ∀ k, k ∈ bksS C → w.heap.size ≤ k ∧ k ≠ z := fun k hk => by
    obtain ⟨c, hc, hk⟩ := mem_bksS.1 hk
    obtain ⟨i, hi⟩ := hCm c hc
    obtain ⟨x, hx, rfl, hil⟩ := hCg i c hi
    rcases hk with hk | hk
    · obtain ⟨g1, cur, hcur, _⟩ := hblk _ (sp i hil).1
      have hk' : k = b (i / cs) := hk
      subst hk'
      exact ⟨g1, fun e => by rw [e, h1] at hcur; exact absurd hcur (by simp)⟩
    · obtain ⟨g1, cur, hcur⟩ := hmb i x hx k hk
      exact ⟨g1, fun e => by rw [e, h1] at hcur; exact absurd hcur (by simp)⟩
  refine ⟨z :: bksS C, ⟨⟨b, cp, C, ?_, hS, fun hm => (hmem z hm).2 rfl, hCl, fun i c hc => ?_, fun a c x ha hc hx => ?_, rfl⟩, hok⟩, fun k hk => ?_⟩
  · rw [h1, hb 0 (by omega), hb 1 (by omega), hb 2 (by omega), hb 3 (by omega), hl 0 (by omega), hl 1 (by omega), hl 2 (by omega), hl 3 (by omega)]
  · obtain ⟨d, hd, rfl, _⟩ := hCg i c hc
    exact (h5 i d hd).1
  · obtain ⟨d, hd, rfl, _⟩ := hCg _ x hx
    refine ⟨?_, ?_⟩
    · show b ((a * cs + c) / cs) = b a
      rw [Nat.mul_comm, Nat.mul_add_div hcs, Nat.div_eq_of_lt hc]
      rfl
    · show (a * cs + c) % cs = c
      rw [Nat.mul_comm, Nat.mul_add_mod, Nat.mod_eq_of_lt hc]
  · rcases List.mem_cons.1 hk with rfl | hk
    · exact h7
    · exact (hmem k hk).1

end Go.Proofs.YtakomlmbdienpaaDoor

namespace Go.Proofs.YtakomlmbdienpaaDoor
open Go.RowKit Go.Extern.Stop Go.Stop Go.Extern

theorem RFab.rowsO {w : World} {q cs rm : Nat} {S : List Nat} {P : List (List M13)} (h : RFab w q S cs rm P) : ∀ a, a < 4 → ∃ b cp, w.cell? ⟨q, 2 + a, none⟩ = some (.slice (some ⟨b, 0, none⟩) cs cp) ∧ ∀ c, c < cs → ∃ ao cap, w.cell? ⟨b, c, none⟩ = some (.slice ao (ofP cs P (a * cs + c)).length cap) ∧ OwnA 32 13 w 0 ao (ofP cs P (a * cs + c)).length cap ((ofP cs P (a * cs + c)).map mc) ∧ (ofP cs P (a * cs + c)).length ≤ 64 := by
  have hok := h.ok
  have hle := fun i => lenR_le h.ok i
  obtain ⟨⟨b, cp, C, h1, h2, h3, h4, h5, h6, rfl⟩, h7⟩ := h
  intro a ha
  refine ⟨b a, cp a, ?_, fun c hc => ?_⟩
  · have : a = 0 ∨ a = 1 ∨ a = 2 ∨ a = 3 := by omega
    rcases this with rfl | rfl | rfl | rfl <;> exact blk_cell h1 rfl
  have hlt : a * cs + c < 4 * cs := by
    have : (a + 1) * cs ≤ 4 * cs := Nat.mul_le_mul_right cs (by omega)
    rw [Nat.succ_mul] at this
    omega
  obtain ⟨x, hx⟩ : ∃ x, C[a * cs + c]? = some x := ⟨_, List.getElem?_eq_getElem (by omega)⟩
  obtain ⟨e1, e2⟩ := h6 a c x ha hc hx
  obtain ⟨k1, _⟩ := h2.cell hx
  rw [e1, e2] at k1
  have hL := h5 _ _ hx
  have hO := h2.own x (List.mem_of_getElem? hx)
  rw [hL] at hO
  refine ⟨x.ao, x.cap, ?_, hO, ?_⟩
  · rw [k1]; unfold Sl.val; rw [hL]
  · have := hle (a * cs + c)
    unfold lenR at this
    exact this
theorem Tw.first {w X : World} {z cs rm : Nat} {P : List (List M13)} (h : X.heap[z]? = some (.cells #[.int .i64 (cs : Int), .int .i64 (rm : Int), .slice none 0 0, .slice none 0 0, .slice none 0 0, .slice none 0 0] 50 (0, 0))) (hz : w.heap.size ≤ z) (hb : Below w.heap.size w X) : Tw w X z cs rm P 0 0 := by
  have hl : ∀ a, lnT cs 0 0 a = 0 := fun a => by unfold lnT; (repeat' split) <;> omega
  refine ⟨⟨fun _ => none, fun _ => 0, [], by simp only [hl]; exact h, (fun a ha => ⟨.inl rfl, ?_⟩), (fun a a' _ _ _ k hk => by cases hk), by simp, (fun i d hd => by simp at hd), (fun i i' d e _ hd => by simp at hd)⟩, hz, hb⟩
  rw [hl, show rowsT cs [] a = [] by simp [rowsT]]
  exact OwnA.nil _ _ _ _
theorem Rows'.slice1 (w : World) (v : Value) (hv : v.oneCell' = true) : Rows' 1 (w.alloc (.cells #[v] 44)) (some ⟨w.heap.size, 0, none⟩) 1 [[v]] := by
  refine ⟨Nat.le_refl _, fun k hk c u hu => ?_, fun r hr => ?_, (fun e => by cases e)⟩
  · simp at hk
    subst hk
    refine ⟨w.heap.size, 0, rfl, ?_⟩
    cases c with
    | zero => simp at hu; subst hu; exact blk_cell (heap_alloc_new _ _) rfl
    | succ c => simp at hu
  · simp at hr
    subst hr
    exact ⟨rfl, fun u hu => by simp at hu; subst hu; exact hv⟩
theorem one6 (a b : Int) : (#[.int .i64 a, .int .i64 b, .slice none 0 0, .slice none 0 0, .slice none 0 0, .slice none 0 0] : Array Value).all (·.oneCell') = true := by
  refine all_oneCell_toArray (cs := [.int .i64 a, .int .i64 b, .slice none 0 0, .slice none 0 0, .slice none 0 0, .slice none 0 0]) ?_
  intro u hu
  simp only [List.mem_cons, List.not_mem_nil, or_false] at hu
  rcases hu with rfl | rfl | rfl | rfl | rfl | rfl <;> rfl
theorem if_wanted {ops : Array Oper} {o : Oper} {a : Act} {p E : Prop} (hgd : o.guard = none) (h : p) : if Region.wanted o (yielded ops a.tmps) = true then p else E := by
  rw [if_pos (by simp [Region.wanted, hgd])]
  exact h

set_option maxHeartbeats 6400000 in
set_option maxRecDepth 20000 in
theorem fbtwin_c (w : World) (q cs rm : Nat) (S : List Nat) (P : List (List M13)) (hF : RFab w q S cs rm P) :
    Calls Tryd.prog 18 #[.pointer (some ⟨q, 0, none⟩)] w fun r w' => ∃ v T, r = .returned (.agg v.toArray) ∧ Below w.heap.size w w' ∧ RBody w' v T cs rm P ∧ ∀ k ∈ T, w.heap.size ≤ k := by
  have hq := hF.mem q hF.q
  obtain ⟨hc0, hc1⟩ := hF.hd
  have HR := Hid.in hF.rowsO
  have HOK := Hid.in hF.ok
  have hcs64 := hF.ok.cs64
  clear hF
  go_enter Tryd.func18, Tryd.ntmps18
  go_upto_region 1 with fail
  generalize hW1 : w.alloc (.cells #[.int .i64 0, .int .i64 0, .slice none 0 0, .slice none 0 0, .slice none 0 0, .slice none 0 0] 50) = w1
  have hz0 : w1.heap[w.heap.size]? = some (.cells #[.int .i64 0, .int .i64 0, .slice none 0 0, .slice none 0 0, .slice none 0 0, .slice none 0 0] 50 (0, 0)) := by rw [← hW1]; exact heap_alloc_new _ _
  have hb1 : Below w.heap.size w w1 := by rw [← hW1]; exact below_alloc _ _
  have hs1 : w1.heap.size = w.heap.size + 1 := by rw [← hW1]; simp
  clear hW1
  have HZ0 := Hid.in hz0
  have HB1 := Hid.in hb1
  have HS1 := Hid.in hs1
  have HQ0 : Hid (∀ X, Below w1.heap.size w1 X → X.cell? ⟨q, 0, none⟩ = some (.int .i64 (cs : Int)) ∧ X.cell? ⟨q, 1, none⟩ = some (.int .i64 (rm : Int))) := Hid.in (fun X hX => ⟨((bstep hb1 (Nat.le_refl _) hX).cell (p := ⟨q, 0, none⟩) hq).trans hc0, ((bstep hb1 (Nat.le_refl _) hX).cell (p := ⟨q, 1, none⟩) hq).trans hc1⟩)
  clear hz0 hb1 hs1 hc0 hc1
  refine wp_region_but (fun X => Below w1.heap.size w1 X) 10 (by kernel_rfl) ?_
  have HFc : Hid (∀ X, Below w1.heap.size w1 X → X.cell? ⟨q, 0, none⟩ = some (.int .i64 (cs : Int)) ∧ X.cell? ⟨q, 1, none⟩ = some (.int .i64 (rm : Int))) := HQ0
  have HS : Hid (Below w1.heap.size w1 w1.drew) := Hid.in (Below.refl _ _).drew
  refine wpBut_take (i := 0) (v := ?_) rfl (by kernel_rfl) (by kernel_rfl) (by exact fun _ _ _ h => h) HS.out (Or.inl ⟨by rfl, ?_⟩) ?_
  case refine_2 => (intro W hSw; obtain ⟨s1, s2⟩ := HFc.out W hSw; go_simp; try with_reducible rfl)
  simp only [Act.put, List.setIfInBounds_toArray, List.set_cons_zero, List.set_cons_succ]
  refine wpBut_take (i := 1) (v := ?_) rfl (by kernel_rfl) (by kernel_rfl) (by exact fun _ _ _ h => h) HS.out (Or.inl ⟨by rfl, ?_⟩) ?_
  case refine_2 => (intro W hSw; obtain ⟨s1, s2⟩ := HFc.out W hSw; go_simp; try with_reducible rfl)
  simp only [Act.put, List.setIfInBounds_toArray, List.set_cons_zero, List.set_cons_succ]
  refine wpBut_take (i := 2) (v := ?_) rfl (by kernel_rfl) (by kernel_rfl) (by exact fun _ _ _ h => h) HS.out (Or.inl ⟨by rfl, ?_⟩) ?_
  case refine_2 => (intro W hSw; obtain ⟨s1, s2⟩ := HFc.out W hSw; go_simp; try with_reducible rfl)
  simp only [Act.put, List.setIfInBounds_toArray, List.set_cons_zero, List.set_cons_succ]
  refine wpBut_take (i := 3) (v := ?_) rfl (by kernel_rfl) (by kernel_rfl) (by exact fun _ _ _ h => h) HS.out (Or.inl ⟨by rfl, ?_⟩) ?_
  case refine_2 => (intro W hSw; obtain ⟨s1, s2⟩ := HFc.out W hSw; go_simp; try with_reducible rfl)
  simp only [Act.put, List.setIfInBounds_toArray, List.set_cons_zero, List.set_cons_succ]
  refine wpBut_take (i := 4) (v := ?_) rfl (by kernel_rfl) (by kernel_rfl) (by exact fun _ _ _ h => h) HS.out (Or.inl ⟨by rfl, ?_⟩) ?_
  case refine_2 => (intro W hSw; obtain ⟨s1, s2⟩ := HFc.out W hSw; go_simp; try with_reducible rfl)
  simp only [Act.put, List.setIfInBounds_toArray, List.set_cons_zero, List.set_cons_succ]
  refine wpBut_take (i := 5) (v := ?_) rfl (by kernel_rfl) (by kernel_rfl) (by exact fun _ _ _ h => h) HS.out (Or.inl ⟨by rfl, ?_⟩) ?_
  case refine_2 => (intro W hSw; obtain ⟨s1, s2⟩ := HFc.out W hSw; go_simp; try with_reducible rfl)
  simp only [Act.put, List.setIfInBounds_toArray, List.set_cons_zero, List.set_cons_succ]
  refine wpBut_take (i := 6) (v := ?_) rfl (by kernel_rfl) (by kernel_rfl) (by exact fun _ _ _ h => h) HS.out (Or.inl ⟨by rfl, ?_⟩) ?_
  case refine_2 => (intro W hSw; obtain ⟨s1, s2⟩ := HFc.out W hSw; go_simp; try with_reducible rfl)
  simp only [Act.put, List.setIfInBounds_toArray, List.set_cons_zero, List.set_cons_succ]
  refine wpBut_take (i := 7) (v := ?_) rfl (by kernel_rfl) (by kernel_rfl) (by exact fun _ _ _ h => h) HS.out (Or.inl ⟨by rfl, ?_⟩) ?_
  case refine_2 => (intro W hSw; obtain ⟨s1, s2⟩ := HFc.out W hSw; go_simp; try with_reducible rfl)
  simp only [Act.put, List.setIfInBounds_toArray, List.set_cons_zero, List.set_cons_succ]
  refine wpBut_take (i := 8) (v := ?_) rfl (by kernel_rfl) (by kernel_rfl) (by exact fun _ _ _ h => h) HS.out (Or.inl ⟨by rfl, ?_⟩) ?_
  case refine_2 => (intro W hSw; obtain ⟨s1, s2⟩ := HFc.out W hSw; go_simp; try with_reducible rfl)
  simp only [Act.put, List.setIfInBounds_toArray, List.set_cons_zero, List.set_cons_succ]
  refine wpBut_one (i := 9) rfl (by kernel_rfl) (fun K HK => ?_)
  go_simp
  refine HK.out _ _ (fun _ => (Below.refl w1.heap.size w1).drew.alloc (Nat.le_refl _) _) ?_
  try simp only [Act.put, List.setIfInBounds_toArray, List.set_cons_zero, List.set_cons_succ]
  clear HK K HS
  refine wpBut_one (i := 10) rfl (by kernel_rfl) (fun K HK => ?_)
  refine if_wanted rfl ?_
  refine wp_store_mid 50 (.tmp 3) (.tmp 15) rfl w1.heap.size 0 #[.int .i64 (cs : Int), .int .i64 (rm : Int), .slice none 0 0, .slice none 0 0, .slice none 0 0, .slice none 0 0] rfl rfl (blk_there (cur := #[.int .i64 0, .int .i64 0, .slice none 0 0, .slice none 0 0, .slice none 0 0, .slice none 0 0]) (heap_alloc_new w1 _)) (by kernel_rfl) (one6 _ _) ?_
  refine HK.out _ _ (fun h => absurd rfl h) ?_
  clear HK K
  refine wpBut_done (by kernel_rfl) ?_ _
  generalize hX1 : (w1.alloc (.cells #[.int .i64 0, .int .i64 0, .slice none 0 0, .slice none 0 0, .slice none 0 0, .slice none 0 0] 50)).drew.setCells w1.heap.size 0 (#[.int .i64 (cs : Int), .int .i64 (rm : Int), .slice none 0 0, .slice none 0 0, .slice none 0 0, .slice none 0 0] : Array Value).toList = X1
  have hT0 : Tw w1 X1 w1.heap.size cs rm P 0 0 := by
    refine Tw.first ?_ (Nat.le_refl _) ?_
    · rw [← hX1]
      exact blk_over (v := (#[.int .i64 (cs : Int), .int .i64 (rm : Int), .slice none 0 0, .slice none 0 0, .slice none 0 0, .slice none 0 0] : Array Value).toList) (heap_alloc_new w1 _) rfl
    · have hb : Below w1.heap.size w1 ((w1.alloc (.cells #[.int .i64 0, .int .i64 0, .slice none 0 0, .slice none 0 0, .slice none 0 0, .slice none 0 0] 50)).drew) := (below_alloc w1 _).drew
      have hg := grown_setCells ((w1.alloc (.cells #[.int .i64 0, .int .i64 0, .slice none 0 0, .slice none 0 0, .slice none 0 0, .slice none 0 0] 50)).drew) w1.heap.size 0 (#[.int .i64 (cs : Int), .int .i64 (rm : Int), .slice none 0 0, .slice none 0 0, .slice none 0 0, .slice none 0 0] : Array Value).toList
      rw [hX1] at hg
      exact ⟨hg.os.trans hb.os, hg.tape.trans hb.tape, hg.output.trans hb.output, Nat.le_trans hb.size hg.size, fun k hk => (hg.block k (Nat.lt_of_lt_of_le hk hb.size) (fun e => by cases e; omega)).trans (hb.block k hk)⟩
  have HT0 := Hid.in hT0
  clear hX1 hT0
  go_wp2
  go_loopw [16] (fun x wr => ∃ p : Nat, p ≤ 4 ∧ x = .int .i64 (p : Int) ∧ Tw w1 wr w1.heap.size cs rm P p 0) (fun x _ => 4 - (intOf x).toNat)
  case atStart => exact ⟨0, Nat.zero_le _, rfl, HT0.out⟩
  case round =>
    obtain ⟨p, hp, rfl, hT⟩ := hrel
    have HT := Hid.in hT
    clear hT HT0
    by_cases hp4 : p < 4
    · as_aux_lemma =>
        obtain ⟨b, cp, hcl, hrows⟩ := HR.out p hp4
        have hqb : ∀ X, Below w1.heap.size w1 X → X.cell? ⟨q, 2 + p, none⟩ = some (.slice (some ⟨b, 0, none⟩) cs cp) := fun X hX => ((bstep HB1.out (Nat.le_refl _) hX).cell (p := ⟨q, 2 + p, none⟩) hq).trans hcl
        have k1 := hqb _ HT.out.b
        have HRow := Hid.in hrows
        have p1 : (p : Int) < 4 := by omega
        clear hrows hqb hcl
        obtain ⟨wo, hwo⟩ : ∃ x, x = wr := ⟨_, rfl⟩
        subst hwo
        go_wp2
        go_loopw [26] (fun x wr => ∃ j : Nat, j ≤ cs ∧ x = .int .i64 (j : Int) ∧ Tw w1 wr w1.heap.size cs rm P p j) (fun x _ => 100 - (intOf x).toNat)
        case atStart => exact ⟨0, Nat.zero_le _, rfl, HT.out⟩
        case round =>
          obtain ⟨j, hj, rfl, hT2⟩ := hrel
          have HT2 := Hid.in hT2
          clear hT2
          by_cases hlt : j < cs
          · as_aux_lemma =>
              obtain ⟨ra, rc, hrcell, hrO, hr64⟩ := HRow.out j hlt
              have hbw : Below w.heap.size w wr := bstep HB1.out (Nat.le_refl _) HT2.out.b
              have k2 := (hbw.cell (p := ⟨b, j, none⟩) (lt_cell hrcell)).trans hrcell
              have hRO := hrO.step hbw
              obtain ⟨L, hL⟩ : ∃ L, ofP cs P (p * cs + j) = L := ⟨_, rfl⟩
              obtain ⟨n, hn⟩ : ∃ n, L.length = n := ⟨_, rfl⟩
              rw [hL, hn] at k2 hRO hr64
              obtain ⟨ao, cap, rs, hk, hfz, hO, hsep, hgo⟩ := HT2.out.row hp4 hlt
              have HL := Hid.in hL
              have HN := Hid.in hn
              have HRO := Hid.in hRO
              have HO := Hid.in hO
              have HSep := Hid.in hsep
              have HGo := Hid.in hgo
              have HK0 := Hid.in hk
              have HFz := Hid.in hfz
              have j1 : (j : Int) < (cs : Int) := by omega
              have hzl := lt_cell hk
              have hn1 : 0 + n ≤ 1000000 := by omega
              have hj1 : j + 1 ≤ 1000000 := by omega
              clear hrcell hrO hRO hL hn hO hsep hgo hbw
              obtain ⟨zb, hzb⟩ : ∃ x, w1.heap.size = x := ⟨_, rfl⟩
              rw [hzb] at hk hfz hzl HK0 HFz HSep HGo ⊢
              have HZB := Hid.in hzb
              clear hzb
              go_upto_region 8 with fail
              refine wp_region_but (fun X => cellIs zb (2 + p) (.slice ao j cap) X) 12 (by kernel_rfl) ?_
              have HST : Hid (∀ X, Below wr.heap.size wr X → cellIs zb (2 + p) (.slice ao j cap) X) := Hid.in (fun X hX => (hX.cell (p := ⟨zb, 2 + p, none⟩) hzl).trans HK0.out)
              have HFc : Hid (∀ X, cellIs zb (2 + p) (.slice ao j cap) X → X.cell? ⟨zb, 2 + p, none⟩ = some (.slice ao j cap)) := Hid.in (fun X h => h)
              have HS := Hid.in (HST.out _ (Below.refl wr.heap.size wr).drew)
              clear hk hfz
              refine wpBut_take (i := 0) (v := ?_) rfl (by kernel_rfl) (by kernel_rfl) (by exact fun _ _ _ h => h) HS.out (Or.inl ⟨by rfl, ?_⟩) ?_
              case refine_2 => (intro W hSw; have s1 := HFc.out W hSw; go_simp; try with_reducible rfl)
              simp only [Act.put, List.setIfInBounds_toArray, List.set_cons_zero, List.set_cons_succ]
              refine wpBut_take (i := 1) (v := ?_) rfl (by kernel_rfl) (by kernel_rfl) (by exact fun _ _ _ h => h) HS.out (Or.inl ⟨by rfl, ?_⟩) ?_
              case refine_2 => (intro W hSw; have s1 := HFc.out W hSw; go_simp; try with_reducible rfl)
              simp only [Act.put, List.setIfInBounds_toArray, List.set_cons_zero, List.set_cons_succ]
              refine wpBut_take (i := 2) (v := ?_) rfl (by kernel_rfl) (by kernel_rfl) (by exact fun _ _ _ h => h) HS.out (Or.inl ⟨by rfl, ?_⟩) ?_
              case refine_2 => (intro W hSw; have s1 := HFc.out W hSw; go_simp; try with_reducible rfl)
              simp only [Act.put, List.setIfInBounds_toArray, List.set_cons_zero, List.set_cons_succ]
              refine wpBut_take (i := 3) (v := ?_) rfl (by kernel_rfl) (by kernel_rfl) (by exact fun _ _ _ h => h) HS.out (Or.inl ⟨by rfl, ?_⟩) ?_
              case refine_2 => (intro W hSw; have s1 := HFc.out W hSw; go_simp; try with_reducible rfl)
              simp only [Act.put, List.setIfInBounds_toArray, List.set_cons_zero, List.set_cons_succ]
              refine wpBut_take (i := 4) (v := ?_) rfl (by kernel_rfl) (by kernel_rfl) (by exact fun _ _ _ h => h) HS.out (Or.inl ⟨by rfl, ?_⟩) ?_
              case refine_2 => (intro W hSw; have s1 := HFc.out W hSw; go_simp; try with_reducible rfl)
              simp only [Act.put, List.setIfInBounds_toArray, List.set_cons_zero, List.set_cons_succ]
              refine wpBut_take (i := 6) (v := ?_) rfl (by kernel_rfl) (by kernel_rfl) (by exact fun _ _ _ h => h) HS.out (Or.inl ⟨by rfl, ?_⟩) ?_
              case refine_2 => (intro W hSw; have s1 := HFc.out W hSw; go_simp; try with_reducible rfl)
              simp only [Act.put, List.setIfInBounds_toArray, List.set_cons_zero, List.set_cons_succ]
              refine wpBut_take (i := 10) (v := ?_) rfl (by kernel_rfl) (by kernel_rfl) (by exact fun _ _ _ h => h) HS.out (Or.inl ⟨by rfl, ?_⟩) ?_
              case refine_2 => (intro W hSw; have s1 := HFc.out W hSw; go_simp; try with_reducible rfl)
              simp only [Act.put, List.setIfInBounds_toArray, List.set_cons_zero, List.set_cons_succ]
              refine wpBut_one (i := 5) rfl (by kernel_rfl) (fun K HK => ?_)
              go_simp
              have hb2 : Below wr.heap.size wr (wr.drew.alloc (.cells #[] 32)) := (Below.refl wr.heap.size wr).drew.alloc (Nat.le_refl _) _
              have HB2 := Hid.in hb2
              refine HK.out _ _ (fun _ => HST.out _ hb2) ?_
              try simp only [Act.put, List.setIfInBounds_toArray, List.set_cons_zero, List.set_cons_succ]
              clear HK K hb2
              refine wpBut_one (i := 7) rfl (by kernel_rfl) (fun K HK => ?_)
              refine step_concatA rfl 44 32 13 80 _ (.tmp 35) (.tmp 36) rfl Tryd.underlying44 Tryd.infoMsg rfl (by decide) (by decide) w1.heap.size (some ⟨wr.heap.size, 0, none⟩) ra 0 0 n rc [] (L.map mc) (by rfl) (OwnA.emptyR 32 13 wr.drew w1.heap.size HT2.out.b.size) (by rfl) (by rw [List.length_map, HN.out]) (OwnA.rows (HRO.out.step HB2.out) (mcs_one _)) (Nat.le_trans HT2.out.b.size HB2.out.size) hn1 ?_
              intro ao3 cap3 w3 HO3 HG3 HN3 _
              have HB3 : Hid (Below wr.heap.size wr w3) := Hid.in (by
                have hb0 := HB2.out
                exact ⟨HG3.out.os.trans hb0.os, HG3.out.tape.trans hb0.tape, HG3.out.output.trans hb0.output, Nat.le_trans hb0.size HG3.out.size, fun k hk => (HG3.out.block k (Nat.lt_of_lt_of_le hk hb0.size) (fun e => by cases e; simp at hk)).trans (hb0.block k hk)⟩)
              have HN3' : Hid (∀ k, oblk ao3 = some k → wr.heap.size ≤ k) := Hid.in (fun k hk => by
                rcases HN3.out k hk with h1 | h1
                · cases h1; simp
                · simp at h1; omega)
              refine HK.out _ _ (fun _ => HST.out _ HB3.out) ?_
              try simp only [Act.put, List.setIfInBounds_toArray, List.set_cons_zero, List.set_cons_succ]
              clear HK K HG3 HN3
              refine wpBut_one (i := 8) rfl (by kernel_rfl) (fun K HK => ?_)
              go_simp
              obtain ⟨w4, hw4⟩ : ∃ x, x = w3.alloc (.cells #[.slice ao3 n cap3] 44) := ⟨_, rfl⟩
              rw [← hw4]
              have hb4 : Below wr.heap.size wr w4 := by rw [hw4]; exact HB3.out.alloc HB3.out.size _
              have HB4 := Hid.in hb4
              have HS4 : Hid (w4.heap.size = w3.heap.size + 1) := Hid.in (by rw [hw4]; simp)
              have HR4 : Hid (Rows' 1 w4 (some ⟨w3.heap.size, 0, none⟩) 1 [[.slice ao3 n cap3]]) := Hid.in (by rw [hw4]; exact Rows'.slice1 w3 _ rfl)
              have HO4 : Hid (OwnA 32 13 w4 w1.heap.size ao3 n cap3 (L.map mc)) := Hid.in (by
                have h1 := HO3.out
                rw [Nat.zero_add, List.nil_append] at h1
                rw [hw4]
                exact h1.step (below_alloc _ _))
              refine HK.out _ _ (fun _ => HST.out _ hb4) ?_
              try simp only [Act.put, List.setIfInBounds_toArray, List.set_cons_zero, List.set_cons_succ]
              clear HK K hb4 hw4 HO3
              refine wpBut_one (i := 9) rfl (by kernel_rfl) (fun K HK => ?_)
              refine step_concatA6 rfl 47 44 1 24 _ (.tmp 34) (.tmp 38) rfl Tryd.underlying47 Tryd.infoMsgs rfl (by decide) (by decide) w1.heap.size ao (some ⟨w3.heap.size, 0, none⟩) j cap 1 1 rs [[.slice ao3 n cap3]] (by rfl) (HO.out.step HB4.out) (by rfl) rfl HR4.out (Nat.le_trans HT2.out.b.size HB4.out.size) hj1 ?_
              intro ao5 cap5 w5 HO5 HG5 HN5 HI5 HX5
              have HZ5 : Hid (some zb ≠ oblk ao) := Hid.in (fun e => (HSep.out zb e.symm).1 rfl)
              have HST5 : Hid (cellIs zb (2 + p) (.slice ao j cap) w5) := Hid.in (cell_grown (HST.out _ HB4.out) HG5.out HZ5.out)
              refine HK.out _ _ (fun _ => HST5.out) ?_
              try simp only [Act.put, List.setIfInBounds_toArray, List.set_cons_zero, List.set_cons_succ]
              clear HK K HS
              have HS := HST5
              refine wpBut_take (i := 11) (v := ?_) rfl (by kernel_rfl) (by kernel_rfl) (by exact fun _ _ _ h => h) HS.out (Or.inl ⟨by rfl, ?_⟩) ?_
              case refine_2 => (intro W hSw; have s1 := HFc.out W hSw; go_simp; try with_reducible rfl)
              simp only [Act.put, List.setIfInBounds_toArray, List.set_cons_zero, List.set_cons_succ]
              refine wpBut_one (i := 12) rfl (by kernel_rfl) (fun K HK => ?_)
              have hz1 : w5.cell? ⟨zb, 2 + p, none⟩ = some (.slice ao j cap) := HST5.out
              have hz2 : w5.frozen? ⟨zb, 2 + p, none⟩ = false := by
                have h1 := HG5.out.block zb (Nat.lt_of_lt_of_le hzl HB4.out.size) HZ5.out
                have h2 := HB4.out.block zb hzl
                have h3 := HFz.out
                simp only [World.frozen?] at h3 ⊢
                rw [h1, h2]
                exact h3
              go_simp
              refine HK.out _ _ (fun h => absurd rfl h) ?_
              clear HK K hz1 hz2 HS
              refine wpBut_done (by kernel_rfl) ?_ _
              have hnext : Tw w1 (w5.setCell ⟨zb, 2 + p, none⟩ (.slice ao5 (j + 1) cap5)) zb cs rm P p (j + 1) := by
                have e := HN.out
                subst e
                have h4 := HO4.out
                have h5 := HO5.out
                rw [HZB.out] at h4 h5
                refine HGo.out w4 w5 ⟨ao3, cap3, L⟩ ao5 cap5 HB4.out HL.out.symm h4 HN3'.out HG5.out h5 ?_
                rcases Nat.lt_or_ge cap (j + 1) with h1 | h1
                · exact .inr (HX5.out h1).2
                · exact .inl (HI5.out h1).1
              have HNx := Hid.in hnext
              clear hnext
              go_wp2
              go_roundw
              case rel =>
                exact ⟨j + 1, by omega, by go_num, HNx.out⟩
              case measure => simp [intOf]; omega
          · as_aux_lemma =>
              obtain rfl : j = cs := by omega
              go_wp2
              go_roundw
              case rel => exact ⟨p + 1, by omega, by go_num, HT2.out.next⟩
              case measure => simp [intOf]; omega
    · as_aux_lemma =>
        obtain rfl : p = 4 := by omega
        obtain ⟨S', hRF, hlo⟩ := HT.out.fab HOK.out
        obtain ⟨v, T, rfl, hzT, hv, hB⟩ := hRF.body
        have HV := Hid.in hv
        have HBd := Hid.in hB
        have HLo := Hid.in hlo
        have HZT := Hid.in hzT
        have hz : wr.heap[w.heap.size]? = some (.cells #[.int .i64 0, .int .i64 0, .slice none 0 0, .slice none 0 0, .slice none 0 0, .slice none 0 0] 50 (0, 0)) := (HT.out.b.block _ (by have := HS1.out; omega)).trans HZ0.out
        have HTh : Hid (wr.there w.heap.size 0 v.toArray.size) := Hid.in (by
          have h1 := blk_there hz
          have e : v.toArray.size = 6 := by simp [HBd.out.len]
          rw [e]
          exact h1)
        have HZz := Hid.in hz
        have HSz : Hid ((Tryd.prog.info? 50).map (·.size) = some v.toArray.size) := Hid.in ((show v.toArray.size = v.length by simp) ▸ Tryd.sizeRFab HBd.out.len)
        clear hv hB hlo hRF hz hzT
        go_wp2_with (first | (refine wpList_load_mid rfl 50 (.tmp 3) rfl w1.heap.size 0 rfl v _ (blk_range HV.out) Tryd.underlying50 rfl (Tryd.sizeRFab HBd.out.len) ?_) | (refine wpList_store_mid rfl 50 (.tmp 2) (.tmp 44) rfl w.heap.size 0 v.toArray rfl rfl HTh.out HSz.out (all_oneCell_toArray HBd.out.one) ?_; generalize hW3 : wr.setCells w.heap.size 0 v.toArray.toList = W3) | fail)
        (try simp only [Exit.inBlock, Exit.then])
        have hg : wr.grownBy W3 (some w.heap.size) := by rw [← hW3]; exact grown_setCells _ _ _ _
        have hbW : Below w.heap.size w wr := bstep HB1.out (Nat.le_refl _) HT.out.b
        refine bodyPost_ret (v := .agg v.toArray) ?_ rfl ⟨v, rfl, ⟨hg.os.trans hbW.os, hg.tape.trans hbW.tape, hg.output.trans hbW.output, Nat.le_trans hbW.size hg.size, fun k hk => (hg.block k (Nat.lt_of_lt_of_le hk hbW.size) (fun e => by cases e; omega)).trans (hbW.block k hk)⟩, T, HBd.out.step (fun k hk => hg.block k (HBd.out.mem k hk) (fun e => by
            cases e
            have := HLo.out _ (List.mem_cons_of_mem _ hk)
            have := HS1.out
            omega)) hg.size, fun k hk => ?_⟩
        · rw [results_cell1 rfl]
          have h1 : W3.heap[w.heap.size]? = some (.cells v.toArray 50 (0, 0)) := by
            rw [← hW3]
            have h2 := blk_over (v := v) HZz.out (by rw [HBd.out.len]; rfl)
            simpa using h2
          have hr : (loadVar 50 ⟨w.heap.size, 0, none⟩).run Tryd.prog W3 = .ok (.agg v.toArray) W3 := run_loadVar_mid W3 w.heap.size 0 50 v _ (blk_range h1) Tryd.underlying50 rfl (Tryd.sizeRFab HBd.out.len)
          simp [asAddr, hr, Result.andThen]
        · have := HLo.out k (List.mem_cons_of_mem _ hk)
          have := HS1.out
          omega

end Go.Proofs.YtakomlmbdienpaaDoor

namespace Go.Proofs.YtakomlmbdienpaaDoor
open Go.RowKit Go.Extern.Stop Go.Stop Go.Extern

theorem kOnly_flt (op : ByteArray) (n : Int) (c : Nat) (h1 : 1 ≤ c) (h2 : c ≤ 10) (w : World) (sa : Nat → Addr) (hE : Env10 w sa) :
    Calls Tryd.prog 20 #[flt op n (snt (sa c)), .int .i64 c] w fun r w' => r = .returned (.bool true) ∧ Below w.heap.size w w' := kOnly_chn [(op, n)] c h1 h2 w sa hE
theorem kOnly_nil (w : World) (sa : Nat → Addr) (hE : Env10 w sa) : Calls Tryd.prog 20 #[.nilIface, .int .i64 0] w fun r w' => r = .returned (.bool true) ∧ Below w.heap.size w w' := by
  have HE := Hid.in hE
  clear hE
  go_enter Tryd.func20, Tryd.ntmps20
  go_wp2
  go_loopw [5] (fun i wr => ∃ k : Nat, 1 ≤ k ∧ k ≤ 11 ∧ i = .int .i64 k ∧ Below w.heap.size w wr) (fun i _ => 11 - (intOf i).toNat)
  case atStart => exact ⟨1, Nat.le_refl _, by omega, rfl, Below.refl _ _⟩
  case round =>
    obtain ⟨k, hk1, hk, rfl, hb⟩ := hrel
    have HB := Hid.in hb
    clear hb
    by_cases hlt : k ≤ 10
    · have hq : ((k : Int) == 0) = false := by simp; omega
      go_wp2_with fail
      refine (error_code _ sa (HE.out.below HB.out) k hk1 hlt).mono ?_
      rintro r w' ⟨rfl, rfl⟩
      go_wp2_with fail
      refine (Is_nil (sa k) _).mono ?_
      rintro r w' ⟨rfl, rfl⟩
      go_wp2
      go_roundw
      case rel => exact ⟨k + 1, by omega, by omega, by go_num, HB.out⟩
      case measure => simp [intOf]; omega
    · go_wp2
      go_ret
      exact ⟨rfl, HB.out⟩
theorem kOnly_perr (op : ByteArray) (n : Int) (c : Nat) (h2 : c ≤ 10) (w : World) (sa : Nat → Addr) (hE : Env10 w sa) :
    Calls Tryd.prog 20 #[perr sa c op n, .int .i64 c] w fun r w' => r = .returned (.bool true) ∧ Below w.heap.size w w' := by
  unfold perr
  split
  · rename_i h
    subst h
    exact kOnly_nil w sa hE
  · exact kOnly_flt op n c (by omega) h2 w sa hE
theorem fbnew_no1 (w : World) (sa : Nat → Addr) (hE : Env10 w sa) (c n : Int) (h : ¬ (1 ≤ c ∧ c ≤ 64)) :
    Calls Tryd.prog 9 #[.int .i64 c, .int .i64 n] w fun r w' => r = .returned (.tuple #[.pointer none, perr sa 1 opFNew 0]) ∧ w' = w := by
  have hg : w.cell? ⟨0, 0, none⟩ = some (snt (sa 1)) := hE.g 1 (by omega) (by omega)
  have HC : Hid (wB c 1 64 = false) := Hid.in (wB_no h)
  clear hE h
  go_enter Tryd.func9, Tryd.ntmps9
  go_wp2_with fail
  refine (fbwithin_c c 1 64 false HC.out w).mono ?_
  rintro r w' ⟨rfl, rfl⟩
  go_wp2_with fail
  refine (wrap_some _ 0 _ _ w').mono ?_
  rintro r w'' ⟨rfl, rfl⟩
  go_wp2
  go_ret2
  exact ⟨rfl, rfl⟩
theorem fbnew_no2 (w : World) (sa : Nat → Addr) (hE : Env10 w sa) (c n : Int) (h : 1 ≤ c ∧ c ≤ 64) (h' : ¬ (1 ≤ n ∧ n ≤ 64)) :
    Calls Tryd.prog 9 #[.int .i64 c, .int .i64 n] w fun r w' => r = .returned (.tuple #[.pointer none, perr sa 1 opFNew 1]) ∧ w' = w := by
  have hg : w.cell? ⟨0, 0, none⟩ = some (snt (sa 1)) := hE.g 1 (by omega) (by omega)
  have HC : Hid (wB c 1 64 = true) := Hid.in (wB_yes h)
  have HD : Hid (wB n 1 64 = false) := Hid.in (wB_no h')
  clear hE h h'
  go_enter Tryd.func9, Tryd.ntmps9
  go_wp2_with fail
  refine (fbwithin_c c 1 64 true HC.out w).mono ?_
  rintro r w' ⟨rfl, rfl⟩
  go_wp2_with fail
  refine (fbwithin_c n 1 64 false HD.out w').mono ?_
  rintro r w'' ⟨rfl, rfl⟩
  go_wp2_with fail
  refine (wrap_some _ 1 _ _ w'').mono ?_
  rintro r w3 ⟨rfl, rfl⟩
  go_wp2
  go_ret2
  exact ⟨rfl, rfl⟩
theorem fits_nil (cs rm : Nat) (P : List (List M13)) : fitsF cs rm P [] = (0, 0) := fitsF_ok (badF_none (fun j m h => by simp at h)) (fullF_none (fun j m h => by simp at h))
theorem sent_nil (cs rm : Nat) (P : List (List M13)) : sentF cs rm P [] = P := by rw [sentF_ok (by rw [fits_nil])]; rfl
theorem fbsend_nil (w : World) (sa : Nat → Addr) (hE : Env10 w sa) (q cs rm : Nat) (S : List Nat) (P : List (List M13)) (hF : Fab w q S cs rm P) (ao : Option Addr) (cap : Nat) (hL : Rows' 13 w ao cap (([] : List M13).map mc)) :
    Calls Tryd.prog 10 #[.pointer (some ⟨q, 0, none⟩), .slice ao 0 cap] w fun r w' => r = .returned .nilIface ∧ Below w.heap.size w w' := by
  have hFi := fbfits_c w sa hE q cs rm S P hF ao 0 cap [] hL rfl (fun m hm => absurd hm List.not_mem_nil) (by omega) 0 0 (fits_nil cs rm P)
  have HFi := Hid.in hFi
  clear hFi hE hF hL
  go_enter Tryd.func10, Tryd.ntmps10
  go_wp2_with fail
  refine HFi.out.mono ?_
  rintro r w1 ⟨rfl, hb1⟩
  rw [perr_none]
  have HB1 := Hid.in hb1
  clear hb1 HFi
  go_wp2
  go_loopw [17] (fun x wr => x = .int .i64 0 ∧ wr = w1) (fun _ _ => 0)
  case atStart => exact ⟨rfl, rfl⟩
  case round =>
    obtain ⟨rfl, rfl⟩ := hrel
    go_wp2
    go_ret
    exact ⟨rfl, HB1.out⟩
theorem rfsend_nil (w : World) (q : Nat) (ao : Option Addr) (cap : Nat) :
    Calls Tryd.prog 19 #[.pointer (some ⟨q, 0, none⟩), .slice ao 0 cap] w fun r w' => r = .returned (.tuple #[.int .i64 0, .int .i64 0]) ∧ w' = w := by
  go_enter Tryd.func19, Tryd.ntmps19
  go_wp2
  go_loopw [18] (fun x wr => x = .int .i64 0 ∧ wr = w) (fun _ _ => 0)
  case atStart => exact ⟨rfl, rfl⟩
  case round =>
    obtain ⟨rfl, rfl⟩ := hrel
    rename World => w
    go_wp2
    go_loopw [39] (fun x wr => x = .int .i64 0 ∧ wr = w) (fun _ _ => 0)
    case atStart => exact ⟨rfl, rfl⟩
    case round =>
      obtain ⟨rfl, rfl⟩ := hrel
      rename World => w
      go_wp2
      go_loopw [90] (fun x wr => x = .int .i64 0 ∧ wr = w) (fun _ _ => 0)
      case atStart => exact ⟨rfl, rfl⟩
      case round =>
        obtain ⟨rfl, rfl⟩ := hrel
        go_wp2
        go_ret2
        exact ⟨rfl, rfl⟩
theorem fbsend_g (w : World) (sa : Nat → Addr) (hE : Env10 w sa) (q cs rm : Nat) (S : List Nat) (P : List (List M13)) (hF : Fab w q S cs rm P) (ao : Option Addr) (n cap : Nat) (L : List M13) (hL : Rows' 13 w ao cap (L.map mc)) (hn : L.length = n) (hIn : InB L) (hlen : n ≤ 1000) (hsep : 0 < n → ∀ k, oblk ao = some k → k ∉ S) (c k : Nat) (P' : List (List M13)) (hc : fitsF cs rm P L = (c, k)) (hP : sentF cs rm P L = P') :
    Calls Tryd.prog 10 #[.pointer (some ⟨q, 0, none⟩), .slice ao n cap] w fun r w' => r = .returned (perr sa c opFSend (k : Int)) ∧ ∃ S', Turned w w' q S S' cs rm P' := by
  rcases Nat.eq_zero_or_pos n with h0 | h0
  · subst h0
    obtain rfl : L = [] := List.length_eq_zero_iff.1 hn
    rw [fits_nil] at hc
    cases hc
    rw [sent_nil] at hP
    subst hP
    exact (fbsend_nil w sa hE q cs rm S P hF ao cap hL).mono fun r w' ⟨h1, h2⟩ => ⟨by rw [h1, perr_none], S, Turned.same hF h2⟩
  · exact fbsend_c w sa hE q cs rm S P hF ao n cap L hL hn hIn hlen (hsep h0) c k P' hc hP
theorem rfsend_g (w : World) (q cs rm : Nat) (S : List Nat) (P : List (List M13)) (hF : RFab w q S cs rm P) (ao : Option Addr) (n cap : Nat) (L : List M13) (hL : Rows' 13 w ao cap (L.map mc)) (hn : L.length = n) (hIn : InB L) (hlen : n ≤ 1000) (hsep : 0 < n → ∀ k, oblk ao = some k → k ∉ S) (cd kk : Nat) (hc : fitsF cs rm P L = (cd, kk)) (P' : List (List M13)) (hP' : sentF cs rm P L = P') :
    Calls Tryd.prog 19 #[.pointer (some ⟨q, 0, none⟩), .slice ao n cap] w fun r w' => r = .returned (.tuple #[.int .i64 (cd : Int), .int .i64 (kk : Int)]) ∧ ∃ S', RWent w w' q S S' cs rm P' := by
  rcases Nat.eq_zero_or_pos n with h0 | h0
  · subst h0
    obtain rfl : L = [] := List.length_eq_zero_iff.1 hn
    rw [fits_nil] at hc
    cases hc
    rw [sent_nil] at hP'
    subst hP'
    exact (rfsend_nil w q ao cap).mono fun r w' ⟨h1, h2⟩ => ⟨h1, S, by rw [h2]; exact RWent.same hF (Below.refl _ _)⟩
  · exact rfsend_c w q cs rm S P hF ao n cap L hL hn hIn hlen (hsep h0) cd kk hc P' hP'

/-- Both fabrics in one world, apart, both made behind w0. -/
structure Bo (w0 w : World) (q : Nat) (S : List Nat) (p : Nat) (R : List Nat) (cs rm : Nat) (P Q : List (List M13)) : Prop where
  a : Lv w0 w q S cs rm P
  b : RFab w p R cs rm Q
  lo : ∀ k ∈ R, w0.heap.size ≤ k
  d : ∀ k ∈ S, k ∉ R
theorem Bo.step {w0 w w' : World} {q p cs rm : Nat} {S R : List Nat} {P Q : List (List M13)} (h : Bo w0 w q S p R cs rm P Q) (hb : Below w.heap.size w w') : Bo w0 w' q S p R cs rm P Q := ⟨h.a.step hb, h.b.step hb, h.lo, h.d⟩
theorem Bo.goA {w0 w w' : World} {q p cs rm : Nat} {S S' R : List Nat} {P P' Q : List (List M13)} (h : Bo w0 w q S p R cs rm P Q) (hT : Turned w w' q S S' cs rm P') : Bo w0 w' q S' p R cs rm P' Q :=
  ⟨h.a.turn hT, h.b.fr hT.f (fun k hk hm => h.d k hm hk), h.lo, fun k hk hm => by
    rcases hT.s k hk with h1 | h1
    · exact h.d k h1 hm
    · have := h.b.mem k hm; omega⟩
theorem Bo.goB {w0 w w' : World} {q p cs rm : Nat} {S R R' : List Nat} {P Q Q' : List (List M13)} (h : Bo w0 w q S p R cs rm P Q) (hT : RWent w w' p R R' cs rm Q') : Bo w0 w' q S p R' cs rm P Q' := by
  have hb : Below w0.heap.size w0 w' := hT.f.below h.a.b h.lo h.a.b.size
  refine ⟨⟨h.a.f.fr hT.f h.d, h.a.lo, hb⟩, hT.p, fun k hk => ?_, fun k hk hm => ?_⟩
  · rcases hT.s k hk with h1 | h1
    · exact h.lo k h1
    · exact Nat.le_trans h.a.b.size h1
  · rcases hT.s k hm with h1 | h1
    · exact h.d k hk h1
    · have := h.a.f.mem k hk; omega
/-- A block beside both is written. -/
theorem Bo.poke {w0 w w' : World} {q p cs rm : Nat} {S R : List Nat} {P Q : List (List M13)} (h : Bo w0 w q S p R cs rm P Q) {X : Nat} (hg : w.grownBy w' (some X)) (h1 : X ∉ S) (h2 : X ∉ R) (h3 : w0.heap.size ≤ X) : Bo w0 w' q S p R cs rm P Q := by
  have hf : Fr [X] w w' := Fr.of_grown hg (fun k e => by cases e; exact List.mem_singleton.2 rfl)
  refine ⟨⟨h.a.f.fr hf (fun k hk hm => h1 (by rw [← List.mem_singleton.1 hm]; exact hk)), h.a.lo, hf.below h.a.b (fun k hk => by rw [List.mem_singleton.1 hk]; exact h3) h.a.b.size⟩, h.b.fr hf (fun k hk hm => h2 (by rw [← List.mem_singleton.1 hm]; exact hk)), h.lo, h.d⟩

set_option maxHeartbeats 6400000 in
set_option maxRecDepth 20000 in
theorem fabricPlays_nil1 (w : World) (sa : Nat → Addr) (hE : Env10 w sa) (c0 n0 : Int) (h : ¬ (1 ≤ c0 ∧ c0 ≤ 64)) (al : Option Addr) (n capl : Nat) :
    Calls Tryd.prog 4 #[.int .i64 c0, .int .i64 n0, .slice al n capl] w fun r w' => r = .returned (.bool true) ∧ Below w.heap.size w w' := by
  have HE := Hid.in hE
  clear hE
  go_enter Tryd.func4, Tryd.ntmps4
  go_wp2_with fail
  refine (fbnew_no1 w sa HE.out c0 n0 h).mono ?_
  rintro r w' ⟨rfl, rfl⟩
  go_wp2_with fail
  refine (rfnew_no1 _ c0 n0 h).mono ?_
  rintro r w' ⟨rfl, rfl⟩
  go_wp2_with fail
  refine (kIs_perr opFNew 0 1 (by omega) w' sa HE.out).mono ?_
  rintro r w2 ⟨rfl, hb⟩
  have HB := Hid.in hb
  clear hb h
  by_cases hn : 0 < n
  · have i1 : (0 : Int) < (n : Int) := by omega
    go_wp2
    go_loopw [12] (fun c wr => c = .int .i64 0 ∧ wr = w2) (fun _ _ => 0)
    case atStart => exact ⟨rfl, rfl⟩
    case round =>
      obtain ⟨rfl, rfl⟩ := hrel
      go_wp2_with fail
      refine (fabricRuns_any _ sa (HE.out.below HB.out)).mono ?_
      rintro r w3 ⟨rfl, hb⟩
      have HB3 := Hid.in (bstep HB.out (Nat.le_refl _) hb)
      clear hb
      go_wp2
      go_ret
      exact ⟨rfl, HB3.out⟩
  · obtain rfl : n = 0 := by omega
    go_wp2
    go_loopw [12] (fun c wr => c = .int .i64 0 ∧ wr = w2) (fun _ _ => 0)
    case atStart => exact ⟨rfl, rfl⟩
    case round =>
      obtain ⟨rfl, rfl⟩ := hrel
      go_wp2_with fail
      refine (fabricRuns_any _ sa (HE.out.below HB.out)).mono ?_
      rintro r w3 ⟨rfl, hb⟩
      have HB3 := Hid.in (bstep HB.out (Nat.le_refl _) hb)
      clear hb
      go_wp2
      go_ret
      exact ⟨rfl, HB3.out⟩
set_option maxHeartbeats 6400000 in
set_option maxRecDepth 20000 in
theorem fabricPlays_nil2 (w : World) (sa : Nat → Addr) (hE : Env10 w sa) (c0 n0 : Int) (h : 1 ≤ c0 ∧ c0 ≤ 64) (h2 : ¬ (1 ≤ n0 ∧ n0 ≤ 64)) (al : Option Addr) (n capl : Nat) :
    Calls Tryd.prog 4 #[.int .i64 c0, .int .i64 n0, .slice al n capl] w fun r w' => r = .returned (.bool true) ∧ Below w.heap.size w w' := by
  have HE := Hid.in hE
  clear hE
  go_enter Tryd.func4, Tryd.ntmps4
  go_wp2_with fail
  refine (fbnew_no2 w sa HE.out c0 n0 h h2).mono ?_
  rintro r w' ⟨rfl, rfl⟩
  go_wp2_with fail
  refine (rfnew_no2 _ c0 n0 h h2).mono ?_
  rintro r w' ⟨rfl, rfl⟩
  go_wp2_with fail
  refine (kIs_perr opFNew 1 1 (by omega) w' sa HE.out).mono ?_
  rintro r w2 ⟨rfl, hb⟩
  have HB := Hid.in hb
  clear hb h h2
  by_cases hn : 0 < n
  · have i1 : (0 : Int) < (n : Int) := by omega
    go_wp2
    go_loopw [12] (fun c wr => c = .int .i64 0 ∧ wr = w2) (fun _ _ => 0)
    case atStart => exact ⟨rfl, rfl⟩
    case round =>
      obtain ⟨rfl, rfl⟩ := hrel
      go_wp2_with fail
      refine (fabricRuns_any _ sa (HE.out.below HB.out)).mono ?_
      rintro r w3 ⟨rfl, hb⟩
      have HB3 := Hid.in (bstep HB.out (Nat.le_refl _) hb)
      clear hb
      go_wp2
      go_ret
      exact ⟨rfl, HB3.out⟩
  · obtain rfl : n = 0 := by omega
    go_wp2
    go_loopw [12] (fun c wr => c = .int .i64 0 ∧ wr = w2) (fun _ _ => 0)
    case atStart => exact ⟨rfl, rfl⟩
    case round =>
      obtain ⟨rfl, rfl⟩ := hrel
      go_wp2_with fail
      refine (fabricRuns_any _ sa (HE.out.below HB.out)).mono ?_
      rintro r w3 ⟨rfl, hb⟩
      have HB3 := Hid.in (bstep HB.out (Nat.le_refl _) hb)
      clear hb
      go_wp2
      go_ret
      exact ⟨rfl, HB3.out⟩

end Go.Proofs.YtakomlmbdienpaaDoor
