/- DERIVED of the program: what lies outside a range of blocks stays; errors of a code, by assentkeep's Is and Only; rows of structs of the call's own. For every seat with errors. Own work. -/
import Derived.Test.YtakomlmbdienpaaDoorBaseKeep
namespace Go.Proofs.YtakomlmbdienpaaDoor
open Go.RowKit Go.Extern.Stop Go.Stop Go.Extern

/-- Old blocks outside lo .. hi - 1 are as they were. -/
structure Apart (lo hi : Nat) (w w' : World) : Prop where
  os : w'.os = w.os
  tape : w'.tape = w.tape
  output : w'.output = w.output
  size : w.heap.size ≤ w'.heap.size
  block : ∀ k, k < w.heap.size → ¬ (lo ≤ k ∧ k < hi) → w'.heap[k]? = w.heap[k]?

theorem Apart.of_below {lo hi : Nat} {w w' : World} (h : Below w.heap.size w w') : Apart lo hi w w' := ⟨h.os, h.tape, h.output, h.size, fun k hk _ => h.block k hk⟩
theorem Apart.below {lo hi B : Nat} {w0 w w' : World} (h : Apart lo hi w w') (hb : Below B w0 w) (hB : B ≤ lo) (hs : B ≤ w.heap.size) : Below B w0 w' :=
  ⟨h.os.trans hb.os, h.tape.trans hb.tape, h.output.trans hb.output, Nat.le_trans hb.size h.size, fun k hk => (h.block k (by omega) (by omega)).trans (hb.block k hk)⟩
theorem Apart.trans {lo hi : Nat} {w w1 w2 : World} (h : Apart lo hi w w1) (h' : Apart lo hi w1 w2) : Apart lo hi w w2 :=
  ⟨h'.os.trans h.os, h'.tape.trans h.tape, h'.output.trans h.output, Nat.le_trans h.size h'.size, fun k hk ho => (h'.block k (Nat.lt_of_lt_of_le hk h.size) ho).trans (h.block k hk ho)⟩
theorem Apart.wide {lo hi lo' hi' : Nat} {w w' : World} (h : Apart lo hi w w') (h1 : lo' ≤ lo) (h2 : hi ≤ hi') : Apart lo' hi' w w' :=
  ⟨h.os, h.tape, h.output, h.size, fun k hk ho => h.block k hk (by omega)⟩
/-- A call that makes memory, then writes into lo .. hi - 1. -/
theorem Apart.after {lo hi : Nat} {w w1 w2 : World} (hb : Below w.heap.size w w1) (h : Apart lo hi w1 w2) : Apart lo hi w w2 := (Apart.of_below hb).trans h
theorem Apart.setCell {lo hi : Nat} {w w' : World} (h : Apart lo hi w w') {q i : Nat} (v : Value) (h1 : lo ≤ q) (h2 : q < hi) : Apart lo hi w (w'.setCell ⟨q, i, none⟩ v) :=
  ⟨h.os, h.tape, h.output, by simpa [World.setCell] using h.size, fun k hk ho => (Below.heap_setCell _ _ _ k (by simp; omega)).trans (h.block k hk ho)⟩
theorem apart_cell {lo hi : Nat} {w w' : World} (h : Apart lo hi w w') {p : Addr} (hp : p.block < w.heap.size) (ho : ¬ (lo ≤ p.block ∧ p.block < hi)) : w'.cell? p = w.cell? p := by
  simp only [World.cell?, h.block p.block hp ho]

/-- Is n from a to b? -/
def wB (n a b : Int) : Bool := decide (a ≤ n ∧ n ≤ b)
theorem wB_yes {n a b : Int} (h : a ≤ n ∧ n ≤ b) : wB n a b = true := by simp [wB, h]
theorem wB_no {n a b : Int} (h : ¬ (a ≤ n ∧ n ≤ b)) : wB n a b = false := by simp only [wB, decide_eq_false_iff_not]; exact h
theorem wB_of {n a b : Int} (h : wB n a b = true) : a ≤ n ∧ n ≤ b := by simpa [wB] using h
theorem wB_not {n a b : Int} (h : wB n a b = false) : ¬ (a ≤ n ∧ n ≤ b) := by simpa only [wB, decide_eq_false_iff_not] using h

/-- The error of a code, with its text and place; none of 0. -/
def perr (sa : Nat → Addr) (c : Nat) (op : ByteArray) (at_ : Int) : Value := if c = 0 then .nilIface else flt op at_ (snt (sa c))
theorem perr_some (sa : Nat → Addr) (c : Nat) (op : ByteArray) (at_ : Int) (h : c ≠ 0) : perr sa c op at_ = flt op at_ (snt (sa c)) := if_neg h
theorem perr_none (sa : Nat → Addr) (op : ByteArray) (at_ : Int) : perr sa 0 op at_ = .nilIface := rfl

theorem kIs_nil (op : ByteArray) (n : Int) (w : World) : Calls Tryd.prog 14 #[.nilIface, .int .i64 0, .string op, .int .i64 n] w fun r w' => r = .returned (.bool true) ∧ Below w.heap.size w w' := by
  go_enter Tryd.func14, Tryd.ntmps14
  go_wp2
  go_ret
  exact ⟨rfl, Below.refl _ _⟩
theorem kIs_perr (op : ByteArray) (n : Int) (c : Nat) (h2 : c ≤ 10) (w : World) (sa : Nat → Addr) (hE : Env10 w sa) :
    Calls Tryd.prog 14 #[perr sa c op n, .int .i64 c, .string op, .int .i64 n] w fun r w' => r = .returned (.bool true) ∧ Below w.heap.size w w' := by
  unfold perr
  split
  · rename_i h
    subst h
    exact kIs_nil op n w
  · exact kIs_flt op n [] c (by omega) h2 w sa hE

/-- The call's own row of structs of m cells, one list of cells each. -/
def OwnS (t : TypeId) (m : Nat) (w : World) (B : Nat) (ao : Option Addr) (n cap : Nat) (rs : List (List Value)) : Prop := (∀ r ∈ rs, r.length = m) ∧ w.ownsRow B t m (.slice ao n cap) n rs.flatten

theorem flat_len {m : Nat} : ∀ {rs : List (List Value)}, (∀ r ∈ rs, r.length = m) → rs.flatten.length = rs.length * m
  | [], _ => by simp
  | r :: rs, h => by
    have h1 := flat_len (m := m) (rs := rs) (fun x hx => h x (List.mem_cons_of_mem _ hx))
    have h2 := h r List.mem_cons_self
    simp only [List.flatten_cons, List.length_append, List.length_cons, h1, h2, Nat.succ_mul]
    omega
theorem flat_get {m : Nat} : ∀ {rs : List (List Value)} (_ : ∀ r ∈ rs, r.length = m) (j c : Nat) (hj : j < rs.length), c < m → rs.flatten[j * m + c]? = rs[j][c]?
  | r :: rs, h, 0, c, _, hc => by
    have h2 := h r List.mem_cons_self
    simp only [List.flatten_cons, Nat.zero_mul, Nat.zero_add, List.getElem_cons_zero]
    rw [List.getElem?_append_left (by omega)]
  | r :: rs, h, j + 1, c, hj, hc => by
    have h2 := h r List.mem_cons_self
    have h1 := flat_get (m := m) (rs := rs) (fun x hx => h x (List.mem_cons_of_mem _ hx)) j c (by simpa using hj) hc
    simp only [List.flatten_cons, List.getElem_cons_succ]
    rw [List.getElem?_append_right (by rw [h2, Nat.succ_mul]; omega), h2, show (j + 1) * m + c - m = j * m + c by rw [Nat.succ_mul]; omega]
    exact h1

theorem OwnS.nil (t : TypeId) (m : Nat) (w : World) (B : Nat) : OwnS t m w B none 0 0 [] := ⟨fun _ h => absurd h List.not_mem_nil, by simp, .inl ⟨rfl, rfl⟩⟩
theorem OwnS.len {t : TypeId} {m : Nat} {w : World} {B n cap : Nat} {ao : Option Addr} {rs : List (List Value)} (h : OwnS t m w B ao n cap rs) (hm : 0 < m) : n = rs.length := by
  have h1 := h.2.1
  rw [flat_len h.1] at h1
  exact (Nat.eq_of_mul_eq_mul_right hm h1).symm
theorem OwnS.blk {t : TypeId} {m : Nat} {w : World} {B n cap : Nat} {ao : Option Addr} {rs : List (List Value)} (h : OwnS t m w B ao n cap rs) : ∀ k, oblk ao = some k → B ≤ k ∧ ∃ cur, w.heap[k]? = some (.cells cur t (0, 0)) := by
  obtain ⟨_, h1, h2⟩ := h
  intro k hk
  rcases h2 with ⟨e, _⟩ | ⟨g, cap', cur, e, hg, hh, r⟩
  · simp only [Value.slice.injEq] at e
    rw [e.1] at hk; cases hk
  · simp only [Value.slice.injEq] at e
    rw [e.1] at hk
    cases hk
    exact ⟨hg, cur, hh⟩
theorem OwnS.kept {t : TypeId} {m : Nat} {w w' : World} {B n cap : Nat} {ao : Option Addr} {rs : List (List Value)} {row : Option Nat} (h : OwnS t m w B ao n cap rs) (hg : w.grownBy w' row) (hne : oblk ao = none ∨ oblk ao ≠ row) : OwnS t m w' B ao n cap rs :=
  ⟨h.1, World.ownsRow.kept h.2 hg (by
    cases ao with
    | none => exact .inl rfl
    | some q => exact hne)⟩
theorem OwnS.step {t : TypeId} {m : Nat} {w w' : World} {B n cap : Nat} {ao : Option Addr} {rs : List (List Value)} (h : OwnS t m w B ao n cap rs) (hb : Below w.heap.size w w') : OwnS t m w' B ao n cap rs := by
  refine h.kept (grown_of_below hb none) ?_
  cases ao <;> simp [oblk]
theorem OwnS.low {t : TypeId} {m : Nat} {w : World} {B B' n cap : Nat} {ao : Option Addr} {rs : List (List Value)} (h : OwnS t m w B ao n cap rs) (hB : B' ≤ B) : OwnS t m w B' ao n cap rs := by
  obtain ⟨h0, h1, h2⟩ := h
  refine ⟨h0, h1, ?_⟩
  rcases h2 with h2 | ⟨g, cap', cur, e, hg, hh, r⟩
  · exact .inl h2
  · exact .inr ⟨g, cap', cur, e, Nat.le_trans hB hg, hh, r⟩
/-- It lies outside what was written. -/
theorem OwnS.apart {t : TypeId} {m : Nat} {w w' : World} {B n cap lo hi : Nat} {ao : Option Addr} {rs : List (List Value)} (h : OwnS t m w B ao n cap rs) (ha : Apart lo hi w w') (ho : ∀ k, oblk ao = some k → ¬ (lo ≤ k ∧ k < hi)) : OwnS t m w' B ao n cap rs := by
  obtain ⟨h0, h1, h2⟩ := h
  refine ⟨h0, h1, ?_⟩
  rcases h2 with h2 | ⟨g, cap', cur, e, hg, hh, r⟩
  · exact .inl h2
  · have e' := e
    simp only [Value.slice.injEq] at e'
    exact .inr ⟨g, cap', cur, e, hg, (ha.block g (blk_lt hh) (ho g (by rw [e'.1]; rfl))).trans hh, r⟩

/-- A slice at that address, of that room, reads as these structs of m cells. -/
structure Rows' (m : Nat) (w : World) (ao : Option Addr) (cap : Nat) (rs : List (List Value)) : Prop where
  le : rs.length ≤ cap
  cell : ∀ (k : Nat) (h : k < rs.length) (c : Nat) v, rs[k][c]? = some v → ∃ b o, ao = some ⟨b, o, none⟩ ∧ w.cell? ⟨b, o + k * m + c, none⟩ = some v
  each : ∀ r ∈ rs, r.length = m ∧ ∀ v ∈ r, v.oneCell' = true
  nil0 : ao = none → cap = 0

theorem Rows'.step {m : Nat} {w w' : World} {ao : Option Addr} {cap : Nat} {rs : List (List Value)} (h : Rows' m w ao cap rs) (hb : Below w.heap.size w w') : Rows' m w' ao cap rs :=
  ⟨h.le, fun k hk c v hv => by obtain ⟨b, o, rfl, hc⟩ := h.cell k hk c v hv; exact ⟨b, o, rfl, (hb.cell (p := ⟨b, o + k * m + c, none⟩) (lt_cell (q := ⟨b, o + k * m + c, none⟩) hc)).trans hc⟩, h.each, h.nil0⟩

theorem OwnS.cell {t : TypeId} {m : Nat} {w : World} {B n cap : Nat} {ao : Option Addr} {rs : List (List Value)} (h : OwnS t m w B ao n cap rs) (j : Nat) (hj : j < rs.length) (c : Nat) (v : Value) (hv : rs[j][c]? = some v) : ∃ b, ao = some ⟨b, 0, none⟩ ∧ w.cell? ⟨b, j * m + c, none⟩ = some v := by
  have hc : c < m := by have := (List.getElem?_eq_some_iff.1 hv).1; rwa [h.1 _ (List.getElem_mem hj)] at this
  have hn := h.len (by omega)
  obtain ⟨h0, h1, h2⟩ := h
  rcases h2 with ⟨e, e0⟩ | ⟨g, cap', cur, e, hg, hh, hle, hm, hsz, ht⟩
  · omega
  · simp only [Value.slice.injEq] at e
    refine ⟨g, e.1, ?_⟩
    have hx : cur.toList[j * m + c]? = some v := by
      have h3 : (cur.toList.take (n * m))[j * m + c]? = some v := by rw [ht, flat_get h0 j c hj hc, hv]
      rw [List.getElem?_take] at h3
      have h4 : j * m + c < n * m := by
        have : (j + 1) * m ≤ n * m := Nat.mul_le_mul_right m (by omega)
        rw [Nat.succ_mul] at this
        omega
      simpa [h4] using h3
    simp only [World.cell?, hh]
    simpa using hx
theorem OwnS.rows {t : TypeId} {m : Nat} {w : World} {B n cap : Nat} {ao : Option Addr} {rs : List (List Value)} (h : OwnS t m w B ao n cap rs) (hm : 0 < m) (h1 : ∀ r ∈ rs, ∀ v ∈ r, v.oneCell' = true) : Rows' m w ao cap rs := by
  refine ⟨?_, fun k hk c v hv => ?_, fun r hr => ⟨h.1 r hr, h1 r hr⟩, fun e => ?_⟩
  · have hn := h.len hm
    obtain ⟨_, _, h2⟩ := h
    rcases h2 with ⟨e, e0⟩ | ⟨g, cap', cur, e, hg, hh, hle, _⟩
    · omega
    · simp only [Value.slice.injEq] at e
      omega
  · obtain ⟨b, e, hc⟩ := h.cell k hk c v hv
    exact ⟨b, 0, e, by rw [Nat.zero_add]; exact hc⟩
  · obtain ⟨_, _, h2⟩ := h
    rcases h2 with ⟨e', e0⟩ | ⟨g, cap', cur, e', _⟩
    · simp only [Value.slice.injEq] at e'
      exact e'.2.2
    · simp only [Value.slice.injEq] at e'
      rw [e] at e'
      cases e'.1
theorem Rows'.take {m : Nat} {w : World} {ao : Option Addr} {cap : Nat} {rs : List (List Value)} (h : Rows' m w ao cap rs) (n : Nat) : Rows' m w ao cap (rs.take n) := by
  refine ⟨Nat.le_trans (by rw [List.length_take]; omega) h.le, fun k hk c v hv => ?_, fun r hr => h.each r (List.mem_of_mem_take hr), h.nil0⟩
  have hk' : k < rs.length := by rw [List.length_take] at hk; omega
  exact h.cell k hk' c v (by simpa using hv)
/-- 's[i:]': its address where something is left of its room. -/
theorem Rows'.drop {m : Nat} {w : World} {b o : Nat} {cap : Nat} {rs : List (List Value)} (h : Rows' m w (some ⟨b, o, none⟩) cap rs) (n : Nat) (hn : n ≤ rs.length) : Rows' m w (some ⟨b, o + n * m, none⟩) (cap - n) (rs.drop n) := by
  have hle := h.le
  refine ⟨by rw [List.length_drop]; omega, fun k hk c v hv => ?_, fun r hr => h.each r (List.mem_of_mem_drop hr), (by simp)⟩
  have hk' : n + k < rs.length := by rw [List.length_drop] at hk; omega
  obtain ⟨b', o', e, hc⟩ := h.cell (n + k) hk' c v (by simpa using hv)
  cases e
  exact ⟨b, o + n * m, rfl, by rw [show o + n * m + k * m + c = o + (n + k) * m + c by rw [Nat.add_mul]; omega]; exact hc⟩
/-- Where nothing is left. -/
theorem Rows'.none_ (m : Nat) (w : World) (ad : Addr) (cap : Nat) : Rows' m w (some ad) cap [] :=
  ⟨Nat.zero_le _, fun _ h => absurd h (Nat.not_lt_zero _), fun _ h => absurd h List.not_mem_nil, (by simp)⟩
theorem Rows'.nil (m : Nat) (w : World) : Rows' m w none 0 [] :=
  ⟨Nat.zero_le _, fun _ h => absurd h (Nat.not_lt_zero _), fun _ h => absurd h List.not_mem_nil, fun _ => rfl⟩
theorem Rows'.lit (m : Nat) (w : World) (t : TypeId) (r : List Value) (o : Obj) (ho : o = .cells r.toArray t) (hr : r.length = m) (h1 : ∀ v ∈ r, v.oneCell' = true) : Rows' m (w.alloc o) (some ⟨w.heap.size, 0, none⟩) 1 [r] := by
  subst ho
  refine ⟨Nat.le_refl _, fun k hk c v hv => ⟨w.heap.size, 0, rfl, ?_⟩, fun x hx => ?_, (by simp)⟩
  · have hk0 : k = 0 := by simpa using hk
    subst hk0
    simp only [Nat.zero_mul, Nat.zero_add]
    exact blk_cell (heap_alloc_new w (.cells r.toArray t)) (by simpa using hv)
  · rw [List.mem_singleton.1 hx]; exact ⟨hr, h1⟩

theorem ownS_shape {t : TypeId} {m : Nat} {w : World} {B n : Nat} {v : Value} {xs : List Value} (h : w.ownsRow B t m v n xs) : ∃ ao cap, v = .slice ao n cap := by
  rcases h.2 with ⟨rfl, rfl⟩ | ⟨g, cap, cur, rfl, _⟩
  · exact ⟨_, _, rfl⟩
  · exact ⟨_, _, rfl⟩

/-- 'append(out, src...)' of structs, out the call's own: one law for whatever source. -/
theorem wp_concatS {w : World} {o : Oper} {a : Act} {K : Act → World → Prop} {Q : Exit → Act → World → Prop} (ts te : TypeId) (m by_ : Nat) (z : Value) (s x : Operand)
    (ho : o.op = .call { callee := .builtin .append, args := #[s, x], argTypes := #[ts, ts] }) (hts : Tryd.prog.underlying ts = some (.slice te)) (hte : (Tryd.prog.info? te).map (fun i => (i.zero, i.size, i.bytes)) = some (some z, m, by_)) (hzs : z.cells.size = m) (hm0 : 0 < m) (hby : by_ ≤ 1000) (B : Nat) (w0 : World)
    (ao ao2 : Option Addr) (n cap k cap2 : Nat) (rs new : List (List Value)) (hs : a.eval s = .slice ao n cap) (hown : OwnS te m w B ao n cap rs) (hx : a.eval x = .slice ao2 k cap2) (hk : k = new.length) (hL : Rows' m w ao2 cap2 new)
    (hb : Below B w0 w) (hB : B ≤ w.heap.size) (hlen : n + k ≤ 1000000)
    (h : ∀ ao' cap' w', Hid (OwnS te m w' B ao' (n + k) cap' (rs ++ new)) → Hid (Below B w0 w') → Hid (w.grownBy w' (oblk ao)) → K (a.put o.dst (.slice ao' (n + k) cap')) w') : o.wp Tryd.prog a w K Q := by
  obtain ⟨i0, hi, hz0, hz1, hz2⟩ := info_parts hte
  have hbl := hown.blk
  have hob : (Value.slice ao n cap).ownBlock = oblk ao := by cases ao <;> rfl
  have hln := flat_len (fun r hr => (hL.each r hr).1)
  have key : ∀ ad, ao2 = some ad → o.wp Tryd.prog a w K Q := by
    rintro ad rfl
    refine wp_append_own w s x ts ho B te i0 z m by_ hts hi hz0 hz1 hz2 hzs hm0 _ n rs.flatten hs hown.2 ad k cap2 new.flatten hx (by rw [hln, hk]) ?_ ?_ (by unfold maxLen; omega) (Nat.le_trans (Nat.mul_le_mul hlen hby) (by decide)) hB ?_
    · intro j u hj
      have hj' : j < new.length * m := by have := (List.getElem?_eq_some_iff.1 hj).1; rwa [hln] at this
      have hd : j / m < new.length := (Nat.div_lt_iff_lt_mul hm0).2 hj'
      have hr : j % m < m := Nat.mod_lt _ hm0
      have he : j / m * m + j % m = j := by rw [Nat.mul_comm]; exact Nat.div_add_mod j m
      have hu : new[j / m][j % m]? = some u := by rw [← flat_get (fun r hr => (hL.each r hr).1) (j / m) (j % m) hd hr, he]; exact hj
      obtain ⟨b', o', e, hc⟩ := hL.cell (j / m) hd (j % m) u hu
      cases e
      rw [Addr.add_lit]
      rw [show o' + j / m * m + j % m = o' + j by omega] at hc
      exact hc
    · intro u hu
      obtain ⟨r, hr, hur⟩ := List.mem_flatten.1 hu
      exact (hL.each r hr).2 u hur
    · intro v' w' hown' hgrow _
      obtain ⟨ao', cap', rfl⟩ := ownS_shape hown'
      rw [hob] at hgrow
      refine h ao' cap' w' (Hid.in ⟨fun r hr => ?_, ?_⟩) (Hid.in ?_) (Hid.in hgrow)
      · rcases List.mem_append.1 hr with hr | hr
        · exact hown.1 r hr
        · exact (hL.each r hr).1
      · rw [List.flatten_append]
        exact hown'
      · exact hb.grown hgrow hB (fun k hk => (hbl k hk).1)
  cases ao2 with
  | some ad => exact key ad rfl
  | none =>
    have hc0 := hL.nil0 rfl
    subst hc0
    have h0 : new = [] := List.length_eq_zero_iff.1 (by have := hL.le; omega)
    subst h0
    have hk0 : k = 0 := hk
    subst hk0
    have hrun := run_append_owned_none (P := Tryd.prog) (w := w) B ts o.type te i0 m hts hi (.slice ao n cap) n rs.flatten hown.2
    unfold Oper.wp
    simp [execOp, ho, resolve, invoke, builtin, hs, hx, hrun, Result.andThen]
    exact h ao cap w (Hid.in (by rw [List.append_nil]; exact hown)) (Hid.in hb) (Hid.in (grown_of_below (Below.refl _ _) _))

theorem wpList_concatS {w : World} {ops : Array Oper} {rest : List Oper} {o : Oper} {a : Act} {Q : Exit → Act → World → Prop} (hgd : o.guard = none) (ts te : TypeId) (m by_ : Nat) (z : Value) (s x : Operand)
    (ho : o.op = .call { callee := .builtin .append, args := #[s, x], argTypes := #[ts, ts] }) (hts : Tryd.prog.underlying ts = some (.slice te)) (hte : (Tryd.prog.info? te).map (fun i => (i.zero, i.size, i.bytes)) = some (some z, m, by_)) (hzs : z.cells.size = m) (hm0 : 0 < m) (hby : by_ ≤ 1000) (B : Nat) (w0 : World)
    (ao ao2 : Option Addr) (n cap k cap2 : Nat) (rs new : List (List Value)) (hs : a.eval s = .slice ao n cap) (hown : OwnS te m w B ao n cap rs) (hx : a.eval x = .slice ao2 k cap2) (hk : k = new.length) (hL : Rows' m w ao2 cap2 new)
    (hb : Below B w0 w) (hB : B ≤ w.heap.size) (hlen : n + k ≤ 1000000)
    (h : ∀ ao' cap' w', Hid (OwnS te m w' B ao' (n + k) cap' (rs ++ new)) → Hid (Below B w0 w') → Hid (w.grownBy w' (oblk ao)) → wpList Tryd.prog ops Q rest (a.put o.dst (.slice ao' (n + k) cap')) w') : wpList Tryd.prog ops Q (o :: rest) a w :=
  wpList_plain hgd fun _ hK => wp_concatS ts te m by_ z s x ho hts hte hzs hm0 hby B w0 ao ao2 n cap k cap2 rs new hs hown hx hk hL hb hB hlen fun ao' cap' w' h1 h2 h3 => hK _ _ (h ao' cap' w' h1 h2 h3)

theorem step_concatS {w : World} {ops : Array Oper} {o : Oper} {a : Act} {K : Act → World → Prop} {Q : Exit → Act → World → Prop} {E : Prop} (hgd : o.guard = none) (ts te : TypeId) (m by_ : Nat) (z : Value) (s x : Operand)
    (ho : o.op = .call { callee := .builtin .append, args := #[s, x], argTypes := #[ts, ts] }) (hts : Tryd.prog.underlying ts = some (.slice te)) (hte : (Tryd.prog.info? te).map (fun i => (i.zero, i.size, i.bytes)) = some (some z, m, by_)) (hzs : z.cells.size = m) (hm0 : 0 < m) (hby : by_ ≤ 1000) (B : Nat) (w0 : World)
    (ao ao2 : Option Addr) (n cap k cap2 : Nat) (rs new : List (List Value)) (hs : a.eval s = .slice ao n cap) (hown : OwnS te m w B ao n cap rs) (hx : a.eval x = .slice ao2 k cap2) (hk : k = new.length) (hL : Rows' m w ao2 cap2 new)
    (hb : Below B w0 w) (hB : B ≤ w.heap.size) (hlen : n + k ≤ 1000000)
    (h : ∀ ao' cap' w', Hid (OwnS te m w' B ao' (n + k) cap' (rs ++ new)) → Hid (Below B w0 w') → Hid (w.grownBy w' (oblk ao)) → K (a.put o.dst (.slice ao' (n + k) cap')) w') :
    if Region.wanted o (yielded ops a.tmps) = true then Oper.wp Tryd.prog o a w K Q else E := by
  have hw : Region.wanted o (yielded ops a.tmps) = true := by simp [Region.wanted, hgd]
  rw [if_pos hw]
  exact wp_concatS ts te m by_ z s x ho hts hte hzs hm0 hby B w0 ao ao2 n cap k cap2 rs new hs hown hx hk hL hb hB hlen h

end Go.Proofs.YtakomlmbdienpaaDoor
