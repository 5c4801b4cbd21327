/- DERIVED of the program: pools of messages in memory (slots that hold slices of the call's own): what is read, what is written into one. Own work. -/
import Derived.Test.YtakomlmbdienpaaDoorFbPure
import Derived.Test.YtakomlmbdienpaaDoorGenE
import Derived.Test.YtakomlmbdienpaaDoorSgF
import Derived.Deep.MidRow
namespace Go.Proofs.YtakomlmbdienpaaDoor
open Go.RowKit Go.Extern.Stop Go.Stop Go.Extern

/-- Old blocks that aren't listed are as they were. -/
structure Fr (S : List Nat) (w w' : World) : Prop where
  os : w'.os = w.os
  tape : w'.tape = w.tape
  output : w'.output = w.output
  size : w.heap.size ≤ w'.heap.size
  block : ∀ k, k < w.heap.size → k ∉ S → w'.heap[k]? = w.heap[k]?
theorem Fr.of_below {S : List Nat} {w w' : World} (h : Below w.heap.size w w') : Fr S w w' := ⟨h.os, h.tape, h.output, h.size, fun k hk _ => h.block k hk⟩
theorem Fr.refl (S : List Nat) (w : World) : Fr S w w := Fr.of_below (Below.refl _ _)
theorem Fr.of_grown {S : List Nat} {w w' : World} {row : Option Nat} (h : w.grownBy w' row) (hr : ∀ k, row = some k → k ∈ S) : Fr S w w' :=
  ⟨h.os, h.tape, h.output, h.size, fun k hk hn => h.block k hk (fun e => hn (hr k e.symm))⟩
theorem Fr.trans {S : List Nat} {w w1 w2 : World} (h : Fr S w w1) (h' : Fr S w1 w2) : Fr S w w2 :=
  ⟨h'.os.trans h.os, h'.tape.trans h.tape, h'.output.trans h.output, Nat.le_trans h.size h'.size, fun k hk ho => (h'.block k (Nat.lt_of_lt_of_le hk h.size) ho).trans (h.block k hk ho)⟩
theorem Fr.setCell {S : List Nat} {w w' : World} (h : Fr S w w') {q i : Nat} (v : Value) (hq : q ∈ S) : Fr S w (w'.setCell ⟨q, i, none⟩ v) :=
  ⟨h.os, h.tape, h.output, by simpa [World.setCell] using h.size, fun k hk ho => (Below.heap_setCell _ _ _ k (fun e => ho (by rw [e]; exact hq))).trans (h.block k hk ho)⟩
theorem Fr.below {S : List Nat} {B : Nat} {w0 w w' : World} (h : Fr S w w') (hb : Below B w0 w) (hS : ∀ k ∈ S, B ≤ k) (hB : B ≤ w.heap.size) : Below B w0 w' :=
  ⟨h.os.trans hb.os, h.tape.trans hb.tape, h.output.trans hb.output, Nat.le_trans hb.size h.size, fun k hk => (h.block k (by omega) (fun hm => absurd (hS k hm) (by omega))).trans (hb.block k hk)⟩
theorem Fr.cell {S : List Nat} {w w' : World} (h : Fr S w w') {q o : Nat} {v : Value} (hc : w.cell? ⟨q, o, none⟩ = some v) (hq : q ∉ S) : w'.cell? ⟨q, o, none⟩ = some v := by
  have hl := lt_cell hc
  simp only [World.cell?] at hc ⊢
  rw [h.block q hl hq]
  exact hc
theorem OwnA.fr {t : TypeId} {m : Nat} {w w' : World} {B n cap : Nat} {ao : Option Addr} {rs : List (List Value)} {S : List Nat} (h : OwnA t m w B ao n cap rs) (hf : Fr S w w') (hn : ∀ k, oblk ao = some k → k ∉ S) : OwnA t m w' B ao n cap rs :=
  h.keep fun k hk => by obtain ⟨_, cur, hc⟩ := h.blk k hk; exact hf.block k (blk_lt hc) (hn k hk)
theorem grown_trans' {w w1 w2 : World} {row : Option Nat} (h1 : w.grownBy w1 row) (h2 : w1.grownBy w2 row) : w.grownBy w2 row :=
  ⟨h2.os.trans h1.os, h2.tape.trans h1.tape, h2.output.trans h1.output, Nat.le_trans h1.size h2.size, fun k hk hne => (h2.block k (Nat.lt_of_lt_of_le hk h1.size) hne).trans (h1.block k hk hne)⟩

/-- A message's cells, as a list. -/
def mc (m : M13) : List Value := (mv m).toList
theorem mc_eq (k c l t o e w_ v d0 d1 d2 d3 : Int) (h : Bool) : mc (k, c, l, t, o, e, w_, v, d0, d1, d2, d3, h) = [.int .i64 k, .int .i64 c, .int .i64 l, .int .i64 t, .int .i64 o, .int .i64 e, .int .i64 w_, .int .u32 v, .int .u32 d0, .int .u32 d1, .int .u32 d2, .int .u32 d3, .bool h] := rfl
theorem mc_arr (m : M13) : (mc m).toArray = mv m := by unfold mc; exact Array.toArray_toList
theorem mc_len (m : M13) : (mc m).length = 13 := by obtain ⟨k, c, l, t, o, e, w_, v, d0, d1, d2, d3, h⟩ := m; rfl
theorem mc_one (m : M13) : ∀ v ∈ mc m, v.oneCell' = true := by
  obtain ⟨k, c, l, t, o, e, w_, v, d0, d1, d2, d3, h⟩ := m
  intro x hx
  simp only [mc_eq, List.mem_cons, List.not_mem_nil, or_false] at hx
  rcases hx with rfl | rfl | rfl | rfl | rfl | rfl | rfl | rfl | rfl | rfl | rfl | rfl | rfl <;> rfl
theorem mcs_each (L : List M13) : ∀ r ∈ L.map mc, r.length = 13 ∧ ∀ v ∈ r, v.oneCell' = true := by
  intro r hr
  obtain ⟨x, _, rfl⟩ := List.mem_map.1 hr
  exact ⟨mc_len x, mc_one x⟩
theorem mcs_one (L : List M13) : ∀ r ∈ L.map mc, ∀ v ∈ r, v.oneCell' = true := fun r hr => (mcs_each L r hr).2
theorem Tryd.infoMsg : (Tryd.prog.info? 32).map (fun i => (i.zero, i.size, i.bytes)) = some (some (.agg (mv zero13)), 13, 80) := by kernel_rfl
theorem Tryd.sizeMsg : (Tryd.prog.info? 32).map (·.size) = some 13 := by kernel_rfl

/-- A row of messages that is read: the message at a place, whole. -/
theorem Rows'.msg {w : World} {ao : Option Addr} {cap : Nat} {L : List M13} (h : Rows' 13 w ao cap (L.map mc)) (j : Nat) (hj : j < L.length) : ∃ b o m, ao = some ⟨b, o, none⟩ ∧ L[j]? = some m ∧ w.rangeAt b (o + j * 13) (mc m) := by
  have hj' : j < (L.map mc).length := by simpa using hj
  have hm : L[j]? = some L[j] := List.getElem?_eq_getElem hj
  obtain ⟨x, hx⟩ : ∃ x, L[j] = x := ⟨_, rfl⟩
  obtain ⟨k, c, l, t, o, e, w_, v, d0, d1, d2, d3, hh⟩ := x
  obtain ⟨b, of, e1, _⟩ := h.cell j hj' 0 (.int .i64 k) (by rw [List.getElem_map, hx]; rfl)
  refine ⟨b, of, _, e1, by rw [hm, hx], fun i u hi => ?_⟩
  obtain ⟨b', o', e2, hc⟩ := h.cell j hj' i u (by rw [List.getElem_map, hx]; exact hi)
  rw [e1] at e2
  cases e2
  exact hc
theorem OwnA.msg {t : TypeId} {w : World} {B n cap : Nat} {ao : Option Addr} {L : List M13} (h : OwnA t 13 w B ao n cap (L.map mc)) (j : Nat) (hj : j < L.length) : ∃ b o m, ao = some ⟨b, o, none⟩ ∧ L[j]? = some m ∧ w.rangeAt b (o + j * 13) (mc m) :=
  (h.rows (mcs_one L)).msg j hj
theorem OwnA.mlen {t : TypeId} {w : World} {B n cap : Nat} {ao : Option Addr} {L : List M13} (h : OwnA t 13 w B ao n cap (L.map mc)) : L.length = n := by
  have := h.len
  rwa [List.length_map] at this

/-- A pool in memory: where its slice stands, the slice, the messages. -/
structure Sl where
  (sb so : Nat)
  ao : Option Addr
  cap : Nat
  L : List M13
def Sl.val (c : Sl) : Value := .slice c.ao c.L.length c.cap
/-- Pools in memory, apart from each other. -/
structure Slots (w : World) (C : List Sl) : Prop where
  slot : ∀ c ∈ C, ∃ cur, w.heap[c.sb]? = some (.cells cur 44 (0, 0)) ∧ cur[c.so]? = some c.val
  own : ∀ c ∈ C, OwnA 32 13 w 0 c.ao c.L.length c.cap (c.L.map mc)
  dist : ∀ (i j : Nat) (c d : Sl), i ≠ j → C[i]? = some c → C[j]? = some d → ¬ (c.sb = d.sb ∧ c.so = d.so) ∧ ∀ k, oblk c.ao = some k → oblk d.ao ≠ some k
  sep : ∀ c ∈ C, ∀ d ∈ C, ∀ k, oblk c.ao = some k → k ≠ d.sb
/-- Their blocks. -/
def bksS (C : List Sl) : List Nat := C.flatMap fun c => c.sb :: (oblk c.ao).toList
theorem mem_bksS {C : List Sl} {k : Nat} : k ∈ bksS C ↔ ∃ c ∈ C, k = c.sb ∨ oblk c.ao = some k := by
  unfold bksS
  simp only [List.mem_flatMap, List.mem_cons, Option.mem_toList]
theorem Slots.memb {w : World} {C : List Sl} (h : Slots w C) : ∀ k ∈ bksS C, k < w.heap.size := by
  intro k hk
  obtain ⟨c, hc, hk⟩ := mem_bksS.1 hk
  rcases hk with rfl | hk
  · obtain ⟨cur, h1, _⟩ := h.slot c hc
    exact blk_lt h1
  · obtain ⟨_, cur, h1⟩ := (h.own c hc).blk k hk
    exact blk_lt h1
theorem Slots.keep {w w' : World} {C : List Sl} (h : Slots w C) (hb : ∀ k ∈ bksS C, w'.heap[k]? = w.heap[k]?) : Slots w' C :=
  ⟨fun c hc => by obtain ⟨cur, h1, h2⟩ := h.slot c hc; exact ⟨cur, (hb _ (mem_bksS.2 ⟨c, hc, .inl rfl⟩)).trans h1, h2⟩,
   fun c hc => (h.own c hc).keep (fun k hk => hb k (mem_bksS.2 ⟨c, hc, .inr hk⟩)), h.dist, h.sep⟩
theorem Slots.fr {w w' : World} {C : List Sl} {T : List Nat} (h : Slots w C) (hf : Fr T w w') (hd : ∀ k ∈ bksS C, k ∉ T) : Slots w' C :=
  h.keep fun k hk => hf.block k (h.memb k hk) (hd k hk)
theorem Slots.step {w w' : World} {C : List Sl} (h : Slots w C) (hb : Below w.heap.size w w') : Slots w' C :=
  h.keep fun k hk => hb.block k (h.memb k hk)
theorem Slots.cell {w : World} {C : List Sl} (h : Slots w C) {i : Nat} {c : Sl} (hc : C[i]? = some c) : w.cell? ⟨c.sb, c.so, none⟩ = some c.val ∧ w.frozen? ⟨c.sb, c.so, none⟩ = false := by
  obtain ⟨cur, h1, h2⟩ := h.slot c (List.mem_of_getElem? hc)
  exact ⟨blk_cell h1 h2, blk_free h1⟩
/-- A pool became another one: in its own block, or a new one. -/
theorem Slots.upd {w w1 w2 : World} {C : List Sl} {i : Nat} {c : Sl} (h : Slots w C) (hc : C[i]? = some c) (hg : w.grownBy w1 (oblk c.ao)) (ao' : Option Addr) (cap' : Nat) (L' : List M13) (hO : OwnA 32 13 w1 0 ao' L'.length cap' (L'.map mc))
    (hn : ∀ k, oblk ao' = some k → oblk c.ao = some k ∨ w.heap.size ≤ k) (hb : Below w1.heap.size (w1.setCell ⟨c.sb, c.so, none⟩ (.slice ao' L'.length cap')) w2) :
    Slots w2 (C.set i ⟨c.sb, c.so, ao', cap', L'⟩) ∧ Fr (bksS C) w w2 ∧ (∀ k ∈ bksS (C.set i ⟨c.sb, c.so, ao', cap', L'⟩), k ∈ bksS C ∨ w.heap.size ≤ k) := by
  have hcm := List.mem_of_getElem? hc
  have hil : i < C.length := (List.getElem?_eq_some_iff.1 hc).1
  obtain ⟨cur, s1, s2⟩ := h.slot c hcm
  have hsl := blk_lt s1
  have hcs : oblk c.ao ≠ some c.sb := fun e => h.sep c hcm c hcm _ e rfl
  have hsz := hg.size
  have has : oblk ao' ≠ some c.sb := fun e => by rcases hn _ e with h1 | h1; (· exact hcs h1); omega
  have same : ∀ k, k < w1.heap.size → k ≠ c.sb → w2.heap[k]? = w1.heap[k]? := fun k hk hne => by
    rw [hb.block k hk, Below.heap_setCell _ _ _ k hne]
  have sbk : w2.heap[c.sb]? = some (.cells (cur.setIfInBounds c.so (.slice ao' L'.length cap')) 44 (0, 0)) := by
    rw [hb.block _ (by omega)]
    exact blk_set _ ((hg.block c.sb hsl (fun e => hcs e.symm)).trans s1)
  have hso : c.so < cur.size := (Array.getElem?_eq_some_iff.1 s2).1
  have set_eq : ∀ {j : Nat} {d : Sl}, (C.set i ⟨c.sb, c.so, ao', cap', L'⟩)[j]? = some d → (j = i ∧ d = ⟨c.sb, c.so, ao', cap', L'⟩) ∨ (j ≠ i ∧ C[j]? = some d) := by
    intro j d hd
    by_cases e : i = j
    · subst e
      rw [List.getElem?_set_self hil] at hd
      exact .inl ⟨rfl, (Option.some.inj hd).symm⟩
    · rw [List.getElem?_set_ne e] at hd
      exact .inr ⟨fun e2 => e e2.symm, hd⟩
  have old : ∀ {j : Nat} {d : Sl}, j ≠ i → C[j]? = some d → ∀ k, oblk d.ao = some k → w2.heap[k]? = w.heap[k]? := by
    intro j d hj hd k hk
    have hdm := List.mem_of_getElem? hd
    have hkl : k < w.heap.size := h.memb k (mem_bksS.2 ⟨d, hdm, .inr hk⟩)
    rw [same k (by omega) (h.sep d hdm c hcm k hk)]
    exact hg.block k hkl (fun e => (h.dist j i d c hj hd hc).2 k hk e.symm)
  refine ⟨⟨fun d hd => ?_, fun d hd => ?_, fun j l d e hjl hd he => ?_, fun d hd e he k hk => ?_⟩, ?_, fun k hk => ?_⟩
  · obtain ⟨j, hj⟩ := List.mem_iff_getElem?.1 hd
    rcases set_eq hj with ⟨_, rfl⟩ | ⟨hji, hdj⟩
    · exact ⟨_, sbk, by rw [Array.getElem?_setIfInBounds_self_of_lt hso]; rfl⟩
    · have hdm := List.mem_of_getElem? hdj
      obtain ⟨cu, t1, t2⟩ := h.slot d hdm
      by_cases e : d.sb = c.sb
      · rw [e] at t1
        rw [s1] at t1
        cases t1
        rw [e]
        refine ⟨_, sbk, ?_⟩
        have hne : c.so ≠ d.so := fun e2 => (h.dist j i d c hji hdj hc).1 ⟨e, e2.symm⟩
        rw [Array.getElem?_setIfInBounds_ne hne]
        exact t2
      · have hdl := blk_lt t1
        have hda : some d.sb ≠ oblk c.ao := fun e2 => h.sep c hcm d hdm _ e2.symm rfl
        exact ⟨cu, (same d.sb (by omega) e).trans ((hg.block d.sb hdl hda).trans t1), t2⟩
  · obtain ⟨j, hj⟩ := List.mem_iff_getElem?.1 hd
    rcases set_eq hj with ⟨_, rfl⟩ | ⟨hji, hdj⟩
    · refine hO.keep (fun k hk => ?_)
      obtain ⟨_, cu, hcu⟩ := hO.blk k hk
      exact same k (blk_lt hcu) (fun e => has (by rw [← e]; exact hk))
    · exact (h.own d (List.mem_of_getElem? hdj)).keep (old hji hdj)
  · rcases set_eq hd with ⟨rfl, rfl⟩ | ⟨hji, hdj⟩
    · rcases set_eq he with ⟨rfl, rfl⟩ | ⟨hli, hel⟩
      · exact absurd rfl hjl
      · have hd' := h.dist j l c e hjl hc hel
        refine ⟨hd'.1, fun k hk => ?_⟩
        rcases hn k hk with h1 | h1
        · exact hd'.2 k h1
        · intro e2
          have := h.memb k (mem_bksS.2 ⟨e, List.mem_of_getElem? hel, .inr e2⟩)
          omega
    · rcases set_eq he with ⟨rfl, rfl⟩ | ⟨hli, hel⟩
      · have hd' := h.dist j l d c hjl hdj hc
        refine ⟨hd'.1, fun k hk e2 => ?_⟩
        rcases hn k e2 with h1 | h1
        · exact hd'.2 k hk h1
        · have := h.memb k (mem_bksS.2 ⟨d, List.mem_of_getElem? hdj, .inr hk⟩)
          omega
      · exact h.dist j l d e hjl hdj hel
  · have esb : ∃ e' ∈ C, e'.sb = e.sb := by
      obtain ⟨l, hl⟩ := List.mem_iff_getElem?.1 he
      rcases set_eq hl with ⟨_, rfl⟩ | ⟨_, hel⟩
      · exact ⟨c, hcm, rfl⟩
      · exact ⟨e, List.mem_of_getElem? hel, rfl⟩
    obtain ⟨e', he', e3⟩ := esb
    rw [← e3]
    obtain ⟨j, hj⟩ := List.mem_iff_getElem?.1 hd
    rcases set_eq hj with ⟨_, rfl⟩ | ⟨_, hdj⟩
    · rcases hn k hk with h1 | h1
      · exact h.sep c hcm e' he' k h1
      · intro e2
        have := h.memb k (mem_bksS.2 ⟨e', he', .inl e2⟩)
        omega
    · exact h.sep d (List.mem_of_getElem? hdj) e' he' k hk
  · refine ⟨hb.os.trans hg.os, hb.tape.trans hg.tape, hb.output.trans hg.output, Nat.le_trans hsz (by simpa [World.setCell] using hb.size), fun k hk hn2 => ?_⟩
    rw [same k (by omega) (fun e => hn2 (mem_bksS.2 ⟨c, hcm, .inl e⟩))]
    exact hg.block k hk (fun e => hn2 (mem_bksS.2 ⟨c, hcm, .inr e.symm⟩))
  · obtain ⟨d, hd, hk⟩ := mem_bksS.1 hk
    obtain ⟨j, hj⟩ := List.mem_iff_getElem?.1 hd
    rcases set_eq hj with ⟨_, rfl⟩ | ⟨_, hdj⟩
    · rcases hk with rfl | hk
      · exact .inl (mem_bksS.2 ⟨c, hcm, .inl rfl⟩)
      · rcases hn k hk with h1 | h1
        · exact .inl (mem_bksS.2 ⟨c, hcm, .inr h1⟩)
        · exact .inr h1
    · exact .inl (mem_bksS.2 ⟨d, List.mem_of_getElem? hdj, hk⟩)

/-- The project's fabric in memory. -/
structure Fab (w : World) (q : Nat) (S : List Nat) (cs rm : Nat) (P : List (List M13)) : Prop where
  ex : ∃ pb pcap C, w.heap[q]? = some (.cells #[.int .i64 (cs : Int), .int .i64 (rm : Int), .slice (some ⟨pb, 0, none⟩) (2 + 2 * cs) pcap] 66 (0, 0)) ∧ Slots w C ∧ q ∉ bksS C ∧ C.map Sl.L = P ∧ (∀ (i : Nat) (c : Sl), C[i]? = some c → c.sb = pb ∧ c.so = i) ∧ S = q :: bksS C
  ok : FbOk cs rm P
theorem Fab.mem {w : World} {q cs rm : Nat} {S : List Nat} {P : List (List M13)} (h : Fab w q S cs rm P) : ∀ k ∈ S, k < w.heap.size := by
  obtain ⟨⟨pb, pcap, C, h1, h2, h3, h4, h5, rfl⟩, _⟩ := h
  intro k hk
  rcases List.mem_cons.1 hk with rfl | hk
  · exact blk_lt h1
  · exact h2.memb k hk
theorem Fab.fr {w w' : World} {q cs rm : Nat} {S T : List Nat} {P : List (List M13)} (h : Fab w q S cs rm P) (hf : Fr T w w') (hd : ∀ k ∈ S, k ∉ T) : Fab w' q S cs rm P := by
  obtain ⟨⟨pb, pcap, C, h1, h2, h3, h4, h5, rfl⟩, h6⟩ := h
  exact ⟨⟨pb, pcap, C, (hf.block q (blk_lt h1) (hd q List.mem_cons_self)).trans h1, h2.fr hf (fun k hk => hd k (List.mem_cons_of_mem _ hk)), h3, h4, h5, rfl⟩, h6⟩
theorem Fab.step {w w' : World} {q cs rm : Nat} {S : List Nat} {P : List (List M13)} (h : Fab w q S cs rm P) (hb : Below w.heap.size w w') : Fab w' q S cs rm P :=
  h.fr (Fr.of_below (S := []) hb) (fun _ _ hn => absurd hn List.not_mem_nil)
theorem Fab.far {w : World} {q cs rm k : Nat} {S : List Nat} {P : List (List M13)} (h : Fab w q S cs rm P) (hk : w.heap.size ≤ k) : k ∉ S := fun hm => by have := h.mem k hm; omega
theorem Fab.q {w : World} {q cs rm : Nat} {S : List Nat} {P : List (List M13)} (h : Fab w q S cs rm P) : q ∈ S := by
  obtain ⟨⟨pb, pcap, C, h1, h2, h3, h4, h5, rfl⟩, h6⟩ := h
  exact List.mem_cons_self
/-- A call made this of the fabric. -/
structure Turned (w w' : World) (q : Nat) (S S' : List Nat) (cs rm : Nat) (P : List (List M13)) : Prop where
  p : Fab w' q S' cs rm P
  f : Fr S w w'
  s : ∀ k ∈ S', k ∈ S ∨ w.heap.size ≤ k
theorem Turned.same {w w' : World} {q cs rm : Nat} {S : List Nat} {P : List (List M13)} (h : Fab w q S cs rm P) (hb : Below w.heap.size w w') : Turned w w' q S S cs rm P := ⟨h.step hb, Fr.of_below hb, fun _ hk => .inl hk⟩
theorem Turned.after {w w1 w' : World} {q cs rm : Nat} {S S' : List Nat} {P : List (List M13)} (hb : Below w.heap.size w w1) (h : Turned w1 w' q S S' cs rm P) : Turned w w' q S S' cs rm P :=
  ⟨h.p, (Fr.of_below hb).trans h.f, fun k hk => (h.s k hk).imp id (fun h1 => Nat.le_trans hb.size h1)⟩
theorem Turned.then {w w1 w' : World} {q cs rm : Nat} {S S' : List Nat} {P : List (List M13)} (h : Turned w w1 q S S' cs rm P) (hb : Below w1.heap.size w1 w') : Turned w w' q S S' cs rm P :=
  ⟨h.p.step hb, h.f.trans (Fr.of_below hb), h.s⟩
theorem Turned.trans {w w1 w2 : World} {q cs rm : Nat} {S S1 S2 : List Nat} {P P' : List (List M13)} (h : Turned w w1 q S S1 cs rm P) (h' : Turned w1 w2 q S1 S2 cs rm P') : Turned w w2 q S S2 cs rm P' := by
  refine ⟨h'.p, ⟨h'.f.os.trans h.f.os, h'.f.tape.trans h.f.tape, h'.f.output.trans h.f.output, Nat.le_trans h.f.size h'.f.size, fun k hk hn => ?_⟩, fun k hk => ?_⟩
  · refine (h'.f.block k (Nat.lt_of_lt_of_le hk h.f.size) (fun h1 => ?_)).trans (h.f.block k hk hn)
    rcases h.s k h1 with h2 | h2
    · exact hn h2
    · omega
  · rcases h'.s k hk with h1 | h1
    · exact h.s k h1
    · exact .inr (Nat.le_trans h.f.size h1)
/-- Below what was there ahead of the fabric. -/
theorem Turned.below {w0 w w' : World} {B q cs rm : Nat} {S S' : List Nat} {P : List (List M13)} (h : Turned w w' q S S' cs rm P) (hb : Below B w0 w) (hS : ∀ k ∈ S, B ≤ k) (hB : B ≤ w.heap.size) : Below B w0 w' ∧ ∀ k ∈ S', B ≤ k :=
  ⟨h.f.below hb hS hB, fun k hk => by rcases h.s k hk with h1 | h1; (· exact hS k h1); exact Nat.le_trans hB h1⟩

/-- The pool at a place, as it is read and as it is written anew. -/
theorem Fab.row {w : World} {q cs rm i : Nat} {S : List Nat} {P : List (List M13)} (h : Fab w q S cs rm P) (hi : i < 2 + 2 * cs) : ∃ pb pcap ao cap, w.heap[q]? = some (.cells #[.int .i64 (cs : Int), .int .i64 (rm : Int), .slice (some ⟨pb, 0, none⟩) (2 + 2 * cs) pcap] 66 (0, 0)) ∧
    w.cell? ⟨pb, i, none⟩ = some (.slice ao (lenF P i) cap) ∧ w.frozen? ⟨pb, i, none⟩ = false ∧ OwnA 32 13 w 0 ao (lenF P i) cap ((P.getD i []).map mc) ∧ oblk ao ≠ some pb ∧ oblk ao ≠ some q ∧ q ≠ pb ∧
    ∀ (w1 w2 : World) (ao' : Option Addr) (cap' : Nat) (L' : List M13), w.grownBy w1 (oblk ao) → OwnA 32 13 w1 0 ao' L'.length cap' (L'.map mc) → (∀ k, oblk ao' = some k → oblk ao = some k ∨ w.heap.size ≤ k) →
      Below w1.heap.size (w1.setCell ⟨pb, i, none⟩ (.slice ao' L'.length cap')) w2 → FbOk cs rm (P.set i L') → ∃ S', Turned w w2 q S S' cs rm (P.set i L') := by
  obtain ⟨⟨pb, pcap, C, h1, h2, h3, h4, h5, rfl⟩, h6⟩ := h
  have hlen : C.length = 2 + 2 * cs := by rw [← h6.len, ← h4, List.length_map]
  obtain ⟨c, hc⟩ : ∃ c, C[i]? = some c := ⟨_, List.getElem?_eq_getElem (by omega)⟩
  have hcm := List.mem_of_getElem? hc
  obtain ⟨e1, e2⟩ := h5 i c hc
  have hL : P.getD i [] = c.L := by rw [← h4]; simp [List.getD, hc]
  have hLn : lenF P i = c.L.length := by unfold lenF; rw [hL]
  obtain ⟨k1, k2⟩ := h2.cell hc
  rw [e1, e2] at k1 k2
  have hqb : q ≠ pb := fun e => h3 (mem_bksS.2 ⟨c, hcm, .inl (by rw [e1]; exact e)⟩)
  have hcq : oblk c.ao ≠ some q := fun e => h3 (mem_bksS.2 ⟨c, hcm, .inr e⟩)
  rw [hLn, hL]
  refine ⟨pb, pcap, c.ao, c.cap, h1, k1, k2, h2.own c hcm, fun e => h2.sep c hcm c hcm _ e e1.symm, hcq, hqb, fun w1 w2 ao' cap' L' hg hO hn hb hok => ?_⟩
  have hu := h2.upd (w2 := w2) hc hg ao' cap' L' hO hn (by rw [e1, e2]; exact hb)
  obtain ⟨u1, u2, u3⟩ := hu
  refine ⟨q :: bksS (C.set i ⟨c.sb, c.so, ao', cap', L'⟩), ⟨⟨pb, pcap, _, ?_, u1, fun hq => ?_, by rw [List.map_set, h4], fun j d hd => ?_, rfl⟩, hok⟩, ⟨u2.os, u2.tape, u2.output, u2.size, fun k hk hn2 => u2.block k hk (fun hm => hn2 (List.mem_cons_of_mem _ hm))⟩, fun k hk => ?_⟩
  · exact (u2.block q (blk_lt h1) h3).trans h1
  · rcases u3 q hq with h7 | h7
    · exact h3 h7
    · have := blk_lt h1; omega
  · by_cases e : i = j
    · subst e
      rw [List.getElem?_set_self (by omega)] at hd
      cases hd
      exact ⟨e1, e2⟩
    · rw [List.getElem?_set_ne e] at hd
      exact h5 j d hd
  · rcases List.mem_cons.1 hk with rfl | hk
    · exact .inl List.mem_cons_self
    · rcases u3 k hk with h7 | h7
      · exact .inl (List.mem_cons_of_mem _ h7)
      · exact .inr h7

end Go.Proofs.YtakomlmbdienpaaDoor
