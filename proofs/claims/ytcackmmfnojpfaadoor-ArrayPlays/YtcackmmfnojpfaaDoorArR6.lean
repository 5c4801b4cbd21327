/- DERIVED of the program: the document's own NewArray by its contract. Own work. -/
import Derived.Test.YtcackmmfnojpfaaDoorArR5
namespace Go.Proofs.YtcackmmfnojpfaaDoor
open Go.RowKit Go.Extern.Stop Go.Stop Go.Extern

theorem Tryd.infoU8 : (Tryd.prog.info? 5).map (fun i => (i.zero, i.size, i.bytes)) = some (some (.int .u8 0), 1, 1) := by kernel_rfl
theorem Tryd.infoREntry : (Tryd.prog.info? 46).map (fun i => (i.zero, i.size, i.bytes)) = some (some En.zero.val, 10, 56) := by kernel_rfl
theorem Tryd.infoREntries : (Tryd.prog.info? 53).map (fun i => (i.zero, i.size, i.bytes)) = some (some (.slice none 0 0), 1, 24) := by kernel_rfl

def newB (n : Nat) : Array Value := madeCells (Value.int .u8 0).cells n
theorem newB_at {n j : Nat} (h : j < n) : (newB n)[j]? = some (.int .u8 0) := by
  have := made_at #[.int .u8 0] n j 0 h (by decide)
  simp only [show (#[Value.int .u8 0] : Array Value).size = 1 from rfl, Nat.mul_one, Nat.add_zero] at this
  exact this

theorem make_bits (n : Nat) (hn : n ≤ 8) (w : World) : (Instr.makeSlice 55 (.int .i64 (n : Int)) (.int .i64 (n : Int))).run Tryd.prog w = .ok (.slice (some ⟨w.heap.size, 0, none⟩) n n) (w.alloc (.cells (newB n) 5)) := by
  obtain ⟨i0, hi, hz0, hz1, hz2⟩ := info_parts Tryd.infoU8
  have := run_make (P := Tryd.prog) w 55 5 i0 _ Tryd.underlying55 hi hz0 .i64 .i64 (n : Int) (n : Int) (by omega) (by omega) (by rw [hz2]; omega) (by omega)
  rw [hz1] at this
  simpa [newB] using this
theorem make_rents (n : Nat) (hn : n ≤ 8) (w : World) : (Instr.makeSlice 53 (.int .i64 (n : Int)) (.int .i64 (n : Int))).run Tryd.prog w = .ok (.slice (some ⟨w.heap.size, 0, none⟩) n n) (w.alloc (.cells (newE n) 46)) := by
  obtain ⟨i0, hi, hz0, hz1, hz2⟩ := info_parts Tryd.infoREntry
  have := run_make (P := Tryd.prog) w 53 46 i0 _ Tryd.underlying53 hi hz0 .i64 .i64 (n : Int) (n : Int) (by omega) (by omega) (by rw [hz2]; omega) (by omega)
  rw [hz1] at this
  simpa [newE] using this

/-- A row of which the first i ways are laid free. -/
def Laid (w : World) (g k i : Nat) : Prop := ∃ cs, w.heap[g]? = some (.cells cs 46 (0, 0)) ∧ ∀ j, j < k → ∀ (c : Nat) v, ((if j < i then En.zero.ref else En.zero).ec)[c]? = some v → cs[j * 10 + c]? = some v

theorem Laid.new (w : World) (k : Nat) : Laid (w.alloc (.cells (newE k) 46)) w.heap.size k 0 :=
  ⟨newE k, heap_alloc_new _ _, fun j hj c v hv => by rw [if_neg (Nat.not_lt_zero _)] at hv; exact newE_at hj hv⟩
theorem Laid.next {w : World} {g k i : Nat} (h : Laid w g k i) (hi : i < k) : Laid (w.setCell ⟨g, i * 10, none⟩ (.int .i64 (-1))) g k (i + 1) := by
  obtain ⟨cs, h1, h2⟩ := h
  refine ⟨_, blk_set _ h1, fun j hj c v hv => ?_⟩
  have hc : c < 10 := by have := (List.getElem?_eq_some_iff.1 hv).1; rwa [ec_len] at this
  by_cases hji : j = i
  · subst hji
    rw [if_pos (by omega)] at hv
    have hold := h2 j hj
    rw [if_neg (by omega)] at hold
    have hl := (Array.getElem?_eq_some_iff.1 (hold 0 _ rfl)).1
    rw [Nat.add_zero] at hl
    match c, hc, hv with
    | 0, _, hv => rw [Nat.add_zero, Array.getElem?_setIfInBounds_self_of_lt hl, ← hv]; rfl
    | c + 1, hc, hv =>
      rw [Array.getElem?_setIfInBounds_ne (by omega)]
      refine hold (c + 1) v (hv ▸ ?_)
      rfl
  · rw [Array.getElem?_setIfInBounds_ne (by omega)]
    refine h2 j hj c v ?_
    by_cases hlt : j < i
    · rw [if_pos (by omega)] at hv; rw [if_pos hlt]; exact hv
    · rw [if_neg (by omega)] at hv; rw [if_neg hlt]; exact hv
theorem Laid.same {w w' : World} {g k i : Nat} (h : Laid w g k i) (he : w'.heap[g]? = w.heap[g]?) : Laid w' g k i := by
  obtain ⟨cs, h1, h2⟩ := h
  exact ⟨cs, he.trans h1, h2⟩
theorem Laid.lt {w : World} {g k i : Nat} (h : Laid w g k i) : g < w.heap.size := by
  obtain ⟨cs, h1, _⟩ := h
  exact blk_lt h1

/-- The document's own array while it is made. -/
structure RMade (w : World) (R n k : Nat) (Ev : Value) (gs : List Nat) : Prop where
  q : w.heap[R + 1]? = some (.cells #[.int .i64 (n : Int), .int .i64 (k : Int), Ev, .slice (some ⟨R, 0, none⟩) n n] 57 (0, 0))
  b : w.heap[R]? = some (.cells (newB n) 5 (0, 0))
  own : w.ownsRow (R + 2) 53 1 Ev gs.length (gs.map fun g => Value.slice (some ⟨g, 0, none⟩) k k)
  v : ∀ g ∈ gs, R + 2 ≤ g ∧ Ev.ownBlock ≠ some g ∧ Laid w g k k
  nd : gs.Nodup

theorem RMade.whole {w : World} {R n k : Nat} {Ev : Value} {gs : List Nat} (h : RMade w R n k Ev gs) (hg : gs.length = n) (hn : n = 1 ∨ n = 2 ∨ n = 4 ∨ n = 8) (hk : k = 1 ∨ k = 2 ∨ k = 4 ∨ k = 8) : RArr w R w.heap.size R k (newA n k) := by
  have hl : (newA n k).length = n := by simp [newA]
  obtain ⟨o1, o2⟩ := h.own
  rcases o2 with ⟨_, e0⟩ | ⟨eb, ecap, cur, rfl, hg2, hh, hle, hm, hsz, ht⟩
  · omega
  · have hmem : ∀ i, i < n → gs.getD i 0 ∈ gs := fun i hi => by
      rw [List.getD_eq_getElem?_getD, List.getElem?_eq_getElem (by omega)]; exact List.getElem_mem _
    refine ⟨eb, ecap, fun i => gs.getD i 0, ⟨by rw [hl, ← hg]; rw [hg]; have := h.q; rw [hg] at this; exact this, ⟨_, h.b, fun i hi => by have := newB_at (n := n) (j := i) (by rw [hl] at hi; exact hi); simpa [newA] using this⟩, ⟨cur, hh, fun i hi => ?_⟩, fun i hi => ?_, fun i j hi hj hij => ?_, fun i hi => ?_, ?_, by rw [hl]; exact hn, hk, fun i hi => by simp [newA], fun i hi j hj hs => by simp [newA, En.zero] at hs⟩⟩
    · rw [hl] at hi
      have hx : (cur.toList.take (gs.length * 1))[i]? = some (.slice (some ⟨gs.getD i 0, 0, none⟩) k k) := by
        rw [ht, List.getElem?_map, List.getElem?_eq_getElem (by omega), List.getD_eq_getElem?_getD, List.getElem?_eq_getElem (by omega)]; rfl
      rw [List.getElem?_take, if_pos (by omega)] at hx
      simpa using hx
    · have hi' : i < n := by rw [hl] at hi; exact hi
      obtain ⟨_, _, cs, l1, l2⟩ := h.v _ (hmem i hi')
      refine ⟨cs, l1, fun j hj c v hv => ?_⟩
      have hj' : j < k := by simpa [newA] using hj
      have := l2 j hj' c v
      rw [if_pos hj'] at this
      exact this (by simpa [newA] using hv)
    · rw [hl] at hi hj
      rw [List.getD_eq_getElem?_getD, List.getD_eq_getElem?_getD, List.getElem?_eq_getElem (by omega), List.getElem?_eq_getElem (by omega)]
      have := List.pairwise_iff_getElem.1 h.nd
      simp only [Option.getD_some]
      rcases Nat.lt_or_ge i j with h1 | h1
      · exact this i j (by omega) (by omega) h1
      · exact fun e => this j i (by omega) (by omega) (by omega) e.symm
    · rw [hl] at hi
      obtain ⟨v1, v2, v3⟩ := h.v _ (hmem i hi)
      have := v3.lt
      refine ⟨fun e => v2 ?_, by omega, by omega, by omega, this⟩
      simp only [Value.ownBlock]
      rw [e]
    · have := blk_lt hh
      have := blk_lt h.q
      omega

theorem rnew_arg0 (w : World) (s k : Int) (hs : pB s = false) :
    Calls Tryd.prog 17 #[.int .i64 s, .int .i64 k] w fun r w' => r = .returned (.tuple #[.pointer none, .int .i64 1, .int .i64 0]) ∧ w' = w := by
  have HS := Hid.in hs
  clear hs
  go_enter Tryd.func17, Tryd.ntmps17
  go_wp2_with fail
  refine (ptwo_c _ false HS.out w).mono ?_
  rintro r w' ⟨rfl, rfl⟩
  go_wp2
  exact bodyPost_ret (v := .tuple #[.pointer none, .int .i64 1, .int .i64 0]) (by simp [results, Tryd.results17, go_sem]) rfl ⟨rfl, rfl⟩
theorem rnew_arg1 (w : World) (s k : Int) (hs : pB s = true) (hk : pB k = false) :
    Calls Tryd.prog 17 #[.int .i64 s, .int .i64 k] w fun r w' => r = .returned (.tuple #[.pointer none, .int .i64 1, .int .i64 1]) ∧ w' = w := by
  have HS := Hid.in hs
  have HK := Hid.in hk
  clear hs hk
  go_enter Tryd.func17, Tryd.ntmps17
  go_wp2_with fail
  refine (ptwo_c _ true HS.out w).mono ?_
  rintro r w' ⟨rfl, rfl⟩
  go_wp2_with fail
  refine (ptwo_c _ false HK.out _).mono ?_
  rintro r w' ⟨rfl, rfl⟩
  go_wp2
  exact bodyPost_ret (v := .tuple #[.pointer none, .int .i64 1, .int .i64 1]) (by simp [results, Tryd.results17, go_sem]) rfl ⟨rfl, rfl⟩

/-- What new memory, and a write outside it, leaves of it. -/
theorem RMade.kept {w w' : World} {R n k : Nat} {Ev : Value} {gs : List Nat} (h : RMade w R n k Ev gs) (hb : ∀ j, j < w.heap.size → w'.heap[j]? = w.heap[j]?) : RMade w' R n k Ev gs := by
  refine ⟨(hb _ (blk_lt h.q)).trans h.q, (hb _ (blk_lt h.b)).trans h.b, ?_, fun g hg => ?_, h.nd⟩
  · obtain ⟨o1, o2⟩ := h.own
    refine ⟨o1, ?_⟩
    rcases o2 with o2 | ⟨e, c, cur, e1, e2, e3, r⟩
    · exact .inl o2
    · exact .inr ⟨e, c, cur, e1, e2, (hb _ (blk_lt e3)).trans e3, r⟩
  · obtain ⟨v1, v2, v3⟩ := h.v g hg
    exact ⟨v1, v2, v3.same (hb _ v3.lt)⟩

theorem own_shape {w : World} {b : Nat} {e : TypeId} {k : Nat} {v : Value} {n : Nat} {xs : List Value} (h : w.ownsRow b e k v n xs) : ∃ ao c, v = .slice ao n c := by
  obtain ⟨_, o2⟩ := h
  rcases o2 with ⟨rfl, rfl⟩ | ⟨eb, c, _, rfl, _⟩
  · exact ⟨none, 0, rfl⟩
  · exact ⟨_, _, rfl⟩

/-- What the append of a new row leaves: the array, but for its list's cell. -/
theorem made_push {w1 w2 : World} {R n k g : Nat} {Ev v' : Value} {gs : List Nat} (hM : RMade w1 R n k Ev gs) (hL : Laid w1 g k k) (hg : R + 2 ≤ g) (hs : w1.heap.size = g + 1) (hgs : ∀ x ∈ gs, x < g)
    (hown : w2.ownsRow (R + 2) 53 1 v' (gs.length + 1) ((gs.map fun g => Value.slice (some ⟨g, 0, none⟩) k k) ++ [.slice (some ⟨g, 0, none⟩) k k]))
    (hgr : (w1.alloc (.cells #[.slice (some ⟨g, 0, none⟩) k k] 53)).grownBy w2 Ev.ownBlock) (hloc : v'.ownBlock = Ev.ownBlock ∨ v'.ownBlock = some (w1.alloc (.cells #[.slice (some ⟨g, 0, none⟩) k k] 53)).heap.size) (hEv : Ev.ownBlock ≠ some g) :
    w2.heap[R + 1]? = some (.cells #[.int .i64 (n : Int), .int .i64 (k : Int), Ev, .slice (some ⟨R, 0, none⟩) n n] 57 (0, 0)) ∧ RMade (w2.setCell ⟨R + 1, 2, none⟩ v') R n k v' (gs ++ [g]) := by
  have hbase : ∀ b, Ev.ownBlock = some b → R + 2 ≤ b := by
    obtain ⟨_, o2⟩ := hM.own
    rcases o2 with ⟨rfl, _⟩ | ⟨eb, c, _, rfl, hb, _⟩
    · intro b hb; cases hb
    · intro b hb'
      simp only [Value.ownBlock, Option.some.injEq] at hb'
      omega
  have keep : ∀ j, j < w1.heap.size → Ev.ownBlock ≠ some j → w2.heap[j]? = w1.heap[j]? := fun j hj hne =>
    (hgr.block j (by simp; omega) (Ne.symm hne)).trans ((below_alloc _ _).block j hj)
  have hq := blk_lt hM.q
  have q2 := (keep (R + 1) hq (fun e => by have := hbase _ e; omega)).trans hM.q
  refine ⟨q2, ⟨?_, ?_, ?_, ?_, ?_⟩⟩
  · have := blk_set (i := 2) v' q2
    simpa using this
  · rw [Below.heap_setCell _ _ _ R (by simp)]
    exact (keep R (by omega) (fun e => by have := hbase _ e; omega)).trans hM.b
  · rw [List.length_append, List.length_singleton, List.map_append, List.map_singleton]
    obtain ⟨o1, o2⟩ := hown
    refine ⟨o1, ?_⟩
    rcases o2 with ⟨_, o2⟩ | ⟨e, c, cur, e1, e2, e3, r⟩
    · omega
    · exact .inr ⟨e, c, cur, e1, e2, (Below.heap_setCell _ _ _ e (by simp; omega)).trans e3, r⟩
  · intro x hx
    rcases List.mem_append.1 hx with hx | hx
    · obtain ⟨v1, v2, v3⟩ := hM.v x hx
      have hlt := hgs x hx
      refine ⟨v1, ?_, v3.same ?_⟩
      · rcases hloc with e | e
        · rw [e]; exact v2
        · rw [e]; simp; omega
      · rw [Below.heap_setCell _ _ _ x (by simp; omega)]
        exact keep x (by omega) v2
    · rw [List.mem_singleton.1 hx]
      refine ⟨hg, ?_, hL.same ?_⟩
      · rcases hloc with e | e
        · rw [e]; exact hEv
        · rw [e]; simp; omega
      · rw [Below.heap_setCell _ _ _ g (by simp; omega)]
        exact keep g (by omega) hEv
  · refine List.nodup_append.2 ⟨hM.nd, by simp, fun a ha b hb e => ?_⟩
    rw [List.mem_singleton.1 hb] at e
    have := hgs a ha
    omega

set_option maxHeartbeats 3200000 in
set_option maxRecDepth 20000 in
theorem rnew_ok (w : World) (n k : Nat) (hn : n = 1 ∨ n = 2 ∨ n = 4 ∨ n = 8) (hk : k = 1 ∨ k = 2 ∨ k = 4 ∨ k = 8) :
    Calls Tryd.prog 17 #[.int .i64 (n : Int), .int .i64 (k : Int)] w fun r w' => r = .returned (.tuple #[.pointer (some ⟨w.heap.size + 1, 0, none⟩), .int .i64 0, .int .i64 0]) ∧ RArr w' w.heap.size w'.heap.size w.heap.size k (newA n k) ∧ Below w.heap.size w w' := by
  have HS : Hid (pB (n : Int) = true) := Hid.in (by simp only [pB, decide_eq_true_eq]; omega)
  have HS2 : Hid (pB (k : Int) = true) := Hid.in (by simp only [pB, decide_eq_true_eq]; omega)
  have hn8 : n ≤ 8 := by omega
  have hk8 : k ≤ 8 := by omega
  have m1 := make_bits n hn8
  obtain ⟨i0, hi, hz0, hz1, hz2⟩ := info_parts Tryd.infoREntries
  have m2 := make_rents k hk8
  have HN := Hid.in hn
  have HK := Hid.in hk
  clear hn hk
  go_enter Tryd.func17, Tryd.ntmps17
  go_wp2_with fail
  refine (ptwo_c _ true HS.out w).mono ?_
  rintro r w' ⟨rfl, rfl⟩
  go_wp2_with fail
  refine (ptwo_c _ true HS2.out _).mono ?_
  rintro r w' ⟨rfl, rfl⟩
  go_wp2
  go_loopw [8] (fun c wr => ∃ (Ev : Value) (gs : List Nat), gs.length ≤ n ∧ c = .int .i64 (gs.length : Int) ∧ RMade wr w'.heap.size n k Ev gs ∧ Below w'.heap.size w' wr) (fun c _ => 8 - (intOf c).toNat)
  case atStart =>
    refine ⟨.slice none 0 0, [], Nat.zero_le _, rfl, ⟨?_, ?_, ⟨rfl, .inl ⟨rfl, rfl⟩⟩, fun g hg => absurd hg List.not_mem_nil, List.nodup_nil⟩, (below_alloc _ _).alloc (by simp) _⟩
    · have := heap_alloc_new (w'.alloc (.cells (newB n) 5)) (.cells #[.int .i64 (n : Int), .int .i64 (k : Int), .slice none 0 0, .slice (some ⟨w'.heap.size, 0, none⟩) n n] 57)
      rw [World.size_alloc] at this
      exact this
    · exact ((below_alloc (w'.alloc (.cells (newB n) 5)) _).block _ (by simp)).trans (heap_alloc_new _ _)
  case round =>
    obtain ⟨Ev, gs, hgl, rfl, hM, hb⟩ := hrel
    have HM := Hid.in hM
    have HB := Hid.in hb
    clear hM hb
    by_cases hlt : gs.length < n
    · have i1 : (gs.length : Int) < (n : Int) := by omega
      have hsz1 : w'.heap.size + 1 < wr.heap.size := blk_lt HM.out.q
      rename World => wo
      go_wp2
      go_loopw [32] (fun c wv => ∃ j : Nat, j ≤ k ∧ c = .int .i64 (j : Int) ∧ Laid wv wo.heap.size k j ∧ wv.heap.size = wo.heap.size + 1 ∧ Below wo.heap.size wo wv) (fun c _ => 8 - (intOf c).toNat)
      case atStart => exact ⟨0, Nat.zero_le _, rfl, Laid.new wo k, by simp, below_alloc _ _⟩
      case round =>
        obtain ⟨j, hj, rfl, hL, hs, hbv⟩ := hrel
        have HL := Hid.in hL
        have HBV := Hid.in hbv
        have HSV := Hid.in hs
        clear hL hbv hs
        by_cases hjk : j < k
        · obtain ⟨cs, l1, l2⟩ := HL.out
          have l3 := l2 j hjk
          rw [if_neg (by omega)] at l3
          have c0 := blk_cell l1 (l3 0 _ rfl)
          rw [Nat.add_zero] at c0
          have f0 : wr.frozen? ⟨wo.heap.size, j * 10, none⟩ = false := blk_free l1
          have j1 : (j : Int) < (k : Int) := by omega
          clear l1 l2 l3
          go_wp2
          go_roundw
          case rel => exact ⟨j + 1, by omega, by go_num, HL.out.next hjk, by simpa [World.setCell] using HSV.out, HBV.out.setCell (Nat.le_refl _) _⟩
          case measure => simp [intOf]; omega
        · obtain rfl : k = j := by omega
          have HM2 := Hid.in (HM.out.kept HBV.out.block)
          have kq : wr.cell? ⟨w'.heap.size + 1, 2, none⟩ = some Ev := blk_cell HM2.out.q rfl
          have HO := Hid.in (HM2.out.own.alloc _ : (wr.alloc (.cells #[.slice (some ⟨wo.heap.size, 0, none⟩) k k] 53)).ownsRow (w'.heap.size + 2) 53 1 Ev gs.length (gs.map fun g => Value.slice (some ⟨g, 0, none⟩) k k))
          have hsw : w'.heap.size + 1 < wr.heap.size := blk_lt HM2.out.q
          have HGS : Hid (∀ x ∈ gs, x < wo.heap.size) := Hid.in (fun x hx => (HM.out.v x hx).2.2.lt)
          have HEV : Hid (Ev.ownBlock ≠ some wo.heap.size) := Hid.in (fun e => by
            obtain ⟨_, o2⟩ := HM.out.own
            rcases o2 with ⟨rfl, _⟩ | ⟨eb, c, cur, rfl, hb, hh, _⟩
            · cases e
            · have := blk_lt hh
              simp only [Value.ownBlock, Option.some.injEq] at e
              omega)
          go_wp2_with (first
            | (at_builtin; refine wpList_append_own_at _ rfl _ _ 54 rfl (w'.heap.size + 2) 53 i0 (.slice none 0 0) 1 24 Tryd.underlying54 hi hz0 hz1 hz2 rfl (by decide) _ _ _ rfl HO.out ⟨wr.heap.size, 0, none⟩ 1 1 [.slice (some ⟨wo.heap.size, 0, none⟩) k k] rfl rfl (cell_one_new _ _ _) (by simp [Value.oneCell']) (by unfold maxLen; omega) (by omega) (by simp; omega) ?_
               intro v' w1 hown' hgrow _ hloc
               obtain ⟨ao', cap', rfl⟩ := own_shape hown'
               have HR := Hid.in (made_push HM2.out HL.out (by omega) HSV.out HGS.out hown' hgrow hloc HEV.out)
               have kq2 : w1.cell? ⟨w'.heap.size + 1, 2, none⟩ = some Ev := blk_cell HR.out.1 rfl
               have kf2 : w1.frozen? ⟨w'.heap.size + 1, 2, none⟩ = false := blk_free HR.out.1
               have HG := Hid.in hgrow
               clear hown' hgrow hloc)
            | fail)
          have HBX : Hid (Below w'.heap.size w' (w1.setCell ⟨w'.heap.size + 1, 2, none⟩ (.slice ao' (gs.length + 1) cap'))) := Hid.in (by
            have b1 := HB.out.trans (HBV.out.mono (by omega : w'.heap.size ≤ wo.heap.size))
            have b2 := b1.alloc (by omega) (.cells #[.slice (some ⟨wo.heap.size, 0, none⟩) k k] 53)
            refine (b2.grown HG.out (by simp; omega) fun x hx => ?_).setCell (by simp) _
            obtain ⟨_, o2⟩ := HM.out.own
            rcases o2 with ⟨rfl, _⟩ | ⟨eb, c, cur, rfl, hb, hh, _⟩
            · cases hx
            · have hx2 : eb = x := Option.some.inj hx
              omega)
          refine ⟨⟨_, gs ++ [wo.heap.size], by simp; omega, by simp, HR.out.2, HBX.out⟩, ?_⟩
          simp [intOf]
          omega
    · obtain rfl : gs.length = n := by omega
      go_wp2
      go_ret3
      exact ⟨rfl, HM.out.whole rfl HN.out HK.out, HB.out⟩

end Go.Proofs.YtcackmmfnojpfaaDoor
