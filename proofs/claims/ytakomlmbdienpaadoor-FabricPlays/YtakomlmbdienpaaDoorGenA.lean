/- DERIVED of the program: small laws on worlds; slices of numbers that are read (Ints) and of the call's own (OwnI); append and make of them; assentbook.Within. Own work. -/
import Derived.Test.YtakomlmbdienpaaDoorProg
import Derived.WalkKit
import Derived.ProofKit
import Derived.Laws.CopyOwn
import Derived.Laws.MakeOwn
import Derived.Laws.BitsLemmas
import Derived.Laws.Bits64
import Derived.Laws.BitsAllLaws
import Derived.Deep.AppendLies
import Derived.Laws.AppendOwnNone
import Derived.Deep.DeepCutAuto
import Derived.Deep.RegionHeld3
import Derived.Deep.DrawnRows
import Derived.Deep.MidRow
import Derived.Deep.QuietTactic
import Derived.BigQuiet
import Derived.ChangeSlices
import Derived.OpenShut
import Derived.SizedLaws
namespace Go.Proofs.YtakomlmbdienpaaDoor
open Go.RowKit Go.Extern.Stop Go.Stop Go.Extern Go.ChangeShapes Go.WideShapes Go.ChangeAt Go.ChangeMaps

theorem lt_cell {w : World} {q : Addr} {o : Value} (hq : w.cell? q = some o) : q.block < w.heap.size := by
  rcases Nat.lt_or_ge q.block w.heap.size with h | h
  · exact h
  · simp [World.cell?, Array.getElem?_eq_none h] at hq

theorem Hid.in {p : Prop} (h : p) : Hid p := h

theorem bstep {B : Nat} {w wr w' : World} (h : Below B w wr) (hB : B ≤ w.heap.size) (h' : Below wr.heap.size wr w') : Below B w w' :=
  h.trans (h'.mono (Nat.le_trans hB h.size))

theorem drewN_below {B : Nat} {w w' : World} (h : Below B w w') (n : Nat) : Below B w (w'.drewN n) := ⟨h.os, h.tape, h.output, h.size, h.block⟩

theorem ret_int {k : IntKind} {a b : Int} (h : a = b) : Ending.returned (.int k a) = .returned (.int k b) := by rw [h]
theorem ret_bool {a b : Bool} (h : a = b) : Ending.returned (.bool a) = .returned (.bool b) := by rw [h]

/-- The block that it lies in. -/
def oblk (ao : Option Addr) : Option Nat := ao.map (·.block)

theorem grown_of_below {w w' : World} (h : Below w.heap.size w w') (row : Option Nat) : w.grownBy w' row := ⟨h.os, h.tape, h.output, h.size, fun k hk _ => h.block k hk⟩

theorem below_alloc (w : World) (o : Obj) : Below w.heap.size w (w.alloc o) := (Below.refl _ _).alloc (Nat.le_refl _) _

/-- The cells of a block, and that none is frozen. -/
theorem blk_cell {w : World} {q i : Nat} {cs : Array Value} {t : TypeId} {v : Value} (h : w.heap[q]? = some (.cells cs t (0, 0))) (hv : cs[i]? = some v) : w.cell? ⟨q, i, none⟩ = some v := by
  simpa [World.cell?, h] using hv

theorem blk_free {w : World} {q i : Nat} {cs : Array Value} {t : TypeId} (h : w.heap[q]? = some (.cells cs t (0, 0))) : w.frozen? ⟨q, i, none⟩ = false := by
  simp [World.frozen?, h]

theorem blk_lt {w : World} {q : Nat} {o : Obj} (h : w.heap[q]? = some o) : q < w.heap.size := by
  rcases Nat.lt_or_ge q w.heap.size with h' | h'
  · exact h'
  · rw [Array.getElem?_eq_none h'] at h; cases h

theorem blk_set {w : World} {q i : Nat} {cs : Array Value} {t : TypeId} (v : Value) (h : w.heap[q]? = some (.cells cs t (0, 0))) : (w.setCell ⟨q, i, none⟩ v).heap[q]? = some (.cells (cs.setIfInBounds i v) t (0, 0)) := by
  simp [World.setCell, Array.getElem?_modify, h]

theorem addr_plain (b o k : Nat) : (⟨b, o, none⟩ : Addr).add k = ⟨b, o + k, none⟩ := Addr.add_lit b o k

/-- Numbers as cells. -/
def ivs (zs : List Int) : List Value := zs.map (Value.int .i64)
theorem ivs_length (zs : List Int) : (ivs zs).length = zs.length := by simp [ivs]
theorem ivs_append (xs zs : List Int) : ivs (xs ++ zs) = ivs xs ++ ivs zs := by simp [ivs]
theorem ivs_some {l : List Int} {k : Nat} {x : Int} (h : l[k]? = some x) : (ivs l).toArray[k]? = some (.int .i64 x) := by
  simp [ivs, h]
theorem ivs_get (zs : List Int) (j : Nat) (v : Value) (h : (ivs zs)[j]? = some v) : ∃ hj : j < zs.length, v = .int .i64 zs[j] := by
  unfold ivs at h
  rw [List.getElem?_map] at h
  rcases Nat.lt_or_ge j zs.length with hj | hj
  · rw [List.getElem?_eq_getElem hj] at h
    exact ⟨hj, (Option.some.inj h).symm⟩
  · rw [List.getElem?_eq_none hj] at h; cases h
theorem ivs_one (zs : List Int) : ∀ v ∈ ivs zs, v.oneCell' = true := by
  intro v hv
  simp only [ivs, List.mem_map] at hv
  obtain ⟨x, _, rfl⟩ := hv
  rfl

/-- A slice at that address, of that room, reads as these numbers. -/
structure Ints (w : World) (ao : Option Addr) (cap : Nat) (zs : List Int) : Prop where
  le : zs.length ≤ cap
  cell : ∀ (k : Nat) (h : k < zs.length), ∃ b o, ao = some ⟨b, o, none⟩ ∧ w.cell? ⟨b, o + k, none⟩ = some (.int .i64 zs[k])
  rng : ∀ z ∈ zs, -9223372036854775808 ≤ z ∧ z ≤ 9223372036854775807
  nil0 : ao = none → cap = 0

theorem Ints.nil (w : World) : Ints w none 0 [] := ⟨Nat.le_refl _, fun _ h => absurd h (Nat.not_lt_zero _), fun _ h => absurd h List.not_mem_nil, fun _ => rfl⟩

theorem Ints.step {w w' : World} {ao : Option Addr} {cap : Nat} {zs : List Int} (h : Ints w ao cap zs) (hb : Below w.heap.size w w') : Ints w' ao cap zs :=
  ⟨h.le, fun k hk => by obtain ⟨b, o, rfl, hc⟩ := h.cell k hk; exact ⟨b, o, rfl, (hb.cell (p := ⟨b, o + k, none⟩) (lt_cell (q := ⟨b, o + k, none⟩) hc)).trans hc⟩, h.rng, h.nil0⟩

theorem Ints.take {w : World} {ao : Option Addr} {cap : Nat} {zs : List Int} (h : Ints w ao cap zs) (n : Nat) : Ints w ao cap (zs.take n) := by
  refine ⟨Nat.le_trans (by rw [List.length_take]; omega) h.le, fun k hk => ?_, fun z hz => h.rng z (List.mem_of_mem_take hz), h.nil0⟩
  have hk' : k < zs.length := by rw [List.length_take] at hk; omega
  obtain ⟨b, o, e, hc⟩ := h.cell k hk'
  exact ⟨b, o, e, by rw [hc]; simp⟩

/-- What is read out of it, number by number. -/
theorem Ints.src {w : World} {ao : Option Addr} {cap : Nat} {zs : List Int} (h : Ints w ao cap zs) (h0 : 0 < zs.length) : ∃ ad, ao = some ad ∧ ∀ j v, (ivs zs)[j]? = some v → w.cell? (ad.add j) = some v := by
  obtain ⟨b, o, rfl, _⟩ := h.cell 0 h0
  refine ⟨_, rfl, fun j v hj => ?_⟩
  obtain ⟨hj', rfl⟩ := ivs_get _ _ _ hj
  obtain ⟨b', o', e, hc⟩ := h.cell j hj'
  cases e
  rw [Addr.add_lit]
  exact hc

/-- What a block of numbers reads as, from its head on. -/
theorem Ints.head {w : World} {g n : Nat} {zs rs : List Int} {t : TypeId} (h : w.heap[g]? = some (.cells (ivs (zs ++ rs)).toArray t (0, 0))) (hn : zs.length ≤ n) (hr : ∀ z ∈ zs, -9223372036854775808 ≤ z ∧ z ≤ 9223372036854775807) : Ints w (some ⟨g, 0, none⟩) n zs := by
  refine ⟨hn, fun k hk => ⟨g, 0, rfl, ?_⟩, hr, (by simp)⟩
  rw [Nat.zero_add]
  refine blk_cell h (ivs_some ?_)
  rw [List.getElem?_append_left hk, List.getElem?_eq_getElem hk]

theorem Ints.lit (w : World) (t : TypeId) (zs : List Int) (cs : Array Value) (hcs : cs = (ivs zs).toArray) (hr : ∀ z ∈ zs, -9223372036854775808 ≤ z ∧ z ≤ 9223372036854775807) : Ints (w.alloc (.cells cs t)) (some ⟨w.heap.size, 0, none⟩) zs.length zs := by
  subst hcs
  refine ⟨Nat.le_refl _, fun k hk => ⟨w.heap.size, 0, rfl, ?_⟩, hr, (by simp)⟩
  simp [ivs, hk]

theorem Tryd.infoInt : (Tryd.prog.info? 3).map (fun i => (i.zero, i.size, i.bytes)) = some (some (.int .i64 0), 1, 8) := by kernel_rfl

/-- The call's own slice of numbers. -/
def OwnI (w : World) (B : Nat) (ao : Option Addr) (n cap : Nat) (zs : List Int) : Prop := w.ownsRow B 3 1 (.slice ao n cap) n (ivs zs)

theorem OwnI.nil (w : World) (B : Nat) : OwnI w B none 0 0 [] := ⟨rfl, .inl ⟨rfl, rfl⟩⟩
theorem OwnI.blk {w : World} {B n cap : Nat} {ao : Option Addr} {zs : List Int} (h : OwnI w B ao n cap zs) : ∀ k, oblk ao = some k → B ≤ k ∧ ∃ cur, w.heap[k]? = some (.cells cur 3 (0, 0)) := by
  obtain ⟨h1, h2⟩ := h
  intro k hk
  rcases h2 with ⟨e, _⟩ | ⟨g, cap', cur, e, hg, hh, r⟩
  · simp only [Value.slice.injEq] at e
    rw [e.1] at hk; cases hk
  · simp only [Value.slice.injEq] at e
    rw [e.1] at hk
    cases hk
    exact ⟨hg, cur, hh⟩
theorem OwnI.step {w w' : World} {B n cap : Nat} {ao : Option Addr} {zs : List Int} (h : OwnI w B ao n cap zs) (hb : Below w.heap.size w w') : OwnI w' B ao n cap zs :=
  World.ownsRow.kept h (grown_of_below hb none) (by
    cases ao with
    | none => exact .inl rfl
    | some q => exact .inr (by simp [Value.ownBlock]))
theorem OwnI.len {w : World} {B n cap : Nat} {ao : Option Addr} {zs : List Int} (h : OwnI w B ao n cap zs) : n = zs.length := by
  have := h.1
  simp [ivs_length] at this
  omega
theorem OwnI.ints {w : World} {B n cap : Nat} {ao : Option Addr} {zs : List Int} (h : OwnI w B ao n cap zs) (hr : ∀ z ∈ zs, -9223372036854775808 ≤ z ∧ z ≤ 9223372036854775807) : Ints w ao cap zs := by
  have hn := h.len
  obtain ⟨h1, h2⟩ := h
  rcases h2 with ⟨e, h0⟩ | ⟨g, cap', cur, e, hg, hh, hle, hm, hsz, ht⟩
  · simp only [Value.slice.injEq] at e
    obtain ⟨rfl, _, rfl⟩ := e
    have : zs = [] := List.length_eq_zero_iff.1 (by omega)
    subst this
    exact Ints.nil w
  · simp only [Value.slice.injEq] at e
    obtain ⟨rfl, _, rfl⟩ := e
    refine ⟨by omega, fun k hk => ⟨g, 0, rfl, ?_⟩, hr, (by simp)⟩
    rw [Nat.zero_add]
    have hx : cur.toList[k]? = some (.int .i64 zs[k]) := by
      have : (cur.toList.take (n * 1))[k]? = some (.int .i64 zs[k]) := by rw [ht]; simp [ivs, hk]
      rw [List.getElem?_take] at this
      simpa [show k < n by omega] using this
    simp only [World.cell?, hh]
    simpa using hx
theorem OwnI.cell {w : World} {B n cap : Nat} {ao : Option Addr} {zs : List Int} (h : OwnI w B ao n cap zs) (k : Nat) (hk : k < zs.length) : ∃ b, ao = some ⟨b, 0, none⟩ ∧ w.cell? ⟨b, k, none⟩ = some (.int .i64 zs[k]) := by
  have hn := h.len
  obtain ⟨h1, h2⟩ := h
  rcases h2 with ⟨e, h0⟩ | ⟨g, cap', cur, e, hg, hh, hle, hm, hsz, ht⟩
  · omega
  · simp only [Value.slice.injEq] at e
    refine ⟨g, e.1, ?_⟩
    have hx : cur.toList[k]? = some (.int .i64 zs[k]) := by
      have : (cur.toList.take (n * 1))[k]? = some (.int .i64 zs[k]) := by rw [ht]; simp [ivs, hk]
      rw [List.getElem?_take] at this
      simpa [show k < n by omega] using this
    simp only [World.cell?, hh]
    simpa using hx
theorem OwnI.low {w : World} {B B' n cap : Nat} {ao : Option Addr} {zs : List Int} (h : OwnI w B ao n cap zs) (hB : B' ≤ B) : OwnI w B' ao n cap zs := by
  obtain ⟨h1, h2⟩ := h
  refine ⟨h1, ?_⟩
  rcases h2 with h2 | ⟨g, cap', cur, e, hg, hh, r⟩
  · exact .inl h2
  · exact .inr ⟨g, cap', cur, e, Nat.le_trans hB hg, hh, r⟩
theorem ownI_shape {w : World} {B n : Nat} {v : Value} {xs : List Value} (h : w.ownsRow B 3 1 v n xs) : ∃ ao cap, v = .slice ao n cap := by
  rcases h.2 with ⟨rfl, rfl⟩ | ⟨g, cap, cur, rfl, _⟩
  · exact ⟨_, _, rfl⟩
  · exact ⟨_, _, rfl⟩
/-- A new block of noughts, none of them told yet. -/
theorem OwnI.room {w : World} {B g k : Nat} (hg : B ≤ g) (hk : k ≤ maxLen) (h : w.heap[g]? = some (.cells (List.replicate k (Value.int .i64 0)).toArray 3 (0, 0))) : OwnI w B (some ⟨g, 0, none⟩) 0 k [] :=
  ⟨rfl, .inr ⟨g, k, _, rfl, hg, h, Nat.zero_le _, hk, by simp, by simp [ivs]⟩⟩

/-- 'append(row, n)', row the call's own. -/
theorem wpList_pushI {w : World} {ops : Array Oper} {rest : List Oper} {o : Oper} {a : Act} {Q : Exit → Act → World → Prop} (hgd : o.guard = none) (s x : Operand)
    (ho : o.op = .call { callee := .builtin .append, args := #[s, x], argTypes := #[56, 56] }) (B : Nat) (w0 : World)
    (ao : Option Addr) (H n cap : Nat) (zs : List Int) (z : Int) (hs : a.eval s = .slice ao n cap) (hown : OwnI w B ao n cap zs) (hx : a.eval x = .slice (some ⟨H, 0, none⟩) 1 1) (hc : w.cell? ⟨H, 0, none⟩ = some (.int .i64 z))
    (hb : Below B w0 w) (hB : B ≤ w.heap.size) (hlen : n ≤ 1000)
    (h : ∀ ao' cap' w', Hid (OwnI w' B ao' (n + 1) cap' (zs ++ [z])) → Hid (Below B w0 w') → Hid (w.grownBy w' (oblk ao)) → wpList Tryd.prog ops Q rest (a.put o.dst (.slice ao' (n + 1) cap')) w') : wpList Tryd.prog ops Q (o :: rest) a w := by
  obtain ⟨i0, hi, hz0, hz1, hz2⟩ := info_parts Tryd.infoInt
  have hbl := hown.blk
  refine wpList_append_own w hgd s x 56 ho B 3 i0 (.int .i64 0) 1 8 Tryd.underlying56 hi hz0 hz1 hz2 rfl (by decide) _ n _ hs hown ⟨H, 0, none⟩ 1 1 [.int .i64 z] hx rfl ?_ ?_ (by unfold maxLen; omega) (by omega) hB ?_
  · intro j u hj
    match j, hj with
    | 0, hj => simp at hj; subst hj; rw [Addr.add_lit]; exact hc
  · intro u hu; simp at hu; subst hu; rfl
  · intro v' w' hown' hgrow _
    obtain ⟨ao', cap', rfl⟩ := ownI_shape hown'
    have hob : (Value.slice ao n cap).ownBlock = oblk ao := by cases ao <;> rfl
    rw [hob] at hgrow
    refine h ao' cap' w' (Hid.in ?_) (Hid.in ?_) (Hid.in hgrow)
    · unfold OwnI
      rw [ivs_append]
      exact hown'
    · exact hb.grown hgrow hB (fun k hk => (hbl k hk).1)

/-- 'make([]int, n, m)'. -/
theorem wpList_make_ints {P : Program} (w : World) {ops : Array Oper} {rest : List Oper} {o : Oper} {a : Act} {Q : Exit → Act → World → Prop}
    (hg : o.guard = none) (l c : Operand) (t : TypeId) (hop : o.op = Op.makeSlice t l c)
    (e : TypeId) (i : TypeInfo) (h1 : P.underlying t = some (.slice e)) (h2 : P.info? e = some i) (h3 : i.zero = some (.int .i64 0)) (h4 : i.size = 1) (h5 : i.bytes = 8)
    (kl kc : IntKind) (L C : Int) (n m : Nat) (hl : a.eval l = .int kl L) (hc : a.eval c = .int kc C) (hL : L = (n : Int)) (hC : C = (m : Int)) (hnm : n ≤ m) (b2 : m ≤ 35184372088832) (Z : List Value) (hZ : Z = List.replicate m (Value.int .i64 0))
    (hK : wpList P ops Q rest (a.put o.dst (.slice (some ⟨w.heap.size, 0, none⟩) n m)) (w.alloc (.cells Z.toArray e))) :
    wpList P ops Q (o :: rest) a w := by
  refine wpList_plain hg fun K hK' => ?_
  have hrun := run_make (P := P) w t e i (.int .i64 0) h1 h2 h3 kl kc L C (by omega) (by omega) (by rw [h5]; omega) (by omega)
  subst hL
  subst hC
  subst hZ
  have hz : madeCells (Value.int .i64 0).cells m = (List.replicate m (Value.int .i64 0)).toArray := by
    apply Array.toList_inj.1
    exact toList_madeCells_one _ _
  rw [h4] at hrun
  simp only [Int.toNat_natCast, Nat.mul_one, hz] at hrun
  unfold Oper.wp
  simp [execOp, hop, hl, hc, hrun, Result.andThen]
  exact hK' _ _ hK

set_option maxRecDepth 100000 in
theorem open_ints2 {H : Type} {enc : TypeId × Value → H} {r : Reach} {b0 base : Nat} {spare : Nat → Bool} {held : Bool} {W : World} {v : Value} {d : DataW H} {ps : List MemPlace}
    (hval : Value.okWide Tryd.prog W r b0 56 v) (h : DataW.Trod enc Tryd.prog W base spare held 56 v d ps) : ∃ ao cap zs, v = .slice ao (zs : List Int).length cap ∧ Ints W ao cap zs := by
  obtain ⟨a0, len, cap, rfl⟩ := okWide_slice Tryd.underlying56 hval
  obtain ⟨fuel, hf⟩ := h
  rcases open_ints Tryd.underlying56 Tryd.underlying3 (by kernel_rfl) hf with ⟨hcs, hx⟩ | ⟨a, len', cap', zs, hcs, _, hl, hm, hz, hx, hcell, hwz⟩
  · simp [Value.cells] at hcs
    obtain ⟨rfl, rfl, rfl⟩ := hcs
    exact ⟨none, 0, [], rfl, Ints.nil W⟩
  · simp [Value.cells] at hcs
    obtain ⟨rfl, rfl, rfl⟩ := hcs
    have hlz : len ≤ zs.length := by split at hz <;> omega
    have hlen : (zs.take len).length = len := by rw [List.length_take]; omega
    refine ⟨some a, cap, zs.take len, by rw [hlen], ⟨by omega, fun k hk => ?_, fun z hz => bounds_i64 (hwz z (List.mem_of_mem_take hz)), (by simp)⟩⟩
    obtain ⟨b, off, spot⟩ := a
    have hk' : k < zs.length := by omega
    have hspot : spot = none := by simpa [Addr.add] using World.cell?_spot (hcell 0 (by omega))
    subst hspot
    refine ⟨b, off, rfl, ?_⟩
    have := hcell k hk'
    rw [addr_plain] at this
    rw [this]
    simp [List.getElem?_eq_getElem hk']

theorem tmod_emod (n m : Int) (hm : 0 < m) : (0 ≤ n.tmod m → n % m = n.tmod m) ∧ (n.tmod m < 0 → n % m = n.tmod m + m) ∧ -m < n.tmod m ∧ n.tmod m < m := by
  have h1 := Int.tmod_lt_of_pos n hm
  have h2 : -m < n.tmod m := by
    have := Int.tmod_lt_of_pos (-n) hm
    rw [Int.neg_tmod] at this
    omega
  have h3 : n % m = (n.tmod m) % m := by
    have := Int.mul_tdiv_add_tmod n m
    conv => lhs; rw [← this]
    rw [Int.mul_comm, Int.mul_add_emod_self_right]
  refine ⟨fun h => ?_, fun h => ?_, h2, h1⟩
  · rw [h3]; exact Int.emod_eq_of_lt h h1
  · rw [h3, ← Int.add_emod_right]; exact Int.emod_eq_of_lt (by omega) (by omega)

/-- A number brought into lo .. hi, bounds of whichever sign. -/
def wI (n lo hi : Int) : Int := lo + n % (hi - lo + 1)

theorem wI_le (n lo hi : Int) (h1 : lo ≤ hi) : lo ≤ wI n lo hi ∧ wI n lo hi ≤ hi := by
  have h2 := Int.emod_nonneg n (show hi - lo + 1 ≠ 0 by omega)
  have h3 := Int.emod_lt_of_pos n (show 0 < hi - lo + 1 by omega)
  unfold wI
  omega

theorem within_i (n lo hi : Int) (w : World) (h0 : -1000 ≤ lo) (h1 : lo ≤ hi) (h2 : hi ≤ 1000) :
    Calls Tryd.prog 26 #[.int .i64 n, .int .i64 lo, .int .i64 hi] w fun r w' => r = .returned (.int .i64 (wI n lo hi)) ∧ w' = w := by
  obtain ⟨p1, p2, p3, p4⟩ := tmod_emod n (hi - lo + 1) (by omega)
  have hz : ¬ hi - lo + 1 = 0 := by omega
  have HW := Hid.in (And.intro p1 p2)
  clear p1 p2
  by_cases hn : n.tmod (hi - lo + 1) < 0
  · go_enter Tryd.func26, Tryd.ntmps26
    go_wp2
    go_ret
    exact ⟨ret_int (by have h3 := HW.out.2 hn; rw [wI, h3]; omega), rfl⟩
  · go_enter Tryd.func26, Tryd.ntmps26
    go_wp2
    go_ret
    exact ⟨ret_int (by have h3 := HW.out.1 (by omega); rw [wI, h3]), rfl⟩

end Go.Proofs.YtakomlmbdienpaaDoor
