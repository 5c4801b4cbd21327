/- DERIVED of the program: a store buffer in memory, the project's and the document's own alike; slices.Delete of the first; New, Push, Forward, Head, List of the project's by their contracts. Own work. -/
import Derived.Test.YtncgjclehplfeaaDoorGenE
import Derived.Test.YtncgjclehplfeaaDoorGenR
import Derived.Deep.RegionLaw
namespace Go.Proofs.YtncgjclehplfeaaDoor
open Go.RowKit Go.Extern.Stop Go.Stop Go.Extern

/-- Old blocks that aren't listed are as they were. -/
structure Fr (S : List Nat) (w w' : World) : Prop where
  os : w'.os = w.os
  tape : w'.tape = w.tape
  output : w'.output = w.output
  size : w.heap.size ≤ w'.heap.size
  block : ∀ k, k < w.heap.size → k ∉ S → w'.heap[k]? = w.heap[k]?
theorem Fr.of_below {S : List Nat} {w w' : World} (h : Below w.heap.size w w') : Fr S w w' := ⟨h.os, h.tape, h.output, h.size, fun k hk _ => h.block k hk⟩
theorem Fr.refl (S : List Nat) (w : World) : Fr S w w := Fr.of_below (Below.refl _ _)
theorem Fr.of_grown {S : List Nat} {w w' : World} {row : Option Nat} (h : w.grownBy w' row) (hr : ∀ k, row = some k → k ∈ S) : Fr S w w' :=
  ⟨h.os, h.tape, h.output, h.size, fun k hk hn => h.block k hk (fun e => hn (hr k e.symm))⟩
theorem Fr.trans {S : List Nat} {w w1 w2 : World} (h : Fr S w w1) (h' : Fr S w1 w2) : Fr S w w2 :=
  ⟨h'.os.trans h.os, h'.tape.trans h.tape, h'.output.trans h.output, Nat.le_trans h.size h'.size, fun k hk ho => (h'.block k (Nat.lt_of_lt_of_le hk h.size) ho).trans (h.block k hk ho)⟩
theorem Fr.setCell {S : List Nat} {w w' : World} (h : Fr S w w') {q i : Nat} (v : Value) (hq : q ∈ S) : Fr S w (w'.setCell ⟨q, i, none⟩ v) :=
  ⟨h.os, h.tape, h.output, by simpa [World.setCell] using h.size, fun k hk ho => (Below.heap_setCell _ _ _ k (fun e => ho (by rw [e]; exact hq))).trans (h.block k hk ho)⟩
theorem Fr.below {S : List Nat} {B : Nat} {w0 w w' : World} (h : Fr S w w') (hb : Below B w0 w) (hS : ∀ k ∈ S, B ≤ k) (hB : B ≤ w.heap.size) : Below B w0 w' :=
  ⟨h.os.trans hb.os, h.tape.trans hb.tape, h.output.trans hb.output, Nat.le_trans hb.size h.size, fun k hk => (h.block k (by omega) (fun hm => absurd (hS k hm) (by omega))).trans (hb.block k hk)⟩
theorem Fr.cell {S : List Nat} {w w' : World} (h : Fr S w w') {q o : Nat} {v : Value} (hc : w.cell? ⟨q, o, none⟩ = some v) (hq : q ∉ S) : w'.cell? ⟨q, o, none⟩ = some v := by
  have hl := lt_cell hc
  simp only [World.cell?] at hc ⊢
  rw [h.block q hl hq]
  exact hc
theorem OwnA.fr {t : TypeId} {m : Nat} {w w' : World} {B n cap : Nat} {ao : Option Addr} {rs : List (List Value)} {S : List Nat} (h : OwnA t m w B ao n cap rs) (hf : Fr S w w') (hn : ∀ k, oblk ao = some k → k ∉ S) : OwnA t m w' B ao n cap rs :=
  h.keep fun k hk => by obtain ⟨_, cur, hc⟩ := h.blk k hk; exact hf.block k (blk_lt hc) (hn k hk)

/-- The cells of a store. -/
def wc (x : Int × Int) : List Value := [.int .i64 x.1, .int .u32 x.2]
theorem wc_one (x : Int × Int) : ∀ v ∈ wc x, v.oneCell' = true := by
  intro v hv
  simp only [wc, List.mem_cons, List.not_mem_nil, or_false] at hv
  rcases hv with rfl | rfl <;> rfl
theorem wcs_one (L : List (Int × Int)) : ∀ r ∈ L.map wc, ∀ v ∈ r, v.oneCell' = true := by
  intro r hr
  obtain ⟨x, _, rfl⟩ := List.mem_map.1 hr
  exact wc_one x
/-- The call's own row of stores. -/
abbrev OwnW (t : TypeId) (w : World) (B : Nat) (ao : Option Addr) (n cap : Nat) (L : List (Int × Int)) : Prop := OwnA t 2 w B ao n cap (L.map wc)
theorem OwnA.wlen {t : TypeId} {w : World} {B n cap : Nat} {ao : Option Addr} {L : List (Int × Int)} (h : OwnW t w B ao n cap L) : L.length = n := by
  have := h.len
  rwa [List.length_map] at this
theorem OwnA.wat {t : TypeId} {w : World} {B n cap : Nat} {ao : Option Addr} {L : List (Int × Int)} (h : OwnW t w B ao n cap L) (j : Nat) (hj : j < n) : ∃ b o x y, ao = some ⟨b, o, none⟩ ∧ w.cell? ⟨b, o + j * 2, none⟩ = some (.int .i64 x) ∧ w.cell? ⟨b, o + j * 2 + 1, none⟩ = some (.int .u32 y) ∧ L[j]? = some (x, y) := by
  have hl := h.wlen
  have hj' : j < L.length := by omega
  obtain ⟨b, o, e, h0⟩ := h.cell j (by simpa using hj') 0 (.int .i64 L[j].1) (by simp [wc])
  obtain ⟨b', o', e', h1⟩ := h.cell j (by simpa using hj') 1 (.int .u32 L[j].2) (by simp [wc])
  rw [e] at e'
  cases e'
  exact ⟨b, o, _, _, e, h0, h1, List.getElem?_eq_getElem hj'⟩

/-- A buffer in memory: where it lies, and its row. -/
structure Buf (tb tw : TypeId) (w : World) (q : Nat) (S : List Nat) (m : Nat) (L : List (Int × Int)) : Prop where
  ex : ∃ ao cap, w.heap[q]? = some (.cells #[.int .i64 (m : Int), .slice ao L.length cap] tb (0, 0)) ∧ OwnW tw w (q + 1) ao L.length cap L ∧ S = q :: (oblk ao).toList
  le : L.length ≤ m
  m8 : m ≤ 8
theorem Buf.mem {tb tw : TypeId} {w : World} {q m : Nat} {S : List Nat} {L : List (Int × Int)} (h : Buf tb tw w q S m L) : ∀ k ∈ S, q ≤ k ∧ k < w.heap.size := by
  obtain ⟨⟨ao, cap, h1, h2, rfl⟩, _⟩ := h
  intro k hk
  rcases List.mem_cons.1 hk with rfl | hk
  · exact ⟨Nat.le_refl _, blk_lt h1⟩
  · obtain ⟨h3, cur, h4⟩ := h2.blk k (Option.mem_toList.1 hk)
    exact ⟨by omega, blk_lt h4⟩
theorem Buf.fr {tb tw : TypeId} {w w' : World} {q m : Nat} {S T : List Nat} {L : List (Int × Int)} (h : Buf tb tw w q S m L) (hf : Fr T w w') (hd : ∀ k ∈ S, k ∉ T) : Buf tb tw w' q S m L := by
  obtain ⟨⟨ao, cap, h1, h2, rfl⟩, h3, h4⟩ := h
  exact ⟨⟨ao, cap, (hf.block q (blk_lt h1) (hd q List.mem_cons_self)).trans h1, h2.fr hf (fun k hk => hd k (List.mem_cons_of_mem _ (Option.mem_toList.2 hk))), rfl⟩, h3, h4⟩
theorem Buf.step {tb tw : TypeId} {w w' : World} {q m : Nat} {S : List Nat} {L : List (Int × Int)} (h : Buf tb tw w q S m L) (hb : Below w.heap.size w w') : Buf tb tw w' q S m L :=
  h.fr (Fr.of_below (S := []) hb) (fun _ _ hn => absurd hn List.not_mem_nil)

/-- A call turned the buffer so: in its own blocks, or new ones. -/
structure Went (tb tw : TypeId) (w w' : World) (q : Nat) (S S' : List Nat) (m : Nat) (L : List (Int × Int)) : Prop where
  b : Buf tb tw w' q S' m L
  f : Fr S w w'
  s : ∀ k ∈ S', k ∈ S ∨ w.heap.size ≤ k
theorem Went.same {tb tw : TypeId} {w w' : World} {q m : Nat} {S : List Nat} {L : List (Int × Int)} (h : Buf tb tw w q S m L) (hb : Below w.heap.size w w') : Went tb tw w w' q S S m L := ⟨h.step hb, Fr.of_below hb, fun _ hk => .inl hk⟩
theorem Went.below {tb tw : TypeId} {w0 w w' : World} {q m B : Nat} {S S' : List Nat} {L L' : List (Int × Int)} (h : Went tb tw w w' q S S' m L') (h0 : Buf tb tw w q S m L) (hb : Below B w0 w) (hB : B ≤ q) : Below B w0 w' := by
  have hq := (h0.mem q (by obtain ⟨⟨_, _, _, _, e⟩, _⟩ := h0; rw [e]; exact List.mem_cons_self)).2
  exact h.f.below hb (fun k hk => Nat.le_trans hB (h0.mem k hk).1) (by omega)

/-- Push: its code, and what waits behind it. -/
def pushL (m : Nat) (L : List (Int × Int)) (a v : Int) : Nat × List (Int × Int) :=
  if wB a 0 127 = false then (1, L) else if m ≤ L.length then (6, L) else (0, L ++ [(a, v)])
theorem pushL_arg {m : Nat} {L : List (Int × Int)} {a : Int} (v : Int) (h : wB a 0 127 = false) : pushL m L a v = (1, L) := if_pos h
theorem pushL_full {m : Nat} {L : List (Int × Int)} {a : Int} (v : Int) (h : wB a 0 127 = true) (hm : m ≤ L.length) : pushL m L a v = (6, L) := by
  unfold pushL; rw [if_neg (by rw [h]; decide), if_pos hm]
theorem pushL_ok {m : Nat} {L : List (Int × Int)} {a : Int} (v : Int) (h : wB a 0 127 = true) (hm : L.length < m) : pushL m L a v = (0, L ++ [(a, v)]) := by
  unfold pushL; rw [if_neg (by rw [h]; decide), if_neg (by omega)]
theorem pushL_code (m : Nat) (L : List (Int × Int)) (a v : Int) : (pushL m L a v).1 ≤ 10 := by
  unfold pushL; split; (· simp); split <;> simp
/-- What the core would read: the youngest's. -/
def fwdL (L : List (Int × Int)) (a : Int) : Int × Bool := L.foldl (fun r x => if x.1 = a then (x.2, true) else r) (0, false)
theorem fwdL_take {L : List (Int × Int)} {j : Nat} {x y : Int} (a : Int) (h : L[j]? = some (x, y)) : fwdL (L.take (j + 1)) a = if x = a then (y, true) else fwdL (L.take j) a := by
  unfold fwdL
  rw [List.take_add_one, h]
  simp only [Option.toList_some, List.foldl_append, List.foldl_cons, List.foldl_nil]
theorem fwdL_nil (a : Int) : fwdL [] a = (0, false) := rfl
/-- The eldest. -/
def headL : List (Int × Int) → (Int × Int) × Bool
  | [] => ((0, 0), false)
  | x :: _ => (x, true)

abbrev opBNew : ByteArray := ⟨#[98, 117, 102, 102, 101, 114, 46, 78, 101, 119]⟩
abbrev opBPush : ByteArray := ⟨#[98, 117, 102, 102, 101, 114, 46, 80, 117, 115, 104]⟩

end Go.Proofs.YtncgjclehplfeaaDoor
