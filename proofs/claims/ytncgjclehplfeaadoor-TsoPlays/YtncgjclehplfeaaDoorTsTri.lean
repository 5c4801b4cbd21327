/- DERIVED of the program: the project's model, its twin, the document's model and a row of events in one world; rows of events that are taken. Own work. -/
import Derived.Test.YtncgjclehplfeaaDoorTsS
import Derived.Test.YtncgjclehplfeaaDoorGenW
namespace Go.Proofs.YtncgjclehplfeaaDoor
open Go.RowKit Go.Extern.Stop Go.Stop Go.Extern

/-- Two models, a twin, a row. -/
structure Tri (w0 w : World) (q : Nat) (S : List Nat) (N : Nat) (s : TS) (p : Nat) (R : List Nat) (K : Nat) (s2 : TS) (t : Nat) (T : List Nat) (NT : Nat) (u : TS) (ao : Option Addr) (n cap : Nat) (L : List Ev) : Prop where
  two : Two w0 w q S N s p R K s2
  tw : PM w t T NT u.1 u.2
  tb : ∀ k ∈ T, w0.heap.size ≤ k
  td : ∀ k ∈ T, k ∉ S ∧ k ∉ R
  o : OwnA 24 6 w w0.heap.size ao n cap (L.map Ev.cs)
  od : ∀ k, oblk ao = some k → k ∉ S ∧ k ∉ R ∧ k ∉ T
theorem Tri.step {w0 w w' : World} {q N p K t NT n cap : Nat} {S R T : List Nat} {s s2 u : TS} {ao : Option Addr} {L : List Ev} (h : Tri w0 w q S N s p R K s2 t T NT u ao n cap L) (hb : Below w.heap.size w w') : Tri w0 w' q S N s p R K s2 t T NT u ao n cap L :=
  ⟨h.two.step hb, h.tw.step hb, h.tb, h.td, h.o.step hb, h.od⟩
theorem Tri.mono {w0 w : World} {q N N' p K K' t NT NT' n cap : Nat} {S R T : List Nat} {s s2 u : TS} {ao : Option Addr} {L : List Ev} (h : Tri w0 w q S N s p R K s2 t T NT u ao n cap L) (hN : N ≤ N') (hK : K ≤ K') (hT : NT ≤ NT') : Tri w0 w q S N' s p R K' s2 t T NT' u ao n cap L :=
  ⟨⟨⟨h.two.a.p.mono hN, h.two.a.b, h.two.a.s⟩, h.two.m.mono hK, h.two.b, h.two.d⟩, h.tw.mono hT, h.tb, h.td, h.o, h.od⟩
theorem Tri.olt {w0 w : World} {q N p K t NT n cap : Nat} {S R T : List Nat} {s s2 u : TS} {ao : Option Addr} {L : List Ev} (h : Tri w0 w q S N s p R K s2 t T NT u ao n cap L) (k : Nat) (hk : oblk ao = some k) : k < w.heap.size := by
  obtain ⟨_, cur, hc⟩ := h.o.blk k hk
  exact blk_lt hc
theorem Tri.rturned {w0 w w' : World} {q N p K K' t NT n cap : Nat} {S R R' T : List Nat} {s s2 s3 u : TS} {ao : Option Addr} {L : List Ev} (h : Tri w0 w q S N s p R K s2 t T NT u ao n cap L) (ht : RTurned w w' p R R' K' s3.1 s3.2) : Tri w0 w' q S N s p R' K' s3 t T NT u ao n cap L :=
  ⟨h.two.rturned ht, h.tw.fr ht.f (fun k hk => (h.td k hk).2), h.tb, fun k hk => ⟨(h.td k hk).1, fun hn => by
    rcases ht.s k hn with h1 | h1
    · exact (h.td k hk).2 h1
    · have := h.tw.mem k hk; omega⟩, h.o.fr ht.f (fun k hk => (h.od k hk).2.1), fun k hk => ⟨(h.od k hk).1, fun hn => by
    rcases ht.s k hn with h1 | h1
    · exact (h.od k hk).2.1 h1
    · have := h.olt k hk; omega, (h.od k hk).2.2⟩⟩
theorem Tri.turned {w0 w w' : World} {q N N' p K t NT n cap : Nat} {S S' R T : List Nat} {s s2 s3 u : TS} {ao : Option Addr} {L : List Ev} (h : Tri w0 w q S N s p R K s2 t T NT u ao n cap L) (ht : Turned w w' q S S' N' s3.1 s3.2) : Tri w0 w' q S' N' s3 p R K s2 t T NT u ao n cap L :=
  ⟨h.two.turned ht, h.tw.fr ht.f (fun k hk => (h.td k hk).1), h.tb, fun k hk => ⟨fun hn => by
    rcases ht.s k hn with h1 | h1
    · exact (h.td k hk).1 h1
    · have := h.tw.mem k hk; omega, (h.td k hk).2⟩, h.o.fr ht.f (fun k hk => (h.od k hk).1), fun k hk => ⟨fun hn => by
    rcases ht.s k hn with h1 | h1
    · exact (h.od k hk).1 h1
    · have := h.olt k hk; omega, (h.od k hk).2⟩⟩
theorem Tri.tturned {w0 w w' : World} {q N p K t NT NT' n cap : Nat} {S R T T' : List Nat} {s s2 u u' : TS} {ao : Option Addr} {L : List Ev} (h : Tri w0 w q S N s p R K s2 t T NT u ao n cap L) (ht : Turned w w' t T T' NT' u'.1 u'.2) : Tri w0 w' q S N s p R K s2 t T' NT' u' ao n cap L :=
  ⟨h.two.fr ht.f (fun k hk hn => (h.td k hn).1 hk) (fun k hk hn => (h.td k hn).2 hk) h.tb, ht.p, fun k hk => by
    rcases ht.s k hk with h1 | h1
    · exact h.tb k h1
    · exact Nat.le_trans h.two.a.b.size h1, fun k hk => by
    rcases ht.s k hk with h1 | h1
    · exact h.td k h1
    · exact ⟨h.two.a.p.far h1, h.two.m.far h1⟩, h.o.fr ht.f (fun k hk => (h.od k hk).2.2), fun k hk => ⟨(h.od k hk).1, (h.od k hk).2.1, fun hn => by
    rcases ht.s k hn with h1 | h1
    · exact (h.od k hk).2.2 h1
    · have := h.olt k hk; omega⟩⟩
theorem Tri.row {w0 w w' : World} {q N p K t NT n cap n' cap' : Nat} {S R T : List Nat} {s s2 u : TS} {ao ao' : Option Addr} {L L' : List Ev} (h : Tri w0 w q S N s p R K s2 t T NT u ao n cap L) (ho : OwnA 24 6 w' w0.heap.size ao' n' cap' (L'.map Ev.cs)) (hg : w.grownBy w' (oblk ao)) (hn : ∀ b, oblk ao' = some b → oblk ao = some b ∨ w.heap.size ≤ b) : Tri w0 w' q S N s p R K s2 t T NT u ao' n' cap' L' := by
  have hf : Fr (oblk ao).toList w w' := Fr.of_grown hg (fun k hk => Option.mem_toList.2 hk)
  refine ⟨h.two.fr hf (fun k hk hm => (h.od k (Option.mem_toList.1 hm)).1 hk) (fun k hk hm => (h.od k (Option.mem_toList.1 hm)).2.1 hk) (fun k hk => (h.o.blk k (Option.mem_toList.1 hk)).1), h.tw.fr hf (fun k hk hm => (h.od k (Option.mem_toList.1 hm)).2.2 hk), h.tb, h.td, ho, fun k hk => ?_⟩
  rcases hn k hk with h1 | h1
  · exact h.od k h1
  · exact ⟨h.two.a.p.far h1, h.two.m.far h1, h.tw.far h1⟩
theorem Tri.twin {w0 w w' : World} {q N p K t t' NT NT' n cap : Nat} {S R T T' : List Nat} {s s2 u u' : TS} {ao : Option Addr} {L : List Ev} (h : Tri w0 w q S N s p R K s2 t T NT u ao n cap L) (ht : PM w' t' T' NT' u'.1 u'.2) (hb : Below w.heap.size w w') (hs : ∀ k ∈ T', w.heap.size ≤ k) : Tri w0 w' q S N s p R K s2 t' T' NT' u' ao n cap L :=
  ⟨h.two.step hb, ht, fun k hk => Nat.le_trans h.two.a.b.size (hs k hk), fun k hk => ⟨h.two.a.p.far (hs k hk), h.two.m.far (hs k hk)⟩, h.o.step hb, fun k hk => ⟨(h.od k hk).1, (h.od k hk).2.1, fun hn => by have := hs k hn; have := h.olt k hk; omega⟩⟩
theorem Tri.made {w0 w w' : World} {q N p K t NT : Nat} {S R T : List Nat} {s s2 u : TS} (h : Two w0 w q S N s p R K s2) (ht : PM w' t T NT u.1 u.2) (hb : Below w.heap.size w w') (hs : ∀ k ∈ T, w.heap.size ≤ k) : Tri w0 w' q S N s p R K s2 t T NT u none 0 0 [] :=
  ⟨h.step hb, ht, fun k hk => Nat.le_trans h.a.b.size (hs k hk), fun k hk => ⟨h.a.p.far (hs k hk), h.m.far (hs k hk)⟩, OwnA.nil _ _ _ _, fun k hk => by cases hk⟩

theorem badS_snoc {e : Ev} : ∀ (L : List Ev) (s : TS) (i : Nat), badS s L i = none → refP (runS s L).1 (runS s L).2 e = 0 → badS s (L ++ [e]) i = none
  | [], s, i, _, h => by
    have h2 : refP s.1 s.2 e = 0 := h
    rw [List.nil_append, badS_yes h2]
    rfl
  | x :: r, s, i, h1, h2 => by
    by_cases hx : refP s.1 s.2 x = 0
    · rw [badS_yes hx] at h1
      rw [List.cons_append, badS_yes hx]
      exact badS_snoc r _ _ h1 h2
    · rw [badS_no hx] at h1; cases h1
theorem runS_snoc (s : TS) (L : List Ev) (e : Ev) : runS s (L ++ [e]) = stepS (runS s L) e := by
  unfold runS
  rw [List.foldl_append]
  rfl
end Go.Proofs.YtncgjclehplfeaaDoor
