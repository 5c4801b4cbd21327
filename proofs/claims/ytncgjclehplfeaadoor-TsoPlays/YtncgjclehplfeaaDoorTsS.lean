/- DERIVED of the program: the document's own model: Step and fit whole; it and the project's model in one world. Own work. -/
import Derived.Test.YtncgjclehplfeaaDoorTsFitC
import Derived.Test.YtncgjclehplfeaaDoorTsRN
import Derived.Test.YtncgjclehplfeaaDoorTsRa
import Derived.Test.YtncgjclehplfeaaDoorTsRb
import Derived.Test.YtncgjclehplfeaaDoorTsRc
import Derived.Test.YtncgjclehplfeaaDoorTsRd
namespace Go.Proofs.YtncgjclehplfeaaDoor
open Go.RowKit Go.Extern.Stop Go.Stop Go.Extern

theorem kn_of {nc nw : Nat} {k c a v n : Int} {d : Bool} (h : ¬ knP nc nw ⟨k, c, a, v, n, d⟩ = false) : (1 ≤ k ∧ k ≤ 5) ∧ (0 ≤ c ∧ c ≤ (nc : Int) - 1) ∧ (k = 5 ∨ (0 ≤ a ∧ a ≤ (nw : Int) - 1)) := by
  have h1 : knP nc nw ⟨k, c, a, v, n, d⟩ = true := by simpa using h
  unfold knP at h1
  rw [Bool.and_eq_true, Bool.and_eq_true, Bool.or_eq_true, decide_eq_true_eq] at h1
  exact ⟨wB_of h1.1.1, wB_of h1.1.2, h1.2.imp id (fun h => wB_of h)⟩
theorem rstep_c (w : World) (q N : Nat) (S : List Nat) (A : List (List (Int × Int))) (M : List Int) (hT : RM w q S N A M) (hN : N < 100000) (k c a v n : Int) (d : Bool) (r0 : Nat) (h : refP A M ⟨k, c, a, v, n, d⟩ = r0) :
    Calls Tryd.prog 19 #[.pointer (some ⟨q, 0, none⟩), evv k c a v n d] w fun r w' => r = .returned (.int .i64 (r0 : Int)) ∧ ∃ S', RTurned w w' q S S' (N + 1) (stA A M ⟨k, c, a, v, n, d⟩) (stM A M ⟨k, c, a, v, n, d⟩) := by
  by_cases hk : knP A.length M.length ⟨k, c, a, v, n, d⟩ = false
  · obtain ⟨h1, h2, h3⟩ := refP_no hk
    rw [h1] at h
    subst h
    rw [h2, h3]
    refine (rstep_no w q N S A M hT k c a v n d hk).mono ?_
    rintro r w' ⟨rfl, hb⟩
    exact ⟨rfl, S, (RTurned.same hT hb).mono (Nat.le_succ _)⟩
  · obtain ⟨⟨k1, k5⟩, ⟨c0, c1⟩, ha⟩ := kn_of hk
    obtain ⟨m, rfl⟩ : ∃ m : Nat, c = (m : Int) := ⟨c.toNat, by omega⟩
    have hm : m < A.length := by omega
    have h' : refL (A.getD m []) M ⟨k, m, a, v, n, d⟩ = r0 := by
      rw [← h]; unfold refP; rw [if_neg hk]; rfl
    have g1 : stA A M ⟨k, m, a, v, n, d⟩ = if r0 = 0 then doA A ⟨k, m, a, v, n, d⟩ else A := by unfold stA; rw [h]
    have g2 : stM A M ⟨k, m, a, v, n, d⟩ = if r0 = 0 then doM M ⟨k, m, a, v, n, d⟩ else M := by unfold stM; rw [h]
    rw [g1, g2]
    by_cases e5 : k = 5
    · subst e5
      exact rstep_5 w q N S A M hT m hm a v n d r0 h'
    obtain ⟨a0, a1⟩ := ha.resolve_left e5
    obtain ⟨x, rfl⟩ : ∃ x : Nat, a = (x : Int) := ⟨a.toNat, by omega⟩
    have hx : x < M.length := by omega
    by_cases e1 : k = 1
    · subst e1
      exact rstep_1 w q N S A M hT hN m hm x hx v n d r0 h'
    by_cases e2 : k = 2
    · subst e2
      exact rstep_2 w q N S A M hT hN m hm x hx v n d r0 h'
    by_cases e3 : k = 3
    · subst e3
      exact rstep_3 w q N S A M hT m hm x hx v n d r0 h'
    obtain rfl : k = 4 := by omega
    exact rstep_4 w q N S A M hT m hm x hx v n d r0 h'
abbrev evV (e : Ev) : Value := evv e.k e.c e.a e.v e.n e.d
theorem fit_c (w : World) (q N : Nat) (S : List Nat) (A : List (List (Int × Int))) (M : List Int) (hT : RM w q S N A M) (hN : N ≤ 100000) (k c a v n : Int) (d : Bool) (e' : Ev) (h : fitE A M ⟨k, c, a, v, n, d⟩ = e') :
    Calls Tryd.prog 17 #[.pointer (some ⟨q, 0, none⟩), evv k c a v n d] w fun r w' => r = .returned (evV e') ∧ Below w.heap.size w w' := by
  subst h
  by_cases hr : (0 ≤ c ∧ c < (A.length : Int)) ∧ 0 ≤ a ∧ a < (M.length : Int)
  · obtain ⟨m, rfl⟩ : ∃ m : Nat, c = (m : Int) := ⟨c.toNat, by omega⟩
    obtain ⟨x, rfl⟩ : ∃ x : Nat, a = (x : Int) := ⟨a.toNat, by omega⟩
    have hm : m < A.length := by omega
    have hx : x < M.length := by omega
    unfold fitE
    rw [if_pos hr]
    by_cases e1 : k = 1
    · subst e1
      rw [if_pos rfl]
      exact fit_load w q N S A M hT hN m x hm hx v n d
    rw [if_neg e1]
    by_cases e3 : k = 3
    · subst e3
      rw [if_pos rfl]
      refine (fit_com w q N S A M hT m x hm hx v n d).mono ?_
      rintro r w' ⟨rfl, hb⟩
      refine ⟨?_, hb⟩
      rw [show ((m : Int)).toNat = m from rfl]
      cases A.getD m [] with
      | nil => rfl
      | cons p R => rfl
    rw [if_neg e3]
    by_cases e4 : k = 4
    · subst e4
      rw [if_pos rfl]
      exact fit_cas w q N S A M hT m x hm hx v n d
    rw [if_neg e4]
    exact fit_oth w q N S A M hT k e1 e3 e4 m x hm hx v n d
  · unfold fitE
    rw [if_neg hr]
    exact fit_no w q N S A M hT k c a v n d hr

/-- The project's model and the document's, in one world. -/
structure Two (w0 w : World) (q : Nat) (S : List Nat) (N : Nat) (s : TS) (p : Nat) (R : List Nat) (K : Nat) (t : TS) : Prop where
  a : At w0 w q S N s
  m : RM w p R K t.1 t.2
  b : ∀ k ∈ R, w0.heap.size ≤ k
  d : ∀ k ∈ S, k ∉ R
theorem Two.step {w0 w w' : World} {q p N K : Nat} {S R : List Nat} {s t : TS} (h : Two w0 w q S N s p R K t) (hb : Below w.heap.size w w') : Two w0 w' q S N s p R K t := ⟨h.a.step hb, h.m.step hb, h.b, h.d⟩
theorem Two.mono {w0 w : World} {q p N N' K : Nat} {S R : List Nat} {s t : TS} (h : Two w0 w q S N s p R K t) (hN : N ≤ N') : Two w0 w q S N' s p R K t := ⟨⟨h.a.p.mono hN, h.a.b, h.a.s⟩, h.m, h.b, h.d⟩
theorem Two.fr {w0 w w' : World} {q p N K : Nat} {S R T : List Nat} {s t : TS} (h : Two w0 w q S N s p R K t) (hf : Fr T w w') (h1 : ∀ k ∈ S, k ∉ T) (h2 : ∀ k ∈ R, k ∉ T) (hT : ∀ k ∈ T, w0.heap.size ≤ k) : Two w0 w' q S N s p R K t := ⟨h.a.fr hf h1 hT, h.m.fr hf h2, h.b, h.d⟩
theorem Two.rturned {w0 w w' : World} {q p N K K' : Nat} {S R R' : List Nat} {s t t' : TS} (h : Two w0 w q S N s p R K t) (ht : RTurned w w' p R R' K' t'.1 t'.2) : Two w0 w' q S N s p R' K' t' :=
  ⟨h.a.fr ht.f h.d h.b, ht.p, fun k hk => by
    rcases ht.s k hk with h1 | h1
    · exact h.b k h1
    · exact Nat.le_trans h.a.b.size h1, fun k hk hn => by
    rcases ht.s k hn with h1 | h1
    · exact h.d k hk h1
    · have := h.a.p.mem k hk; omega⟩
theorem Two.turned {w0 w w' : World} {q p N N' K : Nat} {S S' R : List Nat} {s s' t : TS} (h : Two w0 w q S N s p R K t) (ht : Turned w w' q S S' N' s'.1 s'.2) : Two w0 w' q S' N' s' p R K t :=
  ⟨h.a.turned ht, h.m.fr ht.f (fun k hk hn => h.d k hn hk), h.b, fun k hk hn => by
    rcases ht.s k hk with h1 | h1
    · exact h.d k h1 hn
    · have := h.m.mem k hn; omega⟩
theorem Two.made {w0 w w' : World} {q p N K : Nat} {S R : List Nat} {s t : TS} (h : At w0 w q S N s) (hb : Below w.heap.size w w') (hm : RM w' p R K t.1 t.2) (hR : ∀ k ∈ R, w.heap.size ≤ k) : Two w0 w' q S N s p R K t :=
  ⟨h.step hb, hm, fun k hk => Nat.le_trans h.b.size (hR k hk), fun k hk hn => by have := h.p.mem k hk; have := hR k hn; omega⟩
theorem two_new (w0 w : World) (q N : Nat) (S : List Nat) (s : TS) (h : At w0 w q S N s) (nA nM : Nat) (h1 : 1 ≤ nA) (h2 : nA ≤ 64) (h3 : 1 ≤ nM) (h4 : nM ≤ 128) :
    Calls Tryd.prog 16 #[.int .i64 (nA : Int), .int .i64 (nM : Int)] w fun r w' => ∃ p R, r = .returned (.tuple #[.pointer (some ⟨p, 0, none⟩), .int .i64 0]) ∧ Two w0 w' q S N s p R 0 (ts0 nA nM) := by
  refine (rtnew_c w nA nM h1 h2 h3 h4).mono ?_
  rintro r w' ⟨p, R, rfl, hR, hb, hs⟩
  exact ⟨p, R, rfl, Two.made h hb hR hs⟩
theorem two_fit (w0 w : World) (q N p K : Nat) (S R : List Nat) (s t : TS) (h : Two w0 w q S N s p R K t) (hK : K ≤ 100000) (k c a v n : Int) (d : Bool) (e' : Ev) (he : fitE t.1 t.2 ⟨k, c, a, v, n, d⟩ = e') :
    Calls Tryd.prog 17 #[.pointer (some ⟨p, 0, none⟩), evv k c a v n d] w fun r w' => r = .returned (evV e') ∧ Two w0 w' q S N s p R K t := by
  refine (fit_c w p K R t.1 t.2 h.m hK k c a v n d e' he).mono ?_
  rintro r w' ⟨rfl, hb⟩
  exact ⟨rfl, h.step hb⟩
theorem two_rstep (w0 w : World) (q N p K : Nat) (S R : List Nat) (s t t' : TS) (h : Two w0 w q S N s p R K t) (hK : K < 100000) (k c a v n : Int) (d : Bool) (r0 : Nat) (hr : refP t.1 t.2 ⟨k, c, a, v, n, d⟩ = r0) (ht : stepS t ⟨k, c, a, v, n, d⟩ = t') :
    Calls Tryd.prog 19 #[.pointer (some ⟨p, 0, none⟩), evv k c a v n d] w fun r w' => r = .returned (.int .i64 (r0 : Int)) ∧ Fr R w w' ∧ ∃ R', Two w0 w' q S N s p R' (K + 1) t' := by
  subst ht
  refine (rstep_c w p K R t.1 t.2 h.m hK k c a v n d r0 hr).mono ?_
  rintro r w' ⟨rfl, R', hT⟩
  exact ⟨rfl, hT.f, R', h.rturned (t' := stepS t _) hT⟩
theorem two_tstep (w0 w : World) (sa : Nat → Addr) (hE : Env10 w0 sa) (q N p K : Nat) (S R : List Nat) (s s' t : TS) (h : Two w0 w q S N s p R K t) (hN : N < 100000) (k c a v n : Int) (d : Bool) (r0 : Nat) (hr : refP s.1 s.2 ⟨k, c, a, v, n, d⟩ = r0) (hs : stepS s ⟨k, c, a, v, n, d⟩ = s') :
    Calls Tryd.prog 18 #[.pointer (some ⟨q, 0, none⟩), evv k c a v n d] w fun r w' => r = .returned (perr sa r0 opTStep c) ∧ Fr S w w' ∧ ∃ S', Two w0 w' q S' (N + 1) s' p R K t := by
  subst hs
  refine (tstep_c w sa (hE.below h.a.b) q N S s.1 s.2 h.a.p hN k c a v n d r0 hr).mono ?_
  rintro r w' ⟨rfl, S', hT⟩
  exact ⟨rfl, hT.f, S', h.turned (s' := stepS s _) hT⟩
end Go.Proofs.YtncgjclehplfeaaDoor
