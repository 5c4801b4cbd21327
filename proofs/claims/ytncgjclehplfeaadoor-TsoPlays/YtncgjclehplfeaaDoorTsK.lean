/- DERIVED of the program: the project's model in a law's walk: which event is refused, what is done; Step, Read, Waiting so. Own work. -/
import Derived.Test.YtncgjclehplfeaaDoorTsJ
namespace Go.Proofs.YtncgjclehplfeaaDoor
open Go.RowKit Go.Extern.Stop Go.Stop Go.Extern

/-- The law's own model. -/
structure At (w0 w : World) (q : Nat) (S : List Nat) (N : Nat) (s : TS) : Prop where
  p : PM w q S N s.1 s.2
  b : Below w0.heap.size w0 w
  s : ∀ k ∈ S, w0.heap.size ≤ k
theorem At.step {w0 w w' : World} {q N : Nat} {S : List Nat} {s : TS} (h : At w0 w q S N s) (hb : Below w.heap.size w w') : At w0 w' q S N s := ⟨h.p.step hb, bstep h.b (Nat.le_refl _) hb, h.s⟩
theorem At.turned {w0 w w' : World} {q N N' : Nat} {S S' : List Nat} {s s' : TS} (h : At w0 w q S N s) (ht : Turned w w' q S S' N' s'.1 s'.2) : At w0 w' q S' N' s' :=
  ⟨ht.p, ht.f.below h.b h.s h.b.size, fun k hk => by
    rcases ht.s k hk with h1 | h1
    · exact h.s k h1
    · exact Nat.le_trans h.b.size h1⟩
theorem At.fr {w0 w w' : World} {q N : Nat} {S T : List Nat} {s : TS} (h : At w0 w q S N s) (hf : Fr T w w') (hd : ∀ k ∈ S, k ∉ T) (hT : ∀ k ∈ T, w0.heap.size ≤ k) : At w0 w' q S N s :=
  ⟨h.p.fr hf hd, hf.below h.b hT h.b.size, h.s⟩

theorem kn_ok {nA nM c a : Nat} {k v n : Int} {d : Bool} (h1 : 1 ≤ k) (h5 : k ≤ 5) (hc : c < nA) (ha : a < nM) : knP nA nM ⟨k, c, a, v, n, d⟩ = true := by
  unfold knP
  rw [wB_yes ⟨h1, h5⟩, wB_yes ⟨by simp only []; omega, by simp only []; omega⟩, wB_yes (n := (a : Int)) ⟨by omega, by omega⟩]
  simp
theorem kn_fence {nA nM c : Nat} {a v n : Int} {d : Bool} (hc : c < nA) : knP nA nM ⟨5, c, a, v, n, d⟩ = true := by
  unfold knP
  rw [wB_yes (n := (5 : Int)) (a := 1) (b := 5) ⟨by decide, by decide⟩, wB_yes ⟨by simp only []; omega, by simp only []; omega⟩]
  simp
theorem ref_ok {s : TS} {e : Ev} (h : knP s.1.length s.2.length e = true) : refP s.1 s.2 e = refL (s.1.getD e.c.toNat []) s.2 e := by
  unfold refP
  rw [if_neg (by rw [h]; decide)]
theorem ref_load (s : TS) (c a : Nat) (v n : Int) (d : Bool) (hc : c < s.1.length) (ha : a < s.2.length) : refP s.1 s.2 ⟨1, c, a, v, n, d⟩ = if rdL (s.1.getD c []) s.2 a = v then 0 else 10 := by
  rw [ref_ok (kn_ok (by decide) (by decide) hc ha)]
  simp [refL]
theorem ref_store (s : TS) (c a : Nat) (v n : Int) (d : Bool) (hc : c < s.1.length) (ha : a < s.2.length) : refP s.1 s.2 ⟨2, c, a, v, n, d⟩ = 0 := by
  rw [ref_ok (kn_ok (by decide) (by decide) hc ha)]
  simp [refL]
theorem ref_commit (s : TS) (c a : Nat) (v n : Int) (d : Bool) (hc : c < s.1.length) (ha : a < s.2.length) (x : Int × Int) (r : List (Int × Int)) (hL : s.1.getD c [] = x :: r) : refP s.1 s.2 ⟨3, c, a, v, n, d⟩ = if x = ((a : Int), v) then 0 else 10 := by
  rw [ref_ok (kn_ok (by decide) (by decide) hc ha)]
  simp only [refL, Int.toNat_natCast, hL]
  rfl
theorem ref_commit0 (s : TS) (c a : Nat) (v n : Int) (d : Bool) (hc : c < s.1.length) (ha : a < s.2.length) (hL : s.1.getD c [] = []) : refP s.1 s.2 ⟨3, c, a, v, n, d⟩ = 9 := by
  rw [ref_ok (kn_ok (by decide) (by decide) hc ha)]
  simp only [refL, Int.toNat_natCast, hL]
  rfl
theorem ref_cas (s : TS) (c a : Nat) (v n : Int) (d : Bool) (hc : c < s.1.length) (ha : a < s.2.length) (hL : s.1.getD c [] = []) : refP s.1 s.2 ⟨4, c, a, v, n, d⟩ = if s.2.getD a 0 = v then 0 else 10 := by
  rw [ref_ok (kn_ok (by decide) (by decide) hc ha)]
  simp only [refL, Int.toNat_natCast, hL]
  simp [rdL, fwdL]
theorem ref_fence (s : TS) (c : Nat) (a v n : Int) (d : Bool) (hc : c < s.1.length) : refP s.1 s.2 ⟨5, c, a, v, n, d⟩ = if s.1.getD c [] ≠ [] then 9 else 0 := by
  rw [ref_ok (kn_fence hc)]
  simp only [refL, Int.toNat_natCast]
  rfl
theorem step_bad {s : TS} {e : Ev} (h : refP s.1 s.2 e ≠ 0) : stepS s e = s := by
  simp only [stepS, stA, stM, if_neg h]
theorem step_still {s : TS} {e : Ev} (h : e.k = 1 ∨ e.k = 5) : stepS s e = s := by
  obtain ⟨k, c, a, v, n, d⟩ := e
  simp only [stepS, stA, stM, doA, doM]
  rcases h with rfl | rfl <;> simp
theorem step_store {s : TS} {c a : Nat} {v n : Int} {d : Bool} (hc : c < s.1.length) (ha : a < s.2.length) : stepS s ⟨2, c, a, v, n, d⟩ = (s.1.set c (s.1.getD c [] ++ [((a : Int), v)]), s.2) := by
  simp only [stepS, stA, stM, ref_store s c a v n d hc ha, if_true, doA, doM]
  simp
theorem step_commit {s : TS} {c a : Nat} {v n : Int} {d : Bool} (hc : c < s.1.length) (ha : a < s.2.length) (r : List (Int × Int)) (hL : s.1.getD c [] = ((a : Int), v) :: r) : stepS s ⟨3, c, a, v, n, d⟩ = (s.1.set c r, s.2.set a v) := by
  have h := ref_commit s c a v n d hc ha _ r hL
  rw [if_pos rfl] at h
  have h2 : (⟨3, c, a, v, n, d⟩ : Ev).c.toNat = c := Int.toNat_natCast c
  simp only [stepS, stA, stM, h, if_true, doA, doM, Int.toNat_natCast, hL]
  simp
theorem step_cas {s : TS} {c a : Nat} {v n : Int} (hc : c < s.1.length) (ha : a < s.2.length) (hL : s.1.getD c [] = []) (hv : s.2.getD a 0 = v) : stepS s ⟨4, c, a, v, n, true⟩ = (s.1, s.2.set a n) := by
  have h := ref_cas s c a v n true hc ha hL
  rw [if_pos hv] at h
  simp only [stepS, stA, stM, h, if_true, doA, doM]
  simp

theorem at_new (w0 w : World) (hb : Below w0.heap.size w0 w) (nA nM : Nat) (h1 : 1 ≤ nA) (h2 : nA ≤ 64) (h3 : 1 ≤ nM) (h4 : nM ≤ 128) :
    Calls Tryd.prog 15 #[.int .i64 (nA : Int), .int .i64 (nM : Int)] w fun r w' => ∃ q S, r = .returned (.tuple #[.pointer (some ⟨q, 0, none⟩), .nilIface]) ∧ At w0 w' q S 0 (ts0 nA nM) ∧ Below w.heap.size w w' ∧ ∀ k ∈ S, w.heap.size ≤ k := by
  refine (tnew_c w nA nM h1 h2 h3 h4).mono ?_
  rintro r w' ⟨q, S, rfl, hP, hb', hs⟩
  exact ⟨q, S, rfl, ⟨hP, bstep hb (Nat.le_refl _) hb', fun k hk => Nat.le_trans hb.size (hs k hk)⟩, hb', hs⟩
theorem at_yes (w0 w : World) (sa : Nat → Addr) (hE : Env10 w0 sa) (q N : Nat) (S : List Nat) (s s' : TS) (hA : At w0 w q S N s) (hN : N < 100000) (k c a v n : Int) (d : Bool) (h : refP s.1 s.2 ⟨k, c, a, v, n, d⟩ = 0) (hs : stepS s ⟨k, c, a, v, n, d⟩ = s') :
    Calls Tryd.prog 18 #[.pointer (some ⟨q, 0, none⟩), evv k c a v n d] w fun r w' => r = .returned .nilIface ∧ ∃ S', At w0 w' q S' (N + 1) s' ∧ Turned w w' q S S' (N + 1) s'.1 s'.2 := by
  subst hs
  refine (tstep_c w sa (hE.below hA.b) q N S s.1 s.2 hA.p hN k c a v n d 0 h).mono ?_
  rintro r w' ⟨rfl, S', hT⟩
  exact ⟨rfl, S', hA.turned (s' := stepS s _) hT, hT⟩
theorem at_no (w0 w : World) (sa : Nat → Addr) (hE : Env10 w0 sa) (q N : Nat) (S : List Nat) (s : TS) (hA : At w0 w q S N s) (hN : N < 100000) (k c a v n : Int) (d : Bool) (r0 : Nat) (h : refP s.1 s.2 ⟨k, c, a, v, n, d⟩ = r0) (h0 : r0 ≠ 0) :
    Calls Tryd.prog 18 #[.pointer (some ⟨q, 0, none⟩), evv k c a v n d] w fun r w' => r = .returned (flt opTStep c (snt (sa r0))) ∧ ∃ S', At w0 w' q S' (N + 1) s ∧ Turned w w' q S S' (N + 1) s.1 s.2 := by
  refine (tstep_c w sa (hE.below hA.b) q N S s.1 s.2 hA.p hN k c a v n d r0 h).mono ?_
  rintro r w' ⟨rfl, S', hT⟩
  have hs : stepS s ⟨k, c, a, v, n, d⟩ = s := step_bad (by rw [h]; exact h0)
  have h2 : Turned w w' q S S' (N + 1) s.1 s.2 := by
    have h3 : Turned w w' q S S' (N + 1) (stepS s ⟨k, c, a, v, n, d⟩).1 (stepS s ⟨k, c, a, v, n, d⟩).2 := hT
    rwa [hs] at h3
  exact ⟨by rw [perr_some sa r0 opTStep c h0], S', hA.turned h2, h2⟩
end Go.Proofs.YtncgjclehplfeaaDoor
