/- DERIVED of the program: a fabric of the call's own, by what it does; the law's of. Own work. -/
import Derived.Test.YtmgmjklnibmacaaDoorFbH
namespace Go.Proofs.YtmgmjklnibmacaaDoor
open Go.RowKit Go.Extern.Stop Go.Stop Go.Extern

/-- A message that says no more than its kind and core. -/
def ofM (k c : Int) : M13 := (k, c, 0, 0, 0, 0, 0, 0, 0, 0, 0, 0, false)
theorem ofM_eq (k c : Int) : ofM k c = (k, c, 0, 0, 0, 0, 0, 0, 0, 0, 0, 0, false) := rfl
theorem ofM_ok {cs : Nat} {k c : Int} (hk : k = 1 ∨ k = 2 ∨ k = 4 ∨ k = 6 ∨ k = 7 ∨ k = 10 ∨ k = 12 ∨ k = 15) (h0 : 0 ≤ c) (hc : c < (cs : Int)) (h64 : cs ≤ 64) : okM cs (ofM k c) = true := by
  unfold okM
  simp only [Bool.and_eq_true, decide_eq_true_eq, rtB_iff]
  refine ⟨?_, hc⟩
  simp only [ofM, rtP, and_true, true_and]
  refine ⟨by omega, by omega, by omega, ?_⟩
  simp [hk]
theorem ofM_in (k c : Int) (hk : 0 ≤ k ∧ k ≤ 15) (h0 : 0 ≤ c) (h64 : c ≤ 64) : M32 (ofM k c) ∧ M64 (ofM k c) := by
  simp only [ofM, M32, M64]
  omega
theorem fbof_c (k c : Int) (w : World) : Calls Tryd.prog 11 #[.int .i64 k, .int .i64 c] w fun r w' => r = .returned (.agg (mv (ofM k c))) ∧ Below w.heap.size w w' := by
  go_enter Tryd.func11, Tryd.ntmps11
  go_wp2
  (try simp only [Exit.inBlock, Exit.then])
  refine bodyPost_ret (v := .agg (mv (ofM k c))) ?_ rfl ⟨rfl, below_alloc _ _⟩
  rw [results_cell1 rfl]
  simp only [ofM, mv_eq]
  go_simp

/-- A fabric that was made behind w0. -/
structure Lv (w0 w : World) (q : Nat) (S : List Nat) (cs rm : Nat) (P : List (List M13)) : Prop where
  f : Fab w q S cs rm P
  lo : ∀ k ∈ S, w0.heap.size ≤ k
  b : Below w0.heap.size w0 w
theorem Lv.step {w0 w w' : World} {q cs rm : Nat} {S : List Nat} {P : List (List M13)} (h : Lv w0 w q S cs rm P) (hb : Below w.heap.size w w') : Lv w0 w' q S cs rm P :=
  ⟨h.f.step hb, h.lo, bstep h.b (Nat.le_refl _) hb⟩
theorem Lv.turn {w0 w w' : World} {q cs rm : Nat} {S S' : List Nat} {P P' : List (List M13)} (h : Lv w0 w q S cs rm P) (hT : Turned w w' q S S' cs rm P') : Lv w0 w' q S' cs rm P' :=
  ⟨hT.p, (hT.below h.b h.lo h.b.size).2, (hT.below h.b h.lo h.b.size).1⟩
theorem lvnew_c (w : World) (cs rm : Nat) (h1 : 1 ≤ cs) (h2 : cs ≤ 64) (h3 : 1 ≤ rm) (h4 : rm ≤ 64) :
    Calls Tryd.prog 9 #[.int .i64 (cs : Int), .int .i64 (rm : Int)] w fun r w' => ∃ q S, r = .returned (.tuple #[.pointer (some ⟨q, 0, none⟩), .nilIface]) ∧ Lv w w' q S cs rm (noneF cs) :=
  (fbnew_ok w cs rm h1 h2 h3 h4).mono fun _ _ ⟨q, S, hr, hF, hS, hb⟩ => ⟨q, S, hr, hF, hS, hb⟩
/-- Send of a slice literal. -/
theorem lvsend_c (w0 w : World) (sa : Nat → Addr) (hE : Env10 w0 sa) (q cs rm : Nat) (S : List Nat) (P : List (List M13)) (h : Lv w0 w q S cs rm P) (L : List M13) (hIn : InB L) (n : Nat) (hn : L.length = n) (hlen : n ≤ 1000) (c k : Nat) (kk : Int) (hk : kk = (k : Int)) (P' : List (List M13)) (hc : fitsF cs rm P L = (c, k)) (hP : sentF cs rm P L = P') :
    Calls Tryd.prog 10 #[.pointer (some ⟨q, 0, none⟩), .slice (some ⟨w.heap.size, 0, none⟩) n n] (w.alloc (.cells (lits L) 32)) fun r w' => r = .returned (perr sa c opFSend kk) ∧ ∃ S', Lv w0 w' q S' cs rm P' ∧ Fr S w w' := by
  subst hk
  subst hn
  have h' := h.step (below_alloc w (.cells (lits L) 32))
  refine (fbsend_c _ sa (hE.below h'.b) q cs rm S P h'.f (some ⟨w.heap.size, 0, none⟩) L.length L.length L (Rows'.lits w L) rfl hIn hlen (fun k hk => ?_) c k P' hc hP).mono ?_
  · cases hk
    exact h.f.far (Nat.le_refl _)
  · rintro r w' ⟨hr, S', hT⟩
    exact ⟨hr, S', h'.turn hT, (Fr.of_below (below_alloc _ _)).trans hT.f⟩
theorem lvtake_c (w0 w : World) (q cs rm : Nat) (S : List Nat) (P : List (List M13)) (h : Lv w0 w q S cs rm P) (p c k : Int) (m : M13) (b : Bool) (hm : peekF cs P p c k = (m, b)) (P' : List (List M13)) (hP : tookF cs P p c k = P') :
    Calls Tryd.prog 12 #[.pointer (some ⟨q, 0, none⟩), .int .i64 p, .int .i64 c, .int .i64 k] w fun r w' => r = .returned (.tuple #[.agg (mv m), .bool b]) ∧ ∃ S', Lv w0 w' q S' cs rm P' ∧ Fr S w w' :=
  (fbtake_c w q cs rm S P h.f p c k m b hm P' hP).mono fun _ _ ⟨hr, S', hT⟩ => ⟨hr, S', h.turn hT, hT.f⟩

end Go.Proofs.YtmgmjklnibmacaaDoor
