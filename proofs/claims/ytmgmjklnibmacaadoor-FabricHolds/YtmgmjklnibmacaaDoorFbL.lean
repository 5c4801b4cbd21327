/- DERIVED of the program: Send and Take of a fabric of the call's own, beside other blocks of the call's own. Own work. -/
import Derived.Test.YtmgmjklnibmacaaDoorFbJ
namespace Go.Proofs.YtmgmjklnibmacaaDoor
open Go.RowKit Go.Extern.Stop Go.Stop Go.Extern

/-- Blocks that aren't the fabric's stay, and stay no blocks of it. -/
structure Beside (w w' : World) (S S' : List Nat) : Prop where
  f : Fr S w w'
  s : ∀ k ∈ S', k ∈ S ∨ w.heap.size ≤ k
theorem Beside.blk {w w' : World} {S S' : List Nat} (h : Beside w w' S S') {B : Nat} {o : Obj} (hB : w.heap[B]? = some o) (hn : B ∉ S) : w'.heap[B]? = some o ∧ B ∉ S' :=
  ⟨(h.f.block B (blk_lt hB) hn).trans hB, fun hm => by rcases h.s B hm with h1 | h1; (· exact hn h1); have := blk_lt hB; omega⟩
theorem Beside.row {w w' : World} {S S' : List Nat} (h : Beside w w' S S') {t : TypeId} {m B n cap : Nat} {ao : Option Addr} {rs : List (List Value)} (hO : OwnA t m w B ao n cap rs) (hn : ∀ k, oblk ao = some k → k ∉ S) : OwnA t m w' B ao n cap rs ∧ ∀ k, oblk ao = some k → k ∉ S' :=
  ⟨hO.fr h.f hn, fun k hk => by obtain ⟨_, cur, hc⟩ := hO.blk k hk; exact (h.blk hc (hn k hk)).2⟩
theorem lvsend_f (w0 w : World) (sa : Nat → Addr) (hE : Env10 w0 sa) (q cs rm : Nat) (S : List Nat) (P : List (List M13)) (h : Lv w0 w q S cs rm P) (L : List M13) (hIn : InB L) (n : Nat) (hn : L.length = n) (hlen : n ≤ 1000) (c k : Nat) (kk : Int) (hk : kk = (k : Int)) (P' : List (List M13)) (hc : fitsF cs rm P L = (c, k)) (hP : sentF cs rm P L = P') :
    Calls Tryd.prog 10 #[.pointer (some ⟨q, 0, none⟩), .slice (some ⟨w.heap.size, 0, none⟩) n n] (w.alloc (.cells (lits L) 32)) fun r w' => r = .returned (perr sa c opFSend kk) ∧ ∃ S', Lv w0 w' q S' cs rm P' ∧ Beside w w' S S' := by
  subst hk
  subst hn
  have h' := h.step (below_alloc w (.cells (lits L) 32))
  refine (fbsend_c _ sa (hE.below h'.b) q cs rm S P h'.f (some ⟨w.heap.size, 0, none⟩) L.length L.length L (Rows'.lits w L) rfl hIn hlen (fun k hk => ?_) c k P' hc hP).mono ?_
  · cases hk
    exact h.f.far (Nat.le_refl _)
  · rintro r w' ⟨hr, S', hT⟩
    exact ⟨hr, S', h'.turn hT, (Fr.of_below (below_alloc _ _)).trans hT.f, fun k hk => (hT.s k hk).imp id (fun h1 => Nat.le_trans (below_alloc w (.cells (lits L) 32)).size h1)⟩
theorem lvsendr_f (w0 w : World) (sa : Nat → Addr) (hE : Env10 w0 sa) (q cs rm : Nat) (S : List Nat) (P : List (List M13)) (h : Lv w0 w q S cs rm P) (ao : Option Addr) (cap : Nat) (L : List M13) (hL : Rows' 13 w ao cap (L.map mc)) (hsep : ∀ k, oblk ao = some k → k ∉ S) (hIn : InB L) (n : Nat) (hn : L.length = n) (hlen : n ≤ 1000) (c k : Nat) (kk : Int) (hk : kk = (k : Int)) (P' : List (List M13)) (hc : fitsF cs rm P L = (c, k)) (hP : sentF cs rm P L = P') :
    Calls Tryd.prog 10 #[.pointer (some ⟨q, 0, none⟩), .slice ao n cap] w fun r w' => r = .returned (perr sa c opFSend kk) ∧ ∃ S', Lv w0 w' q S' cs rm P' ∧ Beside w w' S S' := by
  subst hk
  subst hn
  refine (fbsend_c _ sa (hE.below h.b) q cs rm S P h.f ao L.length cap L hL rfl hIn hlen hsep c k P' hc hP).mono ?_
  rintro r w' ⟨hr, S', hT⟩
  exact ⟨hr, S', h.turn hT, hT.f, hT.s⟩
theorem lvtake_f (w0 w : World) (q cs rm : Nat) (S : List Nat) (P : List (List M13)) (h : Lv w0 w q S cs rm P) (p c k : Int) (m : M13) (b : Bool) (hm : peekF cs P p c k = (m, b)) (P' : List (List M13)) (hP : tookF cs P p c k = P') :
    Calls Tryd.prog 12 #[.pointer (some ⟨q, 0, none⟩), .int .i64 p, .int .i64 c, .int .i64 k] w fun r w' => r = .returned (.tuple #[.agg (mv m), .bool b]) ∧ ∃ S', Lv w0 w' q S' cs rm P' ∧ Beside w w' S S' :=
  (fbtake_c w q cs rm S P h.f p c k m b hm P' hP).mono fun _ _ ⟨hr, S', hT⟩ => ⟨hr, S', h.turn hT, hT.f, hT.s⟩
theorem FbOk.all_le {cs rm : Nat} {P : List (List M13)} (h : FbOk cs rm P) : allF P ≤ 8320 := by
  have h1 := allF_le (rm := 64) (P := P) (fun i => Nat.le_trans (h.room i) h.rm64)
  have h2 := h.len
  have h3 := h.cs64
  have h4 : P.length * 64 ≤ 130 * 64 := Nat.mul_le_mul_right 64 (by omega)
  omega
/-- A room of its own for one message, or none. -/
theorem one_ok {cs rm : Nat} {P : List (List M13)} {m : M13} (hm : okM cs m = true) (hl : lenF P (thM cs m) < rm) : fitsF cs rm P [m] = (0, 0) ∧ sentF cs rm P [m] = putF cs P m := by
  have h1 : fitsF cs rm P [m] = (0, 0) := fitsF_ok (badF_all (fun x hx => by obtain rfl := List.mem_singleton.1 hx; exact hm)) (by unfold fullF; rw [if_neg (by omega)]; rfl)
  exact ⟨h1, by rw [sentF_ok (by rw [h1])]; rfl⟩
theorem one_full {cs rm : Nat} {P : List (List M13)} {m : M13} (hm : okM cs m = true) (hl : rm ≤ lenF P (thM cs m)) : fitsF cs rm P [m] = (6, 0) ∧ sentF cs rm P [m] = P := by
  have h1 : fitsF cs rm P [m] = (6, 0) := fitsF_full (badF_all (fun x hx => by obtain rfl := List.mem_singleton.1 hx; exact hm)) (by unfold fullF; rw [if_pos hl])
  exact ⟨h1, sentF_no (by rw [h1]; decide)⟩
theorem one_bad {cs rm : Nat} {P : List (List M13)} {m : M13} (hm : okM cs m = false) : fitsF cs rm P [m] = (1, 0) ∧ sentF cs rm P [m] = P := by
  have h1 : fitsF cs rm P [m] = (1, 0) := fitsF_bad (badF_some (fun j _ hj => absurd hj (Nat.not_lt_zero _)) ⟨m, rfl, hm⟩)
  exact ⟨h1, sentF_no (by rw [h1]; decide)⟩

end Go.Proofs.YtmgmjklnibmacaaDoor
