/- DERIVED of the program: the document's own array in memory; its find and Get by their contracts. Own work. -/
import Derived.Test.YtcackmmfnojpfaaDoorArL
namespace Go.Proofs.YtcackmmfnojpfaaDoor
open Go.RowKit Go.Extern.Stop Go.Stop Go.Extern

/-- A way as the document's own array has it: a free one has the line -1. -/
def En.ref (e : En) : En := if e.free = true then ⟨-1, 0, 0, 0, 0, 0, 0, 0, false, false⟩ else e
theorem ref_free {e : En} (h : e.state = 0) : e.ref = ⟨-1, 0, 0, 0, 0, 0, 0, 0, false, false⟩ := if_pos (by simp [En.free, h])
theorem ref_full {e : En} (h : e.state ≠ 0) : e.ref = e := if_neg (by simp [En.free, h])

/-- The document's own array: its bits in block R, itself in block R + 1, its rows' table in eb, its rows in g. -/
structure RAt (w : World) (lo hi R k : Nat) (A : List St) (eb ecap : Nat) (g : Nat → Nat) : Prop where
  q : w.heap[R + 1]? = some (.cells #[.int .i64 (A.length : Int), .int .i64 (k : Int), .slice (some ⟨eb, 0, none⟩) A.length ecap, .slice (some ⟨R, 0, none⟩) A.length A.length] 57 (0, 0))
  b : ∃ cs, w.heap[R]? = some (.cells cs 5 (0, 0)) ∧ ∀ i (h : i < A.length), cs[i]? = some (.int .u8 (A[i].1 : Nat))
  e : ∃ cs, w.heap[eb]? = some (.cells cs 53 (0, 0)) ∧ ∀ i, i < A.length → cs[i]? = some (.slice (some ⟨g i, 0, none⟩) k k)
  v : ∀ i (h : i < A.length), ∃ cs, w.heap[g i]? = some (.cells cs 46 (0, 0)) ∧ ∀ j (hj : j < A[i].2.length) c v, (A[i].2[j].ref.ec)[c]? = some v → cs[j * 10 + c]? = some v
  inj : ∀ i j, i < A.length → j < A.length → i ≠ j → g i ≠ g j
  off : ∀ i, i < A.length → g i ≠ eb ∧ g i ≠ R ∧ g i ≠ R + 1 ∧ lo ≤ g i ∧ g i < hi
  oth : eb ≠ R ∧ eb ≠ R + 1 ∧ lo ≤ eb ∧ eb < hi ∧ lo ≤ R ∧ R + 1 < hi
  nn : A.length = 1 ∨ A.length = 2 ∨ A.length = 4 ∨ A.length = 8
  kk : k = 1 ∨ k = 2 ∨ k = 4 ∨ k = 8
  ok : ∀ i (h : i < A.length), A[i].1 < 256 ∧ A[i].2.length = k
  pos : ∀ i (h : i < A.length) j (hj : j < A[i].2.length), (A[i].2[j]).state ≠ 0 → 0 ≤ (A[i].2[j]).line

def RArr (w : World) (lo hi R k : Nat) (A : List St) : Prop := ∃ eb ecap g, RAt w lo hi R k A eb ecap g

theorem RAt.lt {w : World} {lo hi R k eb ecap : Nat} {g : Nat → Nat} {A : List St} (h : RAt w lo hi R k A eb ecap g) : R + 1 < w.heap.size ∧ eb < w.heap.size ∧ ∀ i, i < A.length → g i < w.heap.size := by
  obtain ⟨cs, e1, _⟩ := h.e
  refine ⟨blk_lt h.q, blk_lt e1, fun i hi => ?_⟩
  obtain ⟨c2, v1, _⟩ := h.v i hi
  exact blk_lt v1

theorem RAt.kept {w w' : World} {lo hi R k eb ecap a z : Nat} {g : Nat → Nat} {A : List St} (h : RAt w lo hi R k A eb ecap g) (ha : Apart a z w w') (hd : z ≤ lo ∨ hi ≤ a) : RAt w' lo hi R k A eb ecap g := by
  obtain ⟨l1, l2, l3⟩ := h.lt
  obtain ⟨cb, b1, b2⟩ := h.b
  obtain ⟨ce, e1, e2⟩ := h.e
  obtain ⟨o1, o2, o3, o4, o5, o6⟩ := h.oth
  refine ⟨(ha.block _ l1 (by omega)).trans h.q, ⟨cb, (ha.block _ (by omega) (by omega)).trans b1, b2⟩, ⟨ce, (ha.block _ l2 (by omega)).trans e1, e2⟩, fun i hi => ?_, h.inj, h.off, h.oth, h.nn, h.kk, h.ok, h.pos⟩
  obtain ⟨cv, v1, v2⟩ := h.v i hi
  have := h.off i hi
  exact ⟨cv, (ha.block _ (l3 i hi) (by omega)).trans v1, v2⟩
theorem RArr.kept {w w' : World} {lo hi R k a z : Nat} {A : List St} (h : RArr w lo hi R k A) (ha : Apart a z w w') (hd : z ≤ lo ∨ hi ≤ a) : RArr w' lo hi R k A := by
  obtain ⟨eb, ecap, g, h⟩ := h
  exact ⟨eb, ecap, g, h.kept ha hd⟩
theorem RAt.step {w w' : World} {lo hi R k eb ecap : Nat} {g : Nat → Nat} {A : List St} (h : RAt w lo hi R k A eb ecap g) (hb : Below w.heap.size w w') : RAt w' lo hi R k A eb ecap g :=
  h.kept (Apart.of_below (lo := 0) (hi := 0) hb) (.inl (Nat.zero_le _))
theorem RArr.step {w w' : World} {lo hi R k : Nat} {A : List St} (h : RArr w lo hi R k A) (hb : Below w.heap.size w w') : RArr w' lo hi R k A :=
  h.kept (Apart.of_below (lo := 0) (hi := 0) hb) (.inl (Nat.zero_le _))

theorem RAt.npos {w : World} {lo hi R k eb ecap : Nat} {g : Nat → Nat} {A : List St} (h : RAt w lo hi R k A eb ecap g) : 0 < A.length ∧ A.length ≤ 8 ∧ 0 < k ∧ k ≤ 8 := by
  have := h.nn
  have := h.kk
  omega

theorem RAt.ent {w : World} {lo hi R k eb ecap : Nat} {g : Nat → Nat} {A : List St} (h : RAt w lo hi R k A eb ecap g) {i b : Nat} {es : List En} (hi : A[i]? = some (b, es)) (j : Nat) (hj : j < es.length) : ECells w (g i) (j * 10) es[j].ref := by
  obtain ⟨hl, he⟩ := List.getElem?_eq_some_iff.1 hi
  obtain ⟨cs, e1, e2⟩ := h.v i hl
  rw [he] at e2
  have f := fun c v hv => blk_cell e1 (e2 j hj c v hv)
  exact ⟨f 0 _ rfl, f 1 _ rfl, f 2 _ rfl, f 3 _ rfl, f 4 _ rfl, f 5 _ rfl, f 6 _ rfl, f 7 _ rfl, f 8 _ rfl, f 9 _ rfl⟩

/-- The cells that a walk reads on its way to a row. -/
structure RHd (w : World) (R k eb ecap : Nat) (g : Nat → Nat) (A : List St) (i b : Nat) : Prop where
  c0 : w.cell? ⟨R + 1, 0, none⟩ = some (.int .i64 (A.length : Int))
  c1 : w.cell? ⟨R + 1, 1, none⟩ = some (.int .i64 (k : Int))
  c2 : w.cell? ⟨R + 1, 2, none⟩ = some (.slice (some ⟨eb, 0, none⟩) A.length ecap)
  c3 : w.cell? ⟨R + 1, 3, none⟩ = some (.slice (some ⟨R, 0, none⟩) A.length A.length)
  ce : w.cell? ⟨eb, i, none⟩ = some (.slice (some ⟨g i, 0, none⟩) k k)
  cb : w.cell? ⟨R, i, none⟩ = some (.int .u8 (b : Nat))

theorem RAt.hdr {w : World} {lo hi R k eb ecap : Nat} {g : Nat → Nat} {A : List St} (h : RAt w lo hi R k A eb ecap g) {i b : Nat} {es : List En} (hi : A[i]? = some (b, es)) : RHd w R k eb ecap g A i b ∧ b < 256 ∧ es.length = k ∧ i < A.length := by
  obtain ⟨hl, he⟩ := List.getElem?_eq_some_iff.1 hi
  obtain ⟨cb, b1, b2⟩ := h.b
  obtain ⟨ce, e1, e2⟩ := h.e
  have f1 := b2 i hl
  obtain ⟨g1, g2⟩ := h.ok i hl
  rw [he] at f1 g1 g2
  exact ⟨⟨blk_cell h.q rfl, blk_cell h.q rfl, blk_cell h.q rfl, blk_cell h.q rfl, blk_cell e1 (e2 i hl), blk_cell b1 f1⟩, g1, g2, hl⟩

/-- Is it that line's, as the document's own array looks? -/
theorem is_ref {l : Int} (hl : 0 ≤ l) (e : En) : (e.ref.line == l) = En.is l e := by
  by_cases h : e.state = 0
  · rw [ref_free h]
    have : ¬ (-1 : Int) = l := by omega
    simp [En.is, h, this]
  · rw [ref_full h]
    simp [En.is, h]

theorem ret_two {a b c d : Int} (h1 : a = c) (h2 : b = d) : Ending.returned (.tuple #[.int .i64 a, .int .i64 b]) = .returned (.tuple #[.int .i64 c, .int .i64 d]) := by rw [h1, h2]

theorem rfind_out (w : World) (p : Value) (l : Int) (hv : vld l = false) :
    Calls Tryd.prog 41 #[p, .int .i64 l] w fun r w' => r = .returned (.tuple #[.int .i64 0, .int .i64 (-1)]) ∧ w' = w := by
  have hn := vld_no hv
  clear hv
  by_cases h0 : l < 0
  · go_enter Tryd.func41, Tryd.ntmps41
    go_wp2
    go_ret2
    exact ⟨rfl, rfl⟩
  · have h1 : 32 ≤ l := by omega
    go_enter Tryd.func41, Tryd.ntmps41
    go_wp2
    go_ret2
    exact ⟨rfl, rfl⟩

set_option maxHeartbeats 1600000 in
theorem rfind_in (w : World) (lo hi R k eb ecap : Nat) (g : Nat → Nat) (A : List St) (hA : RAt w lo hi R k A eb ecap g) (l : Int) (hv : vld l = true) (h b : Nat) (es : List En) (hs : l % (A.length : Int) = (h : Int)) (hh : A[h]? = some (b, es)) :
    Calls Tryd.prog 41 #[.pointer (some ⟨R + 1, 0, none⟩), .int .i64 l] w fun r w' => r = .returned (.tuple #[.int .i64 (h : Int), .int .i64 (fnd l es)]) ∧ w' = w := by
  obtain ⟨⟨k0, k1, k2, k3, k4, k5⟩, hb, hk, hl⟩ := hA.hdr hh
  obtain ⟨p1, p2, p3, p4⟩ := hA.npos
  obtain ⟨v0, v31⟩ := vld_of hv
  have HA := Hid.in hA
  have HH := Hid.in hh
  have HK := Hid.in hk
  clear hA hh hk hv k5 k3
  have h0 : (h : Int) < (A.length : Int) := by omega
  have hnz : ¬ A.length = 0 := by omega
  go_enter Tryd.func41, Tryd.ntmps41
  go_wp2
  go_loopw [7] (fun i wr => ∃ j : Nat, j ≤ k ∧ i = .int .i64 (j : Int) ∧ (∀ m (hm : m < j) (hm' : m < es.length), En.is l es[m] = false) ∧ wr = w) (fun i _ => 8 - (intOf i).toNat)
  case atStart => exact ⟨0, Nat.zero_le _, rfl, fun m hm => absurd hm (Nat.not_lt_zero _), rfl⟩
  case round =>
    obtain ⟨j, hj, rfl, hp, rfl⟩ := hrel
    have HP := Hid.in hp
    clear hp
    by_cases hlt : j < k
    · have hje : j < es.length := by rw [HK.out]; exact hlt
      have c0 := (HA.out.ent HH.out j hje).c0
      have hre := is_ref v0 es[j]
      obtain ⟨x, hx⟩ : ∃ x, (es[j].ref).line = x := ⟨_, rfl⟩
      rw [hx] at c0 hre
      have HX := Hid.in hx
      have HRE := Hid.in hre
      clear hx hre
      have i1 : (j : Int) < (k : Int) := by omega
      by_cases hq : x = l
      · subst hq
        have HN : Hid (fnd x es = (j : Int)) := Hid.in (ix_at j hje (by rw [← HRE.out]; simp) (fun m hm => HP.out m hm (by omega)))
        go_wp2
        go_ret2
        exact ⟨ret_two hs HN.out.symm, rfl⟩
      · have hq1 : (x == l) = false := by simpa using hq
        have HN : Hid (En.is l es[j] = false) := Hid.in (by rw [← HRE.out]; exact hq1)
        go_wp2
        go_roundw
        case rel => exact ⟨j + 1, by omega, by go_num, fun m hm hm' => by
          rcases Nat.lt_or_ge m j with h | h
          · exact HP.out m h hm'
          · obtain rfl : m = j := by omega
            exact HN.out, trivial⟩
        case measure => simp [intOf]; omega
    · have HN : Hid (fnd l es = -1) := Hid.in (ix_none (fun m hm => HP.out m (by have := HK.out; omega) hm))
      go_wp2
      go_ret2
      exact ⟨ret_two hs HN.out.symm, rfl⟩

end Go.Proofs.YtcackmmfnojpfaaDoor
