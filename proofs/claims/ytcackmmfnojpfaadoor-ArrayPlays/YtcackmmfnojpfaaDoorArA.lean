/- DERIVED of the program: an array in memory; find and place by their contracts. Own work. -/
import Derived.Test.YtcackmmfnojpfaaDoorArGeo
namespace Go.Proofs.YtcackmmfnojpfaaDoor
open Go.RowKit Go.Extern.Stop Go.Stop Go.Extern

theorem set_c (l s c : Int) (h : setF l s = c) (w : World) : Calls Tryd.prog 29 #[.int .i64 l, .int .i64 s] w fun r w' => r = .returned (.int .i64 c) ∧ w' = w := by
  rw [← h]; exact set_any l s w

theorem ret_pair {h a b : Int} (e : a = b) : Ending.returned (.tuple #[.int .i64 h, .int .i64 a]) = .returned (.tuple #[.int .i64 h, .int .i64 b]) := by rw [e]

/-- The cells of an entry. -/
def En.ec (e : En) : List Value := [.int .i64 e.line, .int .i64 e.state, .int .i64 e.mode, .int .i64 e.epoch, .int .u32 e.d0, .int .u32 e.d1, .int .u32 e.d2, .int .u32 e.d3, .bool e.held, .bool e.fresh]
/-- An entry as a value. -/
abbrev En.val (e : En) : Value := .agg #[.int .i64 e.line, .int .i64 e.state, .int .i64 e.mode, .int .i64 e.epoch, .int .u32 e.d0, .int .u32 e.d1, .int .u32 e.d2, .int .u32 e.d3, .bool e.held, .bool e.fresh]

/-- An array in memory: its sets in block B, itself in block B + 1, its ways in those behind. -/
structure Arr (w : World) (B k : Nat) (A : List St) : Prop where
  q : w.heap[B + 1]? = some (.cells #[.slice (some ⟨B, 0, none⟩) A.length A.length] 75 (0, 0))
  s : ∃ cs, w.heap[B]? = some (.cells cs 77 (0, 0)) ∧ ∀ i (h : i < A.length), cs[i * 2]? = some (.int .u8 (A[i].1 : Nat)) ∧ cs[i * 2 + 1]? = some (.slice (some ⟨B + 2 + i, 0, none⟩) k k)
  e : ∀ i (h : i < A.length), ∃ cs, w.heap[B + 2 + i]? = some (.cells cs 32 (0, 0)) ∧ ∀ j (hj : j < A[i].2.length) c v, (A[i].2[j].ec)[c]? = some v → cs[j * 10 + c]? = some v
  nn : A.length = 1 ∨ A.length = 2 ∨ A.length = 4 ∨ A.length = 8
  kk : k = 1 ∨ k = 2 ∨ k = 4 ∨ k = 8
  ok : ∀ i (h : i < A.length), A[i].1 < 256 ∧ A[i].2.length = k

/-- Old blocks outside lo .. hi - 1 are as they were. -/
structure Apart (lo hi : Nat) (w w' : World) : Prop where
  os : w'.os = w.os
  tape : w'.tape = w.tape
  output : w'.output = w.output
  size : w.heap.size ≤ w'.heap.size
  block : ∀ k, k < w.heap.size → ¬ (lo ≤ k ∧ k < hi) → w'.heap[k]? = w.heap[k]?

theorem Apart.of_below {lo hi : Nat} {w w' : World} (h : Below w.heap.size w w') : Apart lo hi w w' := ⟨h.os, h.tape, h.output, h.size, fun k hk _ => h.block k hk⟩
theorem Apart.below {lo hi B : Nat} {w0 w w' : World} (h : Apart lo hi w w') (hb : Below B w0 w) (hB : B ≤ lo) (hs : B ≤ w.heap.size) : Below B w0 w' :=
  ⟨h.os.trans hb.os, h.tape.trans hb.tape, h.output.trans hb.output, Nat.le_trans hb.size h.size, fun k hk => (h.block k (by omega) (by omega)).trans (hb.block k hk)⟩
theorem Apart.trans {lo hi : Nat} {w w1 w2 : World} (h : Apart lo hi w w1) (h' : Apart lo hi w1 w2) : Apart lo hi w w2 :=
  ⟨h'.os.trans h.os, h'.tape.trans h.tape, h'.output.trans h.output, Nat.le_trans h.size h'.size, fun k hk ho => (h'.block k (Nat.lt_of_lt_of_le hk h.size) ho).trans (h.block k hk ho)⟩

theorem Arr.lt {w : World} {B k : Nat} {A : List St} (h : Arr w B k A) : B + 1 < w.heap.size ∧ ∀ i, i < A.length → B + 2 + i < w.heap.size := by
  refine ⟨blk_lt h.q, fun i hi => ?_⟩
  obtain ⟨cs, h1, _⟩ := h.e i hi
  exact blk_lt h1

theorem Arr.kept {w w' : World} {B k lo hi : Nat} {A : List St} (h : Arr w B k A) (ha : Apart lo hi w w') (hd : hi ≤ B ∨ B + 2 + A.length ≤ lo) : Arr w' B k A := by
  obtain ⟨h1, h2⟩ := h.lt
  obtain ⟨cs, s1, s2⟩ := h.s
  refine ⟨(ha.block _ h1 (by omega)).trans h.q, ⟨cs, (ha.block _ (by omega) (by omega)).trans s1, s2⟩, fun i hi => ?_, h.nn, h.kk, h.ok⟩
  obtain ⟨c2, e1, e2⟩ := h.e i hi
  exact ⟨c2, (ha.block _ (h2 i hi) (by omega)).trans e1, e2⟩

theorem Arr.step {w w' : World} {B k : Nat} {A : List St} (h : Arr w B k A) (hb : Below w.heap.size w w') : Arr w' B k A :=
  h.kept (Apart.of_below (lo := 0) (hi := 0) hb) (.inl (Nat.zero_le _))

theorem Arr.pos {w : World} {B k : Nat} {A : List St} (h : Arr w B k A) : 0 < A.length ∧ A.length ≤ 8 ∧ 0 < k ∧ k ≤ 8 := by
  have := h.nn
  have := h.kk
  omega

/-- The cells of an entry, one by one. -/
structure ECells (w : World) (b o : Nat) (e : En) : Prop where
  c0 : w.cell? ⟨b, o, none⟩ = some (.int .i64 e.line)
  c1 : w.cell? ⟨b, o + 1, none⟩ = some (.int .i64 e.state)
  c2 : w.cell? ⟨b, o + 2, none⟩ = some (.int .i64 e.mode)
  c3 : w.cell? ⟨b, o + 3, none⟩ = some (.int .i64 e.epoch)
  c4 : w.cell? ⟨b, o + 4, none⟩ = some (.int .u32 e.d0)
  c5 : w.cell? ⟨b, o + 5, none⟩ = some (.int .u32 e.d1)
  c6 : w.cell? ⟨b, o + 6, none⟩ = some (.int .u32 e.d2)
  c7 : w.cell? ⟨b, o + 7, none⟩ = some (.int .u32 e.d3)
  c8 : w.cell? ⟨b, o + 8, none⟩ = some (.bool e.held)
  c9 : w.cell? ⟨b, o + 9, none⟩ = some (.bool e.fresh)

theorem ECells.step {w w' : World} {b o : Nat} {e : En} (h : ECells w b o e) (hb : Below w.heap.size w w') : ECells w' b o e := by
  obtain ⟨h0, h1, h2, h3, h4, h5, h6, h7, h8, h9⟩ := h
  have hl := lt_cell h0
  exact ⟨(hb.cell (p := ⟨b, o, none⟩) hl).trans h0, (hb.cell (p := ⟨b, o + 1, none⟩) hl).trans h1, (hb.cell (p := ⟨b, o + 2, none⟩) hl).trans h2, (hb.cell (p := ⟨b, o + 3, none⟩) hl).trans h3, (hb.cell (p := ⟨b, o + 4, none⟩) hl).trans h4,
    (hb.cell (p := ⟨b, o + 5, none⟩) hl).trans h5, (hb.cell (p := ⟨b, o + 6, none⟩) hl).trans h6, (hb.cell (p := ⟨b, o + 7, none⟩) hl).trans h7, (hb.cell (p := ⟨b, o + 8, none⟩) hl).trans h8, (hb.cell (p := ⟨b, o + 9, none⟩) hl).trans h9⟩

theorem Arr.ent {w : World} {B k : Nat} {A : List St} (h : Arr w B k A) {i b : Nat} {es : List En} (hi : A[i]? = some (b, es)) (j : Nat) (hj : j < es.length) : ECells w (B + 2 + i) (j * 10) es[j] := by
  obtain ⟨hl, he⟩ := List.getElem?_eq_some_iff.1 hi
  obtain ⟨cs, e1, e2⟩ := h.e i hl
  rw [he] at e2
  have f := fun c v hv => blk_cell e1 (e2 j hj c v hv)
  exact ⟨f 0 _ rfl, f 1 _ rfl, f 2 _ rfl, f 3 _ rfl, f 4 _ rfl, f 5 _ rfl, f 6 _ rfl, f 7 _ rfl, f 8 _ rfl, f 9 _ rfl⟩

theorem Arr.hdr {w : World} {B k : Nat} {A : List St} (h : Arr w B k A) {i b : Nat} {es : List En} (hi : A[i]? = some (b, es)) :
    w.cell? ⟨B + 1, 0, none⟩ = some (.slice (some ⟨B, 0, none⟩) A.length A.length) ∧ w.cell? ⟨B, i * 2, none⟩ = some (.int .u8 (b : Nat)) ∧ w.cell? ⟨B, i * 2 + 1, none⟩ = some (.slice (some ⟨B + 2 + i, 0, none⟩) k k) ∧ b < 256 ∧ es.length = k ∧ i < A.length := by
  obtain ⟨hl, he⟩ := List.getElem?_eq_some_iff.1 hi
  obtain ⟨cs, e1, e2⟩ := h.s
  obtain ⟨f1, f2⟩ := e2 i hl
  obtain ⟨g1, g2⟩ := h.ok i hl
  rw [he] at f1 g1 g2
  exact ⟨blk_cell h.q rfl, blk_cell e1 f1, blk_cell e1 f2, g1, g2, hl⟩

theorem set_home {A : List St} {l : Int} (hn : A.length = 1 ∨ A.length = 2 ∨ A.length = 4 ∨ A.length = 8) (hv : vld l = true) : setF l (A.length : Int) = (hm A l : Nat) := by
  rw [hm_cast (by omega), setF, if_pos ⟨vld_of hv, by omega⟩]
theorem set_none {l s : Int} (hv : vld l = false) : setF l s = -1 := by
  rw [setF, if_neg (fun h => vld_no hv h.1)]

set_option maxHeartbeats 1600000 in
theorem find_in (w : World) (B k : Nat) (A : List St) (hA : Arr w B k A) (l : Int) (h b : Nat) (es : List En) (hs : setF l (A.length : Int) = (h : Int)) (hh : A[h]? = some (b, es)) :
    Calls Tryd.prog 34 #[.pointer (some ⟨B + 1, 0, none⟩), .int .i64 l] w fun r w' => r = .returned (.tuple #[.int .i64 (h : Int), .int .i64 (fnd l es)]) ∧ Below w.heap.size w w' := by
  obtain ⟨k0, k1, k2, hb, hk, hl⟩ := hA.hdr hh
  obtain ⟨p1, p2, p3, p4⟩ := hA.pos
  have HA := Hid.in hA
  have HS := Hid.in hs
  have HH := Hid.in hh
  have HK := Hid.in hk
  clear hA hs hh hk
  have h0 : (h : Int) < (A.length : Int) := by omega
  go_enter Tryd.func34, Tryd.ntmps34
  go_wp2_with fail
  refine (set_c _ _ _ HS.out _).mono ?_
  rintro r w' ⟨rfl, rfl⟩
  go_wp2
  go_loopw [4, 26] (fun hv i wr => ∃ j : Nat, hv = .int .i64 (h : Int) ∧ j ≤ k ∧ i = .int .i64 j ∧ (∀ m (hm : m < j) (hm' : m < es.length), En.is l es[m] = false) ∧ Below w'.heap.size w' wr) (fun _ i _ => 8 - (intOf i).toNat)
  case atStart => exact ⟨0, rfl, Nat.zero_le _, rfl, fun m hm => absurd hm (Nat.not_lt_zero _), Below.refl _ _⟩
  case round =>
    obtain ⟨j, rfl, hj, rfl, hp, hbl⟩ := hrel
    have HP := Hid.in hp
    have HB := Hid.in hbl
    clear hp hbl
    by_cases hlt : j < k
    · have hje : j < es.length := by rw [HK.out]; exact hlt
      obtain ⟨c0, c1, c2, c3, c4, c5, c6, c7, c8, c9⟩ := (HA.out.ent HH.out j hje).step HB.out
      obtain ⟨e, he⟩ : ∃ e, es[j] = e := ⟨_, rfl⟩
      rw [he] at c0 c1 c2 c3 c4 c5 c6 c7 c8 c9
      obtain ⟨e0, e1, e2, e3, e4, e5, e6, e7, e8, e9⟩ := e
      have HE := Hid.in he
      clear he
      simp only [] at c0 c1 c2 c3 c4 c5 c6 c7 c8 c9
      have i1 : (j : Int) < (k : Int) := by omega
      by_cases hz : e1 = 0
      · subst hz
        have HN : Hid (En.is l es[j] = false) := Hid.in (by rw [HE.out]; rfl)
        go_wp2
        go_roundw
        case rel => exact ⟨j + 1, rfl, by omega, by go_num, fun m hm hm' => by
          rcases Nat.lt_or_ge m j with h | h
          · exact HP.out m h hm'
          · obtain rfl : m = j := by omega
            exact HN.out, HB.out.alloc HB.out.size _⟩
        case measure => simp [intOf]; omega
      · have hz1 : (e1 != 0) = true := by simpa using hz
        by_cases hq : e0 = l
        · subst hq
          have HN : Hid (fnd e0 es = (j : Int)) := Hid.in (ix_at j hje (by rw [HE.out]; simp [En.is, hz]) (fun m hm => HP.out m hm (by omega)))
          go_wp2
          go_ret2
          exact ⟨ret_pair HN.out.symm, HB.out.alloc HB.out.size _⟩
        · have hq1 : (e0 == l) = false := by simpa using hq
          have HN : Hid (En.is l es[j] = false) := Hid.in (by rw [HE.out]; simp [En.is, hq])
          go_wp2
          go_roundw
          case rel => exact ⟨j + 1, rfl, by omega, by go_num, fun m hm hm' => by
            rcases Nat.lt_or_ge m j with h | h
            · exact HP.out m h hm'
            · obtain rfl : m = j := by omega
              exact HN.out, HB.out.alloc HB.out.size _⟩
          case measure => simp [intOf]; omega
    · have HN : Hid (fnd l es = -1) := Hid.in (ix_none (fun m hm => HP.out m (by have := HK.out; omega) hm))
      go_wp2
      go_ret2
      exact ⟨ret_pair HN.out.symm, HB.out⟩

theorem find_out (w : World) (B k : Nat) (A : List St) (hA : Arr w B k A) (l : Int) (hv : vld l = false) :
    Calls Tryd.prog 34 #[.pointer (some ⟨B + 1, 0, none⟩), .int .i64 l] w fun r w' => r = .returned (.tuple #[.int .i64 (-1), .int .i64 (-1)]) ∧ Below w.heap.size w w' := by
  have k0 : w.cell? ⟨B + 1, 0, none⟩ = some (.slice (some ⟨B, 0, none⟩) A.length A.length) := blk_cell hA.q rfl
  have HS : Hid (setF l (A.length : Int) = -1) := Hid.in (set_none hv)
  have p2 := hA.pos.2.1
  clear hA hv
  go_enter Tryd.func34, Tryd.ntmps34
  go_wp2_with fail
  refine (set_c _ _ _ HS.out _).mono ?_
  rintro r w' ⟨rfl, rfl⟩
  go_wp2
  go_ret2
  exact ⟨rfl, Below.refl _ _⟩

theorem place_out (w : World) (B k : Nat) (A : List St) (hA : Arr w B k A) (l : Int) (hv : vld l = false) :
    Calls Tryd.prog 33 #[.pointer (some ⟨B + 1, 0, none⟩), .int .i64 l] w fun r w' => r = .returned (.tuple #[.int .i64 (-1), .int .i64 (-1)]) ∧ Below w.heap.size w w' := by
  have HA := Hid.in hA
  have HV := Hid.in hv
  clear hA hv
  go_enter Tryd.func33, Tryd.ntmps33
  go_wp2_with fail
  refine (find_out w B k A HA.out l HV.out).mono ?_
  rintro r w1 ⟨rfl, hb⟩
  have HB := Hid.in hb
  clear hb
  go_wp2
  go_ret2
  exact ⟨rfl, HB.out⟩

theorem fnd_lt (l : Int) (es : List En) : -1 ≤ fnd l es ∧ fnd l es < (es.length : Int) := by
  rcases ix_cases (En.is l) es with ⟨h1, _⟩ | ⟨i, hi, h1, _⟩
  · unfold fnd; omega
  · unfold fnd; omega
theorem plc_lt (l : Int) (es : List En) : -1 ≤ plc l es ∧ plc l es < (es.length : Int) := by
  have h1 := fnd_lt l es
  unfold plc
  split
  · rcases ix_cases En.free es with ⟨h2, _⟩ | ⟨i, hi, h2, _⟩
    · omega
    · omega
  · exact h1

set_option maxHeartbeats 1600000 in
theorem place_in (w : World) (B k : Nat) (A : List St) (hA : Arr w B k A) (l : Int) (h b : Nat) (es : List En) (hs : setF l (A.length : Int) = (h : Int)) (hh : A[h]? = some (b, es)) :
    Calls Tryd.prog 33 #[.pointer (some ⟨B + 1, 0, none⟩), .int .i64 l] w fun r w' => r = .returned (.tuple #[.int .i64 (h : Int), .int .i64 (plc l es)]) ∧ Below w.heap.size w w' := by
  obtain ⟨k0, k1, k2, hb, hk, hl⟩ := hA.hdr hh
  obtain ⟨p1, p2, p3, p4⟩ := hA.pos
  have HA := Hid.in hA
  have HS := Hid.in hs
  have HH := Hid.in hh
  have HK := Hid.in hk
  clear hA hs hh hk hb
  have h0 : (h : Int) < (A.length : Int) := by omega
  have hne : ¬ (h : Int) < 0 := by omega
  have hfl := fnd_lt l es
  have HPL : Hid (plc l es = if fnd l es < 0 then ix En.free es else fnd l es) := Hid.in rfl
  obtain ⟨f, hf⟩ : ∃ f, fnd l es = f := ⟨_, rfl⟩
  rw [hf] at hfl HPL
  have HF := Hid.in hf
  clear hf
  go_enter Tryd.func33, Tryd.ntmps33
  go_wp2_with fail
  refine (find_in w B k A HA.out l h b es HS.out HH.out).mono ?_
  rw [HF.out]
  rintro r w1 ⟨rfl, hb1⟩
  have HB1 := Hid.in hb1
  obtain ⟨hc, _⟩ := bcell hb1
  have q0 : B + 1 < w.heap.size := HA.out.lt.1
  have q1 : B < w.heap.size := by omega
  clear hb1
  by_cases hz : f < 0
  · have HP2 : Hid (plc l es = ix En.free es) := Hid.in (by rw [HPL.out, if_pos hz])
    clear HPL
    go_wp2
    go_loopw [4, 31] (fun hv i wr => ∃ j : Nat, hv = .int .i64 (h : Int) ∧ j ≤ k ∧ i = .int .i64 j ∧ (∀ m (hm : m < j) (hm' : m < es.length), En.free es[m] = false) ∧ Below w.heap.size w wr) (fun _ i _ => 8 - (intOf i).toNat)
    case atStart => exact ⟨0, rfl, Nat.zero_le _, rfl, fun m hm => absurd hm (Nat.not_lt_zero _), HB1.out⟩
    case round =>
      obtain ⟨j, rfl, hj, rfl, hp, hbl⟩ := hrel
      have HP := Hid.in hp
      have HB := Hid.in hbl
      clear hp hbl hc
      by_cases hlt : j < k
      · have hje : j < es.length := by rw [HK.out]; exact hlt
        obtain ⟨c0, c1, c2, c3, c4, c5, c6, c7, c8, c9⟩ := (HA.out.ent HH.out j hje).step HB.out
        obtain ⟨e, he⟩ : ∃ e, es[j] = e := ⟨_, rfl⟩
        rw [he] at c0 c1 c2 c3 c4 c5 c6 c7 c8 c9
        obtain ⟨e0, e1, e2, e3, e4, e5, e6, e7, e8, e9⟩ := e
        have HE := Hid.in he
        clear he
        simp only [] at c0 c1 c2 c3 c4 c5 c6 c7 c8 c9
        have i1 : (j : Int) < (k : Int) := by omega
        by_cases hz : e1 = 0
        · subst hz
          have HN : Hid (ix En.free es = (j : Int)) := Hid.in (ix_at j hje (by rw [HE.out]; rfl) (fun m hm => HP.out m hm (by omega)))
          go_wp2
          go_ret2
          exact ⟨ret_pair (HP2.out.trans HN.out).symm, HB.out.alloc HB.out.size _⟩
        · have hz1 : (e1 == 0) = false := by simpa using hz
          have HN : Hid (En.free es[j] = false) := Hid.in (by rw [HE.out]; simp [En.free, hz])
          go_wp2
          go_roundw
          case rel => exact ⟨j + 1, rfl, by omega, by go_num, fun m hm hm' => by
            rcases Nat.lt_or_ge m j with h | h
            · exact HP.out m h hm'
            · obtain rfl : m = j := by omega
              exact HN.out, HB.out.alloc HB.out.size _⟩
          case measure => simp [intOf]; omega
      · have HN : Hid (ix En.free es = -1) := Hid.in (ix_none (fun m hm => HP.out m (by have := HK.out; omega) hm))
        go_wp2
        go_ret2
        exact ⟨ret_pair (HP2.out.trans HN.out).symm, HB.out⟩
  · have HP2 : Hid (plc l es = f) := Hid.in (by rw [HPL.out, if_neg hz])
    clear HPL
    go_wp2
    go_ret2
    exact ⟨ret_pair HP2.out.symm, HB1.out⟩

end Go.Proofs.YtcackmmfnojpfaaDoor
