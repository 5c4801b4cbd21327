/- DERIVED of the program: the document's own table of misses: New, Get by their contracts. Own work. -/
import Derived.Test.YtbljopjjmlacpaaDoorMsBound
namespace Go.Proofs.YtbljopjjmlacpaaDoor
open Go.RowKit Go.Extern.Stop Go.Stop Go.Extern

/-- The document's own table in memory. -/
structure RT (w : World) (q m : Nat) (L : List (Int × Int)) : Prop where
  ex : ∃ ao cap, w.heap[q]? = some (.cells #[.int .i64 (m : Int), .slice ao L.length cap] 45 (0, 0)) ∧ OwnM 47 w q ao L.length cap L
  le : L.length ≤ 32

theorem RT.lt {w : World} {q m : Nat} {L : List (Int × Int)} (h : RT w q m L) : q < w.heap.size := by
  obtain ⟨⟨_, _, h, _⟩, _⟩ := h
  exact blk_lt h
theorem RT.step {w w' : World} {q m : Nat} {L : List (Int × Int)} (h : RT w q m L) (hb : Below w.heap.size w w') : RT w' q m L := by
  have hl := h.lt
  obtain ⟨⟨ao, cap, h1, h2⟩, h3⟩ := h
  exact ⟨⟨ao, cap, (hb.block q hl).trans h1, h2.step hb⟩, h3⟩
theorem RT.kept {w w' : World} {q m lo hi : Nat} {L : List (Int × Int)} (h : RT w q m L) (ha : Apart lo hi w w') (hd : hi ≤ q) : RT w' q m L := by
  have hl := h.lt
  obtain ⟨⟨ao, cap, h1, h2⟩, h3⟩ := h
  exact ⟨⟨ao, cap, (ha.block q hl (by omega)).trans h1, h2.apart ha (fun k hk => by have := (h2.blk k hk).1; omega)⟩, h3⟩

theorem rmnew_arg (w : World) (n : Int) (h : wB n 1 8 = false) :
    Calls Tryd.prog 15 #[.int .i64 n] w fun r w' => r = .returned (.tuple #[.pointer none, .int .i64 1]) ∧ w' = w := by
  have h' := wB_not h
  clear h
  by_cases h1 : n < 1
  · clear h'
    go_enter Tryd.func15, Tryd.ntmps15
    go_wp2
    go_ret2
    exact ⟨rfl, rfl⟩
  · have h8 : 8 < n := by omega
    clear h'
    go_enter Tryd.func15, Tryd.ntmps15
    go_wp2
    go_ret2
    exact ⟨rfl, rfl⟩
theorem rmnew_ok (w : World) (m : Nat) (h1 : 1 ≤ m) (h8 : m ≤ 8) :
    Calls Tryd.prog 15 #[.int .i64 (m : Int)] w fun r w' => r = .returned (.tuple #[.pointer (some ⟨w.heap.size, 0, none⟩), .int .i64 0]) ∧ RT w' w.heap.size m (allK newK) ∧ Below w.heap.size w w' := by
  have i1 : ¬ (m : Int) < 1 := by omega
  have i8 : ¬ (8 : Int) < (m : Int) := by omega
  go_enter Tryd.func15, Tryd.ntmps15
  go_wp2
  go_ret2
  refine ⟨rfl, ⟨⟨none, 0, ?_, ?_⟩, ?_⟩, below_alloc _ _⟩
  · rw [allK_new]; exact heap_alloc_new _ _
  · rw [allK_new]; exact OwnS.nil _ _ _ _
  · rw [allK_new]; exact Nat.zero_le _

set_option maxHeartbeats 1600000 in
theorem rmget_any (w : World) (q m : Nat) (L : List (Int × Int)) (hT : RT w q m L) (l k : Int) (b : Bool) (hy : ∀ (j : Nat) (y : Int), L[j]? = some (l, y) → k = y ∧ b = true) (hn : (∀ i : Nat, i < L.length → ∀ x y, L[i]? = some (x, y) → x ≠ l) → k = 0 ∧ b = false) :
    Calls Tryd.prog 18 #[.pointer (some ⟨q, 0, none⟩), .int .i64 l] w fun r w' => r = .returned (.tuple #[.int .i64 k, .bool b]) ∧ Below w.heap.size w w' := by
  obtain ⟨⟨ao, cap, hq, hO⟩, hle⟩ := hT
  have hc1 : w.cell? ⟨q, 1, none⟩ = some (.slice ao L.length cap) := blk_cell hq rfl
  have HO := Hid.in hO
  have HY := Hid.in hy
  have HN := Hid.in hn
  obtain ⟨N, hN⟩ : ∃ N, L.length = N := ⟨_, rfl⟩
  rw [hN] at hc1 HO hle
  have HL := Hid.in hN
  clear hq hO hy hn hN
  go_enter Tryd.func18, Tryd.ntmps18
  go_wp2
  go_loopw [13] (fun c wr => ∃ j : Nat, j ≤ N ∧ c = .int .i64 (j : Int) ∧ (∀ i : Nat, i < j → ∀ x y, L[i]? = some (x, y) → x ≠ l) ∧ Below w.heap.size w wr) (fun c _ => N - (intOf c).toNat)
  case atStart => exact ⟨0, Nat.zero_le _, rfl, fun i hi => absurd hi (Nat.not_lt_zero _), Below.refl _ _⟩
  case round =>
    obtain ⟨j, hj, rfl, hno, hb⟩ := hrel
    have HB := Hid.in hb
    have HO' := Hid.in (OwnS.step HO.out hb)
    have HNO := Hid.in hno
    clear hb hno hc1
    by_cases hlt : j < N
    · obtain ⟨b1, x, y, rfl, x1, x2, hxy⟩ := OwnS.miss2 HO'.out j (by rw [HL.out]; exact hlt)
      have HXY := Hid.in hxy
      have i1 : (j : Int) < (N : Int) := by omega
      clear hxy
      by_cases hxl : x = l
      · subst hxl
        go_wp2
        go_ret2
        obtain ⟨rfl, rfl⟩ := HY.out j y HXY.out
        exact ⟨rfl, HB.out.alloc HB.out.size _⟩
      · have hx0 : (x == l) = false := by simpa using hxl
        have HX := Hid.in hxl
        clear hxl
        go_wp2
        go_roundw
        case rel =>
          refine ⟨j + 1, by omega, by go_num, fun i hi x' y' h' => ?_, HB.out.alloc HB.out.size _⟩
          rcases Nat.lt_or_ge i j with h2 | h2
          · exact HNO.out i h2 x' y' h'
          · obtain rfl : i = j := by omega
            rw [HXY.out] at h'
            cases h'
            exact HX.out
        case measure => simp [intOf]; omega
    · obtain rfl : j = N := by omega
      have hz := HN.out (by rw [HL.out]; exact HNO.out)
      obtain ⟨rfl, rfl⟩ := hz
      go_wp2
      go_ret2
      exact ⟨rfl, HB.out⟩

/-- None of a row's lines is l: none is under way for it. -/
theorem allK_none {K : List Int} {l : Int} (h : ∀ i : Nat, i < (allK K).length → ∀ x y, (allK K)[i]? = some (x, y) → x ≠ l) : isL l = true → K.getD l.toNat 0 = 0 := by
  intro hl
  obtain ⟨n, rfl, hn⟩ := isL_of hl
  rw [Int.toNat_natCast]
  refine Classical.byContradiction fun h0 => ?_
  obtain ⟨i, hi, e⟩ := List.getElem_of_mem (lstK_mem K 32 n hn h0)
  exact h i hi _ _ ((List.getElem?_eq_getElem hi).trans (congrArg some e)) rfl
theorem allK_some {K : List Int} {l y : Int} {j : Nat} (h : (allK K)[j]? = some (l, y)) : isL l = true ∧ K.getD l.toNat 0 = y ∧ y ≠ 0 := by
  obtain ⟨m1, m2, m3, m4⟩ := allK_line K (l, y) (List.mem_of_getElem? h)
  simp only [] at m1 m2 m3 m4
  exact ⟨wB_yes ⟨m1, by omega⟩, m3.symm, m4⟩
theorem rmget_c (w : World) (q m : Nat) (K : List Int) (hT : RT w q m (allK K)) (l k : Int) (b : Bool) (h : getK K l = (k, b)) :
    Calls Tryd.prog 18 #[.pointer (some ⟨q, 0, none⟩), .int .i64 l] w fun r w' => r = .returned (.tuple #[.int .i64 k, .bool b]) ∧ Below w.heap.size w w' := by
  refine rmget_any w q m (allK K) hT l k b (fun j y hj => ?_) (fun hno => ?_)
  · obtain ⟨h1, h2, h3⟩ := allK_some hj
    unfold getK at h
    rw [if_pos ⟨h1, by rw [h2]; exact h3⟩, h2] at h
    cases h
    exact ⟨rfl, rfl⟩
  · unfold getK at h
    rw [if_neg (fun x => x.2 (allK_none hno x.1))] at h
    cases h
    exact ⟨rfl, rfl⟩

end Go.Proofs.YtbljopjjmlacpaaDoor
