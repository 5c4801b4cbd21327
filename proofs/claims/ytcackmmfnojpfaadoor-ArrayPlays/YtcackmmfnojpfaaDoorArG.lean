/- DERIVED of the program: New by its contract. Own work. -/
import Derived.Test.YtcackmmfnojpfaaDoorArF
namespace Go.Proofs.YtcackmmfnojpfaaDoor
open Go.RowKit Go.Extern.Stop Go.Stop Go.Extern

theorem made_at (z : Array Value) (n j i : Nat) (hj : j < n) (hi : i < z.size) : (madeCells z (n * z.size))[j * z.size + i]? = z[i]? := by
  have h1 : (j + 1) * z.size ≤ n * z.size := Nat.mul_le_mul_right _ hj
  have hx : j * z.size + i < n * z.size := by rw [Nat.succ_mul] at h1; omega
  have hm : (j * z.size + i) % z.size = i := by rw [Nat.mul_comm, Nat.mul_add_mod, Nat.mod_eq_of_lt hi]
  simp [madeCells, hx, hm, hi]

abbrev zset : Value := .agg #[.int .u8 0, .slice none 0 0]
theorem Tryd.infoSet : (Tryd.prog.info? 77).map (fun i => (i.zero, i.size, i.bytes)) = some (some zset, 2, 32) := by kernel_rfl
theorem Tryd.infoEntry : (Tryd.prog.info? 32).map (fun i => (i.zero, i.size, i.bytes)) = some (some En.zero.val, 10, 56) := by kernel_rfl

/-- The cells of n new sets; of k new entries. -/
def newS (n : Nat) : Array Value := madeCells zset.cells (n * 2)
def newE (k : Nat) : Array Value := madeCells En.zero.val.cells (k * 10)
theorem newS_at {n j : Nat} (h : j < n) : (newS n)[j * 2]? = some (.int .u8 0) ∧ (newS n)[j * 2 + 1]? = some (.slice none 0 0) :=
  ⟨made_at #[.int .u8 0, .slice none 0 0] n j 0 h (by decide), made_at #[.int .u8 0, .slice none 0 0] n j 1 h (by decide)⟩
theorem newE_at {k j c : Nat} {v : Value} (h : j < k) (hv : En.zero.ec[c]? = some v) : (newE k)[j * 10 + c]? = some v := by
  have hc : c < 10 := by have := (List.getElem?_eq_some_iff.1 hv).1; rwa [ec_len] at this
  rw [← hv]
  have := made_at En.zero.ec.toArray k j c h (by simpa [ec_len] using hc)
  rw [show En.zero.ec.toArray.size = 10 from rfl] at this
  exact this.trans (by simp)

theorem make_sets (n : Nat) (hn : n ≤ 8) (w : World) : (Instr.makeSlice 73 (.int .i64 (n : Int)) (.int .i64 (n : Int))).run Tryd.prog w = .ok (.slice (some ⟨w.heap.size, 0, none⟩) n n) (w.alloc (.cells (newS n) 77)) := by
  obtain ⟨i0, hi, hz0, hz1, hz2⟩ := info_parts Tryd.infoSet
  have := run_make (P := Tryd.prog) w 73 77 i0 _ Tryd.underlying73 hi hz0 .i64 .i64 (n : Int) (n : Int) (by omega) (by omega) (by rw [hz2]; omega) (by omega)
  rw [hz1] at this
  simpa [newS] using this
theorem make_ents (n : Nat) (hn : n ≤ 8) (w : World) : (Instr.makeSlice 58 (.int .i64 (n : Int)) (.int .i64 (n : Int))).run Tryd.prog w = .ok (.slice (some ⟨w.heap.size, 0, none⟩) n n) (w.alloc (.cells (newE n) 32)) := by
  obtain ⟨i0, hi, hz0, hz1, hz2⟩ := info_parts Tryd.infoEntry
  have := run_make (P := Tryd.prog) w 58 32 i0 _ Tryd.underlying58 hi hz0 .i64 .i64 (n : Int) (n : Int) (by omega) (by omega) (by rw [hz2]; omega) (by omega)
  rw [hz1] at this
  simpa [newE] using this

/-- An array that is being made: so many sets have their ways. -/
structure Made (w : World) (B n k i : Nat) : Prop where
  size : w.heap.size = B + 2 + i
  q : w.heap[B + 1]? = some (.cells #[.slice (some ⟨B, 0, none⟩) n n] 75 (0, 0))
  s : ∃ cs, w.heap[B]? = some (.cells cs 77 (0, 0)) ∧ ∀ j, j < n → cs[j * 2]? = some (.int .u8 0) ∧ (∃ v, cs[j * 2 + 1]? = some v) ∧ (j < i → cs[j * 2 + 1]? = some (.slice (some ⟨B + 2 + j, 0, none⟩) k k))
  e : ∀ j, j < i → w.heap[B + 2 + j]? = some (.cells (newE k) 32 (0, 0))

theorem Made.next {w : World} {B n k i : Nat} (h : Made w B n k i) (hi : i < n) : Made ((w.alloc (.cells (newE k) 32)).setCell ⟨B, i * 2 + 1, none⟩ (.slice (some ⟨w.heap.size, 0, none⟩) k k)) B n k (i + 1) := by
  obtain ⟨cs, s1, s2⟩ := h.s
  have hsz := h.size
  have hb := below_alloc w (.cells (newE k) 32)
  have hw1 : (w.alloc (.cells (newE k) 32)).heap[B]? = some (.cells cs 77 (0, 0)) := (hb.block _ (by omega)).trans s1
  have ho : ∀ j, j ≠ B → ((w.alloc (.cells (newE k) 32)).setCell ⟨B, i * 2 + 1, none⟩ (.slice (some ⟨w.heap.size, 0, none⟩) k k)).heap[j]? = (w.alloc (.cells (newE k) 32)).heap[j]? := fun j hj => Below.heap_setCell _ _ _ j hj
  refine ⟨by simp [World.setCell]; omega, ?_, ⟨_, blk_set _ hw1, fun j hj => ?_⟩, fun j hj => ?_⟩
  · rw [ho _ (by omega), hb.block _ (by omega)]; exact h.q
  · obtain ⟨a1, ⟨v, a2⟩, a3⟩ := s2 j hj
    have hl := (Array.getElem?_eq_some_iff.1 a2).1
    refine ⟨by rw [Array.getElem?_setIfInBounds_ne (by omega)]; exact a1, ?_, fun hji => ?_⟩
    · by_cases e : j = i
      · subst e; exact ⟨_, by rw [Array.getElem?_setIfInBounds_self_of_lt hl]⟩
      · exact ⟨v, by rw [Array.getElem?_setIfInBounds_ne (by omega)]; exact a2⟩
    · by_cases e : j = i
      · subst e; rw [Array.getElem?_setIfInBounds_self_of_lt hl, hsz]
      · rw [Array.getElem?_setIfInBounds_ne (by omega)]; exact a3 (by omega)
  · rw [ho _ (by omega)]
    by_cases e : j = i
    · subst e; rw [← hsz]; exact heap_alloc_new _ _
    · rw [hb.block _ (by omega)]; exact h.e j (by omega)

theorem Made.drew {w : World} {B n k i : Nat} (h : Made w B n k i) : Made w.drew B n k i := ⟨h.size, h.q, h.s, h.e⟩

theorem Made.whole {w : World} {B n k : Nat} (h : Made w B n k n) (hn : n = 1 ∨ n = 2 ∨ n = 4 ∨ n = 8) (hk : k = 1 ∨ k = 2 ∨ k = 4 ∨ k = 8) : Arr w B k (newA n k) := by
  have hl : (newA n k).length = n := by simp [newA]
  obtain ⟨cs, s1, s2⟩ := h.s
  refine ⟨by rw [hl]; exact h.q, ⟨cs, s1, fun i hi => ?_⟩, fun i hi => ?_, by rw [hl]; exact hn, hk, fun i hi => ?_⟩
  · rw [hl] at hi
    obtain ⟨a1, _, a3⟩ := s2 i hi
    exact ⟨by simpa [newA] using a1, a3 hi⟩
  · have hi' : i < n := by rw [hl] at hi; exact hi
    refine ⟨_, h.e i hi', fun j hj c v hv => ?_⟩
    have hj' : j < k := by simpa [newA] using hj
    exact newE_at hj' (by simpa [newA] using hv)
  · simp [newA]

theorem set0 (s : Int) : setF 0 s = if pB s = true then 0 else -1 := by
  unfold setF pB
  by_cases h : s = 1 ∨ s = 2 ∨ s = 4 ∨ s = 8
  · rw [if_pos ⟨by omega, h⟩, if_pos (by simpa using h)]; simp
  · rw [if_neg (fun x => h x.2), if_neg (by simpa using h)]
theorem pB_nat {s : Int} (h : pB s = true) : ∃ n : Nat, s = (n : Int) ∧ (n = 1 ∨ n = 2 ∨ n = 4 ∨ n = 8) := by
  have := pB_of h
  exact ⟨s.toNat, by omega, by omega⟩

set_option maxHeartbeats 1600000 in
theorem new_ok (w : World) (n k : Nat) (hn : n = 1 ∨ n = 2 ∨ n = 4 ∨ n = 8) (hk : k = 1 ∨ k = 2 ∨ k = 4 ∨ k = 8) :
    Calls Tryd.prog 9 #[.int .i64 (n : Int), .int .i64 (k : Int)] w fun r w' => r = .returned (.tuple #[.pointer (some ⟨w.heap.size + 1, 0, none⟩), .nilIface]) ∧ Arr w' w.heap.size k (newA n k) ∧ Below w.heap.size w w' := by
  have HS : Hid (setF 0 (n : Int) = 0) := Hid.in (by rw [set0, if_pos (by simp only [pB, decide_eq_true_eq]; omega)])
  have hv := viced (b := 0) (isW_of hk) (by decide)
  obtain ⟨v, hvv⟩ : ∃ v, victimI 0 (k : Int) = v := ⟨_, rfl⟩
  rw [hvv] at hv
  have HV := Hid.in hvv
  have hn8 : n ≤ 8 := by omega
  have hk8 : k ≤ 8 := by omega
  have m1 := make_sets n hn8
  have m2 := make_ents k hk8
  have HN := Hid.in hn
  have HK := Hid.in hk
  clear hvv hn hk
  go_enter Tryd.func9, Tryd.ntmps9
  go_wp2_with fail
  refine (set_c _ _ _ HS.out _).mono ?_
  rintro r w' ⟨rfl, rfl⟩
  go_wp2_with fail
  refine (victim_c 0 _ _ (by decide) HV.out _).mono ?_
  rintro r w' ⟨rfl, rfl⟩
  go_wp2
  go_loopw [27] (fun c wr => ∃ i : Nat, i ≤ n ∧ c = .int .i64 (i : Int) ∧ Made wr w'.heap.size n k i ∧ Below w'.heap.size w' wr) (fun c _ => 8 - (intOf c).toNat)
  case atStart =>
    refine ⟨0, Nat.zero_le _, rfl, ⟨by simp, ?_, ⟨newS n, ?_, fun j hj => ⟨(newS_at hj).1, ⟨_, (newS_at hj).2⟩, fun h => absurd h (Nat.not_lt_zero _)⟩⟩, fun j hj => absurd hj (Nat.not_lt_zero _)⟩, ?_⟩
    · have := heap_alloc_new (w'.alloc (.cells (newS n) 77)) (.cells #[.slice (some ⟨w'.heap.size, 0, none⟩) n n] 75)
      simpa using this
    · exact ((below_alloc (w'.alloc (.cells (newS n) 77)) _).block _ (by simp)).trans (heap_alloc_new _ _)
    · exact (below_alloc _ _).alloc (by simp) _
  case round =>
    obtain ⟨i, hi, rfl, hM, hb⟩ := hrel
    have HM := Hid.in hM
    have HB := Hid.in hb
    by_cases hlt : i < n
    · have k0 : wr.cell? ⟨w'.heap.size + 1, 0, none⟩ = some (.slice (some ⟨w'.heap.size, 0, none⟩) n n) := blk_cell hM.q rfl
      obtain ⟨cs, s1, s2⟩ := hM.s
      obtain ⟨v0, k1⟩ := (s2 i hlt).2.1
      have k2 : wr.cell? ⟨w'.heap.size, i * 2 + 1, none⟩ = some v0 := blk_cell s1 k1
      have f1 : wr.frozen? ⟨w'.heap.size, i * 2 + 1, none⟩ = false := blk_free s1
      have i1 : (i : Int) < (n : Int) := by omega
      have hs1 : w'.heap.size < wr.heap.size := by have := hM.size; omega
      have hs2 : w'.heap.size + 1 < wr.heap.size := by have := hM.size; omega
      clear hM hb s1 s2 k1
      go_wp2
      go_region
      go_wp2
      go_roundw
      case rel =>
        have hM := (HM.out.next hlt)
        rw [setCell_alloc _ _ hs1] at hM
        exact ⟨i + 1, by omega, by go_num, hM.drew, ((HB.out.setCell (Nat.le_refl _) _).alloc (by simpa [World.setCell] using HB.out.size) _).drew⟩
      case measure => simp [intOf]; omega
    · obtain rfl : i = n := by omega
      clear hM hb
      go_wp2
      go_ret2
      exact ⟨rfl, HM.out.whole HN.out HK.out, HB.out⟩

theorem new_arg0 (w : World) (sa : Nat → Addr) (hE : Env10 w sa) (s k : Int) (hs : pB s = false) :
    Calls Tryd.prog 9 #[.int .i64 s, .int .i64 k] w fun r w' => r = .returned (.tuple #[.pointer none, flt opNew 0 (snt (sa 1))]) ∧ w' = w := by
  have HS : Hid (setF 0 s = -1) := Hid.in (by rw [set0, if_neg (by rw [hs]; decide)])
  have hg : w.cell? ⟨0, 0, none⟩ = some (snt (sa 1)) := hE.g 1 (by omega) (by omega)
  clear hE hs
  go_enter Tryd.func9, Tryd.ntmps9
  go_wp2_with fail
  refine (set_c _ _ _ HS.out _).mono ?_
  rintro r w' ⟨rfl, rfl⟩
  go_wp2_with fail
  refine (wrap_some _ _ _ _ _).mono ?_
  rintro r w' ⟨rfl, rfl⟩
  go_wp2
  go_ret2
  exact ⟨rfl, rfl⟩

theorem new_arg1 (w : World) (sa : Nat → Addr) (hE : Env10 w sa) (s k : Int) (hs : pB s = true) (hk : pB k = false) :
    Calls Tryd.prog 9 #[.int .i64 s, .int .i64 k] w fun r w' => r = .returned (.tuple #[.pointer none, flt opNew 1 (snt (sa 1))]) ∧ w' = w := by
  have HS : Hid (setF 0 s = 0) := Hid.in (by rw [set0, if_pos hs])
  have HV : Hid (victimI 0 k = -1) := Hid.in (victim_out hk)
  have hg : w.cell? ⟨0, 0, none⟩ = some (snt (sa 1)) := hE.g 1 (by omega) (by omega)
  clear hE hs hk
  go_enter Tryd.func9, Tryd.ntmps9
  go_wp2_with fail
  refine (set_c _ _ _ HS.out _).mono ?_
  rintro r w' ⟨rfl, rfl⟩
  go_wp2_with fail
  refine (victim_c 0 _ _ (by decide) HV.out _).mono ?_
  rintro r w' ⟨rfl, rfl⟩
  go_wp2_with fail
  refine (wrap_some _ _ _ _ _).mono ?_
  rintro r w' ⟨rfl, rfl⟩
  go_wp2
  go_ret2
  exact ⟨rfl, rfl⟩

end Go.Proofs.YtcackmmfnojpfaaDoor
