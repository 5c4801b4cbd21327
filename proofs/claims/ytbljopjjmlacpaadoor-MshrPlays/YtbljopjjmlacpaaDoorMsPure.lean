/- A pure model of a table of misses: the kind of each line, nought where none is. Own work. -/
import Derived.Test.YtbljopjjmlacpaaDoorGenB
namespace Go.Proofs.YtbljopjjmlacpaaDoor

/-- What is under way for the first n lines, by rising lines. -/
def lstK (K : List Int) : Nat → List (Int × Int)
  | 0 => []
  | n + 1 => lstK K n ++ (if K.getD n 0 = 0 then [] else [((n : Int), K.getD n 0)])
/-- All that is under way. -/
def allK (K : List Int) : List (Int × Int) := lstK K 32
/-- Is it a line? -/
def isL (l : Int) : Bool := wB l 0 31
/-- What is under way for a line. -/
def getK (K : List Int) (l : Int) : Int × Bool := if isL l = true ∧ K.getD l.toNat 0 ≠ 0 then (K.getD l.toNat 0, true) else (0, false)
/-- Add: its code, and the table behind it. -/
def addK (m : Nat) (K : List Int) (l k : Int) : Nat × List Int :=
  if ¬ (isL l = true ∧ wB k 1 4 = true) then (1, K) else if K.getD l.toNat 0 ≠ 0 then (7, K) else if m ≤ (allK K).length then (6, K) else (0, K.set l.toNat k)
/-- Drop: was there one, and the table behind it. -/
def dropK (K : List Int) (l : Int) : Bool × List Int := if isL l = true ∧ K.getD l.toNat 0 ≠ 0 then (true, K.set l.toNat 0) else (false, K)
/-- A new table. -/
def newK : List Int := List.replicate 32 0

theorem newK_len : newK.length = 32 := by simp [newK]
theorem newK_at (i : Nat) : newK.getD i 0 = 0 := by
  rw [newK, List.getD_eq_getElem?_getD, List.getElem?_replicate]
  split <;> rfl

theorem lstK_le (K : List Int) : ∀ n, (lstK K n).length ≤ n
  | 0 => Nat.le_refl _
  | n + 1 => by
    have := lstK_le K n
    simp only [lstK, List.length_append]
    split <;> simp <;> omega
theorem lstK_line (K : List Int) : ∀ n, ∀ x ∈ lstK K n, 0 ≤ x.1 ∧ x.1 < (n : Int) ∧ x.2 = K.getD x.1.toNat 0 ∧ x.2 ≠ 0
  | 0 => fun x h => absurd h List.not_mem_nil
  | n + 1 => fun x h => by
    simp only [lstK] at h
    rcases List.mem_append.1 h with h | h
    · obtain ⟨h1, h2, h3⟩ := lstK_line K n x h
      exact ⟨h1, by omega, h3⟩
    · split at h
      · cases h
      · rename_i hk
        rw [List.mem_singleton.1 h]
        exact ⟨by simp, by simp; omega, by simp, hk⟩
theorem lstK_mem (K : List Int) : ∀ n (i : Nat), i < n → K.getD i 0 ≠ 0 → ((i : Int), K.getD i 0) ∈ lstK K n
  | n + 1, i, hi, hk => by
    simp only [lstK]
    rcases Nat.lt_or_ge i n with h | h
    · exact List.mem_append_left _ (lstK_mem K n i h hk)
    · obtain rfl : i = n := by omega
      rw [if_neg hk]
      exact List.mem_append_right _ (by simp)
theorem lstK_rise (K : List Int) : ∀ n, (lstK K n).Pairwise (fun a b => a.1 < b.1)
  | 0 => List.Pairwise.nil
  | n + 1 => by
    simp only [lstK]
    refine List.pairwise_append.2 ⟨lstK_rise K n, ?_, fun a ha b hb => ?_⟩
    · split
      · exact List.Pairwise.nil
      · exact List.pairwise_singleton _ _
    · obtain ⟨_, h2, _⟩ := lstK_line K n a ha
      split at hb
      · cases hb
      · rw [List.mem_singleton.1 hb]; exact h2

theorem getD_set (K : List Int) (i j : Nat) (v : Int) : (K.set i v).getD j 0 = if i = j ∧ j < K.length then v else K.getD j 0 := by
  simp only [List.getD_eq_getElem?_getD, List.getElem?_set]
  by_cases h : i = j
  · subst h
    by_cases h2 : i < K.length
    · simp [h2]
    · simp [h2]
  · simp [h]

theorem lstK_same {K K' : List Int} : ∀ n, (∀ i, i < n → K'.getD i 0 = K.getD i 0) → lstK K' n = lstK K n
  | 0, _ => rfl
  | n + 1, h => by
    simp only [lstK]
    rw [lstK_same n (fun i hi => h i (by omega)), h n (by omega)]

/-- A table's list, parted at a line. -/
theorem lstK_part {K K' : List Int} {l : Nat} (h : ∀ i, i ≠ l → K'.getD i 0 = K.getD i 0) : ∀ n, l < n → ∃ hi, lstK K n = lstK K l ++ (if K.getD l 0 = 0 then [] else [((l : Int), K.getD l 0)]) ++ hi ∧ lstK K' n = lstK K l ++ (if K'.getD l 0 = 0 then [] else [((l : Int), K'.getD l 0)]) ++ hi ∧ ∀ x ∈ hi, (l : Int) < x.1
  | n + 1, hl => by
    rcases Nat.lt_or_ge l n with h1 | h1
    · obtain ⟨hi, e1, e2, e3⟩ := lstK_part h n h1
      refine ⟨hi ++ (if K.getD n 0 = 0 then [] else [((n : Int), K.getD n 0)]), ?_, ?_, fun x hx => ?_⟩
      · simp only [lstK]; rw [e1]; simp
      · simp only [lstK]; rw [e2, h n (by omega)]; simp
      · rcases List.mem_append.1 hx with hx | hx
        · exact e3 x hx
        · split at hx
          · cases hx
          · rw [List.mem_singleton.1 hx]; simp; omega
    · obtain rfl : l = n := by omega
      refine ⟨[], ?_, ?_, fun x hx => absurd hx List.not_mem_nil⟩
      · simp [lstK]
      · simp only [lstK, List.append_nil]
        rw [lstK_same l (fun i hi => h i (by omega))]

theorem allK_add {K : List Int} {l : Nat} (hK : K.length = 32) (hl : l < 32) (h0 : K.getD l 0 = 0) (k : Int) (hk : k ≠ 0) : ∃ lo hi, allK K = lo ++ hi ∧ allK (K.set l k) = lo ++ [((l : Int), k)] ++ hi ∧ (∀ x ∈ lo, x.1 < (l : Int)) ∧ ∀ x ∈ hi, (l : Int) < x.1 := by
  obtain ⟨hi, e1, e2, e3⟩ := lstK_part (K := K) (K' := K.set l k) (l := l) (fun i hi => by rw [getD_set, if_neg (fun h => hi h.1.symm)]) 32 hl
  refine ⟨lstK K l, hi, ?_, ?_, fun x hx => (lstK_line K l x hx).2.1, e3⟩
  · unfold allK; rw [e1, if_pos h0]; simp
  · have hg : (K.set l k).getD l 0 = k := by rw [getD_set, if_pos ⟨rfl, by omega⟩]
    unfold allK; rw [e2, hg, if_neg hk]
theorem allK_drop {K : List Int} {l : Nat} (hK : K.length = 32) (hl : l < 32) (h0 : K.getD l 0 ≠ 0) : ∃ lo hi, allK K = lo ++ [((l : Int), K.getD l 0)] ++ hi ∧ allK (K.set l 0) = lo ++ hi ∧ (∀ x ∈ lo, x.1 < (l : Int)) ∧ ∀ x ∈ hi, (l : Int) < x.1 := by
  obtain ⟨hi, e1, e2, e3⟩ := lstK_part (K := K) (K' := K.set l 0) (l := l) (fun i hi => by rw [getD_set, if_neg (fun h => hi h.1.symm)]) 32 hl
  refine ⟨lstK K l, hi, ?_, ?_, fun x hx => (lstK_line K l x hx).2.1, e3⟩
  · unfold allK; rw [e1, if_neg h0]
  · have hg : (K.set l 0).getD l 0 = 0 := by rw [getD_set, if_pos ⟨rfl, by omega⟩]
    unfold allK; rw [e2, hg]; simp

theorem allK_new : allK newK = [] := by decide +kernel
theorem allK_line (K : List Int) : ∀ x ∈ allK K, 0 ≤ x.1 ∧ x.1 < 32 ∧ x.2 = K.getD x.1.toNat 0 ∧ x.2 ≠ 0 := fun x hx => lstK_line K 32 x hx
theorem allK_le (K : List Int) : (allK K).length ≤ 32 := lstK_le K 32

theorem isL_of {l : Int} (h : isL l = true) : ∃ n : Nat, l = (n : Int) ∧ n < 32 := by
  have h1 := wB_of h
  exact ⟨l.toNat, by omega, by omega⟩
theorem isL_nat {n : Nat} (h : n < 32) : isL (n : Int) = true := wB_yes ⟨by omega, by omega⟩

theorem getK_at (K : List Int) (n : Nat) (hn : n < 32) : getK K (n : Int) = if K.getD n 0 = 0 then (0, false) else (K.getD n 0, true) := by
  unfold getK
  rw [isL_nat hn, Int.toNat_natCast]
  by_cases h : K.getD n 0 = 0
  · rw [if_neg (fun x => x.2 h), if_pos h]
  · rw [if_pos ⟨rfl, h⟩, if_neg h]
theorem getK_none {K : List Int} {l : Int} (h : isL l = false) : getK K l = (0, false) := by unfold getK; rw [if_neg (by simp [h])]
theorem dropK_at (K : List Int) (n : Nat) (hn : n < 32) : dropK K (n : Int) = if K.getD n 0 = 0 then (false, K) else (true, K.set n 0) := by
  unfold dropK
  rw [isL_nat hn, Int.toNat_natCast]
  by_cases h : K.getD n 0 = 0
  · rw [if_neg (fun x => x.2 h), if_pos h]
  · rw [if_pos ⟨rfl, h⟩, if_neg h]
theorem dropK_none {K : List Int} {l : Int} (h : isL l = false) : dropK K l = (false, K) := by unfold dropK; rw [if_neg (by simp [h])]
theorem addK_at (m : Nat) (K : List Int) (n : Nat) (hn : n < 32) (k : Int) (hk : wB k 1 4 = true) : addK m K (n : Int) k = if K.getD n 0 ≠ 0 then (7, K) else if m ≤ (allK K).length then (6, K) else (0, K.set n k) := by
  unfold addK
  rw [isL_nat hn, Int.toNat_natCast, if_neg (by simp [hk])]
theorem addK_arg (m : Nat) (K : List Int) (l k : Int) (h : isL l = false ∨ wB k 1 4 = false) : addK m K l k = (1, K) := by
  unfold addK
  rw [if_pos]
  rcases h with h | h <;> simp [h]
theorem addK_len (m : Nat) (K : List Int) (l k : Int) : (addK m K l k).2.length = K.length := by
  unfold addK
  split
  · rfl
  · split
    · rfl
    · split <;> simp
theorem dropK_len (K : List Int) (l : Int) : (dropK K l).2.length = K.length := by
  unfold dropK
  split <;> simp
theorem addK_code (m : Nat) (K : List Int) (l k : Int) : (addK m K l k).1 ≤ 10 := by
  unfold addK
  split
  · simp
  · split
    · simp
    · split <;> simp

end Go.Proofs.YtbljopjjmlacpaaDoor
