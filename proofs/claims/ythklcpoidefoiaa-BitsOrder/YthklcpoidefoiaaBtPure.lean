/- DERIVED of nothing: sets of numbers below 64 as numbers of 64 bits. Own work. -/
import Derived.Laws.BitsAllLaws
namespace Go.Proofs.Ythklcpoidefoiaa

/-- The bit of a core; none of what is no core. -/
def one (c : Int) : Nat := if 0 ≤ c ∧ c < 64 then 2 ^ c.toNat else 0
def hasS (x : Nat) (c : Int) : Bool := decide (0 ≤ c ∧ c < 64) && x.testBit c.toNat
def addS (x : Nat) (c : Int) : Nat := x ||| one c
def dropS (x : Nat) (c : Int) : Nat := x &&& (18446744073709551615 - one c)
/-- The numbers below n whose bits are in x, rising. -/
def lstn (n x : Nat) : List Nat := (List.range n).filter (fun i => x.testBit i)
def lst (x : Nat) : List Nat := lstn 64 x
def cnt (x : Nat) : Nat := (lst x).length
def headI : List Nat → Int
  | [] => -1
  | i :: _ => (i : Int)
def firstS (x : Nat) : Int := headI (lst x)

theorem one_in {c : Int} (h0 : 0 ≤ c) (h1 : c < 64) : one c = 2 ^ c.toNat := by unfold one; rw [if_pos ⟨h0, h1⟩]
theorem one_out {c : Int} (h : ¬ (0 ≤ c ∧ c < 64)) : one c = 0 := by unfold one; rw [if_neg h]
theorem hasS_in {x : Nat} {c : Int} (h0 : 0 ≤ c) (h1 : c < 64) : hasS x c = x.testBit c.toNat := by unfold hasS; simp [h0, h1]
theorem hasS_out {x : Nat} {c : Int} (h : ¬ (0 ≤ c ∧ c < 64)) : hasS x c = false := by unfold hasS; simp [h]
theorem hasS_nat {x i : Nat} (h : i < 64) : hasS x (i : Int) = x.testBit i := by rw [hasS_in (by omega) (by omega)]; simp
theorem addS_out {x : Nat} {c : Int} (h : ¬ (0 ≤ c ∧ c < 64)) : addS x c = x := by unfold addS; rw [one_out h]; simp
theorem and_full {x : Nat} (hx : x < 18446744073709551616) : x &&& 18446744073709551615 = x := by
  have h := Nat.and_two_pow_sub_one_eq_mod x 64
  rw [show (2 : Nat) ^ 64 - 1 = 18446744073709551615 from rfl] at h
  rw [h]; exact Nat.mod_eq_of_lt hx
theorem dropS_out {x : Nat} {c : Int} (hx : x < 18446744073709551616) (h : ¬ (0 ≤ c ∧ c < 64)) : dropS x c = x := by
  unfold dropS; rw [one_out h, Nat.sub_zero, and_full hx]
theorem one_lt (c : Int) : one c < 18446744073709551616 := by
  unfold one
  split
  · have h : (2 : Nat) ^ c.toNat < 2 ^ 64 := Nat.pow_lt_pow_right (by decide) (by omega)
    simpa using h
  · decide
theorem addS_lt {x : Nat} (c : Int) (hx : x < 18446744073709551616) : addS x c < 18446744073709551616 := by
  have h := Nat.or_lt_two_pow (n := 64) (x := x) (y := one c) (by simpa using hx) (by simpa using one_lt c)
  simpa [addS] using h
theorem dropS_le (x : Nat) (c : Int) : dropS x c ≤ x := Nat.and_le_left
theorem dropS_lt {x : Nat} (c : Int) (hx : x < 18446744073709551616) : dropS x c < 18446744073709551616 := Nat.lt_of_le_of_lt (dropS_le x c) hx

theorem bit_one (c : Int) (i : Nat) : (one c).testBit i = (decide (0 ≤ c ∧ c < 64) && decide (c.toNat = i)) := by
  unfold one
  split
  · rename_i h; rw [Nat.testBit_two_pow]; simp [h]
  · rename_i h; simp [h]
theorem bit_high {x i : Nat} (hx : x < 18446744073709551616) (hi : 64 ≤ i) : x.testBit i = false := by
  apply Nat.testBit_lt_two_pow
  exact Nat.lt_of_lt_of_le (show x < 2 ^ 64 from by simpa using hx) (Nat.pow_le_pow_right (by decide) hi)
theorem bit_add (x : Nat) (c : Int) (i : Nat) : (addS x c).testBit i = (x.testBit i || (decide (0 ≤ c ∧ c < 64) && decide (c.toNat = i))) := by
  unfold addS; rw [Nat.testBit_or, bit_one]
theorem bit_drop {x : Nat} (hx : x < 18446744073709551616) (c : Int) (i : Nat) : (dropS x c).testBit i = (x.testBit i && !(decide (0 ≤ c ∧ c < 64) && decide (c.toNat = i))) := by
  unfold dropS
  rw [Nat.testBit_and]
  by_cases hi : i < 64
  · have h := Nat.testBit_two_pow_sub_succ (n := 64) (x := one c) (by simpa using one_lt c) i
    rw [show (2 : Nat) ^ 64 - (one c + 1) = 18446744073709551615 - one c from by have := one_lt c; omega] at h
    rw [h, bit_one]; simp [hi]
  · rw [bit_high hx (by omega)]; simp
theorem ext64 {x y : Nat} (h : ∀ i, x.testBit i = y.testBit i) : x = y := Nat.eq_of_testBit_eq h

theorem has_add_self {x : Nat} {c : Int} (h0 : 0 ≤ c) (h1 : c < 64) : hasS (addS x c) c = true := by rw [hasS_in h0 h1, bit_add]; simp [h0, h1]
theorem has_drop_self {x : Nat} {c : Int} (hx : x < 18446744073709551616) : hasS (dropS x c) c = false := by
  unfold hasS; rw [bit_drop hx]
  by_cases h : 0 ≤ c ∧ c < 64 <;> simp [h]
theorem add_add (x : Nat) (a b : Int) : addS (addS x a) b = addS (addS x b) a := by
  unfold addS; rw [Nat.or_assoc, Nat.or_assoc, Nat.or_comm (one a)]
theorem add_drop_self {x : Nat} (hx : x < 18446744073709551616) (c : Int) : dropS (addS x c) c = dropS x c := by
  apply ext64; intro i
  rw [bit_drop (addS_lt c hx), bit_drop hx, bit_add]
  by_cases h : 0 ≤ c ∧ c < 64 <;> by_cases h2 : c.toNat = i <;> simp [h, h2]
theorem add_drop_ne {x : Nat} (hx : x < 18446744073709551616) {a b : Int} (ha : 0 ≤ a ∧ a < 64) (hb : 0 ≤ b ∧ b < 64) (hab : a ≠ b) : dropS (addS x a) b = addS (dropS x b) a := by
  apply ext64; intro i
  rw [bit_drop (addS_lt a hx), bit_add, bit_add, bit_drop hx]
  by_cases h : a.toNat = i
  · have h2 : ¬ b.toNat = i := by omega
    simp [ha, hb, h, h2]
  · simp [h]

/- the list -/
theorem mem_lstn {n x i : Nat} : i ∈ lstn n x ↔ i < n ∧ x.testBit i = true := by simp [lstn]
theorem mem_lst {x i : Nat} : i ∈ lst x ↔ i < 64 ∧ x.testBit i = true := mem_lstn
theorem lstn_zero (x : Nat) : lstn 0 x = [] := rfl
theorem lstn_yes {n x : Nat} (h : x.testBit n = true) : lstn (n + 1) x = lstn n x ++ [n] := by
  unfold lstn; rw [List.range_succ, List.filter_append]; simp [h]
theorem lstn_no {n x : Nat} (h : x.testBit n = false) : lstn (n + 1) x = lstn n x := by
  unfold lstn; rw [List.range_succ, List.filter_append]; simp [h]
theorem lstn_len (n x : Nat) : (lstn n x).length ≤ n := by
  have h := List.length_filter_le (fun i => x.testBit i) (List.range n)
  simpa [lstn] using h
theorem cnt_le (x : Nat) : cnt x ≤ 64 := lstn_len 64 x
theorem lst_rise (x : Nat) : (lst x).Pairwise (· < ·) := List.Pairwise.filter _ List.pairwise_lt_range
theorem lst_lt {x k j : Nat} (h : k < j) (hj : j < (lst x).length) : (lst x)[k]'(by omega) < (lst x)[j] := List.pairwise_iff_getElem.1 (lst_rise x) k j (by omega) hj h
theorem lst_get {x k : Nat} (h : k < (lst x).length) : (lst x)[k] < 64 ∧ x.testBit (lst x)[k] = true := mem_lst.1 (List.getElem_mem h)
theorem lst_nil_iff {x : Nat} (hx : x < 18446744073709551616) : lst x = [] ↔ x = 0 := by
  constructor
  · intro h
    apply ext64; intro i
    rw [Nat.zero_testBit]
    by_cases hi : i < 64
    · cases hb : x.testBit i with
      | false => rfl
      | true => exact absurd (mem_lst.2 ⟨hi, hb⟩) (by rw [h]; exact List.not_mem_nil)
    · exact bit_high hx (by omega)
  · rintro rfl; rfl
theorem cnt_zero_iff {x : Nat} (hx : x < 18446744073709551616) : cnt x = 0 ↔ x = 0 := by rw [← lst_nil_iff hx]; unfold cnt; exact List.length_eq_zero_iff

theorem lstn_half (n x : Nat) : lstn (n + 1) x = (if x.testBit 0 then [0] else []) ++ (lstn n (x / 2)).map (· + 1) := by
  unfold lstn
  rw [List.range_succ_eq_map, List.filter_cons]
  rw [List.filter_map]
  have hf : ((fun i => x.testBit i) ∘ Nat.succ) = fun i => (x / 2).testBit i := by
    funext i; simp only [Function.comp, Nat.succ_eq_add_one]; rw [Nat.testBit_succ]
  rw [hf]
  split <;> rfl
theorem cnt_half {x : Nat} (hx : x < 18446744073709551616) : cnt x = x % 2 + cnt (x / 2) := by
  have h1 : cnt x = x % 2 + (lstn 63 (x / 2)).length := by
    show (lstn (63 + 1) x).length = _
    rw [lstn_half, List.length_append, List.length_map, Nat.testBit_zero]
    by_cases h : x % 2 = 1
    · simp [h]
    · have : x % 2 = 0 := by omega
      simp [this]
  have h2 : cnt (x / 2) = (lstn 63 (x / 2)).length := by
    show (lstn (63 + 1) (x / 2)).length = _
    rw [lstn_no]
    exact Nat.testBit_lt_two_pow (show x / 2 < 2 ^ 63 from by simp; omega)
  rw [h1, h2]

/- how many, with one more or less -/
theorem filter_one {l : List Nat} (hn : l.Nodup) (p q : Nat → Bool) (c : Nat) (hc : c ∈ l) (hp : p c = false) (hq : q c = true) (he : ∀ i, i ≠ c → q i = p i) : (l.filter q).length = (l.filter p).length + 1 := by
  induction l with
  | nil => exact absurd hc List.not_mem_nil
  | cons a t ih =>
    rw [List.nodup_cons] at hn
    by_cases ha : a = c
    · subst ha
      have ht : t.filter q = t.filter p := List.filter_congr fun i hi => he i (fun h => hn.1 (h ▸ hi))
      simp [hp, hq, ht]
    · have hct : c ∈ t := by
        rcases List.mem_cons.1 hc with h | h
        · exact absurd h.symm ha
        · exact h
      have h := ih hn.2 hct
      simp only [List.filter_cons, he a ha]
      split <;> simp [h]
theorem cnt_one {x y c : Nat} (hc : c < 64) (hx : x.testBit c = false) (hy : y.testBit c = true) (he : ∀ i, i ≠ c → y.testBit i = x.testBit i) : cnt y = cnt x + 1 :=
  filter_one List.nodup_range _ _ c (by simpa using hc) hx hy he
theorem cnt_add {x : Nat} {c : Int} (h0 : 0 ≤ c) (h1 : c < 64) (h : hasS x c = false) : cnt (addS x c) = cnt x + 1 := by
  rw [hasS_in h0 h1] at h
  refine cnt_one (c := c.toNat) (by omega) h (by rw [bit_add]; simp [h0, h1]) (fun i hi => ?_)
  rw [bit_add]; simp [show ¬ c.toNat = i from fun e => hi e.symm]
theorem add_has {x : Nat} {c : Int} (h : hasS x c = true) : addS x c = x := by
  apply ext64; intro i
  rw [bit_add]
  unfold hasS at h
  simp only [Bool.and_eq_true, decide_eq_true_eq] at h
  by_cases h2 : c.toNat = i
  · subst h2; simp [h.2]
  · simp [h2]
theorem cnt_drop {x : Nat} (hx : x < 18446744073709551616) {c : Int} (h : hasS x c = true) : cnt x = cnt (dropS x c) + 1 := by
  have h' := h
  unfold hasS at h'
  simp only [Bool.and_eq_true, decide_eq_true_eq] at h'
  refine cnt_one (c := c.toNat) (by omega) (by rw [bit_drop hx]; simp [h'.1]) h'.2 (fun i hi => ?_)
  rw [bit_drop hx]; simp [show ¬ c.toNat = i from fun e => hi e.symm]
theorem drop_has {x : Nat} (hx : x < 18446744073709551616) {c : Int} (h : hasS x c = false) : dropS x c = x := by
  apply ext64; intro i
  rw [bit_drop hx]
  by_cases h1 : 0 ≤ c ∧ c < 64
  · rw [hasS_in h1.1 h1.2] at h
    by_cases h2 : c.toNat = i
    · subst h2; simp [h]
    · simp [h2]
  · simp [h1]
theorem cnt_parts {x : Nat} (hx : x < 18446744073709551616) {c : Int} (h0 : 0 ≤ c) (h1 : c < 64) : cnt (addS x c) = cnt (dropS x c) + 1 := by
  rw [cnt_drop (addS_lt c hx) (has_add_self h0 h1), add_drop_self hx]

/- the first -/
theorem first_nil {x : Nat} (h : lst x = []) : firstS x = -1 := by unfold firstS; rw [h]; rfl
theorem first_cons {x : Nat} (h : 0 < (lst x).length) : firstS x = (((lst x)[0] : Nat) : Int) := by
  unfold firstS
  match he : lst x, h with
  | a :: t, _ => rfl
theorem first_at {x k : Nat} (hk : k < 64) (h : lstn k x = []) (hb : x.testBit k = true) : firstS x = (k : Int) := by
  have hl : ∃ t, lst x = k :: t := by
    have : ∀ m, k + 1 ≤ m → ∃ t, lstn m x = k :: t := by
      intro m hm
      induction m with
      | zero => omega
      | succ m ih =>
        by_cases e : m = k
        · subst e; rw [lstn_yes hb, h]; exact ⟨[], rfl⟩
        · obtain ⟨t, ht⟩ := ih (by omega)
          cases hbm : x.testBit m with
          | true => rw [lstn_yes hbm, ht]; exact ⟨_, rfl⟩
          | false => rw [lstn_no hbm, ht]; exact ⟨_, rfl⟩
    exact this 64 (by omega)
  obtain ⟨t, ht⟩ := hl
  unfold firstS; rw [ht]; rfl
theorem first_rng {x i : Nat} (hi : i < 64) (hb : x.testBit i = true) : 0 ≤ firstS x ∧ firstS x ≤ (i : Int) := by
  have hm : i ∈ lst x := mem_lst.2 ⟨hi, hb⟩
  have hr := lst_rise x
  unfold firstS
  match he : lst x with
  | [] => rw [he] at hm; exact absurd hm List.not_mem_nil
  | a :: t =>
    rw [he] at hm hr
    show (0 : Int) ≤ (a : Int) ∧ (a : Int) ≤ i
    rcases List.mem_cons.1 hm with h | h
    · omega
    · have := (List.pairwise_cons.1 hr).1 i h; omega

/- of a row of numbers -/
def ofS (l : List Int) : Nat := l.foldl addS 0
theorem ofS_snoc (l : List Int) (z : Int) : ofS (l ++ [z]) = addS (ofS l) z := by unfold ofS; rw [List.foldl_append]; rfl
theorem fold_lt (l : List Int) : ∀ x, x < 18446744073709551616 → l.foldl addS x < 18446744073709551616 := by
  induction l with
  | nil => exact fun _ h => h
  | cons a t ih => exact fun x h => ih _ (addS_lt a h)
theorem ofS_lt (l : List Int) : ofS l < 18446744073709551616 := fold_lt l 0 (by decide)
theorem fold_bit (l : List Int) : ∀ x i, (l.foldl addS x).testBit i = (x.testBit i || l.any (fun c => decide (0 ≤ c ∧ c < 64) && decide (c.toNat = i))) := by
  induction l with
  | nil => intro x i; simp
  | cons a t ih => intro x i; rw [List.foldl_cons, ih, bit_add, List.any_cons, Bool.or_assoc]
theorem ofS_bit (l : List Int) (i : Nat) : (ofS l).testBit i = l.any (fun c => decide (0 ≤ c ∧ c < 64) && decide (c.toNat = i)) := by
  unfold ofS; rw [fold_bit]; simp
theorem ofS_has (l : List Int) (c : Int) : hasS (ofS l) c = decide (c ∈ l ∧ 0 ≤ c ∧ c < 64) := by
  unfold hasS; rw [ofS_bit]
  by_cases h : 0 ≤ c ∧ c < 64
  · simp only [h, decide_true, Bool.true_and, and_true]
    rw [Bool.eq_iff_iff]
    simp only [List.any_eq_true, Bool.and_eq_true, decide_eq_true_eq]
    constructor
    · rintro ⟨z, hz, ⟨h0, h1⟩, he⟩
      have : z = c := by omega
      exact this ▸ hz
    · intro hc; exact ⟨c, hc, h, rfl⟩
  · simp [h]
theorem ofS_lst {x : Nat} (hx : x < 18446744073709551616) : ofS ((lst x).map (fun i : Nat => (i : Int))) = x := by
  apply ext64; intro i
  rw [ofS_bit, Bool.eq_iff_iff]
  simp only [List.any_eq_true, List.mem_map, Bool.and_eq_true, decide_eq_true_eq]
  constructor
  · rintro ⟨z, ⟨k, hk, rfl⟩, _, he⟩
    have : k = i := by omega
    exact this ▸ (mem_lst.1 hk).2
  · intro hb
    have hi : i < 64 := by
      by_cases h : i < 64
      · exact h
      · rw [bit_high hx (by omega)] at hb; cases hb
    exact ⟨i, ⟨i, mem_lst.2 ⟨hi, hb⟩, rfl⟩, by omega, by simp⟩

/- all -/
theorem full_step {k : Nat} (hk : k < 64) : addS (2 ^ k - 1) (k : Int) = 2 ^ (k + 1) - 1 := by
  unfold addS
  rw [one_in (by omega) (by omega), Int.toNat_natCast, Nat.or_comm, nat_join k _ _ (by simp) (by have := Nat.pow_pos (n := k) (show 0 < 2 by decide); omega), Nat.pow_succ]
  have := Nat.pow_pos (n := k) (show 0 < 2 by decide); omega

end Go.Proofs.Ythklcpoidefoiaa
