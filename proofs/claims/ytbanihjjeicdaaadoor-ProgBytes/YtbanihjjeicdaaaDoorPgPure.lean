/- DERIVED of the program: operations and programs as bytes: the document's own forms and their laws. Own work. -/
import Derived.Test.YtbanihjjeicdaaaDoorPkJ
namespace Go.Proofs.YtbanihjjeicdaaaDoor

/-- An operation: kind, word, value, old. -/
abbrev O4 := Int × Int × Int × Int

/-- P9.1. -/
def rt (x : O4) (n : Int) : Bool :=
  decide (n ≤ 128 ∧ ((x.1 = 4 ∧ x.2.1 = 0 ∧ x.2.2.1 = 0 ∧ x.2.2.2 = 0) ∨ (x.1 = 1 ∧ 0 ≤ x.2.1 ∧ x.2.1 < n ∧ x.2.2.1 = 0 ∧ x.2.2.2 = 0) ∨ (x.1 = 2 ∧ 0 ≤ x.2.1 ∧ x.2.1 < n ∧ x.2.2.2 = 0) ∨ (x.1 = 3 ∧ 0 ≤ x.2.1 ∧ x.2.1 < n)))
theorem rt_iff (x : O4) (n : Int) : rt x n = true ↔ (n ≤ 128 ∧ ((x.1 = 4 ∧ x.2.1 = 0 ∧ x.2.2.1 = 0 ∧ x.2.2.2 = 0) ∨ (x.1 = 1 ∧ 0 ≤ x.2.1 ∧ x.2.1 < n ∧ x.2.2.1 = 0 ∧ x.2.2.2 = 0) ∨ (x.1 = 2 ∧ 0 ≤ x.2.1 ∧ x.2.1 < n ∧ x.2.2.2 = 0) ∨ (x.1 = 3 ∧ 0 ≤ x.2.1 ∧ x.2.1 < n))) := by
  unfold rt; exact decide_eq_true_iff
theorem rt_no (x : O4) (n : Int) (h : ¬ (n ≤ 128 ∧ ((x.1 = 4 ∧ x.2.1 = 0 ∧ x.2.2.1 = 0 ∧ x.2.2.2 = 0) ∨ (x.1 = 1 ∧ 0 ≤ x.2.1 ∧ x.2.1 < n ∧ x.2.2.1 = 0 ∧ x.2.2.2 = 0) ∨ (x.1 = 2 ∧ 0 ≤ x.2.1 ∧ x.2.1 < n ∧ x.2.2.2 = 0) ∨ (x.1 = 3 ∧ 0 ≤ x.2.1 ∧ x.2.1 < n)))) : rt x n = false := by
  unfold rt; exact decide_eq_false h

/-- Value and Old are of 32 bits. -/
def O32 (x : O4) : Prop := 0 ≤ x.2.2.1 ∧ x.2.2.1 < 4294967296 ∧ 0 ≤ x.2.2.2 ∧ x.2.2.2 < 4294967296

/-- The numbers that an operation is written as. -/
def nums (x : O4) : List Int := if x.1 = 4 then [x.1] else if x.1 = 1 then [x.1, x.2.1] else if x.1 = 2 then [x.1, x.2.1, x.2.2.1] else [x.1, x.2.1, x.2.2.1, x.2.2.2]
/-- Its bytes. -/
def encO (x : O4) : List Nat := encs (nums x)
/-- A row of operations' bytes. -/
def encL (L : List O4) : List Nat := L.flatMap encO
/-- A program's bytes. -/
def encP (L : List O4) : List Nat := enc (zz (L.length : Int)) ++ encL L

theorem encs_nil : encs [] = [] := rfl
theorem encO4 (a v o : Int) : encO (4, a, v, o) = enc (zz 4) := by simp [encO, nums, encs_cons, encs_nil]
theorem encO1 (a v o : Int) : encO (1, a, v, o) = enc (zz 1) ++ enc (zz a) := by simp [encO, nums, encs_cons, encs_nil]
theorem encO2 (a v o : Int) : encO (2, a, v, o) = enc (zz 2) ++ (enc (zz a) ++ enc (zz v)) := by simp [encO, nums, encs_cons, encs_nil]
theorem encO3 (a v o : Int) : encO (3, a, v, o) = enc (zz 3) ++ (enc (zz a) ++ (enc (zz v) ++ enc (zz o))) := by simp [encO, nums, encs_cons, encs_nil]
theorem encL_nil : encL [] = [] := rfl
theorem encL_append (L M : List O4) : encL (L ++ M) = encL L ++ encL M := by simp [encL]
theorem encL_one (x : O4) : encL [x] = encO x := by simp [encL]
theorem encL_snoc (L : List O4) (k : Nat) (h : k < L.length) : encL (L.take (k + 1)) = encL (L.take k) ++ encO L[k] := by
  rw [List.take_succ_eq_append_getElem h, encL_append, encL_one]
theorem encL_split (L : List O4) (k : Nat) : encL L = encL (L.take k) ++ encL (L.drop k) := by rw [← encL_append, List.take_append_drop]

theorem num_len (n : Int) (h0 : -9223372036854775808 ≤ n) (h1 : n ≤ 9223372036854775807) : (enc (zz n)).length ≤ 10 := enc_len10 _ (zz_lt n h0 h1)

/-- The kinds that a right operation has. -/
theorem rt_kind {x : O4} {n : Int} (h : rt x n = true) : x.1 = 1 ∨ x.1 = 2 ∨ x.1 = 3 ∨ x.1 = 4 := by
  rcases ((rt_iff x n).1 h).2 with h | h | h | h <;> simp [h.1]

theorem encO_len {x : O4} {n : Int} (h : rt x n = true) (hx : O32 x) : (encO x).length ≤ 40 := by
  obtain ⟨k, a, v, o⟩ := x
  obtain ⟨h1, h2, h3, h4⟩ := hx
  obtain ⟨hn, h⟩ := (rt_iff _ n).1 h
  simp only at h1 h2 h3 h4 h
  have e1 := num_len v (by omega) (by omega)
  have e2 := num_len o (by omega) (by omega)
  rcases h with h | h | h | h
  · obtain ⟨rfl, _⟩ := h
    rw [encO4]; have := num_len 4 (by decide) (by decide); omega
  · obtain ⟨rfl, h⟩ := h
    have e3 := num_len a (by omega) (by omega)
    rw [encO1, List.length_append]; have := num_len 1 (by decide) (by decide); omega
  · obtain ⟨rfl, h⟩ := h
    have e3 := num_len a (by omega) (by omega)
    rw [encO2, List.length_append, List.length_append]; have := num_len 2 (by decide) (by decide); omega
  · obtain ⟨rfl, h⟩ := h
    have e3 := num_len a (by omega) (by omega)
    rw [encO3, List.length_append, List.length_append, List.length_append]; have := num_len 3 (by decide) (by decide); omega

theorem encL_len {n : Int} : ∀ (L : List O4), (∀ x ∈ L, rt x n = true ∧ O32 x) → (encL L).length ≤ 40 * L.length
  | [], _ => Nat.le_refl _
  | x :: r, h => by
    have h1 := encO_len (h x (List.mem_cons_self ..)).1 (h x (List.mem_cons_self ..)).2
    have h2 := encL_len r (fun y hy => h y (List.mem_cons_of_mem _ hy))
    rw [show encL (x :: r) = encO x ++ encL r from by simp [encL], List.length_append, List.length_cons]
    omega

theorem encL_byte (L : List O4) : ∀ y ∈ encL L, y < 256 := by
  intro y hy
  simp only [encL, List.mem_flatMap] at hy
  obtain ⟨x, _, hy⟩ := hy
  exact encs_byte _ y hy
theorem encP_byte (L : List O4) : ∀ y ∈ encP L, y < 256 := by
  intro y hy
  rcases List.mem_append.1 hy with h | h
  · exact enc_byte _ y h
  · exact encL_byte L y h
theorem encP_len {n : Int} (L : List O4) (h : ∀ x ∈ L, rt x n = true ∧ O32 x) (hl : L.length ≤ 64) : (encP L).length ≤ 3000 := by
  have h1 := encL_len L h
  have h2 := num_len (L.length : Int) (by omega) (by omega)
  unfold encP
  rw [List.length_append]
  omega
theorem encP_pos (L : List O4) : 1 ≤ (encP L).length := by
  have := enc_pos (zz (L.length : Int))
  unfold encP
  rw [List.length_append]
  omega
theorem count_one (n : Nat) (h : n ≤ 63) : enc (zz (n : Int)) = [2 * n] := by
  have : zz (n : Int) = 2 * n := by unfold zz; rw [if_neg (by omega)]; omega
  rw [this, enc_lt (by omega)]

/-- What get answers: the code behind it, the operation, the place behind it. -/
def getO (bs : List Nat) (last : Int) (at_ c : Nat) : Nat × O4 × Nat :=
  if (inS bs 1 4 at_ c).2.1 = 0 ∨ (inS bs 1 4 at_ c).2.1 = 4 then ((inS bs 1 4 at_ c).1, ((inS bs 1 4 at_ c).2.1, 0, 0, 0), (inS bs 1 4 at_ c).2.2) else
  let r2 := inS bs 0 last (inS bs 1 4 at_ c).2.2 (inS bs 1 4 at_ c).1
  if (inS bs 1 4 at_ c).2.1 = 1 then (r2.1, (1, r2.2.1, 0, 0), r2.2.2) else
  let r3 := inS bs 0 4294967295 r2.2.2 r2.1
  if (inS bs 1 4 at_ c).2.1 = 2 then (r3.1, (2, r2.2.1, r3.2.1, 0), r3.2.2) else
  let r4 := inS bs 0 4294967295 r3.2.2 r3.1
  (r4.1, (3, r2.2.1, r3.2.1, r4.2.1), r4.2.2)

theorem getO_bare {bs : List Nat} {last k : Int} {at_ c c1 a1 : Nat} (h1 : inS bs 1 4 at_ c = (c1, k, a1)) (hk : k = 0 ∨ k = 4) : getO bs last at_ c = (c1, (k, 0, 0, 0), a1) := by
  unfold getO
  simp only [h1]
  rw [if_pos hk]
theorem getO_load {bs : List Nat} {last a : Int} {at_ c c1 a1 c2 a2 : Nat} (h1 : inS bs 1 4 at_ c = (c1, 1, a1)) (h2 : inS bs 0 last a1 c1 = (c2, a, a2)) : getO bs last at_ c = (c2, (1, a, 0, 0), a2) := by
  unfold getO
  simp only [h1, h2]
  rw [if_neg (by decide), if_pos trivial]
theorem getO_store {bs : List Nat} {last a v : Int} {at_ c c1 a1 c2 a2 c3 a3 : Nat} (h1 : inS bs 1 4 at_ c = (c1, 2, a1)) (h2 : inS bs 0 last a1 c1 = (c2, a, a2)) (h3 : inS bs 0 4294967295 a2 c2 = (c3, v, a3)) : getO bs last at_ c = (c3, (2, a, v, 0), a3) := by
  unfold getO
  simp only [h1, h2, h3]
  rw [if_neg (by decide), if_neg (by decide), if_pos trivial]
theorem getO_cas {bs : List Nat} {last a v o : Int} {at_ c c1 a1 c2 a2 c3 a3 c4 a4 : Nat} (h1 : inS bs 1 4 at_ c = (c1, 3, a1)) (h2 : inS bs 0 last a1 c1 = (c2, a, a2)) (h3 : inS bs 0 4294967295 a2 c2 = (c3, v, a3)) (h4 : inS bs 0 4294967295 a3 c3 = (c4, o, a4)) : getO bs last at_ c = (c4, (3, a, v, o), a4) := by
  unfold getO
  simp only [h1, h2, h3, h4]
  rw [if_neg (by decide), if_neg (by decide), if_neg (by decide)]

/-- What In answers lies within, or is nought. -/
theorem inS_num (bs : List Nat) (lo hi : Int) (at_ c : Nat) : (inS bs lo hi at_ c).2.1 = 0 ∨ lo ≤ (inS bs lo hi at_ c).2.1 ∧ (inS bs lo hi at_ c).2.1 ≤ hi := by
  unfold inS
  split
  · exact .inl rfl
  · split
    · exact .inl rfl
    · split
      · exact .inl rfl
      · exact .inr (by simp only; omega)
theorem kind_cases (bs : List Nat) (at_ c : Nat) : ∃ c1 k a1, inS bs 1 4 at_ c = (c1, k, a1) ∧ (k = 0 ∨ k = 4 ∨ k = 1 ∨ k = 2 ∨ k = 3) := by
  have := inS_num bs 1 4 at_ c
  rcases h : inS bs 1 4 at_ c with ⟨c1, k, a1⟩
  rw [h] at this
  simp only at this
  exact ⟨c1, k, a1, rfl, by omega⟩
theorem inS_code (bs : List Nat) (lo hi : Int) (at_ c : Nat) (h : (inS bs lo hi at_ c).1 = 0) : c = 0 := by
  apply Classical.byContradiction
  intro hc
  rw [inS_wrong hc] at h
  exact hc h

theorem getO_num (bs : List Nat) (last : Int) (at_ c : Nat) : 0 ≤ (getO bs last at_ c).2.1.2.2.1 ∧ (getO bs last at_ c).2.1.2.2.1 < 4294967296 ∧ 0 ≤ (getO bs last at_ c).2.1.2.2.2 ∧ (getO bs last at_ c).2.1.2.2.2 < 4294967296 := by
  obtain ⟨c1, k, a1, h1, hk⟩ := kind_cases bs at_ c
  have g : ∀ (x y d b : Nat) (z : Int), inS bs 0 4294967295 x y = (d, z, b) → 0 ≤ z ∧ z < 4294967296 := fun x y d b z h => by
    have := inS_num bs 0 4294967295 x y
    rw [h] at this
    simp only at this
    omega
  rcases hk with rfl | rfl | rfl | rfl | rfl
  · rw [getO_bare h1 (.inl rfl)]; simp
  · rw [getO_bare h1 (.inr rfl)]; simp
  · rcases h2 : inS bs 0 last a1 c1 with ⟨c2, ad, a2⟩
    rw [getO_load h1 h2]; simp
  · rcases h2 : inS bs 0 last a1 c1 with ⟨c2, ad, a2⟩
    rcases h3 : inS bs 0 4294967295 a2 c2 with ⟨c3, v, a3⟩
    rw [getO_store h1 h2 h3]
    have := g _ _ _ _ _ h3
    simp only
    omega
  · rcases h2 : inS bs 0 last a1 c1 with ⟨c2, ad, a2⟩
    rcases h3 : inS bs 0 4294967295 a2 c2 with ⟨c3, v, a3⟩
    rcases h4 : inS bs 0 4294967295 a3 c3 with ⟨c4, o, a4⟩
    rw [getO_cas h1 h2 h3 h4]
    have := g _ _ _ _ _ h3
    have := g _ _ _ _ _ h4
    simp only
    omega

/-- So many operations, one behind the other. -/
def getL (bs : List Nat) (last : Int) : Nat → Nat → Nat → Nat × List O4 × Nat
  | 0, at_, c => (c, [], at_)
  | n + 1, at_, c => ((getO bs last (getL bs last n at_ c).2.2 (getL bs last n at_ c).1).1, (getL bs last n at_ c).2.1 ++ [(getO bs last (getL bs last n at_ c).2.2 (getL bs last n at_ c).1).2.1], (getO bs last (getL bs last n at_ c).2.2 (getL bs last n at_ c).1).2.2)

theorem getL_succ {bs : List Nat} {last : Int} {n at_ c c1 a1 c2 a2 : Nat} {L : List O4} {x : O4} (h : getL bs last n at_ c = (c1, L, a1)) (g : getO bs last a1 c1 = (c2, x, a2)) : getL bs last (n + 1) at_ c = (c2, L ++ [x], a2) := by
  rw [getL]; simp only [h, g]
theorem getL_length (bs : List Nat) (last : Int) (at_ c : Nat) : ∀ n, (getL bs last n at_ c).2.1.length = n
  | 0 => rfl
  | n + 1 => by rw [getL]; simp [getL_length bs last at_ c n]

/-- What Get makes of bytes from a place on. -/
def getP (bs : List Nat) (last : Int) (at_ c : Nat) : Nat × List O4 × Nat := getL bs last (inS bs 0 64 at_ c).2.1.toNat (inS bs 0 64 at_ c).2.2 (inS bs 0 64 at_ c).1

/- What was written is read. -/

theorem inS_enc {bs pre r : List Nat} {z lo hi : Int} (hb : bs = pre ++ (enc (zz z) ++ r)) (h0 : -9223372036854775808 ≤ z) (h1 : z ≤ 9223372036854775807) (hl : lo ≤ z) (hh : z ≤ hi) : inS bs lo hi pre.length 0 = (0, z, (pre ++ enc (zz z)).length) := by
  subst hb
  have h := dec_enc0 z h0 h1 r
  rw [inS_ok (u := zz z) (s := (enc (zz z)).length) (by rw [List.drop_left]; exact h) (by rw [uz_zz]; omega), uz_zz, List.length_append]

theorem getO_enc {bs pre r : List Nat} {x : O4} {n : Int} (hb : bs = pre ++ (encO x ++ r)) (hr : rt x n = true) (hx : O32 x) : getO bs (n - 1) pre.length 0 = (0, x, (pre ++ encO x).length) := by
  obtain ⟨k, a, v, o⟩ := x
  obtain ⟨g1, g2, g3, g4⟩ := hx
  obtain ⟨hn, h⟩ := (rt_iff _ n).1 hr
  simp only at g1 g2 g3 g4 h
  rcases h with h | h | h | h
  · obtain ⟨rfl, rfl, rfl, rfl⟩ := h
    rw [encO4] at hb ⊢
    exact getO_bare (inS_enc hb (by decide) (by decide) (by decide) (by decide)) (.inr rfl)
  · obtain ⟨rfl, ha, hb', rfl, rfl⟩ := h
    rw [encO1] at hb ⊢
    rw [← List.append_assoc]
    refine getO_load (inS_enc (by rw [hb, List.append_assoc]) (by decide) (by decide) (by decide) (by decide)) (inS_enc (r := r) (by rw [hb]; simp) (by omega) (by omega) (by omega) (by omega))
  · obtain ⟨rfl, ha, hb', rfl⟩ := h
    rw [encO2] at hb ⊢
    rw [← List.append_assoc, ← List.append_assoc]
    refine getO_store (inS_enc (by rw [hb, List.append_assoc]) (by decide) (by decide) (by decide) (by decide)) (inS_enc (r := enc (zz v) ++ r) (by rw [hb]; simp) (by omega) (by omega) (by omega) (by omega)) (inS_enc (r := r) (by rw [hb]; simp) (by omega) (by omega) (by omega) (by omega))
  · obtain ⟨rfl, ha, hb'⟩ := h
    rw [encO3] at hb ⊢
    rw [← List.append_assoc, ← List.append_assoc, ← List.append_assoc]
    refine getO_cas (inS_enc (by rw [hb, List.append_assoc]) (by decide) (by decide) (by decide) (by decide)) (inS_enc (r := enc (zz v) ++ (enc (zz o) ++ r)) (by rw [hb]; simp) (by omega) (by omega) (by omega) (by omega)) (inS_enc (r := enc (zz o) ++ r) (by rw [hb]; simp) (by omega) (by omega) (by omega) (by omega)) (inS_enc (r := r) (by rw [hb]; simp) (by omega) (by omega) (by omega) (by omega))

theorem getL_enc {bs pre r : List Nat} {L : List O4} {n : Int} (hb : bs = pre ++ (encL L ++ r)) (hr : ∀ x ∈ L, rt x n = true ∧ O32 x) : ∀ k, k ≤ L.length → getL bs (n - 1) k pre.length 0 = (0, L.take k, (pre ++ encL (L.take k)).length)
  | 0, _ => by simp [getL, encL_nil]
  | k + 1, hk => by
    have ih := getL_enc hb hr k (by omega)
    have hx := hr L[k] (List.getElem_mem _)
    rw [encL_snoc L k (by omega), ← List.append_assoc, List.take_succ_eq_append_getElem (by omega)]
    refine getL_succ ih (getO_enc (r := encL (L.drop (k + 1)) ++ r) ?_ hx.1 hx.2)
    rw [hb, encL_split L (k + 1), encL_snoc L k (by omega)]
    simp

theorem getP_enc {L : List O4} {n : Int} (r : List Nat) (hr : ∀ x ∈ L, rt x n = true ∧ O32 x) (hl : L.length ≤ 64) : getP (encP L ++ r) (n - 1) 0 0 = (0, L, (encP L).length) := by
  have h1 : inS (encP L ++ r) 0 64 0 0 = (0, (L.length : Int), (enc (zz (L.length : Int))).length) := by
    have := inS_enc (bs := encP L ++ r) (pre := []) (r := encL L ++ r) (z := (L.length : Int)) (lo := 0) (hi := 64) (by unfold encP; simp) (by omega) (by omega) (by omega) (by omega)
    simpa using this
  unfold getP
  rw [h1]
  have h2 := getL_enc (bs := encP L ++ r) (pre := enc (zz (L.length : Int))) (r := r) (L := L) (by unfold encP; simp) hr L.length (Nat.le_refl _)
  rw [List.take_length] at h2
  exact h2

/- What was read was written so. -/

theorem inS_take {bs : List Nat} {lo hi z : Int} {at_ c a : Nat} (h : inS bs lo hi at_ c = (0, z, a)) (hby : ∀ x ∈ bs, x < 256) (hat : at_ ≤ bs.length) : c = 0 ∧ lo ≤ z ∧ z ≤ hi ∧ a ≤ bs.length ∧ bs.take a = bs.take at_ ++ enc (zz z) := by
  have hc : c = 0 := inS_code bs lo hi at_ c (by rw [h])
  subst hc
  refine ⟨rfl, ?_⟩
  rcases hd : dec 0 0 (bs.drop at_) with ⟨d, u, s⟩
  by_cases h0 : d = 0
  · subst h0
    by_cases ho : uz u < lo ∨ hi < uz u
    · rw [inS_out hd ho] at h; cases h
    · rw [inS_ok hd ho] at h
      simp only [Prod.mk.injEq, true_and] at h
      obtain ⟨h1, h2⟩ := h
      obtain ⟨v, e1, e2, e3, e4, e5, _⟩ := dec_ok (bs.drop at_) 0 0 u s (by omega) (fun c hc => hby c (List.mem_of_mem_drop hc)) hd
      have hv : u = v := by simpa using e1
      subst hv
      rw [List.length_drop] at e4
      have hz : zz z = u := by rw [← h1, zz_uz]
      refine ⟨by omega, by omega, by omega, ?_⟩
      rw [← h2, hz, show s = (enc u).length by omega, List.take_add, e3]
  · rw [inS_bad hd h0] at h
    simp only [Prod.mk.injEq] at h
    exact absurd h.1 h0

theorem getO_take {bs : List Nat} {n : Int} {at_ c a : Nat} {x : O4} (h : getO bs (n - 1) at_ c = (0, x, a)) (hby : ∀ x ∈ bs, x < 256) (hat : at_ ≤ bs.length) (hn : n ≤ 128) : c = 0 ∧ rt x n = true ∧ O32 x ∧ a ≤ bs.length ∧ bs.take a = bs.take at_ ++ encO x := by
  obtain ⟨c1, k, a1, h1, hk⟩ := kind_cases bs at_ c
  rcases hk with rfl | rfl | rfl | rfl | rfl
  · rw [getO_bare h1 (.inl rfl)] at h
    simp only [Prod.mk.injEq] at h
    obtain ⟨rfl, _⟩ := h
    have := inS_take h1 hby hat
    omega
  · rw [getO_bare h1 (.inr rfl)] at h
    simp only [Prod.mk.injEq] at h
    obtain ⟨rfl, rfl, rfl⟩ := h
    obtain ⟨b0, b1, b2, b3, b4⟩ := inS_take h1 hby hat
    exact ⟨b0, (rt_iff _ _).2 ⟨hn, .inl ⟨rfl, rfl, rfl, rfl⟩⟩, by simp [O32], b3, by rw [encO4]; exact b4⟩
  · rcases h2 : inS bs 0 (n - 1) a1 c1 with ⟨c2, ad, a2⟩
    rw [getO_load h1 h2] at h
    simp only [Prod.mk.injEq] at h
    obtain ⟨rfl, rfl, rfl⟩ := h
    have l1 : c1 = 0 := inS_code _ _ _ _ _ (by rw [h2])
    subst l1
    obtain ⟨b0, b1, b2, b3, b4⟩ := inS_take h1 hby hat
    obtain ⟨_, d1, d2, d3, d4⟩ := inS_take h2 hby b3
    refine ⟨b0, (rt_iff _ _).2 ⟨hn, .inr (.inl ⟨rfl, d1, ?_, rfl, rfl⟩)⟩, by simp [O32], d3, by rw [encO1, d4, b4, List.append_assoc]⟩
    simp only; omega
  · rcases h2 : inS bs 0 (n - 1) a1 c1 with ⟨c2, ad, a2⟩
    rcases h3 : inS bs 0 4294967295 a2 c2 with ⟨c3, v, a3⟩
    rw [getO_store h1 h2 h3] at h
    simp only [Prod.mk.injEq] at h
    obtain ⟨rfl, rfl, rfl⟩ := h
    have l2 : c2 = 0 := inS_code _ _ _ _ _ (by rw [h3])
    subst l2
    have l1 : c1 = 0 := inS_code _ _ _ _ _ (by rw [h2])
    subst l1
    obtain ⟨b0, b1, b2, b3, b4⟩ := inS_take h1 hby hat
    obtain ⟨_, d1, d2, d3, d4⟩ := inS_take h2 hby b3
    obtain ⟨_, e1, e2, e3, e4⟩ := inS_take h3 hby d3
    refine ⟨b0, (rt_iff _ _).2 ⟨hn, .inr (.inr (.inl ⟨rfl, d1, ?_, rfl⟩))⟩, ?_, e3, by rw [encO2, e4, d4, b4]; simp⟩
    · simp only; omega
    · simp only [O32]; omega
  · rcases h2 : inS bs 0 (n - 1) a1 c1 with ⟨c2, ad, a2⟩
    rcases h3 : inS bs 0 4294967295 a2 c2 with ⟨c3, v, a3⟩
    rcases h4 : inS bs 0 4294967295 a3 c3 with ⟨c4, o, a4⟩
    rw [getO_cas h1 h2 h3 h4] at h
    simp only [Prod.mk.injEq] at h
    obtain ⟨rfl, rfl, rfl⟩ := h
    have l3 : c3 = 0 := inS_code _ _ _ _ _ (by rw [h4])
    subst l3
    have l2 : c2 = 0 := inS_code _ _ _ _ _ (by rw [h3])
    subst l2
    have l1 : c1 = 0 := inS_code _ _ _ _ _ (by rw [h2])
    subst l1
    obtain ⟨b0, b1, b2, b3, b4⟩ := inS_take h1 hby hat
    obtain ⟨_, d1, d2, d3, d4⟩ := inS_take h2 hby b3
    obtain ⟨_, e1, e2, e3, e4⟩ := inS_take h3 hby d3
    obtain ⟨_, f1, f2, f3, f4⟩ := inS_take h4 hby e3
    refine ⟨b0, (rt_iff _ _).2 ⟨hn, .inr (.inr (.inr ⟨rfl, d1, ?_⟩))⟩, ?_, f3, by rw [encO3, f4, e4, d4, b4]; simp⟩
    · simp only; omega
    · simp only [O32]; omega

theorem getL_take {bs : List Nat} {n : Int} {at_ c : Nat} (hby : ∀ x ∈ bs, x < 256) (hat : at_ ≤ bs.length) (hn : n ≤ 128) : ∀ (k a : Nat) (L : List O4), getL bs (n - 1) k at_ c = (0, L, a) → c = 0 ∧ (∀ x ∈ L, rt x n = true ∧ O32 x) ∧ a ≤ bs.length ∧ bs.take a = bs.take at_ ++ encL L
  | 0, a, L, h => by
    simp only [getL, Prod.mk.injEq] at h
    obtain ⟨rfl, rfl, rfl⟩ := h
    exact ⟨rfl, fun _ h => absurd h List.not_mem_nil, hat, by simp [encL_nil]⟩
  | k + 1, a, L, h => by
    rcases h1 : getL bs (n - 1) k at_ c with ⟨c1, M, a1⟩
    rcases h2 : getO bs (n - 1) a1 c1 with ⟨c2, x, a2⟩
    rw [getL_succ h1 h2] at h
    simp only [Prod.mk.injEq] at h
    obtain ⟨rfl, rfl, rfl⟩ := h
    have l1 : c1 = 0 := by
      apply Classical.byContradiction
      intro hc
      have hk : inS bs 1 4 a1 c1 = (c1, 0, a1) := inS_wrong hc
      rw [getO_bare hk (.inl rfl)] at h2
      simp only [Prod.mk.injEq] at h2
      exact hc h2.1
    subst l1
    obtain ⟨b0, b1, b2, b3⟩ := getL_take hby hat hn k a1 M h1
    obtain ⟨_, d1, d2, d3, d4⟩ := getO_take h2 hby b2 hn
    refine ⟨b0, fun y hy => ?_, d3, by rw [d4, b3, encL_append, encL_one, List.append_assoc]⟩
    rcases List.mem_append.1 hy with hy | hy
    · exact b1 y hy
    · rw [List.mem_singleton.1 hy]; exact ⟨d1, d2⟩

/-- Bytes that are taken whole are the program's own. -/
theorem getP_take {bs : List Nat} {n : Int} {L : List O4} {a : Nat} (h : getP bs (n - 1) 0 0 = (0, L, a)) (hby : ∀ x ∈ bs, x < 256) (hn : n ≤ 128) : (∀ x ∈ L, rt x n = true ∧ O32 x) ∧ L.length ≤ 64 ∧ a ≤ bs.length ∧ bs.take a = encP L := by
  unfold getP at h
  rcases h1 : inS bs 0 64 0 0 with ⟨c1, m, a1⟩
  rw [h1] at h
  simp only at h
  have hl := getL_length bs (n - 1) a1 c1 m.toNat
  rw [h] at hl
  simp only at hl
  have hc1 : c1 = 0 := by
    apply Classical.byContradiction
    intro hc
    have hm : m = 0 := by
      rcases hd : dec 0 0 (bs.drop 0) with ⟨d, u, s⟩
      by_cases h0 : d = 0
      · subst h0
        by_cases ho : uz u < 0 ∨ 64 < uz u
        · rw [inS_out hd ho] at h1
          simp only [Prod.mk.injEq] at h1
          exact h1.2.1.symm
        · rw [inS_ok hd ho] at h1
          simp only [Prod.mk.injEq] at h1
          exact absurd h1.1.symm hc
      · rw [inS_bad hd h0] at h1
        simp only [Prod.mk.injEq] at h1
        exact h1.2.1.symm
    subst hm
    simp only [Int.toNat_zero, getL, Prod.mk.injEq] at h
    exact hc h.1
  subst hc1
  obtain ⟨_, b1, b2, b3, b4⟩ := inS_take h1 hby (Nat.zero_le _)
  obtain ⟨_, d1, d2, d3⟩ := getL_take hby b3 hn _ _ _ h
  refine ⟨d1, by omega, d2, ?_⟩
  rw [d3, b4]
  unfold encP
  rw [show (L.length : Int) = m by omega]
  simp

/-- A program's bytes, cut off, are none. -/
theorem getP_cut {L : List O4} {n : Int} {k : Nat} (hr : ∀ x ∈ L, rt x n = true ∧ O32 x) (hl : L.length ≤ 64) (hn : n ≤ 128) (hk : k < (encP L).length) : endS ((encP L).take k) (getP ((encP L).take k) (n - 1) 0 0).2.2 (getP ((encP L).take k) (n - 1) 0 0).1 ≠ 0 := by
  intro he
  rcases h : getP ((encP L).take k) (n - 1) 0 0 with ⟨c, X, a⟩
  rw [h] at he
  simp only [endS] at he
  by_cases hc : c = 0
  · subst hc
    rw [if_neg (by simp)] at he
    have hal : ¬ a < ((encP L).take k).length := by
      intro hlt
      rw [if_pos hlt] at he
      omega
    obtain ⟨h1, h2, h3, h4⟩ := getP_take h (fun x hx => encP_byte L x (List.mem_of_mem_take hx)) hn
    rw [List.take_of_length_le (by omega)] at h4
    have e1 := getP_enc ((encP L).drop k) h1 h2
    rw [← h4, List.take_append_drop] at e1
    have e2 := getP_enc [] hr hl
    rw [List.append_nil, e1] at e2
    simp only [Prod.mk.injEq, true_and] at e2
    rw [List.length_take] at e2
    omega
  · rw [if_pos hc] at he
    exact hc he

end Go.Proofs.YtbanihjjeicdaaaDoor
