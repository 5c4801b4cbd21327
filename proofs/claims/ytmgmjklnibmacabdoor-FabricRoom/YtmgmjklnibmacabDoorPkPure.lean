/- DERIVED of the program: numbers as bytes: the document's own forms (zz, enc, dec) and their laws. Own work. -/
import Derived.Test.YtmgmjklnibmacabDoorBaseKeep
namespace Go.Proofs.YtmgmjklnibmacabDoor

def zz (n : Int) : Nat := if n < 0 then 2 * (-1 - n).toNat + 1 else 2 * n.toNat
def uz (u : Nat) : Int := if u % 2 = 1 then -1 - ((u / 2 : Nat) : Int) else ((u / 2 : Nat) : Int)

theorem uz_zz (n : Int) : uz (zz n) = n := by
  unfold uz zz
  split <;> split <;> omega

theorem zz_uz (u : Nat) : zz (uz u) = u := by
  unfold uz zz
  split <;> split <;> omega

theorem zz_lt (n : Int) (h0 : -9223372036854775808 ≤ n) (h1 : n ≤ 9223372036854775807) : zz n < 18446744073709551616 := by
  unfold zz
  split <;> omega

theorem uz_le (u : Nat) (h : u < 18446744073709551616) : -9223372036854775808 ≤ uz u ∧ uz u ≤ 9223372036854775807 := by
  unfold uz
  split <;> omega

/-- A number's pieces of seven bits, the lowest first, 128 put to each but the last. -/
def enc (u : Nat) : List Nat := if u < 128 then [u] else (u % 128 + 128) :: enc (u / 128)
  termination_by u
  decreasing_by omega

theorem enc_lt {u : Nat} (h : u < 128) : enc u = [u] := by rw [enc, if_pos h]
theorem enc_ge {u : Nat} (h : 128 ≤ u) : enc u = (u % 128 + 128) :: enc (u / 128) := by rw [enc, if_neg (by omega)]

theorem enc_pos (u : Nat) : 1 ≤ (enc u).length := by
  rw [enc]; split <;> simp

theorem enc_len : ∀ (k u : Nat), u < 2 ^ (7 * (k + 1)) → (enc u).length ≤ k + 1
  | 0, u, h => by rw [enc_lt (by omega)]; simp
  | k + 1, u, h => by
    rcases Nat.lt_or_ge u 128 with h1 | h1
    · rw [enc_lt h1]; simp
    · rw [enc_ge h1, List.length_cons]
      have e : 2 ^ (7 * (k + 1 + 1)) = 128 * 2 ^ (7 * (k + 1)) := by rw [show 7 * (k + 1 + 1) = 7 + 7 * (k + 1) from by omega, Nat.pow_add]
      have := enc_len k (u / 128) (by rw [e] at h; omega)
      omega

theorem enc_len10 (u : Nat) (h : u < 18446744073709551616) : (enc u).length ≤ 10 := enc_len 9 u (by omega)

theorem enc_byte : ∀ (u : Nat), ∀ x ∈ enc u, x < 256 := by
  intro u
  induction u using Nat.strongRecOn with
  | _ u ih =>
    intro x hx
    rcases Nat.lt_or_ge u 128 with h1 | h1
    · rw [enc_lt h1] at hx; simp at hx; omega
    · rw [enc_ge h1] at hx
      rcases List.mem_cons.1 hx with rfl | hx
      · omega
      · exact ih (u / 128) (by omega) x hx

/-- Sizes grow with the numbers. -/
theorem enc_mono : ∀ (u v : Nat), u ≤ v → (enc u).length ≤ (enc v).length := by
  intro u
  induction u using Nat.strongRecOn with
  | _ u ih =>
    intro v h
    rcases Nat.lt_or_ge u 128 with h1 | h1
    · rw [enc_lt h1]; exact enc_pos v
    · rw [enc_ge h1, enc_ge (by omega : 128 ≤ v)]
      have := ih (u / 128) (by omega) (v / 128) (by omega)
      simp; omega

theorem enc_even (m : Nat) : (enc (2 * m + 1)).length = (enc (2 * m)).length := by
  rcases Nat.lt_or_ge (2 * m) 128 with h1 | h1
  · rw [enc_lt h1, enc_lt (by omega)]; rfl
  · rw [enc_ge h1, enc_ge (by omega), show (2 * m + 1) / 128 = 2 * m / 128 from by omega]; rfl

/-- What a reader finds at the head of a list of bytes: a code (0: a number; 3: too short; 4: not in form), the number, its bytes. -/
def dec : Nat → Nat → List Nat → Nat × Nat × Nat
  | _, _, [] => (3, 0, 0)
  | i, u, c :: r => if (0 < i ∧ c = 0) ∨ (i = 9 ∧ 1 < c) then (4, 0, 0) else if c < 128 then (0, u + c % 128 * 2 ^ (7 * i), i + 1) else dec (i + 1) (u + c % 128 * 2 ^ (7 * i)) r

theorem dec_nil (i u : Nat) : dec i u [] = (3, 0, 0) := rfl
theorem dec_form {i u c : Nat} {r : List Nat} (h : (0 < i ∧ c = 0) ∨ (i = 9 ∧ 1 < c)) : dec i u (c :: r) = (4, 0, 0) := by rw [dec, if_pos h]
theorem dec_last {i u c : Nat} {r : List Nat} (h : ¬ ((0 < i ∧ c = 0) ∨ (i = 9 ∧ 1 < c))) (hc : c < 128) : dec i u (c :: r) = (0, u + c * 2 ^ (7 * i), i + 1) := by
  rw [dec, if_neg h, if_pos hc, Nat.mod_eq_of_lt hc]
theorem dec_more {i u c : Nat} {r : List Nat} (h : ¬ ((0 < i ∧ c = 0) ∨ (i = 9 ∧ 1 < c))) (hc : ¬ c < 128) : dec i u (c :: r) = dec (i + 1) (u + c % 128 * 2 ^ (7 * i)) r := by
  rw [dec, if_neg h, if_neg hc]

theorem dec_code : ∀ (bs : List Nat) (i u : Nat), (dec i u bs).1 = 0 ∨ dec i u bs = (3, 0, 0) ∨ dec i u bs = (4, 0, 0)
  | [], i, u => .inr (.inl rfl)
  | c :: r, i, u => by
    by_cases h : (0 < i ∧ c = 0) ∨ (i = 9 ∧ 1 < c)
    · exact .inr (.inr (dec_form h))
    · by_cases hc : c < 128
      · rw [dec_last h hc]; exact .inl rfl
      · rw [dec_more h hc]; exact dec_code r _ _

theorem dec_enc : ∀ (u i x : Nat) (r : List Nat), i ≤ 9 → u < 2 ^ (64 - 7 * i) → (0 < i → 0 < u) → dec i x (enc u ++ r) = (0, x + u * 2 ^ (7 * i), i + (enc u).length) := by
  intro u
  induction u using Nat.strongRecOn with
  | _ u ih =>
    intro i x r hi hu h0
    have h9 : i = 9 → u < 2 := by rintro rfl; omega
    rcases Nat.lt_or_ge u 128 with h1 | h1
    · rw [enc_lt h1]
      exact dec_last (by rintro (⟨a, b⟩ | ⟨a, b⟩); · have := h0 a; omega
                         · have := h9 a; omega) h1
    · have hi8 : i ≤ 8 := by
        rcases Nat.lt_or_ge i 9 with h | h
        · omega
        · have := h9 (by omega); omega
      rw [enc_ge h1, List.cons_append, dec_more (by rintro (⟨a, b⟩ | ⟨a, b⟩) <;> omega) (by omega)]
      have e : 64 - 7 * i = 7 + (64 - 7 * (i + 1)) := by omega
      rw [e, Nat.pow_add] at hu
      rw [ih (u / 128) (by omega) (i + 1) _ r (by omega) (by omega) (by omega)]
      have e2 : 2 ^ (7 * (i + 1)) = 128 * 2 ^ (7 * i) := by rw [show 7 * (i + 1) = 7 + 7 * i from by omega, Nat.pow_add]
      have e3 : (u % 128 + 128) % 128 = u % 128 := by omega
      rw [e2, e3]
      have e4 : u * 2 ^ (7 * i) = u % 128 * 2 ^ (7 * i) + u / 128 * (128 * 2 ^ (7 * i)) := by
        rw [← Nat.mul_assoc, ← Nat.add_mul, show u % 128 + u / 128 * 128 = u from by omega]
      simp only [Prod.mk.injEq, true_and, List.length_cons]
      omega

theorem dec_cut : ∀ (u i x k : Nat), i ≤ 9 → u < 2 ^ (64 - 7 * i) → (0 < i → 0 < u) → k < (enc u).length → dec i x ((enc u).take k) = (3, 0, 0) := by
  intro u
  induction u using Nat.strongRecOn with
  | _ u ih =>
    intro i x k hi hu h0 hk
    have h9 : i = 9 → u < 2 := by rintro rfl; omega
    match k, hk with
    | 0, _ => simp [dec]
    | k + 1, hk =>
      rcases Nat.lt_or_ge u 128 with h1 | h1
      · rw [enc_lt h1] at hk; simp at hk
      · have hi8 : i ≤ 8 := by
          rcases Nat.lt_or_ge i 9 with h | h
          · omega
          · have := h9 (by omega); omega
        rw [enc_ge h1] at hk ⊢
        rw [List.take_succ_cons, dec_more (by rintro (⟨a, b⟩ | ⟨a, b⟩) <;> omega) (by omega)]
        have e : 64 - 7 * i = 7 + (64 - 7 * (i + 1)) := by omega
        rw [e, Nat.pow_add] at hu
        exact ih (u / 128) (by omega) (i + 1) _ k (by omega) (by omega) (by omega) (by simpa using hk)

theorem dec_ok : ∀ (bs : List Nat) (i x U s : Nat), i ≤ 9 → (∀ c ∈ bs, c < 256) → dec i x bs = (0, U, s) → ∃ v, U = x + v * 2 ^ (7 * i) ∧ s = i + (enc v).length ∧ bs.take (enc v).length = enc v ∧ (enc v).length ≤ bs.length ∧ v < 2 ^ (64 - 7 * i) ∧ (0 < i → 0 < v)
  | [], i, x, U, s, _, _, h => by cases h
  | c :: r, i, x, U, s, hi, hb, h => by
    have hc256 := hb c (List.mem_cons_self ..)
    by_cases hf : (0 < i ∧ c = 0) ∨ (i = 9 ∧ 1 < c)
    · rw [dec_form hf] at h; cases h
    · by_cases hc : c < 128
      · rw [dec_last hf hc] at h
        simp only [Prod.mk.injEq, true_and] at h
        refine ⟨c, h.1.symm, ?_, ?_, ?_, ?_, ?_⟩
        · rw [enc_lt hc]; simp; omega
        · rw [enc_lt hc]; simp
        · rw [enc_lt hc]; simp
        · rcases Nat.lt_or_ge i 9 with h9 | h9
          · have : 2 ^ 7 ≤ 2 ^ (64 - 7 * i) := Nat.pow_le_pow_right (by omega) (by omega)
            omega
          · have : i = 9 := by omega
            subst this
            have : ¬ 1 < c := fun h => hf (.inr ⟨rfl, h⟩)
            omega
        · intro h0
          have : ¬ c = 0 := fun h => hf (.inl ⟨h0, h⟩)
          omega
      · rw [dec_more hf hc] at h
        have hi8 : i ≤ 8 := by
          rcases Nat.lt_or_ge i 9 with h9 | h9
          · omega
          · exact absurd (.inr ⟨by omega, by omega⟩) hf
        obtain ⟨v, h1, h2, h3, h4, h5, h6⟩ := dec_ok r (i + 1) _ U s (by omega) (fun y hy => hb y (List.mem_cons_of_mem _ hy)) h
        have e2 : 2 ^ (7 * (i + 1)) = 128 * 2 ^ (7 * i) := by rw [show 7 * (i + 1) = 7 + 7 * i from by omega, Nat.pow_add]
        have e : 64 - 7 * i = 7 + (64 - 7 * (i + 1)) := by omega
        have hv0 := h6 (by omega)
        have hg : 128 ≤ c % 128 + 128 * v := by omega
        have hen : enc (c % 128 + 128 * v) = c :: enc v := by
          rw [enc_ge hg, show (c % 128 + 128 * v) % 128 + 128 = c from by omega, show (c % 128 + 128 * v) / 128 = v from by omega]
        refine ⟨c % 128 + 128 * v, ?_, ?_, ?_, ?_, ?_, fun _ => by omega⟩
        · rw [h1, e2, Nat.add_mul, Nat.add_assoc, Nat.mul_comm 128 v, Nat.mul_assoc]
        · rw [hen, h2]; simp; omega
        · rw [hen]; simp [h3]
        · rw [hen]; simp; omega
        · rw [e, Nat.pow_add]; omega

end Go.Proofs.YtmgmjklnibmacabDoor
