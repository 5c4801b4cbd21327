/- DERIVED of the program: numbers as bytes: the document's own forms (zz, enc, dec) and their laws. Own work. -/
import Derived.Test.YtakomlmbdienpaaDoorBaseKeep
import Derived.Laws.CopyOwn
import Derived.Laws.MakeOwn
import Derived.Laws.BitsLemmas
import Derived.Laws.Bits64
import Derived.ProofKit
import Derived.Deep.AppendLies
import Derived.Laws.AppendOwnNone
import Derived.Deep.DeepCutAuto
import Derived.Deep.RegionHeld3
import Derived.Deep.DrawnRows
import Derived.Deep.QuietTactic
import Derived.BigQuiet
import Derived.ChangeSlices
import Derived.OpenShut
import Derived.SizedLaws
namespace Go.Proofs.YtakomlmbdienpaaDoor

def zz (n : Int) : Nat := if n < 0 then 2 * (-1 - n).toNat + 1 else 2 * n.toNat
def uz (u : Nat) : Int := if u % 2 = 1 then -1 - ((u / 2 : Nat) : Int) else ((u / 2 : Nat) : Int)

theorem uz_zz (n : Int) : uz (zz n) = n := by
  unfold uz zz
  split <;> split <;> omega

theorem zz_uz (u : Nat) : zz (uz u) = u := by
  unfold uz zz
  split <;> split <;> omega

theorem zz_lt (n : Int) (h0 : -9223372036854775808 ≤ n) (h1 : n ≤ 9223372036854775807) : zz n < 18446744073709551616 := by
  unfold zz
  split <;> omega

theorem uz_le (u : Nat) (h : u < 18446744073709551616) : -9223372036854775808 ≤ uz u ∧ uz u ≤ 9223372036854775807 := by
  unfold uz
  split <;> omega

/-- A number's pieces of seven bits, the lowest first, 128 put to each but the last. -/
def enc (u : Nat) : List Nat := if u < 128 then [u] else (u % 128 + 128) :: enc (u / 128)
  termination_by u
  decreasing_by omega

theorem enc_lt {u : Nat} (h : u < 128) : enc u = [u] := by rw [enc, if_pos h]
theorem enc_ge {u : Nat} (h : 128 ≤ u) : enc u = (u % 128 + 128) :: enc (u / 128) := by rw [enc, if_neg (by omega)]

theorem enc_pos (u : Nat) : 1 ≤ (enc u).length := by
  rw [enc]; split <;> simp

theorem enc_len : ∀ (k u : Nat), u < 2 ^ (7 * (k + 1)) → (enc u).length ≤ k + 1
  | 0, u, h => by rw [enc_lt (by omega)]; simp
  | k + 1, u, h => by
    rcases Nat.lt_or_ge u 128 with h1 | h1
    · rw [enc_lt h1]; simp
    · rw [enc_ge h1, List.length_cons]
      have e : 2 ^ (7 * (k + 1 + 1)) = 128 * 2 ^ (7 * (k + 1)) := by rw [show 7 * (k + 1 + 1) = 7 + 7 * (k + 1) from by omega, Nat.pow_add]
      have := enc_len k (u / 128) (by rw [e] at h; omega)
      omega

theorem enc_len10 (u : Nat) (h : u < 18446744073709551616) : (enc u).length ≤ 10 := enc_len 9 u (by omega)

theorem enc_byte : ∀ (u : Nat), ∀ x ∈ enc u, x < 256 := by
  intro u
  induction u using Nat.strongRecOn with
  | _ u ih =>
    intro x hx
    rcases Nat.lt_or_ge u 128 with h1 | h1
    · rw [enc_lt h1] at hx; simp at hx; omega
    · rw [enc_ge h1] at hx
      rcases List.mem_cons.1 hx with rfl | hx
      · omega
      · exact ih (u / 128) (by omega) x hx

/-- Sizes grow with the numbers. -/
theorem enc_mono : ∀ (u v : Nat), u ≤ v → (enc u).length ≤ (enc v).length := by
  intro u
  induction u using Nat.strongRecOn with
  | _ u ih =>
    intro v h
    rcases Nat.lt_or_ge u 128 with h1 | h1
    · rw [enc_lt h1]; exact enc_pos v
    · rw [enc_ge h1, enc_ge (by omega : 128 ≤ v)]
      have := ih (u / 128) (by omega) (v / 128) (by omega)
      simp; omega

theorem enc_even (m : Nat) : (enc (2 * m + 1)).length = (enc (2 * m)).length := by
  rcases Nat.lt_or_ge (2 * m) 128 with h1 | h1
  · rw [enc_lt h1, enc_lt (by omega)]; rfl
  · rw [enc_ge h1, enc_ge (by omega), show (2 * m + 1) / 128 = 2 * m / 128 from by omega]; rfl

/-- What a reader finds at the head of a list of bytes: a code (0: a number; 3: too short; 4: not in form), the number, its bytes. -/
def dec : Nat → Nat → List Nat → Nat × Nat × Nat
  | _, _, [] => (3, 0, 0)
  | i, u, c :: r => if (0 < i ∧ c = 0) ∨ (i = 9 ∧ 1 < c) then (4, 0, 0) else if c < 128 then (0, u + c % 128 * 2 ^ (7 * i), i + 1) else dec (i + 1) (u + c % 128 * 2 ^ (7 * i)) r

theorem dec_nil (i u : Nat) : dec i u [] = (3, 0, 0) := rfl
theorem dec_form {i u c : Nat} {r : List Nat} (h : (0 < i ∧ c = 0) ∨ (i = 9 ∧ 1 < c)) : dec i u (c :: r) = (4, 0, 0) := by rw [dec, if_pos h]
theorem dec_last {i u c : Nat} {r : List Nat} (h : ¬ ((0 < i ∧ c = 0) ∨ (i = 9 ∧ 1 < c))) (hc : c < 128) : dec i u (c :: r) = (0, u + c * 2 ^ (7 * i), i + 1) := by
  rw [dec, if_neg h, if_pos hc, Nat.mod_eq_of_lt hc]
theorem dec_more {i u c : Nat} {r : List Nat} (h : ¬ ((0 < i ∧ c = 0) ∨ (i = 9 ∧ 1 < c))) (hc : ¬ c < 128) : dec i u (c :: r) = dec (i + 1) (u + c % 128 * 2 ^ (7 * i)) r := by
  rw [dec, if_neg h, if_neg hc]

theorem dec_code : ∀ (bs : List Nat) (i u : Nat), (dec i u bs).1 = 0 ∨ dec i u bs = (3, 0, 0) ∨ dec i u bs = (4, 0, 0)
  | [], i, u => .inr (.inl rfl)
  | c :: r, i, u => by
    by_cases h : (0 < i ∧ c = 0) ∨ (i = 9 ∧ 1 < c)
    · exact .inr (.inr (dec_form h))
    · by_cases hc : c < 128
      · rw [dec_last h hc]; exact .inl rfl
      · rw [dec_more h hc]; exact dec_code r _ _

theorem dec_enc : ∀ (u i x : Nat) (r : List Nat), i ≤ 9 → u < 2 ^ (64 - 7 * i) → (0 < i → 0 < u) → dec i x (enc u ++ r) = (0, x + u * 2 ^ (7 * i), i + (enc u).length) := by
  intro u
  induction u using Nat.strongRecOn with
  | _ u ih =>
    intro i x r hi hu h0
    have h9 : i = 9 → u < 2 := by rintro rfl; omega
    rcases Nat.lt_or_ge u 128 with h1 | h1
    · rw [enc_lt h1]
      exact dec_last (by rintro (⟨a, b⟩ | ⟨a, b⟩); · have := h0 a; omega
                         · have := h9 a; omega) h1
    · have hi8 : i ≤ 8 := by
        rcases Nat.lt_or_ge i 9 with h | h
        · omega
        · have := h9 (by omega); omega
      rw [enc_ge h1, List.cons_append, dec_more (by rintro (⟨a, b⟩ | ⟨a, b⟩) <;> omega) (by omega)]
      have e : 64 - 7 * i = 7 + (64 - 7 * (i + 1)) := by omega
      rw [e, Nat.pow_add] at hu
      rw [ih (u / 128) (by omega) (i + 1) _ r (by omega) (by omega) (by omega)]
      have e2 : 2 ^ (7 * (i + 1)) = 128 * 2 ^ (7 * i) := by rw [show 7 * (i + 1) = 7 + 7 * i from by omega, Nat.pow_add]
      have e3 : (u % 128 + 128) % 128 = u % 128 := by omega
      rw [e2, e3]
      have e4 : u * 2 ^ (7 * i) = u % 128 * 2 ^ (7 * i) + u / 128 * (128 * 2 ^ (7 * i)) := by
        rw [← Nat.mul_assoc, ← Nat.add_mul, show u % 128 + u / 128 * 128 = u from by omega]
      simp only [Prod.mk.injEq, true_and, List.length_cons]
      omega

theorem dec_cut : ∀ (u i x k : Nat), i ≤ 9 → u < 2 ^ (64 - 7 * i) → (0 < i → 0 < u) → k < (enc u).length → dec i x ((enc u).take k) = (3, 0, 0) := by
  intro u
  induction u using Nat.strongRecOn with
  | _ u ih =>
    intro i x k hi hu h0 hk
    have h9 : i = 9 → u < 2 := by rintro rfl; omega
    match k, hk with
    | 0, _ => simp [dec]
    | k + 1, hk =>
      rcases Nat.lt_or_ge u 128 with h1 | h1
      · rw [enc_lt h1] at hk; simp at hk
      · have hi8 : i ≤ 8 := by
          rcases Nat.lt_or_ge i 9 with h | h
          · omega
          · have := h9 (by omega); omega
        rw [enc_ge h1] at hk ⊢
        rw [List.take_succ_cons, dec_more (by rintro (⟨a, b⟩ | ⟨a, b⟩) <;> omega) (by omega)]
        have e : 64 - 7 * i = 7 + (64 - 7 * (i + 1)) := by omega
        rw [e, Nat.pow_add] at hu
        exact ih (u / 128) (by omega) (i + 1) _ k (by omega) (by omega) (by omega) (by simpa using hk)

theorem dec_ok : ∀ (bs : List Nat) (i x U s : Nat), i ≤ 9 → (∀ c ∈ bs, c < 256) → dec i x bs = (0, U, s) → ∃ v, U = x + v * 2 ^ (7 * i) ∧ s = i + (enc v).length ∧ bs.take (enc v).length = enc v ∧ (enc v).length ≤ bs.length ∧ v < 2 ^ (64 - 7 * i) ∧ (0 < i → 0 < v)
  | [], i, x, U, s, _, _, h => by cases h
  | c :: r, i, x, U, s, hi, hb, h => by
    have hc256 := hb c (List.mem_cons_self ..)
    by_cases hf : (0 < i ∧ c = 0) ∨ (i = 9 ∧ 1 < c)
    · rw [dec_form hf] at h; cases h
    · by_cases hc : c < 128
      · rw [dec_last hf hc] at h
        simp only [Prod.mk.injEq, true_and] at h
        refine ⟨c, h.1.symm, ?_, ?_, ?_, ?_, ?_⟩
        · rw [enc_lt hc]; simp; omega
        · rw [enc_lt hc]; simp
        · rw [enc_lt hc]; simp
        · rcases Nat.lt_or_ge i 9 with h9 | h9
          · have : 2 ^ 7 ≤ 2 ^ (64 - 7 * i) := Nat.pow_le_pow_right (by omega) (by omega)
            omega
          · have : i = 9 := by omega
            subst this
            have : ¬ 1 < c := fun h => hf (.inr ⟨rfl, h⟩)
            omega
        · intro h0
          have : ¬ c = 0 := fun h => hf (.inl ⟨h0, h⟩)
          omega
      · rw [dec_more hf hc] at h
        have hi8 : i ≤ 8 := by
          rcases Nat.lt_or_ge i 9 with h9 | h9
          · omega
          · exact absurd (.inr ⟨by omega, by omega⟩) hf
        obtain ⟨v, h1, h2, h3, h4, h5, h6⟩ := dec_ok r (i + 1) _ U s (by omega) (fun y hy => hb y (List.mem_cons_of_mem _ hy)) h
        have e2 : 2 ^ (7 * (i + 1)) = 128 * 2 ^ (7 * i) := by rw [show 7 * (i + 1) = 7 + 7 * i from by omega, Nat.pow_add]
        have e : 64 - 7 * i = 7 + (64 - 7 * (i + 1)) := by omega
        have hv0 := h6 (by omega)
        have hg : 128 ≤ c % 128 + 128 * v := by omega
        have hen : enc (c % 128 + 128 * v) = c :: enc v := by
          rw [enc_ge hg, show (c % 128 + 128 * v) % 128 + 128 = c from by omega, show (c % 128 + 128 * v) / 128 = v from by omega]
        refine ⟨c % 128 + 128 * v, ?_, ?_, ?_, ?_, ?_, fun _ => by omega⟩
        · rw [h1, e2, Nat.add_mul, Nat.add_assoc, Nat.mul_comm 128 v, Nat.mul_assoc]
        · rw [hen, h2]; simp; omega
        · rw [hen]; simp [h3]
        · rw [hen]; simp; omega
        · rw [e, Nat.pow_add]; omega

end Go.Proofs.YtakomlmbdienpaaDoor

namespace Go.Proofs.YtakomlmbdienpaaDoor
open Go.RowKit Go.Extern.Stop Go.Stop Go.Extern

/-- Bytes as cells. -/
def bys (bs : List Nat) : List Value := bs.map fun (x : Nat) => Value.int .u8 (x : Int)

theorem bys_length (bs : List Nat) : (bys bs).length = bs.length := by simp [bys]
theorem bys_append (xs bs : List Nat) : bys (xs ++ bs) = bys xs ++ bys bs := by simp [bys]
theorem bys_get (bs : List Nat) (j : Nat) (v : Value) (h : (bys bs)[j]? = some v) : ∃ hj : j < bs.length, v = .int .u8 (bs[j] : Nat) := by
  unfold bys at h
  rw [List.getElem?_map] at h
  rcases Nat.lt_or_ge j bs.length with hj | hj
  · rw [List.getElem?_eq_getElem hj] at h
    exact ⟨hj, (Option.some.inj h).symm⟩
  · rw [List.getElem?_eq_none hj] at h; cases h
theorem bys_one (bs : List Nat) : ∀ v ∈ bys bs, v.oneCell' = true := by
  intro v hv
  simp only [bys, List.mem_map] at hv
  obtain ⟨x, _, rfl⟩ := hv
  rfl

/-- A slice at that address, of that room, reads as bs. -/
def Lie (w : World) (ao : Option Addr) (cap : Nat) (bs : List Nat) : Prop :=
  bs.length ≤ cap ∧ (ao = none → cap = 0) ∧ ∀ (k : Nat) (h : k < bs.length), ∃ b o, ao = some ⟨b, o, none⟩ ∧ w.cell? ⟨b, o + k, none⟩ = some (.int .u8 (bs[k] : Nat))

theorem Lie.nil (w : World) : Lie w none 0 [] := ⟨Nat.le_refl _, fun _ => rfl, fun _ h => absurd h (Nat.not_lt_zero _)⟩

theorem Lie.kept {w w' : World} {ao : Option Addr} {cap : Nat} {bs : List Nat} {row : Option Nat} (h : Lie w ao cap bs) (hg : w.grownBy w' row) (hne : oblk ao = none ∨ oblk ao ≠ row) : Lie w' ao cap bs := by
  refine ⟨h.1, h.2.1, fun k hk => ?_⟩
  obtain ⟨b, o, rfl, hc⟩ := h.2.2 k hk
  refine ⟨b, o, rfl, hg.cell hc ?_⟩
  rcases hne with hne | hne
  · cases hne
  · exact hne

theorem grown_trans {a b c : World} {row : Option Nat} (h : a.grownBy b row) (k : b.grownBy c row) : a.grownBy c row :=
  ⟨k.1.trans h.1, k.2.trans h.2, k.3.trans h.3, Nat.le_trans h.4 k.4, fun i hi hn => (k.5 i (Nat.lt_of_lt_of_le hi h.4) hn).trans (h.5 i hi hn)⟩

theorem Lie.below {w w' : World} {ao : Option Addr} {cap : Nat} {bs : List Nat} {B : Nat} (h : Lie w ao cap bs) (hb : Below B w w') (hB : ∀ b, oblk ao = some b → b < B) : Lie w' ao cap bs := by
  refine ⟨h.1, h.2.1, fun k hk => ?_⟩
  obtain ⟨b, o, rfl, hc⟩ := h.2.2 k hk
  exact ⟨b, o, rfl, (hb.cell (p := ⟨b, o + k, none⟩) (hB b rfl)).trans hc⟩

theorem Lie.lt {w : World} {ao : Option Addr} {cap : Nat} {bs : List Nat} (h : Lie w ao cap bs) (h0 : 0 < bs.length) : ∃ b o, ao = some ⟨b, o, none⟩ ∧ b < w.heap.size := by
  obtain ⟨b, o, rfl, hc⟩ := h.2.2 0 h0
  exact ⟨b, o, rfl, lt_cell (q := ⟨b, o + 0, none⟩) hc⟩

/-- In a world that is as it was. -/
theorem Lie.step {w w' : World} {ao : Option Addr} {cap : Nat} {bs : List Nat} (h : Lie w ao cap bs) (hb : Below w.heap.size w w') : Lie w' ao cap bs := by
  refine ⟨h.1, h.2.1, fun k hk => ?_⟩
  obtain ⟨b, o, rfl, hc⟩ := h.2.2 k hk
  exact ⟨b, o, rfl, (hb.cell (p := ⟨b, o + k, none⟩) (lt_cell (q := ⟨b, o + k, none⟩) hc)).trans hc⟩

/-- What the call's own memory holds. -/
theorem Lie.own {w : World} {base n cap : Nat} {ao : Option Addr} {bs : List Nat} (h : w.ownsRow base 5 1 (.slice ao n cap) n (bys bs)) : n = bs.length ∧ Lie w ao cap bs := by
  obtain ⟨h1, h2⟩ := h
  rw [bys_length, Nat.mul_one] at h1
  refine ⟨h1.symm, ?_⟩
  subst h1
  rcases h2 with ⟨e, h0⟩ | ⟨g, cap', cur, e, hg, hh, hle, hm, hsz, ht⟩
  · obtain ⟨rfl, h3⟩ : ao = none ∧ cap = 0 := by simpa [h0] using e
    subst h3
    have : bs = [] := List.length_eq_zero_iff.1 h0
    subst this
    exact Lie.nil w
  · cases e
    refine ⟨hle, (by simp), fun k hk => ⟨g, 0, rfl, ?_⟩⟩
    have hx : cur.toList[k]? = some (.int .u8 (bs[k] : Nat)) := by
      have : (cur.toList.take (bs.length * 1))[k]? = some (.int .u8 (bs[k] : Nat)) := by rw [ht]; simp [bys, hk]
      rw [List.getElem?_take] at this
      simpa [hk] using this
    simp only [World.cell?, hh, Nat.zero_add]
    simpa using hx

/-- What is read out of it, byte by byte. -/
theorem Lie.src {w : World} {ao : Option Addr} {cap : Nat} {bs : List Nat} (h : Lie w ao cap bs) (h0 : 0 < bs.length) : ∃ ad, ao = some ad ∧ ∀ j v, (bys bs)[j]? = some v → w.cell? (ad.add j) = some v := by
  obtain ⟨b, o, rfl, _⟩ := h.2.2 0 h0
  refine ⟨_, rfl, fun j v hj => ?_⟩
  obtain ⟨hj', rfl⟩ := bys_get _ _ _ hj
  obtain ⟨b', o', e, hc⟩ := h.2.2 j hj'
  cases e
  rw [Addr.add_lit]
  exact hc

theorem Tryd.infoU8 : (Tryd.prog.info? 5).map (fun i => (i.zero, i.size, i.bytes)) = some (some (.int .u8 0), 1, 1) := by kernel_rfl

/-- The call's own slice of bytes. -/
def Own (w : World) (B : Nat) (ao : Option Addr) (n cap : Nat) (bs : List Nat) : Prop := w.ownsRow B 5 1 (.slice ao n cap) n (bys bs)

theorem Own.nil (w : World) (B : Nat) : Own w B none 0 0 [] := ⟨rfl, .inl ⟨rfl, rfl⟩⟩
theorem Own.lie {w : World} {B n cap : Nat} {ao : Option Addr} {bs : List Nat} (h : Own w B ao n cap bs) : Lie w ao cap bs := (Lie.own h).2
theorem Own.len {w : World} {B n cap : Nat} {ao : Option Addr} {bs : List Nat} (h : Own w B ao n cap bs) : n = bs.length := (Lie.own h).1
theorem Own.blk {w : World} {B n cap : Nat} {ao : Option Addr} {bs : List Nat} (h : Own w B ao n cap bs) : ∀ k, oblk ao = some k → B ≤ k ∧ k < w.heap.size := by
  obtain ⟨h1, h2⟩ := h
  intro k hk
  rcases h2 with ⟨e, _⟩ | ⟨g, cap', cur, e, hg, hh, r⟩
  · simp only [Value.slice.injEq] at e
    rw [e.1] at hk; cases hk
  · simp only [Value.slice.injEq] at e
    rw [e.1] at hk
    cases hk
    refine ⟨hg, ?_⟩
    rcases Nat.lt_or_ge g w.heap.size with h' | h'
    · exact h'
    · rw [Array.getElem?_eq_none h'] at hh; cases hh
theorem Own.kept {w w' : World} {B n cap : Nat} {ao : Option Addr} {bs : List Nat} {row : Option Nat} (h : Own w B ao n cap bs) (hg : w.grownBy w' row) (hne : oblk ao = none ∨ oblk ao ≠ row) : Own w' B ao n cap bs :=
  World.ownsRow.kept h hg (by
    cases ao with
    | none => exact .inl rfl
    | some q => exact hne)
theorem Own.step {w w' : World} {B n cap : Nat} {ao : Option Addr} {bs : List Nat} (h : Own w B ao n cap bs) (hb : Below w.heap.size w w') : Own w' B ao n cap bs := by
  refine h.kept (grown_of_below hb none) ?_
  cases ao <;> simp [oblk]

theorem Lie.lit1 (w : World) (t : TypeId) (Y : Int) (y : Nat) (hY : Y = (y : Int)) : Lie (w.alloc (.cells #[.int .u8 Y] t)) (some ⟨w.heap.size, 0, none⟩) 1 [y] := by
  subst hY
  refine ⟨Nat.le_refl _, (by simp), fun k hk => ⟨w.heap.size, 0, rfl, ?_⟩⟩
  have : k = 0 := by simpa using hk
  subst this
  simp

theorem own_shape {w : World} {B n : Nat} {v : Value} {xs : List Value} (h : w.ownsRow B 5 1 v n xs) : ∃ ao cap, v = .slice ao n cap := by
  rcases h.2 with ⟨rfl, rfl⟩ | ⟨g, cap, cur, rfl, _⟩
  · exact ⟨_, _, rfl⟩
  · exact ⟨_, _, rfl⟩

theorem u64_or1 (m : Nat) (h : 2 * m < 18446744073709551616) : bits .or .u64 (2 * (m : Int)) 1 = 2 * (m : Int) + 1 := by
  refine bits_join .u64 64 (by decide) (fun n h0 h1 => ?_) 1 _ _ (by omega) (by omega) (by omega) (by omega) (by omega) (by omega)
  rw [IntKind.wrap_u64]; omega

theorem u64_and1 (m : Nat) (h : m < 18446744073709551616) : bits .and .u64 (m : Int) 1 = (m : Int) % 2 := by
  refine bits_mask .u64 64 (by decide) (fun n h0 h1 => ?_) 1 (by decide) _ (by omega) (by omega)
  rw [IntKind.wrap_u64]; omega

end Go.Proofs.YtakomlmbdienpaaDoor

namespace Go.Proofs.YtakomlmbdienpaaDoor
open Go.RowKit Go.Extern.Stop Go.Stop Go.Extern

/-- 'make([]byte, n, m)'. -/
theorem wpList_make_room {P : Program} (w : World) {ops : Array Oper} {rest : List Oper} {o : Oper} {a : Act} {Q : Exit → Act → World → Prop}
    (hg : o.guard = none) (l c : Operand) (t : TypeId) (hop : o.op = Op.makeSlice t l c)
    (e : TypeId) (i : TypeInfo) (h1 : P.underlying t = some (.slice e)) (h2 : P.info? e = some i) (h3 : i.zero = some (.int .u8 0)) (h4 : i.size = 1) (h5 : i.bytes = 1)
    (kl kc : IntKind) (L C : Int) (n m : Nat) (hl : a.eval l = .int kl L) (hc : a.eval c = .int kc C) (hL : L = (n : Int)) (hC : C = (m : Int)) (hnm : n ≤ m) (b2 : m ≤ 281474976710656) (Z : List Value) (hZ : Z = List.replicate m (Value.int .u8 0))
    (hK : wpList P ops Q rest (a.put o.dst (.slice (some ⟨w.heap.size, 0, none⟩) n m)) (w.alloc (.cells Z.toArray e))) :
    wpList P ops Q (o :: rest) a w := by
  refine wpList_plain hg fun K hK' => ?_
  have hrun := run_make (P := P) w t e i (.int .u8 0) h1 h2 h3 kl kc L C (by omega) (by omega) (by rw [h5]; omega) (by omega)
  subst hL
  subst hC
  subst hZ
  have hz : madeCells (Value.int .u8 0).cells m = (List.replicate m (Value.int .u8 0)).toArray := by
    apply Array.toList_inj.1
    exact toList_madeCells_one _ _
  rw [h4] at hrun
  simp only [Int.toNat_natCast, Nat.mul_one, hz] at hrun
  unfold Oper.wp
  simp [execOp, hop, hl, hc, hrun, Result.andThen]
  exact hK' _ _ hK

theorem splice_head (bs : List Nat) (k : Nat) : splice (List.replicate (bs.length + k) (Value.int .u8 0)) 0 (bys bs) = bys bs ++ List.replicate k (.int .u8 0) := by
  simp [splice, bys_length]

/-- What a new block of bytes, with room behind them, owns. -/
theorem owns_room {w : World} {base g k : Nat} {bs : List Nat} (hg : base ≤ g) (hk : bs.length + k ≤ maxLen) (h : w.heap[g]? = some (.cells (bys bs ++ List.replicate k (Value.int .u8 0)).toArray 5 (0, 0))) :
    Own w base (some ⟨g, 0, none⟩) bs.length (bs.length + k) bs := by
  refine ⟨by simp [bys_length], .inr ⟨g, bs.length + k, _, rfl, hg, h, by omega, hk, by simp [bys_length], ?_⟩⟩
  simp [← bys_length bs]

theorem u8_or128' (x : Nat) : bits .or .u8 ((x : Int) % 256) 128 = ((x % 128 + 128 : Nat) : Int) := by
  have hd : ∀ y : Fin 256, (y.val ||| 128) = y.val % 128 + 128 := by decide +kernel
  have h := (bits_nat .u8 8 (by decide) wraps_u8 (x % 256) 128 (by omega) (by omega)).2
  rw [hd ⟨x % 256, by omega⟩] at h
  rw [show ((x : Int) % 256) = ((x % 256 : Nat) : Int) from by omega]
  refine h.trans ?_
  simp only
  omega

end Go.Proofs.YtakomlmbdienpaaDoor

namespace Go.Proofs.YtakomlmbdienpaaDoor
open Go.RowKit Go.Extern.Stop Go.Stop Go.Extern

/-- The text of a reader's errors. -/
abbrev opP : ByteArray := ⟨#[112, 97, 99, 107, 46, 82, 101, 97, 100]⟩

/-- A reader's error. -/
def rerr (sa : Nat → Addr) (c at_ : Nat) : Value := if c = 0 then .nilIface else flt opP at_ (snt (sa c))

/-- A sentinel, or none. -/
def serr (sa : Nat → Addr) (c : Nat) : Value := if c = 0 then .nilIface else snt (sa c)

theorem u64_join (u c i : Nat) (hi : i ≤ 9) (hu : u < 2 ^ (7 * i)) (hc : c < 128) (h9 : i = 9 → c ≤ 1) : bits .or .u64 (u : Int) (((c * 2 ^ (7 * i) : Nat)) : Int) = ((u + c * 2 ^ (7 * i) : Nat) : Int) ∧ c * 2 ^ (7 * i) < 18446744073709551616 ∧ u < 18446744073709551616 ∧ u + c * 2 ^ (7 * i) < 18446744073709551616 ∧ u + c * 2 ^ (7 * i) < 2 ^ (7 * (i + 1)) := by
  have hA : ∀ i : Fin 10, 2 ^ (7 * i.val) ≤ 9223372036854775808 ∧ (i.val < 9 → 2 ^ (7 * i.val) ≤ 72057594037927936) := by decide
  obtain ⟨hA1, hA2⟩ := hA ⟨i, by omega⟩
  simp only at hA1 hA2
  have e2 : 2 ^ (7 * (i + 1)) = 128 * 2 ^ (7 * i) := by rw [show 7 * (i + 1) = 7 + 7 * i from by omega, Nat.pow_add]
  have hm : c * 2 ^ (7 * i) + u < 18446744073709551616 := by
    rcases Nat.lt_or_ge i 9 with h | h
    · have h1 := hA2 h
      have h2 : c * 2 ^ (7 * i) ≤ 127 * 2 ^ (7 * i) := Nat.mul_le_mul_right _ (by omega)
      omega
    · have h1 := h9 (by omega)
      have h2 : c * 2 ^ (7 * i) ≤ 1 * 2 ^ (7 * i) := Nat.mul_le_mul_right _ h1
      omega
  have hm2 : u + c * 2 ^ (7 * i) < 2 ^ (7 * (i + 1)) := by
    have h2 : c * 2 ^ (7 * i) ≤ 127 * 2 ^ (7 * i) := Nat.mul_le_mul_right _ (by omega)
    omega
  refine ⟨?_, by omega, by omega, by omega, hm2⟩
  rw [(bits_nat .u64 64 (by decide) (fun n h0 h1 => by rw [IntKind.wrap_u64]; omega) u (c * 2 ^ (7 * i)) (by omega) (by omega)).2]
  have : u ||| c * 2 ^ (7 * i) = u + c * 2 ^ (7 * i) := by
    rw [Nat.or_comm, Nat.mul_comm c, ← Nat.two_pow_add_eq_or_of_lt hu, Nat.add_comm]
  rw [this]

theorem wrap_join (U c k : Nat) (hk : k ≤ 9) (hU : U < 2 ^ (7 * k)) (h9 : k = 9 → c ≤ 1) : bits .or .u64 (U : Int) (IntKind.u64.wrap ((c : Int) % 128 * 2 ^ (7 * k))) = ((U + c % 128 * 2 ^ (7 * k) : Nat) : Int) ∧ U + c % 128 * 2 ^ (7 * k) < 18446744073709551616 ∧ U + c % 128 * 2 ^ (7 * k) < 2 ^ (7 * (k + 1)) := by
  obtain ⟨h1, h2, h3, h4, h5⟩ := u64_join U (c % 128) k hk hU (by omega) (fun h => by have := h9 h; omega)
  have e : ((c : Int) % 128 * 2 ^ (7 * k)) = ((c % 128 * 2 ^ (7 * k) : Nat) : Int) := by push_cast; rfl
  rw [e, IntKind.wrap_u64, Int.emod_eq_of_lt (by omega) (by omega)]
  exact ⟨h1, h4, h5⟩

theorem drop_cons {bs : List Nat} {k c : Nat} (h : k < bs.length) (hc : bs[k] = c) : bs.drop k = c :: bs.drop (k + 1) := by
  rw [List.drop_eq_getElem_cons h, hc]

end Go.Proofs.YtakomlmbdienpaaDoor

namespace Go.Proofs.YtakomlmbdienpaaDoor
open Go.RowKit Go.Extern.Stop Go.Stop Go.Extern

theorem grown_set (w : World) (q i : Nat) (v : Value) : w.grownBy (w.setCell ⟨q, i, none⟩ v) (some q) :=
  ⟨rfl, rfl, rfl, by simp [World.setCell], fun k _ hk => Below.heap_setCell w _ v k (fun e => hk (by rw [e]))⟩

/-- What In answers: the code behind it, the number, the place behind it. -/
def inS (bs : List Nat) (lo hi : Int) (at_ c : Nat) : Nat × Int × Nat :=
  if c ≠ 0 then (c, 0, at_) else
  if (dec 0 0 (bs.drop at_)).1 ≠ 0 then ((dec 0 0 (bs.drop at_)).1, 0, at_) else
  if uz (dec 0 0 (bs.drop at_)).2.1 < lo ∨ hi < uz (dec 0 0 (bs.drop at_)).2.1 then (4, 0, at_) else (0, uz (dec 0 0 (bs.drop at_)).2.1, at_ + (dec 0 0 (bs.drop at_)).2.2)

theorem inS_wrong {bs : List Nat} {lo hi : Int} {at_ c : Nat} (h : c ≠ 0) : inS bs lo hi at_ c = (c, 0, at_) := by unfold inS; rw [if_pos h]
theorem inS_bad {bs : List Nat} {lo hi : Int} {at_ d u s : Nat} (h : dec 0 0 (bs.drop at_) = (d, u, s)) (hd : d ≠ 0) : inS bs lo hi at_ 0 = (d, 0, at_) := by
  unfold inS; rw [if_neg (by simp), if_pos (by rw [h]; exact hd), h]
theorem inS_out {bs : List Nat} {lo hi : Int} {at_ u s : Nat} (h : dec 0 0 (bs.drop at_) = (0, u, s)) (ho : uz u < lo ∨ hi < uz u) : inS bs lo hi at_ 0 = (4, 0, at_) := by
  unfold inS; rw [if_neg (by simp), if_neg (by rw [h]; simp), if_pos (by rw [h]; exact ho)]
theorem inS_ok {bs : List Nat} {lo hi : Int} {at_ u s : Nat} (h : dec 0 0 (bs.drop at_) = (0, u, s)) (ho : ¬ (uz u < lo ∨ hi < uz u)) : inS bs lo hi at_ 0 = (0, uz u, at_ + s) := by
  unfold inS; rw [if_neg (by simp), if_neg (by rw [h]; simp), if_neg (by rw [h]; exact ho), h]

theorem Lie.drop {w : World} {ao : Option Addr} {cap at_ : Nat} {bs : List Nat} (h : Lie w ao cap bs) (ha : at_ ≤ bs.length) (h0 : 0 < (bs.drop at_).length) : Lie w (if cap = at_ then ao else ao.map (fun x => x.add at_)) (cap - at_) (bs.drop at_) := by
  rw [List.length_drop] at h0
  have hc := h.1
  rw [if_neg (by omega)]
  obtain ⟨b, o, rfl, _⟩ := h.2.2 0 (by omega)
  refine ⟨by rw [List.length_drop]; omega, (by simp), fun k hk => ⟨b, o + at_, by simp [Addr.add_lit], ?_⟩⟩
  rw [List.length_drop] at hk
  obtain ⟨b', o', e, hc⟩ := h.2.2 (at_ + k) (by omega)
  cases e
  rw [Nat.add_assoc, hc]
  simp

end Go.Proofs.YtakomlmbdienpaaDoor

namespace Go.Proofs.YtakomlmbdienpaaDoor
open Go.RowKit Go.Extern.Stop Go.Stop Go.Extern

/-- What Num answers. -/
abbrev numS (bs : List Nat) (at_ c : Nat) : Nat × Int × Nat := inS bs (-9223372036854775808) 9223372036854775807 at_ c

/-- What End leaves. -/
def endS (bs : List Nat) (at_ c : Nat) : Nat := if c ≠ 0 then c else if at_ < bs.length then 5 else 0

end Go.Proofs.YtakomlmbdienpaaDoor

namespace Go.Proofs.YtakomlmbdienpaaDoor
open Go.RowKit Go.Extern.Stop Go.Stop Go.Extern

theorem Lie.lit (w : World) (t : TypeId) (bs : List Nat) (cs : Array Value) (hcs : cs = (bys bs).toArray) : Lie (w.alloc (.cells cs t)) (some ⟨w.heap.size, 0, none⟩) bs.length bs := by
  subst hcs
  refine ⟨Nat.le_refl _, (by simp), fun k hk => ⟨w.heap.size, 0, rfl, ?_⟩⟩
  simp [bys, hk]

/-- A call that writes the one block q, of the caller's own. -/
theorem wrote {B : Nat} {w w1 w2 : World} {q : Nat} (h : Below B w w1) (hg : w1.grownBy w2 (some q)) (hB : B ≤ w.heap.size) (hq : B ≤ q) : Below B w w2 :=
  h.grown hg (Nat.le_trans hB h.size) (fun k hk => by cases hk; exact hq)

end Go.Proofs.YtakomlmbdienpaaDoor

namespace Go.Proofs.YtakomlmbdienpaaDoor
open Go.RowKit Go.Extern.Stop Go.Stop Go.Extern

theorem zz_mono {a b : Int} (h0 : 0 ≤ a) (h : a ≤ b) : zz a ≤ zz b := by
  unfold zz
  rw [if_neg (by omega), if_neg (by omega)]
  omega

theorem enc_flip (a : Int) : (enc (zz (-1 - a))).length = (enc (zz a)).length := by
  unfold zz
  by_cases h : a < 0
  · rw [if_neg (by omega), if_pos h]
    exact (enc_even _).symm
  · rw [if_pos (by omega), if_neg h, show -1 - (-1 - a) = a from by omega]
    exact enc_even _

theorem flip_i64 (a : Int) (h0 : -9223372036854775808 ≤ a) (h1 : a ≤ 9223372036854775807) : bits .xor .i64 (-1) a = -1 - a := by
  show IntKind.i64.wrap ((BitVec.ofInt 64 (-1) ^^^ BitVec.ofInt 64 a).toNat : Int) = _
  rw [show BitVec.ofInt 64 (-1) = BitVec.allOnes 64 by decide, BitVec.allOnes_xor, BitVec.toNat_not, BitVec.toNat_ofInt, IntKind.wrap_i64]
  omega

end Go.Proofs.YtakomlmbdienpaaDoor

namespace Go.Proofs.YtakomlmbdienpaaDoor
open Go.RowKit Go.Extern.Stop Go.Stop Go.Extern

theorem set_fill (L : List Value) (k : Nat) (hk : k < 80) (M Z : Value) :
    (L ++ (List.replicate k M ++ List.replicate (80 - k) Z)).toArray.setIfInBounds (L.length + k) M = (L ++ (List.replicate (k + 1) M ++ List.replicate (80 - (k + 1)) Z)).toArray := by
  apply Array.toList_inj.1
  rw [Array.toList_setIfInBounds]
  show (L ++ (List.replicate k M ++ List.replicate (80 - k) Z)).set (L.length + k) M = _
  rw [List.set_append_right _ _ (by omega), show 80 - k = (80 - (k + 1)) + 1 from by omega, List.replicate_succ, List.set_append_right _ _ (by simp)]
  simp [List.replicate_succ']

theorem bys_rep (k m : Nat) : bys (List.replicate k m) = List.replicate k (Value.int .u8 (m : Int)) := by simp [bys]

end Go.Proofs.YtakomlmbdienpaaDoor

namespace Go.Proofs.YtakomlmbdienpaaDoor
open Go.RowKit Go.Extern.Stop Go.Stop Go.Extern

theorem bys_some {l : List Nat} {k x : Nat} (h : l[k]? = some x) : (bys l).toArray[k]? = some (.int .u8 (x : Int)) := by
  simp [bys, h]

/-- What a block of bytes reads as, from its head on. -/
theorem Lie.head {w : World} {g n : Nat} {bs rs : List Nat} {t : TypeId} (h : w.heap[g]? = some (.cells (bys (bs ++ rs)).toArray t (0, 0))) (hn : bs.length ≤ n) : Lie w (some ⟨g, 0, none⟩) n bs := by
  refine ⟨hn, (by simp), fun k hk => ⟨g, 0, rfl, ?_⟩⟩
  rw [Nat.zero_add]
  refine blk_cell h (bys_some ?_)
  rw [List.getElem?_append_left hk, List.getElem?_eq_getElem hk]

theorem blk_mark {w : World} {g k m : Nat} {bs : List Nat} {t : TypeId} (h : w.heap[g]? = some (.cells (bys (bs ++ List.replicate 80 m)).toArray t (0, 0))) (hk : k < 80) : w.cell? ⟨g, bs.length + k, none⟩ = some (.int .u8 (m : Int)) := by
  refine blk_cell h (bys_some ?_)
  rw [List.getElem?_append_right (by omega), List.getElem?_replicate, if_pos (by omega)]

theorem Own.lit0 (w : World) (B : Nat) (hB : B ≤ w.heap.size) : Own (w.alloc (.cells #[] 5)) B (some ⟨w.heap.size, 0, none⟩) 0 0 [] :=
  ⟨rfl, .inr ⟨w.heap.size, 0, #[], rfl, hB, heap_alloc_new _ _, Nat.le_refl _, Nat.zero_le _, rfl, rfl⟩⟩

theorem u64_and127 (x : Nat) (h : x < 18446744073709551616) : bits .and .u64 (x : Int) 127 = (x : Int) % 128 := by
  refine bits_mask .u64 64 (by decide) (fun n h0 h1 => ?_) 7 (by decide) _ (by omega) (by omega)
  rw [IntKind.wrap_u64]; omega

theorem u8_or128a (x : Nat) (h : x < 128) : bits .or .u8 (x : Int) 128 = ((x + 128 : Nat) : Int) := by
  have h1 := u8_or128' x
  rw [show (x : Int) % 256 = x from by omega, Nat.mod_eq_of_lt h] at h1
  exact h1

end Go.Proofs.YtakomlmbdienpaaDoor

namespace Go.Proofs.YtakomlmbdienpaaDoor
open Go.RowKit Go.Extern.Stop Go.Stop Go.Extern Go.ChangeShapes Go.WideShapes Go.ChangeAt Go.ChangeMaps

theorem Tryd.bytesU8 : Tryd.prog.bytesOf 5 = 1 := by kernel_rfl

end Go.Proofs.YtakomlmbdienpaaDoor

namespace Go.Proofs.YtakomlmbdienpaaDoor
open Go.RowKit Go.Extern.Stop Go.Stop Go.Extern

theorem dec_enc0 (n : Int) (h0 : -9223372036854775808 ≤ n) (h1 : n ≤ 9223372036854775807) (r : List Nat) : dec 0 0 (enc (zz n) ++ r) = (0, zz n, (enc (zz n)).length) := by
  have := dec_enc (zz n) 0 0 r (by omega) (by have := zz_lt n h0 h1; simpa using this) (by omega)
  simpa using this

theorem enc_inj {m n : Int} (m0 : -9223372036854775808 ≤ m) (m1 : m ≤ 9223372036854775807) (n0 : -9223372036854775808 ≤ n) (n1 : n ≤ 9223372036854775807) : enc (zz m) = enc (zz n) ↔ m = n := by
  constructor
  · intro h
    have h1 := dec_enc0 m m0 m1 []
    rw [h, dec_enc0 n n0 n1 []] at h1
    have h2 : zz n = zz m := by simpa using congrArg (fun x => x.2.1) h1
    rw [← uz_zz m, ← h2, uz_zz]
  · rintro rfl; rfl

end Go.Proofs.YtakomlmbdienpaaDoor

namespace Go.Proofs.YtakomlmbdienpaaDoor
open Go.RowKit Go.Extern.Stop Go.Stop Go.Extern

/-- The bytes of a row of numbers. -/
def encs (zs : List Int) : List Nat := zs.flatMap fun z => enc (zz z)

theorem encs_cons (z : Int) (r : List Int) : encs (z :: r) = enc (zz z) ++ encs r := by simp [encs]
theorem encs_snoc (zs : List Int) (k : Nat) (h : k < zs.length) : encs (zs.take (k + 1)) = encs (zs.take k) ++ enc (zz zs[k]) := by
  rw [encs, encs, List.take_succ_eq_append_getElem h, List.flatMap_append, List.flatMap_singleton]
theorem encs_byte (zs : List Int) : ∀ x ∈ encs zs, x < 256 := by
  intro x hx
  simp only [encs, List.mem_flatMap] at hx
  obtain ⟨z, _, hz⟩ := hx
  exact enc_byte _ x hz
theorem encs_split (zs : List Int) (k : Nat) : encs zs = encs (zs.take k) ++ encs (zs.drop k) := by
  simp only [encs]
  rw [← List.flatMap_append, List.take_append_drop]
theorem encs_len : ∀ (zs : List Int), (∀ z ∈ zs, -9223372036854775808 ≤ z ∧ z ≤ 9223372036854775807) → (encs zs).length ≤ 10 * zs.length
  | [], _ => Nat.le_refl _
  | z :: r, h => by
    rw [encs_cons, List.length_append, List.length_cons]
    have h1 := h z (List.mem_cons_self ..)
    have h2 := enc_len10 _ (zz_lt z h1.1 h1.2)
    have h3 := encs_len r (fun y hy => h y (List.mem_cons_of_mem _ hy))
    omega

/-- The number at a reader's place, whole or cut off. -/
theorem dec_whole (zs : List Int) (i k : Nat) (hi : i < zs.length) (hr : ∀ z ∈ zs, -9223372036854775808 ≤ z ∧ z ≤ 9223372036854775807) (h : (encs (zs.take (i + 1))).length ≤ k) :
    dec 0 0 (((encs zs).take k).drop (encs (zs.take i)).length) = (0, zz zs[i], (enc (zz zs[i])).length) := by
  have hz := hr zs[i] (List.getElem_mem hi)
  rw [encs_snoc zs i hi, List.length_append] at h
  have e : ((encs zs).take k).drop (encs (zs.take i)).length = enc (zz zs[i]) ++ (encs (zs.drop (i + 1))).take (k - (encs (zs.take i)).length - (enc (zz zs[i])).length) := by
    rw [encs_split zs i, List.drop_take, List.drop_left, List.drop_eq_getElem_cons hi, encs_cons, List.take_append, List.take_of_length_le (by omega)]
  rw [e]
  exact dec_enc0 _ hz.1 hz.2 _

theorem dec_part (zs : List Int) (i k : Nat) (hi : i < zs.length) (hr : ∀ z ∈ zs, -9223372036854775808 ≤ z ∧ z ≤ 9223372036854775807) (h0 : (encs (zs.take i)).length ≤ k) (h : k < (encs (zs.take (i + 1))).length) :
    dec 0 0 (((encs zs).take k).drop (encs (zs.take i)).length) = (3, 0, 0) := by
  have hz := hr zs[i] (List.getElem_mem hi)
  rw [encs_snoc zs i hi, List.length_append] at h
  have e : ((encs zs).take k).drop (encs (zs.take i)).length = (enc (zz zs[i])).take (k - (encs (zs.take i)).length) := by
    rw [encs_split zs i, List.drop_take, List.drop_left, List.drop_eq_getElem_cons hi, encs_cons, List.take_append, show k - (encs (zs.take i)).length - (enc (zz zs[i])).length = 0 from by omega]
    simp
  rw [e]
  exact dec_cut (zz zs[i]) 0 0 _ (by omega) (by have := zz_lt _ hz.1 hz.2; simpa using this) (by omega) (by omega)

theorem Lie.take {w : World} {ao : Option Addr} {cap : Nat} {bs : List Nat} (h : Lie w ao cap bs) (k : Nat) : Lie w ao cap (bs.take k) := by
  refine ⟨Nat.le_trans (List.length_take_le' ..) h.1, h.2.1, fun j hj => ?_⟩
  have hj' : j < bs.length := by rw [List.length_take] at hj; omega
  obtain ⟨b, o, e, hc⟩ := h.2.2 j hj'
  exact ⟨b, o, e, by rw [hc]; simp⟩

theorem numS_ok {bs : List Nat} {at_ u s : Nat} (h : dec 0 0 (bs.drop at_) = (0, u, s)) (hu : u < 18446744073709551616) : numS bs at_ 0 = (0, uz u, at_ + s) :=
  inS_ok h (by have := uz_le u hu; omega)

theorem rerr_no (sa : Nat → Addr) (at_ : Nat) : rerr sa 0 at_ = .nilIface := rfl
theorem rerr_yes (sa : Nat → Addr) (c at_ : Nat) (h : c ≠ 0) : rerr sa c at_ = flt opP at_ (snt (sa c)) := by unfold rerr; rw [if_neg h]

theorem numS_bad {bs : List Nat} {at_ d u s : Nat} (h : dec 0 0 (bs.drop at_) = (d, u, s)) (hd : d ≠ 0) : numS bs at_ 0 = (d, 0, at_) := inS_bad h hd
theorem numS_wrong {bs : List Nat} {at_ c : Nat} (h : c ≠ 0) : numS bs at_ c = (c, 0, at_) := inS_wrong h

end Go.Proofs.YtakomlmbdienpaaDoor
