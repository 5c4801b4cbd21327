/- DERIVED of the program: messages as tuples: what a message names, in the order of its bytes; its bytes; what bytes are taken as. Own work. -/
import Derived.Test.YtakomlmbdienpaaDoorPkM
namespace Go.Proofs.YtakomlmbdienpaaDoor

/-- A message: kind, core, line, state, mode, epoch, word, value, the four words of its data, has. -/
abbrev M13 := Int × Int × Int × Int × Int × Int × Int × Int × Int × Int × Int × Int × Bool
def zero13 : M13 := (0, 0, 0, 0, 0, 0, 0, 0, 0, 0, 0, 0, false)

/-- Value and the words of Data are of 32 bits, the other numbers of 64. -/
def M32 : M13 → Prop
  | (_, _, _, _, _, _, _, v, d0, d1, d2, d3, _) => (0 ≤ v ∧ v ≤ 4294967295) ∧ (0 ≤ d0 ∧ d0 ≤ 4294967295) ∧ (0 ≤ d1 ∧ d1 ≤ 4294967295) ∧ (0 ≤ d2 ∧ d2 ≤ 4294967295) ∧ (0 ≤ d3 ∧ d3 ≤ 4294967295)
def M64 : M13 → Prop
  | (k, c, l, t, o, e, w, _) => (-9223372036854775808 ≤ k ∧ k ≤ 9223372036854775807) ∧ (-9223372036854775808 ≤ c ∧ c ≤ 9223372036854775807) ∧ (-9223372036854775808 ≤ l ∧ l ≤ 9223372036854775807) ∧ (-9223372036854775808 ≤ t ∧ t ≤ 9223372036854775807) ∧ (-9223372036854775808 ≤ o ∧ o ≤ 9223372036854775807) ∧ (-9223372036854775808 ≤ e ∧ e ≤ 9223372036854775807) ∧ (-9223372036854775808 ≤ w ∧ w ≤ 9223372036854775807)

/-- P11.1. -/
def rtP : M13 → Prop
  | (k, c, l, t, o, e, w, v, d0, d1, d2, d3, h) => (1 ≤ k ∧ k ≤ 15) ∧ (0 ≤ c ∧ c ≤ 63) ∧ (0 ≤ l ∧ l ≤ 31) ∧
    (((k = 3 ∨ k = 8 ∨ k = 14) ∧ (0 ≤ w ∧ w ≤ 3) ∧ t = 0 ∧ o = 0 ∧ e = 0 ∧ d0 = 0 ∧ d1 = 0 ∧ d2 = 0 ∧ d3 = 0 ∧ h = false)
     ∨ (k = 9 ∧ (0 ≤ o ∧ o ≤ 3) ∧ (0 ≤ e ∧ e ≤ 255) ∧ t = 0 ∧ w = 0 ∧ v = 0 ∧ d0 = 0 ∧ d1 = 0 ∧ d2 = 0 ∧ d3 = 0 ∧ h = false)
     ∨ (k = 5 ∧ (0 ≤ o ∧ o ≤ 3) ∧ e = 0 ∧ t = 0 ∧ w = 0 ∧ v = 0 ∧ d0 = 0 ∧ d1 = 0 ∧ d2 = 0 ∧ d3 = 0 ∧ h = false)
     ∨ (k = 13 ∧ (0 ≤ o ∧ o ≤ 3) ∧ (0 ≤ e ∧ e ≤ 255) ∧ (t = 1 ∨ t = 2 ∨ t = 4) ∧ w = 0 ∧ v = 0 ∧ (h = true ∨ d0 = 0 ∧ d1 = 0 ∧ d2 = 0 ∧ d3 = 0))
     ∨ (k = 11 ∧ (0 ≤ t ∧ t ≤ 4) ∧ o = 0 ∧ e = 0 ∧ w = 0 ∧ v = 0 ∧ (h = true ∨ d0 = 0 ∧ d1 = 0 ∧ d2 = 0 ∧ d3 = 0))
     ∨ ((k = 1 ∨ k = 2 ∨ k = 4 ∨ k = 6 ∨ k = 7 ∨ k = 10 ∨ k = 12 ∨ k = 15) ∧ o = 0 ∧ e = 0 ∧ t = 0 ∧ w = 0 ∧ v = 0 ∧ d0 = 0 ∧ d1 = 0 ∧ d2 = 0 ∧ d3 = 0 ∧ h = false))
noncomputable def rtB (m : M13) : Bool := @decide (rtP m) (Classical.propDecidable _)
theorem rtB_iff (m : M13) : rtB m = true ↔ rtP m := by unfold rtB; exact @decide_eq_true_iff _ (Classical.propDecidable _)
theorem rtB_no (m : M13) (h : ¬ rtP m) : rtB m = false := by unfold rtB; exact @decide_eq_false _ (Classical.propDecidable _) h
theorem rtB_eq (b : Bool) (m : M13) (h : b = true ↔ rtP m) : rtB m = b := by rw [Bool.eq_iff_iff, rtB_iff, h]
/-- Data in a state that no home grants. -/
def ungr : M13 → Bool
  | (k, _, _, t, _) => decide (k = 13) && (decide (t = 0) || decide (t = 3))

/-- What is asked for, in the order of the bytes: each answer by st; the message that the answers make. -/
def walkP {σ : Type} (st : σ → Int → Int → Int → σ × Int) (s : σ) : M13 → σ × M13
  | (k, c, l, t, o, e, w, v, d0, d1, d2, d3, h) =>
    let r1 := st s k 1 15
    let r2 := st r1.1 c 0 63
    let r3 := st r2.1 l 0 31
    if r1.2 = 3 ∨ r1.2 = 8 ∨ r1.2 = 14 then
      let r4 := st r3.1 w 0 3
      let r5 := st r4.1 v 0 4294967295
      (r5.1, (r1.2, r2.2, r3.2, 0, 0, 0, r4.2, r5.2, 0, 0, 0, 0, false))
    else if r1.2 = 9 then
      let r4 := st r3.1 e 0 255
      let r5 := st r4.1 o 0 3
      (r5.1, (r1.2, r2.2, r3.2, 0, r5.2, r4.2, 0, 0, 0, 0, 0, 0, false))
    else if r1.2 = 5 then
      let r4 := st r3.1 o 0 3
      (r4.1, (r1.2, r2.2, r3.2, 0, r4.2, 0, 0, 0, 0, 0, 0, 0, false))
    else if r1.2 = 13 then
      let r4 := st r3.1 o 0 3
      let r5 := st r4.1 e 0 255
      let r6 := st r5.1 t 0 4
      let r7 := st r6.1 (if h then 1 else 0) 0 1
      if r7.2 = 1 then
        let r8 := st r7.1 d0 0 4294967295
        let r9 := st r8.1 d1 0 4294967295
        let r10 := st r9.1 d2 0 4294967295
        let r11 := st r10.1 d3 0 4294967295
        (r11.1, (r1.2, r2.2, r3.2, r6.2, r4.2, r5.2, 0, 0, r8.2, r9.2, r10.2, r11.2, true))
      else (r7.1, (r1.2, r2.2, r3.2, r6.2, r4.2, r5.2, 0, 0, 0, 0, 0, 0, false))
    else if r1.2 = 11 then
      let r4 := st r3.1 t 0 4
      let r5 := st r4.1 (if h then 1 else 0) 0 1
      if r5.2 = 1 then
        let r6 := st r5.1 d0 0 4294967295
        let r7 := st r6.1 d1 0 4294967295
        let r8 := st r7.1 d2 0 4294967295
        let r9 := st r8.1 d3 0 4294967295
        (r9.1, (r1.2, r2.2, r3.2, r4.2, 0, 0, 0, 0, r6.2, r7.2, r8.2, r9.2, true))
      else (r5.1, (r1.2, r2.2, r3.2, r4.2, 0, 0, 0, 0, 0, 0, 0, 0, false))
    else (r3.1, (r1.2, r2.2, r3.2, 0, 0, 0, 0, 0, 0, 0, 0, 0, false))

theorem walkP_U {σ : Type} {st : σ → Int → Int → Int → σ × Int} {s s1 s2 s3 s4 s5 : σ} {k c l t o e w v d0 d1 d2 d3 : Int} {h : Bool} {k' c' l' w' v' : Int} (h1 : st s k 1 15 = (s1, k')) (h2 : st s1 c 0 63 = (s2, c')) (h3 : st s2 l 0 31 = (s3, l')) (h4 : st s3 w 0 3 = (s4, w')) (h5 : st s4 v 0 4294967295 = (s5, v')) (hk : k' = 3 ∨ k' = 8 ∨ k' = 14) :
    walkP st s (k, c, l, t, o, e, w, v, d0, d1, d2, d3, h) = (s5, (k', c', l', 0, 0, 0, w', v', 0, 0, 0, 0, false)) := by
  unfold walkP
  simp only [h1, h2, h3, h4, h5, if_pos hk]

theorem walkP_C {σ : Type} {st : σ → Int → Int → Int → σ × Int} {s s1 s2 s3 s4 s5 : σ} {k c l t o e w v d0 d1 d2 d3 : Int} {h : Bool} {k' c' l' e' o' : Int} (h1 : st s k 1 15 = (s1, k')) (h2 : st s1 c 0 63 = (s2, c')) (h3 : st s2 l 0 31 = (s3, l')) (h4 : st s3 e 0 255 = (s4, e')) (h5 : st s4 o 0 3 = (s5, o')) (hk : k' = 9) :
    walkP st s (k, c, l, t, o, e, w, v, d0, d1, d2, d3, h) = (s5, (k', c', l', 0, o', e', 0, 0, 0, 0, 0, 0, false)) := by
  unfold walkP
  subst hk
  simp [h1, h2, h3, h4, h5]

theorem walkP_S {σ : Type} {st : σ → Int → Int → Int → σ × Int} {s s1 s2 s3 s4 : σ} {k c l t o e w v d0 d1 d2 d3 : Int} {h : Bool} {k' c' l' o' : Int} (h1 : st s k 1 15 = (s1, k')) (h2 : st s1 c 0 63 = (s2, c')) (h3 : st s2 l 0 31 = (s3, l')) (h4 : st s3 o 0 3 = (s4, o')) (hk : k' = 5) :
    walkP st s (k, c, l, t, o, e, w, v, d0, d1, d2, d3, h) = (s4, (k', c', l', 0, o', 0, 0, 0, 0, 0, 0, 0, false)) := by
  unfold walkP
  subst hk
  simp [h1, h2, h3, h4]

theorem walkP_D0 {σ : Type} {st : σ → Int → Int → Int → σ × Int} {s s1 s2 s3 s4 s5 s6 s7 : σ} {k c l t o e w v d0 d1 d2 d3 : Int} {h : Bool} {k' c' l' o' e' t' h' : Int} (h1 : st s k 1 15 = (s1, k')) (h2 : st s1 c 0 63 = (s2, c')) (h3 : st s2 l 0 31 = (s3, l')) (h4 : st s3 o 0 3 = (s4, o')) (h5 : st s4 e 0 255 = (s5, e')) (h6 : st s5 t 0 4 = (s6, t')) (h7 : st s6 (if h then 1 else 0) 0 1 = (s7, h')) (hk : k' = 13) (hh : ¬ h' = 1) :
    walkP st s (k, c, l, t, o, e, w, v, d0, d1, d2, d3, h) = (s7, (k', c', l', t', o', e', 0, 0, 0, 0, 0, 0, false)) := by
  unfold walkP
  subst hk
  simp [h1, h2, h3, h4, h5, h6, h7, hh]

theorem walkP_D1 {σ : Type} {st : σ → Int → Int → Int → σ × Int} {s s1 s2 s3 s4 s5 s6 s7 s8 s9 s10 s11 : σ} {k c l t o e w v d0 d1 d2 d3 : Int} {h : Bool} {k' c' l' o' e' t' d0' d1' d2' d3' : Int} (h1 : st s k 1 15 = (s1, k')) (h2 : st s1 c 0 63 = (s2, c')) (h3 : st s2 l 0 31 = (s3, l')) (h4 : st s3 o 0 3 = (s4, o')) (h5 : st s4 e 0 255 = (s5, e')) (h6 : st s5 t 0 4 = (s6, t')) (h7 : st s6 (if h then 1 else 0) 0 1 = (s7, 1)) (h8 : st s7 d0 0 4294967295 = (s8, d0')) (h9 : st s8 d1 0 4294967295 = (s9, d1')) (h10 : st s9 d2 0 4294967295 = (s10, d2')) (h11 : st s10 d3 0 4294967295 = (s11, d3')) (hk : k' = 13) :
    walkP st s (k, c, l, t, o, e, w, v, d0, d1, d2, d3, h) = (s11, (k', c', l', t', o', e', 0, 0, d0', d1', d2', d3', true)) := by
  unfold walkP
  subst hk
  simp [h1, h2, h3, h4, h5, h6, h7, h8, h9, h10, h11]

theorem walkP_A0 {σ : Type} {st : σ → Int → Int → Int → σ × Int} {s s1 s2 s3 s4 s5 : σ} {k c l t o e w v d0 d1 d2 d3 : Int} {h : Bool} {k' c' l' t' h' : Int} (h1 : st s k 1 15 = (s1, k')) (h2 : st s1 c 0 63 = (s2, c')) (h3 : st s2 l 0 31 = (s3, l')) (h4 : st s3 t 0 4 = (s4, t')) (h5 : st s4 (if h then 1 else 0) 0 1 = (s5, h')) (hk : k' = 11) (hh : ¬ h' = 1) :
    walkP st s (k, c, l, t, o, e, w, v, d0, d1, d2, d3, h) = (s5, (k', c', l', t', 0, 0, 0, 0, 0, 0, 0, 0, false)) := by
  unfold walkP
  subst hk
  simp [h1, h2, h3, h4, h5, hh]

theorem walkP_A1 {σ : Type} {st : σ → Int → Int → Int → σ × Int} {s s1 s2 s3 s4 s5 s6 s7 s8 s9 : σ} {k c l t o e w v d0 d1 d2 d3 : Int} {h : Bool} {k' c' l' t' d0' d1' d2' d3' : Int} (h1 : st s k 1 15 = (s1, k')) (h2 : st s1 c 0 63 = (s2, c')) (h3 : st s2 l 0 31 = (s3, l')) (h4 : st s3 t 0 4 = (s4, t')) (h5 : st s4 (if h then 1 else 0) 0 1 = (s5, 1)) (h6 : st s5 d0 0 4294967295 = (s6, d0')) (h7 : st s6 d1 0 4294967295 = (s7, d1')) (h8 : st s7 d2 0 4294967295 = (s8, d2')) (h9 : st s8 d3 0 4294967295 = (s9, d3')) (hk : k' = 11) :
    walkP st s (k, c, l, t, o, e, w, v, d0, d1, d2, d3, h) = (s9, (k', c', l', t', 0, 0, 0, 0, d0', d1', d2', d3', true)) := by
  unfold walkP
  subst hk
  simp [h1, h2, h3, h4, h5, h6, h7, h8, h9]

theorem walkP_B {σ : Type} {st : σ → Int → Int → Int → σ × Int} {s s1 s2 s3 : σ} {k c l t o e w v d0 d1 d2 d3 : Int} {h : Bool} {k' c' l' : Int} (h1 : st s k 1 15 = (s1, k')) (h2 : st s1 c 0 63 = (s2, c')) (h3 : st s2 l 0 31 = (s3, l')) (hk : ¬ (k' = 3 ∨ k' = 8 ∨ k' = 14) ∧ ¬ k' = 9 ∧ ¬ k' = 5 ∧ ¬ k' = 13 ∧ ¬ k' = 11) :
    walkP st s (k, c, l, t, o, e, w, v, d0, d1, d2, d3, h) = (s3, (k', c', l', 0, 0, 0, 0, 0, 0, 0, 0, 0, false)) := by
  unfold walkP
  simp only [h1, h2, h3]; rw [if_neg hk.1, if_neg hk.2.1, if_neg hk.2.2.1, if_neg hk.2.2.2.1, if_neg hk.2.2.2.2]

/-- What Right asks: is it within? -/
def rst (b : Bool) (n lo hi : Int) : Bool × Int := (b && decide (lo ≤ n) && decide (n ≤ hi), n)
/-- What Put does: a number's bytes more (and a count down). -/
def pst (s : List Nat × Nat) (n _ _ : Int) : (List Nat × Nat) × Int := ((s.1 ++ enc (zz n), s.2 - 1), n)
/-- What Get does: In of a reader. -/
def gst (bs : List Nat) (s : Nat × Nat) (_ lo hi : Int) : (Nat × Nat) × Int := (((inS bs lo hi s.2 s.1).1, (inS bs lo hi s.2 s.1).2.2), (inS bs lo hi s.2 s.1).2.1)
def encM (m : M13) : List Nat := (walkP pst ([], 20) m).1.1
def getM (bs : List Nat) : (Nat × Nat) × M13 := walkP (gst bs) (0, 0) zero13
/-- What Get answers: the code, the message. -/
noncomputable def gotM (bs : List Nat) : Nat × M13 :=
  if endS bs (getM bs).1.2 (getM bs).1.1 ≠ 0 then (endS bs (getM bs).1.2 (getM bs).1.1, zero13)
  else if rtB (getM bs).2 then (0, (getM bs).2) else (4, zero13)

theorem encM_U {k c l w v : Int} (hk : k = 3 ∨ k = 8 ∨ k = 14) : encM (k, c, l, 0, 0, 0, w, v, 0, 0, 0, 0, false) = ((((([] ++ enc (zz k)) ++ enc (zz c)) ++ enc (zz l)) ++ enc (zz w)) ++ enc (zz v)) := by
  unfold encM
  rw [walkP_U (st := pst) (s := ([], 20)) rfl rfl rfl rfl rfl hk]

theorem encM_C {k c l e o : Int} (hk : k = 9) : encM (k, c, l, 0, o, e, 0, 0, 0, 0, 0, 0, false) = ((((([] ++ enc (zz k)) ++ enc (zz c)) ++ enc (zz l)) ++ enc (zz e)) ++ enc (zz o)) := by
  unfold encM
  rw [walkP_C (st := pst) (s := ([], 20)) rfl rfl rfl rfl rfl hk]

theorem encM_S {k c l o : Int} (hk : k = 5) : encM (k, c, l, 0, o, 0, 0, 0, 0, 0, 0, 0, false) = (((([] ++ enc (zz k)) ++ enc (zz c)) ++ enc (zz l)) ++ enc (zz o)) := by
  unfold encM
  rw [walkP_S (st := pst) (s := ([], 20)) rfl rfl rfl rfl hk]

theorem encM_D0 {k c l o e t : Int} (hk : k = 13) : encM (k, c, l, t, o, e, 0, 0, 0, 0, 0, 0, false) = ((((((([] ++ enc (zz k)) ++ enc (zz c)) ++ enc (zz l)) ++ enc (zz o)) ++ enc (zz e)) ++ enc (zz t)) ++ enc (zz 0)) := by
  unfold encM
  rw [walkP_D0 (st := pst) (s := ([], 20)) rfl rfl rfl rfl rfl rfl rfl hk (by decide)]
  rfl

theorem encM_D1 {k c l o e t d0 d1 d2 d3 : Int} (hk : k = 13) : encM (k, c, l, t, o, e, 0, 0, d0, d1, d2, d3, true) = ((((((((((([] ++ enc (zz k)) ++ enc (zz c)) ++ enc (zz l)) ++ enc (zz o)) ++ enc (zz e)) ++ enc (zz t)) ++ enc (zz 1)) ++ enc (zz d0)) ++ enc (zz d1)) ++ enc (zz d2)) ++ enc (zz d3)) := by
  unfold encM
  rw [walkP_D1 (st := pst) (s := ([], 20)) rfl rfl rfl rfl rfl rfl rfl rfl rfl rfl rfl hk]
  rfl

theorem encM_A0 {k c l t : Int} (hk : k = 11) : encM (k, c, l, t, 0, 0, 0, 0, 0, 0, 0, 0, false) = ((((([] ++ enc (zz k)) ++ enc (zz c)) ++ enc (zz l)) ++ enc (zz t)) ++ enc (zz 0)) := by
  unfold encM
  rw [walkP_A0 (st := pst) (s := ([], 20)) rfl rfl rfl rfl rfl hk (by decide)]
  rfl

theorem encM_A1 {k c l t d0 d1 d2 d3 : Int} (hk : k = 11) : encM (k, c, l, t, 0, 0, 0, 0, d0, d1, d2, d3, true) = ((((((((([] ++ enc (zz k)) ++ enc (zz c)) ++ enc (zz l)) ++ enc (zz t)) ++ enc (zz 1)) ++ enc (zz d0)) ++ enc (zz d1)) ++ enc (zz d2)) ++ enc (zz d3)) := by
  unfold encM
  rw [walkP_A1 (st := pst) (s := ([], 20)) rfl rfl rfl rfl rfl rfl rfl rfl rfl hk]
  rfl

theorem encM_B {k c l : Int} (hk : ¬ (k = 3 ∨ k = 8 ∨ k = 14) ∧ ¬ k = 9 ∧ ¬ k = 5 ∧ ¬ k = 13 ∧ ¬ k = 11) : encM (k, c, l, 0, 0, 0, 0, 0, 0, 0, 0, 0, false) = ((([] ++ enc (zz k)) ++ enc (zz c)) ++ enc (zz l)) := by
  unfold encM
  rw [walkP_B (st := pst) (s := ([], 20)) rfl rfl rfl hk]

theorem num_len (n : Int) (h0 : -9223372036854775808 ≤ n) (h1 : n ≤ 9223372036854775807) : (enc (zz n)).length ≤ 10 := enc_len10 _ (zz_lt n h0 h1)
/-- What In answers lies within, or is nought. -/
theorem inS_num (bs : List Nat) (lo hi : Int) (at_ c : Nat) : (inS bs lo hi at_ c).2.1 = 0 ∨ lo ≤ (inS bs lo hi at_ c).2.1 ∧ (inS bs lo hi at_ c).2.1 ≤ hi := by
  unfold inS
  split
  · exact .inl rfl
  · split
    · exact .inl rfl
    · split
      · exact .inl rfl
      · exact .inr (by simp only; omega)
theorem inS_code (bs : List Nat) (lo hi : Int) (at_ c : Nat) (h : (inS bs lo hi at_ c).1 = 0) : c = 0 := by
  apply Classical.byContradiction
  intro hc
  rw [inS_wrong hc] at h
  exact hc h
theorem inS_enc {bs pre r : List Nat} {z lo hi : Int} (hb : bs = pre ++ (enc (zz z) ++ r)) (h0 : -9223372036854775808 ≤ z) (h1 : z ≤ 9223372036854775807) (hl : lo ≤ z) (hh : z ≤ hi) : inS bs lo hi pre.length 0 = (0, z, (pre ++ enc (zz z)).length) := by
  subst hb
  have h := dec_enc0 z h0 h1 r
  rw [inS_ok (u := zz z) (s := (enc (zz z)).length) (by rw [List.drop_left]; exact h) (by rw [uz_zz]; omega), uz_zz, List.length_append]
theorem inS_take {bs : List Nat} {lo hi z : Int} {at_ c a : Nat} (h : inS bs lo hi at_ c = (0, z, a)) (hby : ∀ x ∈ bs, x < 256) (hat : at_ ≤ bs.length) : c = 0 ∧ lo ≤ z ∧ z ≤ hi ∧ a ≤ bs.length ∧ bs.take a = bs.take at_ ++ enc (zz z) := by
  have hc : c = 0 := inS_code bs lo hi at_ c (by rw [h])
  subst hc
  refine ⟨rfl, ?_⟩
  rcases hd : dec 0 0 (bs.drop at_) with ⟨d, u, s⟩
  by_cases h0 : d = 0
  · subst h0
    by_cases ho : uz u < lo ∨ hi < uz u
    · rw [inS_out hd ho] at h; cases h
    · rw [inS_ok hd ho] at h
      simp only [Prod.mk.injEq, true_and] at h
      obtain ⟨h1, h2⟩ := h
      obtain ⟨v, e1, e2, e3, e4, e5, _⟩ := dec_ok (bs.drop at_) 0 0 u s (by omega) (fun c hc => hby c (List.mem_of_mem_drop hc)) hd
      have hv : u = v := by simpa using e1
      subst hv
      rw [List.length_drop] at e4
      have hz : zz z = u := by rw [← h1, zz_uz]
      refine ⟨by omega, by omega, by omega, ?_⟩
      rw [← h2, hz, show s = (enc u).length by omega, List.take_add, e3]
  · rw [inS_bad hd h0] at h
    simp only [Prod.mk.injEq] at h
    exact absurd h.1 h0
theorem gst_mk {bs : List Nat} {c at_ c1 a1 : Nat} {x lo hi z : Int} (h : inS bs lo hi at_ c = (c1, z, a1)) : gst bs (c, at_) x lo hi = ((c1, a1), z) := by
  unfold gst; rw [h]
theorem gst_get {bs : List Nat} {s s1 : Nat × Nat} {x lo hi z : Int} (h : gst bs s x lo hi = (s1, z)) : inS bs lo hi s.2 s.1 = (s1.1, z, s1.2) := by
  obtain ⟨c1, a1⟩ := s1
  simp only [gst, Prod.mk.injEq] at h
  obtain ⟨⟨h1, h2⟩, h3⟩ := h
  rw [← h1, ← h2, ← h3]
theorem gst_enc {bs pre r : List Nat} {x z lo hi : Int} (hb : bs = pre ++ (enc (zz z) ++ r)) (hl : lo ≤ z) (hh : z ≤ hi) (h0 : -9223372036854775808 ≤ lo) (h1 : hi ≤ 9223372036854775807) : gst bs (0, pre.length) x lo hi = ((0, (pre ++ enc (zz z)).length), z) :=
  gst_mk (inS_enc hb (by omega) (by omega) hl hh)
theorem gst_take {bs : List Nat} {s s1 : Nat × Nat} {x lo hi z : Int} (h : gst bs s x lo hi = (s1, z)) (h1 : s1.1 = 0) (hby : ∀ x ∈ bs, x < 256) (hat : s.2 ≤ bs.length) : s.1 = 0 ∧ (lo ≤ z ∧ z ≤ hi) ∧ s1.2 ≤ bs.length ∧ bs.take s1.2 = bs.take s.2 ++ enc (zz z) := by
  have g := gst_get h
  rw [h1] at g
  obtain ⟨a, b, c, d, e⟩ := inS_take g hby hat
  exact ⟨a, ⟨b, c⟩, d, e⟩
theorem gst_zero {bs : List Nat} {s s1 : Nat × Nat} {x lo hi z : Int} (h : gst bs s x lo hi = (s1, z)) (h1 : s1.1 = 0) : s.1 = 0 := by
  have g := gst_get h
  exact inS_code bs lo hi s.2 s.1 (by rw [g]; exact h1)
theorem gst_num {bs : List Nat} {s s1 : Nat × Nat} {x lo hi z : Int} (h : gst bs s x lo hi = (s1, z)) : z = 0 ∨ lo ≤ z ∧ z ≤ hi := by
  have g := gst_get h
  have := inS_num bs lo hi s.2 s.1
  rw [g] at this
  exact this

/- What was written is read. -/

theorem getM_enc_U {k c l w v : Int} (hk : k = 3 ∨ k = 8 ∨ k = 14) (bk : 1 ≤ k ∧ k ≤ 15) (bc : 0 ≤ c ∧ c ≤ 63) (bl : 0 ≤ l ∧ l ≤ 31) (bw : 0 ≤ w ∧ w ≤ 3) (bv : 0 ≤ v ∧ v ≤ 4294967295) (r : List Nat) : getM (encM (k, c, l, 0, 0, 0, w, v, 0, 0, 0, 0, false) ++ r) = ((0, (encM (k, c, l, 0, 0, 0, w, v, 0, 0, 0, 0, false)).length), (k, c, l, 0, 0, 0, w, v, 0, 0, 0, 0, false)) := by
  rw [encM_U hk]
  exact walkP_U (st := gst _) (s := (0, 0)) (h := false) (gst_enc (pre := []) (z := k) (r := (enc (zz c) ++ (enc (zz l) ++ (enc (zz w) ++ (enc (zz v) ++ r))))) (by simp only [List.append_assoc]) bk.1 bk.2 (by decide) (by decide)) (gst_enc (pre := ([] ++ enc (zz k))) (z := c) (r := (enc (zz l) ++ (enc (zz w) ++ (enc (zz v) ++ r)))) (by simp only [List.append_assoc]) bc.1 bc.2 (by decide) (by decide)) (gst_enc (pre := (([] ++ enc (zz k)) ++ enc (zz c))) (z := l) (r := (enc (zz w) ++ (enc (zz v) ++ r))) (by simp only [List.append_assoc]) bl.1 bl.2 (by decide) (by decide)) (gst_enc (pre := ((([] ++ enc (zz k)) ++ enc (zz c)) ++ enc (zz l))) (z := w) (r := (enc (zz v) ++ r)) (by simp only [List.append_assoc]) bw.1 bw.2 (by decide) (by decide)) (gst_enc (pre := (((([] ++ enc (zz k)) ++ enc (zz c)) ++ enc (zz l)) ++ enc (zz w))) (z := v) (r := r) (by simp only [List.append_assoc]) bv.1 bv.2 (by decide) (by decide)) hk

theorem getM_enc_C {k c l e o : Int} (hk : k = 9) (bk : 1 ≤ k ∧ k ≤ 15) (bc : 0 ≤ c ∧ c ≤ 63) (bl : 0 ≤ l ∧ l ≤ 31) (be : 0 ≤ e ∧ e ≤ 255) (bo : 0 ≤ o ∧ o ≤ 3) (r : List Nat) : getM (encM (k, c, l, 0, o, e, 0, 0, 0, 0, 0, 0, false) ++ r) = ((0, (encM (k, c, l, 0, o, e, 0, 0, 0, 0, 0, 0, false)).length), (k, c, l, 0, o, e, 0, 0, 0, 0, 0, 0, false)) := by
  rw [encM_C hk]
  exact walkP_C (st := gst _) (s := (0, 0)) (h := false) (gst_enc (pre := []) (z := k) (r := (enc (zz c) ++ (enc (zz l) ++ (enc (zz e) ++ (enc (zz o) ++ r))))) (by simp only [List.append_assoc]) bk.1 bk.2 (by decide) (by decide)) (gst_enc (pre := ([] ++ enc (zz k))) (z := c) (r := (enc (zz l) ++ (enc (zz e) ++ (enc (zz o) ++ r)))) (by simp only [List.append_assoc]) bc.1 bc.2 (by decide) (by decide)) (gst_enc (pre := (([] ++ enc (zz k)) ++ enc (zz c))) (z := l) (r := (enc (zz e) ++ (enc (zz o) ++ r))) (by simp only [List.append_assoc]) bl.1 bl.2 (by decide) (by decide)) (gst_enc (pre := ((([] ++ enc (zz k)) ++ enc (zz c)) ++ enc (zz l))) (z := e) (r := (enc (zz o) ++ r)) (by simp only [List.append_assoc]) be.1 be.2 (by decide) (by decide)) (gst_enc (pre := (((([] ++ enc (zz k)) ++ enc (zz c)) ++ enc (zz l)) ++ enc (zz e))) (z := o) (r := r) (by simp only [List.append_assoc]) bo.1 bo.2 (by decide) (by decide)) hk

theorem getM_enc_S {k c l o : Int} (hk : k = 5) (bk : 1 ≤ k ∧ k ≤ 15) (bc : 0 ≤ c ∧ c ≤ 63) (bl : 0 ≤ l ∧ l ≤ 31) (bo : 0 ≤ o ∧ o ≤ 3) (r : List Nat) : getM (encM (k, c, l, 0, o, 0, 0, 0, 0, 0, 0, 0, false) ++ r) = ((0, (encM (k, c, l, 0, o, 0, 0, 0, 0, 0, 0, 0, false)).length), (k, c, l, 0, o, 0, 0, 0, 0, 0, 0, 0, false)) := by
  rw [encM_S hk]
  exact walkP_S (st := gst _) (s := (0, 0)) (h := false) (gst_enc (pre := []) (z := k) (r := (enc (zz c) ++ (enc (zz l) ++ (enc (zz o) ++ r)))) (by simp only [List.append_assoc]) bk.1 bk.2 (by decide) (by decide)) (gst_enc (pre := ([] ++ enc (zz k))) (z := c) (r := (enc (zz l) ++ (enc (zz o) ++ r))) (by simp only [List.append_assoc]) bc.1 bc.2 (by decide) (by decide)) (gst_enc (pre := (([] ++ enc (zz k)) ++ enc (zz c))) (z := l) (r := (enc (zz o) ++ r)) (by simp only [List.append_assoc]) bl.1 bl.2 (by decide) (by decide)) (gst_enc (pre := ((([] ++ enc (zz k)) ++ enc (zz c)) ++ enc (zz l))) (z := o) (r := r) (by simp only [List.append_assoc]) bo.1 bo.2 (by decide) (by decide)) hk

theorem getM_enc_D0 {k c l o e t : Int} (hk : k = 13) (bk : 1 ≤ k ∧ k ≤ 15) (bc : 0 ≤ c ∧ c ≤ 63) (bl : 0 ≤ l ∧ l ≤ 31) (bo : 0 ≤ o ∧ o ≤ 3) (be : 0 ≤ e ∧ e ≤ 255) (bt : 0 ≤ t ∧ t ≤ 4) (r : List Nat) : getM (encM (k, c, l, t, o, e, 0, 0, 0, 0, 0, 0, false) ++ r) = ((0, (encM (k, c, l, t, o, e, 0, 0, 0, 0, 0, 0, false)).length), (k, c, l, t, o, e, 0, 0, 0, 0, 0, 0, false)) := by
  rw [encM_D0 hk]
  exact walkP_D0 (st := gst _) (s := (0, 0)) (h := false) (gst_enc (pre := []) (z := k) (r := (enc (zz c) ++ (enc (zz l) ++ (enc (zz o) ++ (enc (zz e) ++ (enc (zz t) ++ (enc (zz 0) ++ r))))))) (by simp only [List.append_assoc]) bk.1 bk.2 (by decide) (by decide)) (gst_enc (pre := ([] ++ enc (zz k))) (z := c) (r := (enc (zz l) ++ (enc (zz o) ++ (enc (zz e) ++ (enc (zz t) ++ (enc (zz 0) ++ r)))))) (by simp only [List.append_assoc]) bc.1 bc.2 (by decide) (by decide)) (gst_enc (pre := (([] ++ enc (zz k)) ++ enc (zz c))) (z := l) (r := (enc (zz o) ++ (enc (zz e) ++ (enc (zz t) ++ (enc (zz 0) ++ r))))) (by simp only [List.append_assoc]) bl.1 bl.2 (by decide) (by decide)) (gst_enc (pre := ((([] ++ enc (zz k)) ++ enc (zz c)) ++ enc (zz l))) (z := o) (r := (enc (zz e) ++ (enc (zz t) ++ (enc (zz 0) ++ r)))) (by simp only [List.append_assoc]) bo.1 bo.2 (by decide) (by decide)) (gst_enc (pre := (((([] ++ enc (zz k)) ++ enc (zz c)) ++ enc (zz l)) ++ enc (zz o))) (z := e) (r := (enc (zz t) ++ (enc (zz 0) ++ r))) (by simp only [List.append_assoc]) be.1 be.2 (by decide) (by decide)) (gst_enc (pre := ((((([] ++ enc (zz k)) ++ enc (zz c)) ++ enc (zz l)) ++ enc (zz o)) ++ enc (zz e))) (z := t) (r := (enc (zz 0) ++ r)) (by simp only [List.append_assoc]) bt.1 bt.2 (by decide) (by decide)) (gst_enc (pre := (((((([] ++ enc (zz k)) ++ enc (zz c)) ++ enc (zz l)) ++ enc (zz o)) ++ enc (zz e)) ++ enc (zz t))) (z := 0) (r := r) (by simp only [List.append_assoc]) (by decide) (by decide) (by decide) (by decide)) hk (by decide)

theorem getM_enc_D1 {k c l o e t d0 d1 d2 d3 : Int} (hk : k = 13) (bk : 1 ≤ k ∧ k ≤ 15) (bc : 0 ≤ c ∧ c ≤ 63) (bl : 0 ≤ l ∧ l ≤ 31) (bo : 0 ≤ o ∧ o ≤ 3) (be : 0 ≤ e ∧ e ≤ 255) (bt : 0 ≤ t ∧ t ≤ 4) (bd0 : 0 ≤ d0 ∧ d0 ≤ 4294967295) (bd1 : 0 ≤ d1 ∧ d1 ≤ 4294967295) (bd2 : 0 ≤ d2 ∧ d2 ≤ 4294967295) (bd3 : 0 ≤ d3 ∧ d3 ≤ 4294967295) (r : List Nat) : getM (encM (k, c, l, t, o, e, 0, 0, d0, d1, d2, d3, true) ++ r) = ((0, (encM (k, c, l, t, o, e, 0, 0, d0, d1, d2, d3, true)).length), (k, c, l, t, o, e, 0, 0, d0, d1, d2, d3, true)) := by
  rw [encM_D1 hk]
  exact walkP_D1 (st := gst _) (s := (0, 0)) (h := false) (gst_enc (pre := []) (z := k) (r := (enc (zz c) ++ (enc (zz l) ++ (enc (zz o) ++ (enc (zz e) ++ (enc (zz t) ++ (enc (zz 1) ++ (enc (zz d0) ++ (enc (zz d1) ++ (enc (zz d2) ++ (enc (zz d3) ++ r))))))))))) (by simp only [List.append_assoc]) bk.1 bk.2 (by decide) (by decide)) (gst_enc (pre := ([] ++ enc (zz k))) (z := c) (r := (enc (zz l) ++ (enc (zz o) ++ (enc (zz e) ++ (enc (zz t) ++ (enc (zz 1) ++ (enc (zz d0) ++ (enc (zz d1) ++ (enc (zz d2) ++ (enc (zz d3) ++ r)))))))))) (by simp only [List.append_assoc]) bc.1 bc.2 (by decide) (by decide)) (gst_enc (pre := (([] ++ enc (zz k)) ++ enc (zz c))) (z := l) (r := (enc (zz o) ++ (enc (zz e) ++ (enc (zz t) ++ (enc (zz 1) ++ (enc (zz d0) ++ (enc (zz d1) ++ (enc (zz d2) ++ (enc (zz d3) ++ r))))))))) (by simp only [List.append_assoc]) bl.1 bl.2 (by decide) (by decide)) (gst_enc (pre := ((([] ++ enc (zz k)) ++ enc (zz c)) ++ enc (zz l))) (z := o) (r := (enc (zz e) ++ (enc (zz t) ++ (enc (zz 1) ++ (enc (zz d0) ++ (enc (zz d1) ++ (enc (zz d2) ++ (enc (zz d3) ++ r)))))))) (by simp only [List.append_assoc]) bo.1 bo.2 (by decide) (by decide)) (gst_enc (pre := (((([] ++ enc (zz k)) ++ enc (zz c)) ++ enc (zz l)) ++ enc (zz o))) (z := e) (r := (enc (zz t) ++ (enc (zz 1) ++ (enc (zz d0) ++ (enc (zz d1) ++ (enc (zz d2) ++ (enc (zz d3) ++ r))))))) (by simp only [List.append_assoc]) be.1 be.2 (by decide) (by decide)) (gst_enc (pre := ((((([] ++ enc (zz k)) ++ enc (zz c)) ++ enc (zz l)) ++ enc (zz o)) ++ enc (zz e))) (z := t) (r := (enc (zz 1) ++ (enc (zz d0) ++ (enc (zz d1) ++ (enc (zz d2) ++ (enc (zz d3) ++ r)))))) (by simp only [List.append_assoc]) bt.1 bt.2 (by decide) (by decide)) (gst_enc (pre := (((((([] ++ enc (zz k)) ++ enc (zz c)) ++ enc (zz l)) ++ enc (zz o)) ++ enc (zz e)) ++ enc (zz t))) (z := 1) (r := (enc (zz d0) ++ (enc (zz d1) ++ (enc (zz d2) ++ (enc (zz d3) ++ r))))) (by simp only [List.append_assoc]) (by decide) (by decide) (by decide) (by decide)) (gst_enc (pre := ((((((([] ++ enc (zz k)) ++ enc (zz c)) ++ enc (zz l)) ++ enc (zz o)) ++ enc (zz e)) ++ enc (zz t)) ++ enc (zz 1))) (z := d0) (r := (enc (zz d1) ++ (enc (zz d2) ++ (enc (zz d3) ++ r)))) (by simp only [List.append_assoc]) bd0.1 bd0.2 (by decide) (by decide)) (gst_enc (pre := (((((((([] ++ enc (zz k)) ++ enc (zz c)) ++ enc (zz l)) ++ enc (zz o)) ++ enc (zz e)) ++ enc (zz t)) ++ enc (zz 1)) ++ enc (zz d0))) (z := d1) (r := (enc (zz d2) ++ (enc (zz d3) ++ r))) (by simp only [List.append_assoc]) bd1.1 bd1.2 (by decide) (by decide)) (gst_enc (pre := ((((((((([] ++ enc (zz k)) ++ enc (zz c)) ++ enc (zz l)) ++ enc (zz o)) ++ enc (zz e)) ++ enc (zz t)) ++ enc (zz 1)) ++ enc (zz d0)) ++ enc (zz d1))) (z := d2) (r := (enc (zz d3) ++ r)) (by simp only [List.append_assoc]) bd2.1 bd2.2 (by decide) (by decide)) (gst_enc (pre := (((((((((([] ++ enc (zz k)) ++ enc (zz c)) ++ enc (zz l)) ++ enc (zz o)) ++ enc (zz e)) ++ enc (zz t)) ++ enc (zz 1)) ++ enc (zz d0)) ++ enc (zz d1)) ++ enc (zz d2))) (z := d3) (r := r) (by simp only [List.append_assoc]) bd3.1 bd3.2 (by decide) (by decide)) hk

theorem getM_enc_A0 {k c l t : Int} (hk : k = 11) (bk : 1 ≤ k ∧ k ≤ 15) (bc : 0 ≤ c ∧ c ≤ 63) (bl : 0 ≤ l ∧ l ≤ 31) (bt : 0 ≤ t ∧ t ≤ 4) (r : List Nat) : getM (encM (k, c, l, t, 0, 0, 0, 0, 0, 0, 0, 0, false) ++ r) = ((0, (encM (k, c, l, t, 0, 0, 0, 0, 0, 0, 0, 0, false)).length), (k, c, l, t, 0, 0, 0, 0, 0, 0, 0, 0, false)) := by
  rw [encM_A0 hk]
  exact walkP_A0 (st := gst _) (s := (0, 0)) (h := false) (gst_enc (pre := []) (z := k) (r := (enc (zz c) ++ (enc (zz l) ++ (enc (zz t) ++ (enc (zz 0) ++ r))))) (by simp only [List.append_assoc]) bk.1 bk.2 (by decide) (by decide)) (gst_enc (pre := ([] ++ enc (zz k))) (z := c) (r := (enc (zz l) ++ (enc (zz t) ++ (enc (zz 0) ++ r)))) (by simp only [List.append_assoc]) bc.1 bc.2 (by decide) (by decide)) (gst_enc (pre := (([] ++ enc (zz k)) ++ enc (zz c))) (z := l) (r := (enc (zz t) ++ (enc (zz 0) ++ r))) (by simp only [List.append_assoc]) bl.1 bl.2 (by decide) (by decide)) (gst_enc (pre := ((([] ++ enc (zz k)) ++ enc (zz c)) ++ enc (zz l))) (z := t) (r := (enc (zz 0) ++ r)) (by simp only [List.append_assoc]) bt.1 bt.2 (by decide) (by decide)) (gst_enc (pre := (((([] ++ enc (zz k)) ++ enc (zz c)) ++ enc (zz l)) ++ enc (zz t))) (z := 0) (r := r) (by simp only [List.append_assoc]) (by decide) (by decide) (by decide) (by decide)) hk (by decide)

theorem getM_enc_A1 {k c l t d0 d1 d2 d3 : Int} (hk : k = 11) (bk : 1 ≤ k ∧ k ≤ 15) (bc : 0 ≤ c ∧ c ≤ 63) (bl : 0 ≤ l ∧ l ≤ 31) (bt : 0 ≤ t ∧ t ≤ 4) (bd0 : 0 ≤ d0 ∧ d0 ≤ 4294967295) (bd1 : 0 ≤ d1 ∧ d1 ≤ 4294967295) (bd2 : 0 ≤ d2 ∧ d2 ≤ 4294967295) (bd3 : 0 ≤ d3 ∧ d3 ≤ 4294967295) (r : List Nat) : getM (encM (k, c, l, t, 0, 0, 0, 0, d0, d1, d2, d3, true) ++ r) = ((0, (encM (k, c, l, t, 0, 0, 0, 0, d0, d1, d2, d3, true)).length), (k, c, l, t, 0, 0, 0, 0, d0, d1, d2, d3, true)) := by
  rw [encM_A1 hk]
  exact walkP_A1 (st := gst _) (s := (0, 0)) (h := false) (gst_enc (pre := []) (z := k) (r := (enc (zz c) ++ (enc (zz l) ++ (enc (zz t) ++ (enc (zz 1) ++ (enc (zz d0) ++ (enc (zz d1) ++ (enc (zz d2) ++ (enc (zz d3) ++ r))))))))) (by simp only [List.append_assoc]) bk.1 bk.2 (by decide) (by decide)) (gst_enc (pre := ([] ++ enc (zz k))) (z := c) (r := (enc (zz l) ++ (enc (zz t) ++ (enc (zz 1) ++ (enc (zz d0) ++ (enc (zz d1) ++ (enc (zz d2) ++ (enc (zz d3) ++ r)))))))) (by simp only [List.append_assoc]) bc.1 bc.2 (by decide) (by decide)) (gst_enc (pre := (([] ++ enc (zz k)) ++ enc (zz c))) (z := l) (r := (enc (zz t) ++ (enc (zz 1) ++ (enc (zz d0) ++ (enc (zz d1) ++ (enc (zz d2) ++ (enc (zz d3) ++ r))))))) (by simp only [List.append_assoc]) bl.1 bl.2 (by decide) (by decide)) (gst_enc (pre := ((([] ++ enc (zz k)) ++ enc (zz c)) ++ enc (zz l))) (z := t) (r := (enc (zz 1) ++ (enc (zz d0) ++ (enc (zz d1) ++ (enc (zz d2) ++ (enc (zz d3) ++ r)))))) (by simp only [List.append_assoc]) bt.1 bt.2 (by decide) (by decide)) (gst_enc (pre := (((([] ++ enc (zz k)) ++ enc (zz c)) ++ enc (zz l)) ++ enc (zz t))) (z := 1) (r := (enc (zz d0) ++ (enc (zz d1) ++ (enc (zz d2) ++ (enc (zz d3) ++ r))))) (by simp only [List.append_assoc]) (by decide) (by decide) (by decide) (by decide)) (gst_enc (pre := ((((([] ++ enc (zz k)) ++ enc (zz c)) ++ enc (zz l)) ++ enc (zz t)) ++ enc (zz 1))) (z := d0) (r := (enc (zz d1) ++ (enc (zz d2) ++ (enc (zz d3) ++ r)))) (by simp only [List.append_assoc]) bd0.1 bd0.2 (by decide) (by decide)) (gst_enc (pre := (((((([] ++ enc (zz k)) ++ enc (zz c)) ++ enc (zz l)) ++ enc (zz t)) ++ enc (zz 1)) ++ enc (zz d0))) (z := d1) (r := (enc (zz d2) ++ (enc (zz d3) ++ r))) (by simp only [List.append_assoc]) bd1.1 bd1.2 (by decide) (by decide)) (gst_enc (pre := ((((((([] ++ enc (zz k)) ++ enc (zz c)) ++ enc (zz l)) ++ enc (zz t)) ++ enc (zz 1)) ++ enc (zz d0)) ++ enc (zz d1))) (z := d2) (r := (enc (zz d3) ++ r)) (by simp only [List.append_assoc]) bd2.1 bd2.2 (by decide) (by decide)) (gst_enc (pre := (((((((([] ++ enc (zz k)) ++ enc (zz c)) ++ enc (zz l)) ++ enc (zz t)) ++ enc (zz 1)) ++ enc (zz d0)) ++ enc (zz d1)) ++ enc (zz d2))) (z := d3) (r := r) (by simp only [List.append_assoc]) bd3.1 bd3.2 (by decide) (by decide)) hk

theorem getM_enc_B {k c l : Int} (hk : ¬ (k = 3 ∨ k = 8 ∨ k = 14) ∧ ¬ k = 9 ∧ ¬ k = 5 ∧ ¬ k = 13 ∧ ¬ k = 11) (bk : 1 ≤ k ∧ k ≤ 15) (bc : 0 ≤ c ∧ c ≤ 63) (bl : 0 ≤ l ∧ l ≤ 31) (r : List Nat) : getM (encM (k, c, l, 0, 0, 0, 0, 0, 0, 0, 0, 0, false) ++ r) = ((0, (encM (k, c, l, 0, 0, 0, 0, 0, 0, 0, 0, 0, false)).length), (k, c, l, 0, 0, 0, 0, 0, 0, 0, 0, 0, false)) := by
  rw [encM_B hk]
  exact walkP_B (st := gst _) (s := (0, 0)) (h := false) (gst_enc (pre := []) (z := k) (r := (enc (zz c) ++ (enc (zz l) ++ r))) (by simp only [List.append_assoc]) bk.1 bk.2 (by decide) (by decide)) (gst_enc (pre := ([] ++ enc (zz k))) (z := c) (r := (enc (zz l) ++ r)) (by simp only [List.append_assoc]) bc.1 bc.2 (by decide) (by decide)) (gst_enc (pre := (([] ++ enc (zz k)) ++ enc (zz c))) (z := l) (r := r) (by simp only [List.append_assoc]) bl.1 bl.2 (by decide) (by decide)) hk

theorem take_U {bs : List Nat} {s1 s2 s3 s4 s5 : Nat × Nat} {k c l w v : Int} (hby : ∀ x ∈ bs, x < 256) (h1 : gst bs (0, 0) 0 1 15 = (s1, k)) (h2 : gst bs s1 0 0 63 = (s2, c)) (h3 : gst bs s2 0 0 31 = (s3, l)) (h4 : gst bs s3 0 0 3 = (s4, w)) (h5 : gst bs s4 0 0 4294967295 = (s5, v)) (hk : k = 3 ∨ k = 8 ∨ k = 14) (h0 : s5.1 = 0) : s5.2 ≤ bs.length ∧ bs.take s5.2 = encM (k, c, l, 0, 0, 0, w, v, 0, 0, 0, 0, false) := by
  have z4 : s4.1 = 0 := gst_zero h5 h0
  have z3 : s3.1 = 0 := gst_zero h4 z4
  have z2 : s2.1 = 0 := gst_zero h3 z3
  have z1 : s1.1 = 0 := gst_zero h2 z2
  obtain ⟨_, _, l1, t1⟩ := gst_take h1 z1 hby (Nat.zero_le _)
  obtain ⟨_, _, l2, t2⟩ := gst_take h2 z2 hby l1
  obtain ⟨_, _, l3, t3⟩ := gst_take h3 z3 hby l2
  obtain ⟨_, _, l4, t4⟩ := gst_take h4 z4 hby l3
  obtain ⟨_, _, l5, t5⟩ := gst_take h5 h0 hby l4
  refine ⟨l5, ?_⟩
  rw [encM_U hk, t5, t4, t3, t2, t1]
  rfl

theorem take_C {bs : List Nat} {s1 s2 s3 s4 s5 : Nat × Nat} {k c l e o : Int} (hby : ∀ x ∈ bs, x < 256) (h1 : gst bs (0, 0) 0 1 15 = (s1, k)) (h2 : gst bs s1 0 0 63 = (s2, c)) (h3 : gst bs s2 0 0 31 = (s3, l)) (h4 : gst bs s3 0 0 255 = (s4, e)) (h5 : gst bs s4 0 0 3 = (s5, o)) (hk : k = 9) (h0 : s5.1 = 0) : s5.2 ≤ bs.length ∧ bs.take s5.2 = encM (k, c, l, 0, o, e, 0, 0, 0, 0, 0, 0, false) := by
  have z4 : s4.1 = 0 := gst_zero h5 h0
  have z3 : s3.1 = 0 := gst_zero h4 z4
  have z2 : s2.1 = 0 := gst_zero h3 z3
  have z1 : s1.1 = 0 := gst_zero h2 z2
  obtain ⟨_, _, l1, t1⟩ := gst_take h1 z1 hby (Nat.zero_le _)
  obtain ⟨_, _, l2, t2⟩ := gst_take h2 z2 hby l1
  obtain ⟨_, _, l3, t3⟩ := gst_take h3 z3 hby l2
  obtain ⟨_, _, l4, t4⟩ := gst_take h4 z4 hby l3
  obtain ⟨_, _, l5, t5⟩ := gst_take h5 h0 hby l4
  refine ⟨l5, ?_⟩
  rw [encM_C hk, t5, t4, t3, t2, t1]
  rfl

theorem take_S {bs : List Nat} {s1 s2 s3 s4 : Nat × Nat} {k c l o : Int} (hby : ∀ x ∈ bs, x < 256) (h1 : gst bs (0, 0) 0 1 15 = (s1, k)) (h2 : gst bs s1 0 0 63 = (s2, c)) (h3 : gst bs s2 0 0 31 = (s3, l)) (h4 : gst bs s3 0 0 3 = (s4, o)) (hk : k = 5) (h0 : s4.1 = 0) : s4.2 ≤ bs.length ∧ bs.take s4.2 = encM (k, c, l, 0, o, 0, 0, 0, 0, 0, 0, 0, false) := by
  have z3 : s3.1 = 0 := gst_zero h4 h0
  have z2 : s2.1 = 0 := gst_zero h3 z3
  have z1 : s1.1 = 0 := gst_zero h2 z2
  obtain ⟨_, _, l1, t1⟩ := gst_take h1 z1 hby (Nat.zero_le _)
  obtain ⟨_, _, l2, t2⟩ := gst_take h2 z2 hby l1
  obtain ⟨_, _, l3, t3⟩ := gst_take h3 z3 hby l2
  obtain ⟨_, _, l4, t4⟩ := gst_take h4 h0 hby l3
  refine ⟨l4, ?_⟩
  rw [encM_S hk, t4, t3, t2, t1]
  rfl

theorem take_D0 {bs : List Nat} {s1 s2 s3 s4 s5 s6 s7 : Nat × Nat} {k c l o e t h : Int} (hby : ∀ x ∈ bs, x < 256) (h1 : gst bs (0, 0) 0 1 15 = (s1, k)) (h2 : gst bs s1 0 0 63 = (s2, c)) (h3 : gst bs s2 0 0 31 = (s3, l)) (h4 : gst bs s3 0 0 3 = (s4, o)) (h5 : gst bs s4 0 0 255 = (s5, e)) (h6 : gst bs s5 0 0 4 = (s6, t)) (h7 : gst bs s6 0 0 1 = (s7, h)) (hk : k = 13) (hh : ¬ h = 1) (h0 : s7.1 = 0) : s7.2 ≤ bs.length ∧ bs.take s7.2 = encM (k, c, l, t, o, e, 0, 0, 0, 0, 0, 0, false) := by
  have z6 : s6.1 = 0 := gst_zero h7 h0
  have z5 : s5.1 = 0 := gst_zero h6 z6
  have z4 : s4.1 = 0 := gst_zero h5 z5
  have z3 : s3.1 = 0 := gst_zero h4 z4
  have z2 : s2.1 = 0 := gst_zero h3 z3
  have z1 : s1.1 = 0 := gst_zero h2 z2
  obtain ⟨_, _, l1, t1⟩ := gst_take h1 z1 hby (Nat.zero_le _)
  obtain ⟨_, _, l2, t2⟩ := gst_take h2 z2 hby l1
  obtain ⟨_, _, l3, t3⟩ := gst_take h3 z3 hby l2
  obtain ⟨_, _, l4, t4⟩ := gst_take h4 z4 hby l3
  obtain ⟨_, _, l5, t5⟩ := gst_take h5 z5 hby l4
  obtain ⟨_, _, l6, t6⟩ := gst_take h6 z6 hby l5
  obtain ⟨_, _, l7, t7⟩ := gst_take h7 h0 hby l6
  have hz : h = 0 := by rcases gst_num h7 with g | g <;> omega
  subst hz
  refine ⟨l7, ?_⟩
  rw [encM_D0 hk, t7, t6, t5, t4, t3, t2, t1]
  rfl

theorem take_D1 {bs : List Nat} {s1 s2 s3 s4 s5 s6 s7 s8 s9 s10 s11 : Nat × Nat} {k c l o e t d0 d1 d2 d3 : Int} (hby : ∀ x ∈ bs, x < 256) (h1 : gst bs (0, 0) 0 1 15 = (s1, k)) (h2 : gst bs s1 0 0 63 = (s2, c)) (h3 : gst bs s2 0 0 31 = (s3, l)) (h4 : gst bs s3 0 0 3 = (s4, o)) (h5 : gst bs s4 0 0 255 = (s5, e)) (h6 : gst bs s5 0 0 4 = (s6, t)) (h7 : gst bs s6 0 0 1 = (s7, 1)) (h8 : gst bs s7 0 0 4294967295 = (s8, d0)) (h9 : gst bs s8 0 0 4294967295 = (s9, d1)) (h10 : gst bs s9 0 0 4294967295 = (s10, d2)) (h11 : gst bs s10 0 0 4294967295 = (s11, d3)) (hk : k = 13) (h0 : s11.1 = 0) : s11.2 ≤ bs.length ∧ bs.take s11.2 = encM (k, c, l, t, o, e, 0, 0, d0, d1, d2, d3, true) := by
  have z10 : s10.1 = 0 := gst_zero h11 h0
  have z9 : s9.1 = 0 := gst_zero h10 z10
  have z8 : s8.1 = 0 := gst_zero h9 z9
  have z7 : s7.1 = 0 := gst_zero h8 z8
  have z6 : s6.1 = 0 := gst_zero h7 z7
  have z5 : s5.1 = 0 := gst_zero h6 z6
  have z4 : s4.1 = 0 := gst_zero h5 z5
  have z3 : s3.1 = 0 := gst_zero h4 z4
  have z2 : s2.1 = 0 := gst_zero h3 z3
  have z1 : s1.1 = 0 := gst_zero h2 z2
  obtain ⟨_, _, l1, t1⟩ := gst_take h1 z1 hby (Nat.zero_le _)
  obtain ⟨_, _, l2, t2⟩ := gst_take h2 z2 hby l1
  obtain ⟨_, _, l3, t3⟩ := gst_take h3 z3 hby l2
  obtain ⟨_, _, l4, t4⟩ := gst_take h4 z4 hby l3
  obtain ⟨_, _, l5, t5⟩ := gst_take h5 z5 hby l4
  obtain ⟨_, _, l6, t6⟩ := gst_take h6 z6 hby l5
  obtain ⟨_, _, l7, t7⟩ := gst_take h7 z7 hby l6
  obtain ⟨_, _, l8, t8⟩ := gst_take h8 z8 hby l7
  obtain ⟨_, _, l9, t9⟩ := gst_take h9 z9 hby l8
  obtain ⟨_, _, l10, t10⟩ := gst_take h10 z10 hby l9
  obtain ⟨_, _, l11, t11⟩ := gst_take h11 h0 hby l10
  refine ⟨l11, ?_⟩
  rw [encM_D1 hk, t11, t10, t9, t8, t7, t6, t5, t4, t3, t2, t1]
  rfl

theorem take_A0 {bs : List Nat} {s1 s2 s3 s4 s5 : Nat × Nat} {k c l t h : Int} (hby : ∀ x ∈ bs, x < 256) (h1 : gst bs (0, 0) 0 1 15 = (s1, k)) (h2 : gst bs s1 0 0 63 = (s2, c)) (h3 : gst bs s2 0 0 31 = (s3, l)) (h4 : gst bs s3 0 0 4 = (s4, t)) (h5 : gst bs s4 0 0 1 = (s5, h)) (hk : k = 11) (hh : ¬ h = 1) (h0 : s5.1 = 0) : s5.2 ≤ bs.length ∧ bs.take s5.2 = encM (k, c, l, t, 0, 0, 0, 0, 0, 0, 0, 0, false) := by
  have z4 : s4.1 = 0 := gst_zero h5 h0
  have z3 : s3.1 = 0 := gst_zero h4 z4
  have z2 : s2.1 = 0 := gst_zero h3 z3
  have z1 : s1.1 = 0 := gst_zero h2 z2
  obtain ⟨_, _, l1, t1⟩ := gst_take h1 z1 hby (Nat.zero_le _)
  obtain ⟨_, _, l2, t2⟩ := gst_take h2 z2 hby l1
  obtain ⟨_, _, l3, t3⟩ := gst_take h3 z3 hby l2
  obtain ⟨_, _, l4, t4⟩ := gst_take h4 z4 hby l3
  obtain ⟨_, _, l5, t5⟩ := gst_take h5 h0 hby l4
  have hz : h = 0 := by rcases gst_num h5 with g | g <;> omega
  subst hz
  refine ⟨l5, ?_⟩
  rw [encM_A0 hk, t5, t4, t3, t2, t1]
  rfl

theorem take_A1 {bs : List Nat} {s1 s2 s3 s4 s5 s6 s7 s8 s9 : Nat × Nat} {k c l t d0 d1 d2 d3 : Int} (hby : ∀ x ∈ bs, x < 256) (h1 : gst bs (0, 0) 0 1 15 = (s1, k)) (h2 : gst bs s1 0 0 63 = (s2, c)) (h3 : gst bs s2 0 0 31 = (s3, l)) (h4 : gst bs s3 0 0 4 = (s4, t)) (h5 : gst bs s4 0 0 1 = (s5, 1)) (h6 : gst bs s5 0 0 4294967295 = (s6, d0)) (h7 : gst bs s6 0 0 4294967295 = (s7, d1)) (h8 : gst bs s7 0 0 4294967295 = (s8, d2)) (h9 : gst bs s8 0 0 4294967295 = (s9, d3)) (hk : k = 11) (h0 : s9.1 = 0) : s9.2 ≤ bs.length ∧ bs.take s9.2 = encM (k, c, l, t, 0, 0, 0, 0, d0, d1, d2, d3, true) := by
  have z8 : s8.1 = 0 := gst_zero h9 h0
  have z7 : s7.1 = 0 := gst_zero h8 z8
  have z6 : s6.1 = 0 := gst_zero h7 z7
  have z5 : s5.1 = 0 := gst_zero h6 z6
  have z4 : s4.1 = 0 := gst_zero h5 z5
  have z3 : s3.1 = 0 := gst_zero h4 z4
  have z2 : s2.1 = 0 := gst_zero h3 z3
  have z1 : s1.1 = 0 := gst_zero h2 z2
  obtain ⟨_, _, l1, t1⟩ := gst_take h1 z1 hby (Nat.zero_le _)
  obtain ⟨_, _, l2, t2⟩ := gst_take h2 z2 hby l1
  obtain ⟨_, _, l3, t3⟩ := gst_take h3 z3 hby l2
  obtain ⟨_, _, l4, t4⟩ := gst_take h4 z4 hby l3
  obtain ⟨_, _, l5, t5⟩ := gst_take h5 z5 hby l4
  obtain ⟨_, _, l6, t6⟩ := gst_take h6 z6 hby l5
  obtain ⟨_, _, l7, t7⟩ := gst_take h7 z7 hby l6
  obtain ⟨_, _, l8, t8⟩ := gst_take h8 z8 hby l7
  obtain ⟨_, _, l9, t9⟩ := gst_take h9 h0 hby l8
  refine ⟨l9, ?_⟩
  rw [encM_A1 hk, t9, t8, t7, t6, t5, t4, t3, t2, t1]
  rfl

theorem take_B {bs : List Nat} {s1 s2 s3 : Nat × Nat} {k c l : Int} (hby : ∀ x ∈ bs, x < 256) (h1 : gst bs (0, 0) 0 1 15 = (s1, k)) (h2 : gst bs s1 0 0 63 = (s2, c)) (h3 : gst bs s2 0 0 31 = (s3, l)) (hk : ¬ (k = 3 ∨ k = 8 ∨ k = 14) ∧ ¬ k = 9 ∧ ¬ k = 5 ∧ ¬ k = 13 ∧ ¬ k = 11) (h0 : s3.1 = 0) : s3.2 ≤ bs.length ∧ bs.take s3.2 = encM (k, c, l, 0, 0, 0, 0, 0, 0, 0, 0, 0, false) := by
  have z2 : s2.1 = 0 := gst_zero h3 h0
  have z1 : s1.1 = 0 := gst_zero h2 z2
  obtain ⟨_, _, l1, t1⟩ := gst_take h1 z1 hby (Nat.zero_le _)
  obtain ⟨_, _, l2, t2⟩ := gst_take h2 z2 hby l1
  obtain ⟨_, _, l3, t3⟩ := gst_take h3 h0 hby l2
  refine ⟨l3, ?_⟩
  rw [encM_B hk, t3, t2, t1]
  rfl

end Go.Proofs.YtakomlmbdienpaaDoor
