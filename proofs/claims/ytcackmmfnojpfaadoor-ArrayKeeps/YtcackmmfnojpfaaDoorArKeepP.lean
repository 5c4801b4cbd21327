/- DERIVED of nothing: what Get tells behind Put, Drop and Touch. Own work. -/
import Derived.Test.YtcackmmfnojpfaaDoorArInv
namespace Go.Proofs.YtcackmmfnojpfaaDoor

theorem ix_congr {p : En → Bool} {es es' : List En} (hl : es.length = es'.length) (h : ∀ j (h1 : j < es.length) (h2 : j < es'.length), p es[j] = p es'[j]) : ix p es = ix p es' := by
  rcases ix_cases p es with ⟨h1, h2⟩ | ⟨i, hi, h1, h2, h3⟩
  · rw [h1, ix_none (fun j hj => by rw [← h j (by omega) hj]; exact h2 j (by omega))]
  · rw [h1]
    exact (ix_at i (by omega) (by rw [← h i hi (by omega)]; exact h2) (fun j hj => by rw [← h j (by omega) (by omega)]; exact h3 j hj)).symm

theorem stA_set {A : List St} (h0 : 0 < A.length) (l0 l : Int) (s : St) : stA (A.set (hm A l0) s) l = if hm A l = hm A l0 then s else stA A l := by
  have hlt := hm_lt h0 l0
  have e : hm (A.set (hm A l0) s) l = hm A l := by simp [hm]
  unfold stA
  rw [e, List.getD_eq_getElem?_getD, List.getD_eq_getElem?_getD]
  by_cases hh : hm A l = hm A l0
  · rw [if_pos hh, hh, List.getElem?_set_self hlt]; rfl
  · rw [if_neg hh, List.getElem?_set_ne (fun x => hh x.symm)]

/-- What a set tells of a line. -/
def getS (l : Int) (es : List En) : En × Bool := if fnd l es < 0 then (En.zero, false) else (es.getD (fnd l es).toNat En.zero, true)
theorem getA_eq {A : List St} {l : Int} (hv : vld l = true) : getA A l = getS l (stA A l).2 := by
  unfold getA getS; rw [if_pos hv]

theorem getS_other {l : Int} {es : List En} {i : Nat} {e : En} (hi : i < es.length) (h1 : En.is l es[i] = false) (h2 : En.is l e = false) : getS l (es.set i e) = getS l es := by
  have hf : fnd l (es.set i e) = fnd l es := by
    refine ix_congr (by simp) (fun j ha hb => ?_)
    by_cases x : j = i
    · subst x; rw [List.getElem_set_self, h2, h1]
    · rw [List.getElem_set_ne (fun y => x y.symm)]
  unfold getS
  rw [hf]
  by_cases hn : fnd l es < 0
  · rw [if_pos hn, if_pos hn]
  · rw [if_neg hn, if_neg hn]
    obtain ⟨f, hfl, h3, h4, h5⟩ := fnd_pos hn
    rw [h3, Int.toNat_natCast, List.getD_eq_getElem?_getD, List.getD_eq_getElem?_getD]
    have hne : i ≠ f := by
      intro x
      subst x
      simp [En.is, h4, h5] at h1
    rw [List.getElem?_set_ne hne]

theorem getS_put {es : List En} {e : En} (hs : e.state ≠ 0) {i : Nat} (hi : i < es.length) (hp : plc e.line es = (i : Int)) : getS e.line (es.set i e) = (e, true) := by
  have hlt : ∀ j (hj : j < i), En.is e.line (es[j]'(Nat.lt_trans hj hi)) = false := by
    intro j hj
    unfold plc at hp
    by_cases hf : fnd e.line es < 0
    · exact (ix_neg hf).2 j (by omega)
    · rw [if_neg hf] at hp
      obtain ⟨f, hfl, h3, h4, h5⟩ := ix_pos hf
      unfold fnd at hp
      rw [h3] at hp
      exact h5 j (by omega)
  have hf : fnd e.line (es.set i e) = (i : Int) := by
    refine ix_at i (by simpa using hi) ?_ (fun j hj => ?_)
    · rw [List.getElem_set_self]; simp [En.is, hs]
    · rw [List.getElem_set_ne (by omega)]; exact hlt j hj
  unfold getS
  rw [hf, if_neg (by omega), Int.toNat_natCast, List.getD_eq_getElem?_getD, List.getElem?_set_self hi]
  rfl

theorem get_put {A : List St} (h0 : 0 < A.length) {e : En} (hr : e.right = true) (h : (putA A e).1 = 0) {l : Int} (hv : vld l = true) : getA (putA A e).2 l = if l = e.line then (e, true) else getA A l := by
  have hr' := hr
  simp only [En.right, decide_eq_true_eq] at hr'
  have hs : e.state ≠ 0 := by omega
  unfold putA at h ⊢
  rw [if_pos hr] at h ⊢
  by_cases hp : plc e.line (stA A e.line).2 < 0
  · rw [if_pos hp] at h; simp at h
  · rw [if_neg hp]
    obtain ⟨i, hi, h1, h2⟩ := plc_pos hp
    rw [h1, Int.toNat_natCast, getA_eq hv, stA_set h0]
    by_cases hl : l = e.line
    · subst hl
      rw [if_pos rfl, if_pos rfl]
      exact getS_put hs hi h1
    · rw [if_neg hl, getA_eq hv]
      by_cases hh : hm A l = hm A e.line
      · rw [if_pos hh, stA_same hh]
        refine getS_other hi ?_ ?_
        · rcases h2 with ⟨h3, _⟩ | ⟨_, h3, _⟩
          · simp [En.is, h3]
          · have : ¬ (e.line = l) := fun x => hl x.symm
            simp [En.is, h3, this]
        · have : ¬ (e.line = l) := fun x => hl x.symm
          simp [En.is, this]
      · rw [if_neg hh]

theorem get_touch {A : List St} (h0 : 0 < A.length) (l0 : Int) {l : Int} (hv : vld l = true) : getA (touchA A l0).2 l = getA A l := by
  unfold touchA
  split
  · split
    · rfl
    · rw [getA_eq hv, getA_eq hv, stA_set h0]
      by_cases hh : hm A l = hm A l0
      · rw [if_pos hh, stA_same hh]
      · rw [if_neg hh]
  · rfl

theorem get_drop {k : Nat} {A : List St} (H : OkA k A) (h0 : 0 < A.length) {l0 : Int} (hv0 : vld l0 = true) {l : Int} (hv : vld l = true) : getA (dropA A l0).2 l = if l = l0 then (En.zero, false) else getA A l := by
  unfold dropA
  rw [if_pos hv0]
  by_cases hf : fnd l0 (stA A l0).2 < 0
  · rw [if_pos hf]
    by_cases hl : l = l0
    · subst hl; rw [if_pos rfl, getA_eq hv, getS, if_pos hf]
    · rw [if_neg hl]
  · rw [if_neg hf]
    obtain ⟨i, hi, h1, h2, h3⟩ := fnd_pos hf
    obtain ⟨_, o1⟩ := H.at h0 l0
    rw [h1, Int.toNat_natCast, getA_eq hv, stA_set h0]
    by_cases hl : l = l0
    · subst hl
      rw [if_pos rfl, if_pos rfl]
      have : fnd l ((stA A l).2.set i En.zero) = -1 := by
        refine ix_none (fun j hj => ?_)
        rw [List.length_set] at hj
        by_cases x : j = i
        · subst x; rw [List.getElem_set_self]; rfl
        · rw [List.getElem_set_ne (fun y => x y.symm)]
          by_cases hs : ((stA A l).2[j]).state = 0
          · simp [En.is, hs]
          · have := o1.one j i hj hi x hs h2
            rw [h3] at this
            simp [En.is, this]
      unfold getS
      rw [this, if_pos (by decide)]
    · rw [if_neg hl, getA_eq hv]
      by_cases hh : hm A l = hm A l0
      · rw [if_pos hh, stA_same hh]
        refine getS_other hi ?_ (by simp [En.is, En.zero])
        have : ¬ (l0 = l) := fun x => hl x.symm
        simp [En.is, h3, this]
      · rw [if_neg hh]

theorem drop_get {A : List St} {l : Int} : (dropA A l).1 = (getA A l).2 := by
  unfold dropA getA
  split
  · split <;> rfl
  · rfl

theorem pigeon : ∀ a b c d e : Fin 4, a = b ∨ a = c ∨ a = d ∨ a = e ∨ b = c ∨ b = d ∨ b = e ∨ c = d ∨ c = e ∨ d = e := by decide +kernel

/-- With eight sets of eight ways there is always room. -/
theorem put_eight {A : List St} (H : OkA 8 A) (hl : A.length = 8) {e : En} (hr : e.right = true) : (putA A e).1 = 0 := by
  have h0 : 0 < A.length := by omega
  unfold putA
  rw [if_pos hr]
  by_cases hp : plc e.line (stA A e.line).2 < 0
  · exfalso
    obtain ⟨l1, o1⟩ := H.at h0 e.line
    have hq : ∀ j (hj : j < 8), ∃ f : Fin 4, ((stA A e.line).2[j]'(by omega)).line = ((hm A e.line : Nat) : Int) + 8 * (f.val : Int) := by
      intro j hj
      have hs := (plc_neg hp j (by omega)).1
      obtain ⟨a1, a2⟩ := o1.at_ j (by omega) hs
      rw [hl] at a2
      refine ⟨⟨(((stA A e.line).2[j]'(by omega)).line / 8).toNat, by omega⟩, ?_⟩
      simp only []
      omega
    have hd : ∀ i j (hi : i < 8) (hj : j < 8), i ≠ j → ((stA A e.line).2[i]'(by omega)).line ≠ ((stA A e.line).2[j]'(by omega)).line :=
      fun i j hi hj hij => o1.one i j (by omega) (by omega) hij (plc_neg hp i (by omega)).1 (plc_neg hp j (by omega)).1
    obtain ⟨f0, e0⟩ := hq 0 (by decide)
    obtain ⟨f1, e1⟩ := hq 1 (by decide)
    obtain ⟨f2, e2⟩ := hq 2 (by decide)
    obtain ⟨f3, e3⟩ := hq 3 (by decide)
    obtain ⟨f4, e4⟩ := hq 4 (by decide)
    rcases pigeon f0 f1 f2 f3 f4 with x | x | x | x | x | x | x | x | x | x
    · exact hd 0 1 (by decide) (by decide) (by decide) (by rw [e0, e1, x])
    · exact hd 0 2 (by decide) (by decide) (by decide) (by rw [e0, e2, x])
    · exact hd 0 3 (by decide) (by decide) (by decide) (by rw [e0, e3, x])
    · exact hd 0 4 (by decide) (by decide) (by decide) (by rw [e0, e4, x])
    · exact hd 1 2 (by decide) (by decide) (by decide) (by rw [e1, e2, x])
    · exact hd 1 3 (by decide) (by decide) (by decide) (by rw [e1, e3, x])
    · exact hd 1 4 (by decide) (by decide) (by decide) (by rw [e1, e4, x])
    · exact hd 2 3 (by decide) (by decide) (by decide) (by rw [e2, e3, x])
    · exact hd 2 4 (by decide) (by decide) (by decide) (by rw [e2, e4, x])
    · exact hd 3 4 (by decide) (by decide) (by decide) (by rw [e3, e4, x])
  · rw [if_neg hp]

theorem get_new {n k : Nat} {l : Int} (h0 : 0 < n) : getA (newA n k) l = (En.zero, false) := by
  unfold getA
  split
  · have hs : (stA (newA n k) l).2 = List.replicate k En.zero := by
      have h1 := stA_get (A := newA n k) (by simpa [newA] using h0) l
      have h2 := hm_lt (A := newA n k) (by simpa [newA] using h0) l
      rw [List.getElem?_eq_getElem h2] at h1
      rw [← Option.some.inj h1]
      simp [newA]
    have : fnd l (stA (newA n k) l).2 = -1 := by
      rw [hs]
      exact ix_none (fun j hj => by simp [En.is, En.zero])
    rw [this, if_pos (by decide)]
  · rfl

end Go.Proofs.YtcackmmfnojpfaaDoor
