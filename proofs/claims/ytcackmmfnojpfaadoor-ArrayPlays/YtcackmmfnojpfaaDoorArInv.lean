/- DERIVED of nothing: what always holds of an array's lines. Own work. -/
import Derived.Test.YtcackmmfnojpfaaDoorArPure
import Derived.Test.YtcackmmfnojpfaaDoorPlC
namespace Go.Proofs.YtcackmmfnojpfaaDoor

/-- A set h of n: its lines are at home there, and no line stands twice. -/
structure OkS (n h : Nat) (es : List En) : Prop where
  at_ : ∀ j (hj : j < es.length), (es[j]).state ≠ 0 → (0 ≤ (es[j]).line ∧ (es[j]).line ≤ 31) ∧ (es[j]).line % (n : Int) = (h : Int)
  one : ∀ i j (hi : i < es.length) (hj : j < es.length), i ≠ j → (es[i]).state ≠ 0 → (es[j]).state ≠ 0 → (es[i]).line ≠ (es[j]).line

def OkA (k : Nat) (A : List St) : Prop := ∀ i (hi : i < A.length), (A[i]).2.length = k ∧ OkS A.length i (A[i]).2

theorem OkS.clear {n h : Nat} {es : List En} (H : OkS n h es) (i : Nat) : OkS n h (es.set i En.zero) := by
  have hz : ∀ j (hj : j < (es.set i En.zero).length), ((es.set i En.zero)[j]).state ≠ 0 → ∃ hj' : j < es.length, j ≠ i ∧ (es.set i En.zero)[j] = es[j] := by
    intro j hj hs
    rw [List.length_set] at hj
    by_cases e : j = i
    · subst e; simp [En.zero] at hs
    · exact ⟨hj, e, by rw [List.getElem_set_ne (fun x => e x.symm)]⟩
  refine ⟨fun j hj hs => ?_, fun a b ha hb hab hsa hsb => ?_⟩
  · obtain ⟨h1, _, h2⟩ := hz j hj hs
    rw [h2] at hs ⊢
    exact H.at_ j h1 hs
  · obtain ⟨a1, _, a2⟩ := hz a ha hsa
    obtain ⟨b1, _, b2⟩ := hz b hb hsb
    rw [a2] at hsa ⊢
    rw [b2] at hsb ⊢
    exact H.one a b a1 b1 hab hsa hsb

theorem OkS.put {n h : Nat} {es : List En} (H : OkS n h es) (i : Nat) (e : En) (hv : 0 ≤ e.line ∧ e.line ≤ 31) (hh : e.line % (n : Int) = (h : Int))
    (hd : ∀ j (hj : j < es.length), j ≠ i → (es[j]).state ≠ 0 → (es[j]).line ≠ e.line) : OkS n h (es.set i e) := by
  refine ⟨fun j hj hs => ?_, fun a b ha hb hab hsa hsb => ?_⟩
  · rw [List.length_set] at hj
    by_cases x : j = i
    · subst x; simp only [List.getElem_set_self]; exact ⟨hv, hh⟩
    · rw [List.getElem_set_ne (fun y => x y.symm)] at hs ⊢
      exact H.at_ j hj hs
  · have ha' : a < es.length := by simpa using ha
    have hb' : b < es.length := by simpa using hb
    by_cases x : a = i
    · subst x
      rw [List.getElem_set_ne hab] at hsb ⊢
      simp only [List.getElem_set_self]
      exact fun y => hd b hb' (fun z => hab z.symm) hsb y.symm
    · rw [List.getElem_set_ne (fun y => x y.symm)] at hsa ⊢
      by_cases z : b = i
      · subst z
        simp only [List.getElem_set_self]
        exact hd a ha' hab hsa
      · rw [List.getElem_set_ne (fun y => z y.symm)] at hsb ⊢
        exact H.one a b ha' hb' hab hsa hsb

theorem OkA.set {k : Nat} {A : List St} (H : OkA k A) (h b : Nat) (es : List En) (hl : es.length = k) (ho : OkS A.length h es) : OkA k (A.set h (b, es)) := by
  intro i hi
  have hi' : i < A.length := by simpa using hi
  rw [List.length_set]
  by_cases e : i = h
  · subst e; simp only [List.getElem_set_self]; exact ⟨hl, ho⟩
  · rw [List.getElem_set_ne (fun x => e x.symm)]; exact H i hi'

theorem OkA.new (n k : Nat) : OkA k (newA n k) := by
  intro i hi
  simp only [newA, List.getElem_replicate, List.length_replicate, true_and]
  refine ⟨fun j hj hs => ?_, fun a b ha hb hab hsa => ?_⟩
  · simp [En.zero] at hs
  · simp [En.zero] at hsa

theorem OkA.at {k : Nat} {A : List St} (H : OkA k A) (h0 : 0 < A.length) (l : Int) : (stA A l).2.length = k ∧ OkS A.length (hm A l) (stA A l).2 := by
  have h1 := hm_lt h0 l
  have h2 := stA_get h0 l
  rw [List.getElem?_eq_getElem h1] at h2
  have h3 := H (hm A l) h1
  rw [Option.some.inj h2] at h3
  exact h3

/-- Nothing of that line there. -/
theorem fnd_neg {l : Int} {es : List En} (h : fnd l es < 0) (j : Nat) (hj : j < es.length) (hs : (es[j]).state ≠ 0) : (es[j]).line ≠ l := by
  have := (ix_neg h).2 j hj
  intro e
  simp [En.is, hs, e] at this
theorem fnd_pos {l : Int} {es : List En} (h : ¬ fnd l es < 0) : ∃ i, ∃ hi : i < es.length, fnd l es = (i : Int) ∧ (es[i]).state ≠ 0 ∧ (es[i]).line = l := by
  obtain ⟨i, hi, h1, h2, _⟩ := ix_pos h
  simp only [En.is, Bool.and_eq_true, bne_iff_ne, ne_eq, beq_iff_eq] at h2
  exact ⟨i, hi, h1, h2.1, h2.2⟩
theorem plc_neg {l : Int} {es : List En} (h : plc l es < 0) (j : Nat) (hj : j < es.length) : (es[j]).state ≠ 0 ∧ (es[j]).line ≠ l := by
  unfold plc at h
  by_cases hf : fnd l es < 0
  · rw [if_pos hf] at h
    have h1 := (ix_neg h).2 j hj
    have h2 : (es[j]).state ≠ 0 := by simpa [En.free] using h1
    exact ⟨h2, fnd_neg hf j hj h2⟩
  · rw [if_neg hf] at h; exact absurd h hf
theorem plc_pos {l : Int} {es : List En} (h : ¬ plc l es < 0) : ∃ i, ∃ _ : i < es.length, plc l es = (i : Int) ∧ ((es[i]).state = 0 ∧ fnd l es < 0 ∨ (es[i]).state ≠ 0 ∧ (es[i]).line = l ∧ fnd l es = (i : Int)) := by
  unfold plc at h ⊢
  by_cases hf : fnd l es < 0
  · rw [if_pos hf] at h ⊢
    obtain ⟨i, hi, h1, h2, _⟩ := ix_pos h
    exact ⟨i, hi, h1, .inl ⟨by simpa [En.free] using h2, hf⟩⟩
  · rw [if_neg hf]
    obtain ⟨i, hi, h1, h2, h3⟩ := fnd_pos hf
    exact ⟨i, hi, h1, .inr ⟨h2, h3, h1⟩⟩

theorem OkA.put {k : Nat} {A : List St} (H : OkA k A) (h0 : 0 < A.length) (e : En) : OkA k (putA A e).2 := by
  unfold putA
  split
  · next hr =>
    split
    · exact H
    · next hp =>
      obtain ⟨i, hi, h1, h2⟩ := plc_pos hp
      obtain ⟨l1, o1⟩ := H.at h0 e.line
      simp only [En.right, decide_eq_true_eq] at hr
      refine H.set _ _ _ (by rw [List.length_set]; exact l1) ?_
      rw [h1, Int.toNat_natCast]
      refine o1.put i e hr.1 (hm_cast h0 _).symm (fun j hj hji hs => ?_)
      rcases h2 with ⟨_, hf⟩ | ⟨hs2, hl2, _⟩
      · exact fnd_neg hf j hj hs
      · exact fun x => o1.one j i hj hi hji hs hs2 (x.trans hl2.symm)
  · exact H
theorem OkA.drop {k : Nat} {A : List St} (H : OkA k A) (h0 : 0 < A.length) (l : Int) : OkA k (dropA A l).2 := by
  unfold dropA
  split
  · split
    · exact H
    · obtain ⟨l1, o1⟩ := H.at h0 l
      exact H.set _ _ _ (by rw [List.length_set]; exact l1) (o1.clear _)
  · exact H
theorem OkA.touch {k : Nat} {A : List St} (H : OkA k A) (h0 : 0 < A.length) (l : Int) : OkA k (touchA A l).2 := by
  unfold touchA
  split
  · split
    · exact H
    · obtain ⟨l1, o1⟩ := H.at h0 l
      exact H.set _ _ _ l1 o1
  · exact H

theorem putA_len (A : List St) (e : En) : (putA A e).2.length = A.length := by
  unfold putA; split
  · split <;> simp
  · rfl
theorem dropA_len (A : List St) (l : Int) : (dropA A l).2.length = A.length := by
  unfold dropA; split
  · split <;> simp
  · rfl
theorem touchA_len (A : List St) (l : Int) : (touchA A l).2.length = A.length := by
  unfold touchA; split
  · split <;> simp
  · rfl

theorem hm_same {A : List St} {l v : Int} (h : v % (A.length : Int) = ((hm A l : Nat) : Int)) : hm A v = hm A l := by
  have h1 := congrArg Int.toNat h
  rw [Int.toNat_natCast] at h1
  exact h1
theorem stA_same {A : List St} {l v : Int} (h : hm A v = hm A l) : stA A v = stA A l := by
  unfold stA; rw [h]

/-- What the looks of a line that has no room come to. -/
structure NoRoom (k : Nat) (A : List St) (l v : Int) : Prop where
  vic : vicA A l [] = v
  pos : 0 ≤ v ∧ v ≤ 31
  home : v % (A.length : Int) = l % (A.length : Int)
  get : ∃ e, getA A v = (e, true) ∧ e.line = v
  not : vicA A l [v] ≠ v
  drop : (dropA A v).1 = true
  room : roomA (dropA A v).2 l = true

theorem loose_not {v : Int} (hv : v ≠ -1) : ∀ es : List En, loose [v] es ≠ v
  | [] => fun h => hv h.symm
  | e :: r => by
    unfold loose
    split
    · exact loose_not hv r
    · next h =>
      intro x
      exact h (by simp [x])

theorem fnd_some {l : Int} {es : List En} {j : Nat} (hj : j < es.length) (hs : (es[j]).state ≠ 0) (hl : (es[j]).line = l) : ¬ fnd l es < 0 :=
  fun h => fnd_neg h j hj hs hl

theorem no_room {k : Nat} {A : List St} (H : OkA k A) (h0 : 0 < A.length) (hk : isW (k : Int)) (hb : ∀ i (hi : i < A.length), (A[i]).1 < 256) {l : Int} (hv : vld l = true) (hr : roomA A l = false) : ∃ v, NoRoom k A l v := by
  obtain ⟨l1, o1⟩ := H.at h0 l
  have hp : plc l (stA A l).2 < 0 := by
    unfold roomA at hr
    rw [hv, Bool.true_and, decide_eq_false_iff_not] at hr
    omega
  have hg := stA_get h0 l
  have hlt := hm_lt h0 l
  rw [List.getElem?_eq_getElem hlt] at hg
  have hb1 : (stA A l).1 < 256 := by have := hb _ hlt; rwa [Option.some.inj hg] at this
  obtain ⟨v1, v2⟩ := viced hk hb1
  obtain ⟨vi, hvi⟩ : ∃ vi : Nat, victimI (stA A l).1 (k : Int) = (vi : Int) := ⟨(victimI (stA A l).1 (k : Int)).toNat, by omega⟩
  have hvk : vi < (stA A l).2.length := by omega
  obtain ⟨s1, s2⟩ := plc_neg hp vi hvk
  obtain ⟨a1, a2⟩ := o1.at_ vi hvk s1
  have hst : stA A ((stA A l).2[vi]).line = stA A l := stA_same (hm_same a2)
  have hhm : hm A ((stA A l).2[vi]).line = hm A l := hm_same a2
  have hvv : vld ((stA A l).2[vi]).line = true := by simpa [vld] using a1
  have hf : ¬ fnd ((stA A l).2[vi]).line (stA A l).2 < 0 := fnd_some hvk s1 rfl
  obtain ⟨fi, hfi, f1, f2, f3⟩ := fnd_pos hf
  refine ⟨((stA A l).2[vi]).line, ?_, a1, by rw [a2, hm_cast h0], ⟨(stA A l).2[fi], ?_, f3⟩, ?_, ?_, ?_⟩
  · unfold vicA
    rw [if_pos hv, if_pos hp, l1, hvi, Int.toNat_natCast, List.getD_eq_getElem?_getD, List.getElem?_eq_getElem hvk]
    simp
  · unfold getA
    rw [if_pos hvv, hst, if_neg hf, f1, Int.toNat_natCast, List.getD_eq_getElem?_getD, List.getElem?_eq_getElem hfi]
    rfl
  · unfold vicA
    rw [if_pos hv, if_pos hp, l1, hvi, Int.toNat_natCast, List.getD_eq_getElem?_getD, List.getElem?_eq_getElem hvk]
    simp only [Option.getD_some]
    rw [if_pos (by simp)]
    exact loose_not (by omega) _
  · unfold dropA
    rw [if_pos hvv, hst, if_neg hf]
  · unfold dropA
    rw [if_pos hvv, hst, if_neg hf, hhm, f1, Int.toNat_natCast]
    unfold roomA
    rw [hv, Bool.true_and, decide_eq_true_eq]
    have e1 : stA (A.set (hm A l) ((stA A l).1, (stA A l).2.set fi En.zero)) l = ((stA A l).1, (stA A l).2.set fi En.zero) := by
      simp [stA, hm, List.getD_eq_getElem?_getD]
      rw [List.getElem?_set_self (by simpa [hm] using hlt)]
      rfl
    rw [e1]
    rcases Int.lt_or_le (plc l ((stA A l).2.set fi En.zero)) 0 with hx | hx
    · have := (plc_neg hx fi (by rw [List.length_set]; exact hfi)).1
      simp [En.zero] at this
    · exact hx

theorem vic_room {A : List St} {l : Int} {P : List Int} (h : roomA A l = true) : vicA A l P = -1 := by
  unfold roomA at h
  simp only [Bool.and_eq_true, decide_eq_true_eq] at h
  unfold vicA
  rw [if_pos h.1, if_neg (by omega)]

/-- A line that has room is put. -/
theorem put_room {A : List St} {l : Int} (h : roomA A l = true) : (putA A (En.one l)).1 = 0 := by
  unfold roomA at h
  simp only [Bool.and_eq_true, decide_eq_true_eq] at h
  have hv := vld_of h.1
  unfold putA
  rw [if_pos (by simpa [En.right, En.one] using hv), if_neg (by show ¬ plc l (stA A l).2 < 0; omega)]

/-- The lines of a list are apart, and of the machine. -/
theorem list_mem {A : List St} {e : En} (h : e ∈ listA A) : ∃ i, ∃ hi : i < A.length, ∃ j, ∃ hj : j < (A[i]).2.length, (A[i]).2[j] = e ∧ e.state ≠ 0 := by
  simp only [listA, List.mem_filter, List.mem_flatMap] at h
  obtain ⟨⟨s, hs, he⟩, hf⟩ := h
  obtain ⟨i, hi, rfl⟩ := List.getElem_of_mem hs
  obtain ⟨j, hj, h1⟩ := List.getElem_of_mem he
  exact ⟨i, hi, j, hj, h1, by simpa [En.free] using hf⟩

theorem list_rng {k : Nat} {A : List St} (H : OkA k A) {e : En} (h : e ∈ listA A) : 0 ≤ e.line ∧ e.line ≤ 31 := by
  obtain ⟨i, hi, j, hj, rfl, hs⟩ := list_mem h
  exact ((H i hi).2.at_ j hj hs).1

theorem list_apart {k : Nat} {A : List St} (H : OkA k A) : (listA A).Pairwise (fun a b => a.line ≠ b.line) := by
  unfold listA
  rw [List.pairwise_filter, List.pairwise_flatMap]
  constructor
  · intro s hs
    obtain ⟨i, hi, rfl⟩ := List.getElem_of_mem hs
    rw [List.pairwise_iff_getElem]
    intro a b ha hb hab f1 f2
    exact (H i hi).2.one a b ha hb (by omega) (by simpa [En.free] using f1) (by simpa [En.free] using f2)
  · rw [List.pairwise_iff_getElem]
    intro a b ha hb hab x hx y hy f1 f2
    obtain ⟨i, hi, rfl⟩ := List.getElem_of_mem hx
    obtain ⟨j, hj, rfl⟩ := List.getElem_of_mem hy
    have h1 := ((H a ha).2.at_ i hi (by simpa [En.free] using f1)).2
    have h2 := ((H b hb).2.at_ j hj (by simpa [En.free] using f2)).2
    intro e
    rw [e, h2] at h1
    omega

/-- How many lines of a residue. -/
def cnt (n : Nat) (r : Int) (L : List En) : Nat := L.countP fun e => e.line % (n : Int) == r

theorem cnt_sets {n k : Nat} (r : Int) : ∀ (B : List St) (o : Nat), (∀ i (hi : i < B.length), (B[i]).2.length = k ∧ ∀ e ∈ (B[i]).2, e.state ≠ 0 → e.line % (n : Int) = ((o + i : Nat) : Int)) → cnt n r (listA B) ≤ k ∧ (r < (o : Int) → cnt n r (listA B) = 0)
  | [], _, _ => by simp [listA, cnt]
  | s :: B, o, h => by
    have h0 := h 0 (by simp)
    have ht := cnt_sets (n := n) (k := k) r B (o + 1) (fun i hi => by
      have := h (i + 1) (by simpa using hi)
      simp only [List.getElem_cons_succ] at this
      exact ⟨this.1, fun e he hs => by rw [this.2 e he hs]; congr 1; omega⟩)
    have e1 : cnt n r (listA (s :: B)) = cnt n r (s.2.filter (fun e => !e.free)) + cnt n r (listA B) := by
      simp [listA, cnt, List.filter_append, List.countP_append]
    simp only [List.getElem_cons_zero] at h0
    have hle : cnt n r (s.2.filter (fun e => !e.free)) ≤ k := by
      have h1 : cnt n r (s.2.filter (fun e => !e.free)) ≤ (s.2.filter (fun e => !e.free)).length := List.countP_le_length
      have h2 := List.length_filter_le (fun e : En => !e.free) s.2
      omega
    have hz : r ≠ (o : Int) → cnt n r (s.2.filter (fun e => !e.free)) = 0 := by
      intro hro
      unfold cnt
      rw [List.countP_eq_zero]
      intro e he
      rw [List.mem_filter] at he
      have := h0.2 e he.1 (by simpa [En.free] using he.2)
      rw [this]
      simp only [Nat.add_zero, beq_iff_eq]
      exact fun x => hro x.symm
    rw [e1]
    by_cases hro : r = (o : Int)
    · have := ht.2 (by omega)
      exact ⟨by omega, fun x => by omega⟩
    · have := hz hro
      exact ⟨by omega, fun x => by have := ht.2 (by omega); omega⟩

theorem cnt_le {k : Nat} {A : List St} (H : OkA k A) (r : Int) : cnt A.length r (listA A) ≤ k :=
  (cnt_sets r A 0 (fun i hi => ⟨(H i hi).1, fun e he hs => by
    obtain ⟨j, hj, rfl⟩ := List.getElem_of_mem he
    rw [((H i hi).2.at_ j hj hs).2, Nat.zero_add]⟩)).1
theorem cnt_take (n : Nat) (r : Int) (L : List En) (j : Nat) : cnt n r (L.take j) ≤ cnt n r L := by
  unfold cnt
  exact (List.take_sublist j L).countP_le
theorem cnt_succ (n : Nat) (r : Int) {L : List En} {j : Nat} (h : j < L.length) : cnt n r (L.take (j + 1)) = cnt n r (L.take j) + (if (L[j]).line % (n : Int) = r then 1 else 0) := by
  unfold cnt
  rw [List.take_succ_eq_append_getElem h, List.countP_append]
  congr 1
  by_cases e : (L[j]).line % (n : Int) = r <;> simp [e]
/-- Was a line seen among the first? -/
def seen (l : Int) (L : List En) : Bool := L.any fun e => e.line == l
theorem seen_succ (l : Int) {L : List En} {j : Nat} (h : j < L.length) : seen l (L.take (j + 1)) = (seen l (L.take j) || (L[j]).line == l) := by
  unfold seen
  rw [List.take_succ_eq_append_getElem h, List.any_append]
  simp
theorem seen_not {L : List En} (hp : L.Pairwise (fun a b => a.line ≠ b.line)) {j : Nat} (h : j < L.length) : seen (L[j]).line (L.take j) = false := by
  unfold seen
  rw [List.any_eq_false]
  intro x hx
  obtain ⟨i, hi, rfl⟩ := List.getElem_of_mem hx
  rw [List.length_take] at hi
  have := (List.pairwise_iff_getElem.1 hp) i j (by omega) h (by omega)
  simpa using this

/-- What was put stands in the list. -/
theorem put_list {A : List St} (h0 : 0 < A.length) {e : En} (h : (putA A e).1 = 0) (hs : e.state ≠ 0) : e ∈ listA (putA A e).2 := by
  unfold putA at h ⊢
  split at h
  · next hr =>
    rw [if_pos hr]
    split at h
    · simp at h
    · next hp =>
      rw [if_neg hp]
      obtain ⟨i, hi, h1, _⟩ := plc_pos hp
      simp only [listA, List.mem_filter, List.mem_flatMap]
      refine ⟨⟨((stA A e.line).1, (stA A e.line).2.set (plc e.line (stA A e.line).2).toNat e), List.mem_set (hm_lt h0 _) _, ?_⟩, by simpa [En.free] using hs⟩
      rw [h1, Int.toNat_natCast]
      exact List.mem_set hi _
  · simp at h
theorem touch_list (A : List St) (h0 : 0 < A.length) (l : Int) : listA (touchA A l).2 = listA A := by
  unfold touchA
  split
  · split
    · rfl
    · unfold listA
      congr 1
      have hg := stA_get h0 l
      have hlt := hm_lt h0 l
      rw [List.getElem?_eq_getElem hlt] at hg
      have hg' := Option.some.inj hg
      simp only []
      rw [List.flatMap_def, List.flatMap_def]
      congr 1
      apply List.ext_getElem?
      intro i
      rw [List.getElem?_map, List.getElem?_map]
      by_cases e : i = hm A l
      · subst e; rw [List.getElem?_set_self hlt, List.getElem?_eq_getElem hlt, hg']; rfl
      · rw [List.getElem?_set_ne (fun x => e x.symm)]
  · rfl

end Go.Proofs.YtcackmmfnojpfaaDoor
