/- DERIVED of the program: messages on their way as rows of tuples: places, what fits, what is sent and taken. Own work. -/
import Derived.Test.YtakomlmbdienpaaDoorSgH
namespace Go.Proofs.YtakomlmbdienpaaDoor

/-- Where a pool stands among all of them. -/
def plN (cs : Nat) (p c : Int) : Option Nat :=
  if p = 0 then some 0 else if p = 2 then some 1 else if p = 1 ∧ 0 ≤ c ∧ c < cs then some (2 + 2 * c.toNat) else if p = 3 ∧ 0 ≤ c ∧ c < cs then some (3 + 2 * c.toNat) else none
def plI (cs : Nat) (p c : Int) : Int := match plN cs p c with
  | some n => (n : Int)
  | none => -1
theorem plN_lt {cs : Nat} {p c : Int} {i : Nat} (h : plN cs p c = some i) : i < 2 + 2 * cs := by
  unfold plN at h
  split at h
  · cases h; omega
  · split at h
    · cases h; omega
    · split at h
      · cases h; omega
      · split at h
        · cases h; omega
        · cases h
theorem plI_some {cs : Nat} {p c : Int} {i : Nat} (h : plN cs p c = some i) : plI cs p c = (i : Int) := by unfold plI; rw [h]
theorem plI_none {cs : Nat} {p c : Int} (h : plN cs p c = none) : plI cs p c = -1 := by unfold plI; rw [h]
theorem plN_0 (cs : Nat) (c : Int) : plN cs 0 c = some 0 := rfl
theorem plN_2 (cs : Nat) (c : Int) : plN cs 2 c = some 1 := rfl
theorem plN_1 {cs : Nat} {c : Int} (h : 0 ≤ c ∧ c < cs) : plN cs 1 c = some (2 + 2 * c.toNat) := by unfold plN; rw [if_neg (by decide), if_neg (by decide), if_pos ⟨rfl, h⟩]
theorem plN_1no {cs : Nat} {c : Int} (h : ¬ (0 ≤ c ∧ c < cs)) : plN cs 1 c = none := by unfold plN; rw [if_neg (by decide), if_neg (by decide), if_neg (fun h' => h h'.2), if_neg (fun h' => absurd h'.1 (by decide))]
theorem plN_3 {cs : Nat} {c : Int} (h : 0 ≤ c ∧ c < cs) : plN cs 3 c = some (3 + 2 * c.toNat) := by unfold plN; rw [if_neg (by decide), if_neg (by decide), if_neg (fun h' => absurd h'.1 (by decide)), if_pos ⟨rfl, h⟩]
theorem plN_3no {cs : Nat} {c : Int} (h : ¬ (0 ≤ c ∧ c < cs)) : plN cs 3 c = none := by unfold plN; rw [if_neg (by decide), if_neg (by decide), if_neg (fun h' => absurd h'.1 (by decide)), if_neg (fun h' => h h'.2)]
theorem plN_no {cs : Nat} {p c : Int} (h0 : p ≠ 0) (h1 : p ≠ 1) (h2 : p ≠ 2) (h3 : p ≠ 3) : plN cs p c = none := by unfold plN; rw [if_neg h0, if_neg h2, if_neg (fun h => h1 h.1), if_neg (fun h => h3 h.1)]

/-- How many are in a pool. -/
def lenF (P : List (List M13)) (i : Nat) : Nat := (P.getD i []).length
/-- May it be sent, were there room? -/
noncomputable def okM (cs : Nat) (m : M13) : Bool := rtB m && decide (m.2.1 < (cs : Int))
/-- The pool that it goes through. -/
def thM (cs : Nat) (m : M13) : Nat := (plN cs (poolS m.1) m.2.1).getD 0
theorem okM_th {cs : Nat} {m : M13} (h : okM cs m = true) : plN cs (poolS m.1) m.2.1 = some (thM cs m) ∧ thM cs m < 2 + 2 * cs := by
  obtain ⟨k, c, l, t, o, e, w, v, d0, d1, d2, d3, hh⟩ := m
  unfold okM at h
  simp only [Bool.and_eq_true, decide_eq_true_eq, rtB_iff] at h
  obtain ⟨hr, hc⟩ := h
  have hk : (1 ≤ k ∧ k ≤ 15) ∧ 0 ≤ c := by unfold rtP at hr; exact ⟨hr.1, hr.2.1.1⟩
  have hp : poolS k = 0 ∨ poolS k = 1 ∨ poolS k = 2 ∨ poolS k = 3 := by unfold poolS; split; (· exact .inl rfl); split; (· exact .inr (.inl rfl)); split; (· exact .inr (.inr (.inl rfl))); split; (· exact .inr (.inr (.inr rfl))); omega
  have h1 : ∃ i, plN cs (poolS k) c = some i := by
    rcases hp with e | e | e | e <;> rw [e]
    · exact ⟨_, plN_0 _ _⟩
    · exact ⟨_, plN_1 ⟨hk.2, hc⟩⟩
    · exact ⟨_, plN_2 _ _⟩
    · exact ⟨_, plN_3 ⟨hk.2, hc⟩⟩
  obtain ⟨i, hi⟩ := h1
  unfold thM
  simp only [hi, Option.getD_some]
  exact ⟨trivial, plN_lt hi⟩

/-- One more is sent. -/
def putF (cs : Nat) (P : List (List M13)) (m : M13) : List (List M13) := P.set (thM cs m) (P.getD (thM cs m) [] ++ [m])
def putsF (cs : Nat) (P : List (List M13)) (l : List M13) : List (List M13) := l.foldl (putF cs) P
theorem len_putF (cs : Nat) (P : List (List M13)) (m : M13) : (putF cs P m).length = P.length := List.length_set
theorem len_putsF (cs : Nat) : ∀ (l : List M13) (P : List (List M13)), (putsF cs P l).length = P.length
  | [], _ => rfl
  | m :: r, P => by show (putsF cs (putF cs P m) r).length = _; rw [len_putsF cs r, len_putF]
theorem lenF_putF {cs : Nat} {P : List (List M13)} {m : M13} (h : thM cs m < P.length) (i : Nat) : lenF (putF cs P m) i = lenF P i + if thM cs m = i then 1 else 0 := by
  unfold lenF putF
  by_cases e : thM cs m = i
  · subst e
    rw [if_pos rfl]
    simp [List.getD, h]
  · rw [if_neg e]
    simp [List.getD, List.getElem?_set_ne e]
theorem putsF_snoc (cs : Nat) (P : List (List M13)) (l : List M13) (m : M13) : putsF cs P (l ++ [m]) = putF cs (putsF cs P l) m := by simp [putsF, List.foldl_append]
theorem putsF_take {cs : Nat} {P : List (List M13)} {l : List M13} {j : Nat} {m : M13} (h : l[j]? = some m) : putsF cs P (l.take (j + 1)) = putF cs (putsF cs P (l.take j)) m := by
  rw [List.take_add_one, h, Option.toList_some, putsF_snoc]

/-- The first of a row that has no room, those ahead of it having taken theirs. -/
def fullF (cs rm : Nat) : List (List M13) → List M13 → Option Nat
  | _, [] => none
  | P, m :: r => if rm ≤ lenF P (thM cs m) then some 0 else (fullF cs rm (putF cs P m) r).map (· + 1)
theorem fullF_some {cs rm : Nat} : ∀ {l : List M13} {P : List (List M13)} {i : Nat}, (∀ j m, j < i → l[j]? = some m → lenF (putsF cs P (l.take j)) (thM cs m) < rm) → (∀ m, l[i]? = some m → rm ≤ lenF (putsF cs P (l.take i)) (thM cs m)) → i < l.length → fullF cs rm P l = some i
  | [], _, i, _, _, h => absurd h (Nat.not_lt_zero _)
  | m :: r, P, 0, _, h2, _ => by
    unfold fullF
    have h3 : rm ≤ lenF P (thM cs m) := h2 m rfl
    rw [if_pos h3]
  | m :: r, P, i + 1, h1, h2, h3 => by
    unfold fullF
    have h4 : lenF P (thM cs m) < rm := h1 0 m (Nat.succ_pos _) rfl
    rw [if_neg (Nat.not_le_of_lt h4)]
    rw [fullF_some (l := r) (P := putF cs P m) (i := i) (fun j x hj hx => h1 (j + 1) x (Nat.succ_lt_succ hj) hx) (fun x hx => h2 x hx) (Nat.lt_of_succ_lt_succ h3)]
    rfl
theorem fullF_none {cs rm : Nat} : ∀ {l : List M13} {P : List (List M13)}, (∀ j m, l[j]? = some m → lenF (putsF cs P (l.take j)) (thM cs m) < rm) → fullF cs rm P l = none
  | [], _, _ => rfl
  | m :: r, P, h1 => by
    unfold fullF
    have h4 : lenF P (thM cs m) < rm := h1 0 m rfl
    rw [if_neg (Nat.not_le_of_lt h4), fullF_none (l := r) (P := putF cs P m) (fun j x hx => h1 (j + 1) x hx)]
    rfl
theorem fullF_lt {cs rm : Nat} : ∀ {l : List M13} {P : List (List M13)}, fullF cs rm P l = none → ∀ j m, l[j]? = some m → lenF (putsF cs P (l.take j)) (thM cs m) < rm
  | [], _, _, _, _, h => by simp at h
  | m :: r, P, h, 0, x, hx => by
    obtain rfl : m = x := by simpa using hx
    unfold fullF at h
    split at h
    · cases h
    · rename_i hn
      exact Nat.lt_of_not_le hn
  | m :: r, P, h, j + 1, x, hx => by
    unfold fullF at h
    split at h
    · cases h
    · rw [Option.map_eq_none_iff] at h
      exact fullF_lt (l := r) h j x hx
theorem fullF_le {cs rm : Nat} : ∀ {l : List M13} {P : List (List M13)} {i : Nat}, fullF cs rm P l = some i → i < l.length ∧ (∀ j m, j < i → l[j]? = some m → lenF (putsF cs P (l.take j)) (thM cs m) < rm) ∧ ∀ m, l[i]? = some m → rm ≤ lenF (putsF cs P (l.take i)) (thM cs m)
  | [], _, _, h => by unfold fullF at h; cases h
  | m :: r, P, i, h => by
    unfold fullF at h
    split at h
    · rename_i hm
      cases h
      refine ⟨Nat.succ_pos _, fun j _ hj => absurd hj (Nat.not_lt_zero _), fun x hx => ?_⟩
      rw [List.getElem?_cons_zero] at hx
      cases hx
      exact hm
    · rename_i hm
      obtain ⟨k, hk, rfl⟩ := Option.map_eq_some_iff.1 h
      obtain ⟨a, b, c⟩ := fullF_le (l := r) hk
      refine ⟨Nat.succ_lt_succ a, fun j x hj hx => ?_, fun x hx => c x hx⟩
      cases j with
      | zero =>
        obtain rfl : m = x := by simpa using hx
        exact Nat.lt_of_not_le hm
      | succ j => exact b j x (Nat.lt_of_succ_lt_succ hj) hx

/-- The first of a row that can't be. -/
noncomputable def badF (cs : Nat) (l : List M13) : Option Nat := l.findIdx? (fun m => !okM cs m)
theorem badF_some {cs : Nat} {l : List M13} {i : Nat} (h1 : ∀ (j : Nat) (m : M13), j < i → l[j]? = some m → okM cs m = true) (h2 : ∃ m, l[i]? = some m ∧ okM cs m = false) : badF cs l = some i := by
  obtain ⟨m, hm, hf⟩ := h2
  unfold badF
  obtain ⟨hl, he⟩ := List.getElem?_eq_some_iff.1 hm
  rw [List.findIdx?_eq_some_iff_getElem]
  refine ⟨hl, by rw [he, hf]; rfl, fun j hj => ?_⟩
  rw [h1 j l[j] hj (List.getElem?_eq_getElem (by omega))]
  decide
theorem badF_none {cs : Nat} {l : List M13} (h : ∀ (j : Nat) (m : M13), l[j]? = some m → okM cs m = true) : badF cs l = none := by
  unfold badF
  rw [List.findIdx?_eq_none_iff]
  intro m hm
  obtain ⟨j, hj⟩ := List.mem_iff_getElem?.1 hm
  simp only [h j m hj, Bool.not_true]
theorem badF_ok {cs : Nat} {l : List M13} (h : badF cs l = none) : ∀ m ∈ l, okM cs m = true := by
  unfold badF at h
  rw [List.findIdx?_eq_none_iff] at h
  intro m hm
  have := h m hm
  simpa using this
theorem badF_lt {cs : Nat} {l : List M13} {i : Nat} (h : badF cs l = some i) : i < l.length := by
  unfold badF at h
  rw [List.findIdx?_eq_some_iff_getElem] at h
  exact h.1

/-- What Send says: a code and a place. -/
noncomputable def fitsF (cs rm : Nat) (P : List (List M13)) (l : List M13) : Nat × Nat := match badF cs l with
  | some i => (1, i)
  | none => match fullF cs rm P l with
    | some i => (6, i)
    | none => (0, 0)
theorem fitsF_bad {cs rm : Nat} {P : List (List M13)} {l : List M13} {i : Nat} (h : badF cs l = some i) : fitsF cs rm P l = (1, i) := by unfold fitsF; rw [h]
theorem fitsF_full {cs rm : Nat} {P : List (List M13)} {l : List M13} {i : Nat} (h : badF cs l = none) (h' : fullF cs rm P l = some i) : fitsF cs rm P l = (6, i) := by unfold fitsF; rw [h, h']
theorem fitsF_ok {cs rm : Nat} {P : List (List M13)} {l : List M13} (h : badF cs l = none) (h' : fullF cs rm P l = none) : fitsF cs rm P l = (0, 0) := by unfold fitsF; rw [h, h']
theorem fitsF_code (cs rm : Nat) (P : List (List M13)) (l : List M13) : (fitsF cs rm P l).1 ≤ 10 := by
  unfold fitsF
  split
  · simp
  · split <;> simp
theorem fitsF_zero {cs rm : Nat} {P : List (List M13)} {l : List M13} (h : (fitsF cs rm P l).1 = 0) : badF cs l = none ∧ fullF cs rm P l = none := by
  unfold fitsF at h
  split at h
  · cases h
  · rename_i hb
    split at h
    · cases h
    · rename_i hf
      exact ⟨hb, hf⟩
/-- What is on its way behind a Send. -/
noncomputable def sentF (cs rm : Nat) (P : List (List M13)) (l : List M13) : List (List M13) := if (fitsF cs rm P l).1 = 0 then putsF cs P l else P

/-- What a fabric of so many cores and so much room may have. -/
structure FbOk (cs rm : Nat) (P : List (List M13)) : Prop where
  len : P.length = 2 + 2 * cs
  room : ∀ i, lenF P i ≤ rm
  cs1 : 1 ≤ cs
  cs64 : cs ≤ 64
  rm1 : 1 ≤ rm
  rm64 : rm ≤ 64
theorem FbOk.puts {cs rm : Nat} {P : List (List M13)} {l : List M13} (h : FbOk cs rm P) (hb : ∀ m ∈ l, okM cs m = true) (hf : fullF cs rm P l = none) : FbOk cs rm (putsF cs P l) := by
  refine ⟨by rw [len_putsF]; exact h.len, fun i => ?_, h.cs1, h.cs64, h.rm1, h.rm64⟩
  have key : ∀ j, j ≤ l.length → ∀ i, lenF (putsF cs P (l.take j)) i ≤ rm := by
    intro j
    induction j with
    | zero => intro _ i; exact h.room i
    | succ j ih =>
      intro hj i
      have hm : l[j]? = some l[j] := List.getElem?_eq_getElem (by omega)
      rw [putsF_take hm, lenF_putF (by rw [len_putsF, h.len]; exact (okM_th (hb _ (List.getElem_mem _))).2)]
      have h1 := fullF_lt hf j _ hm
      have h2 := ih (by omega) i
      split
      · rename_i e
        rw [e] at h1
        omega
      · omega
  have := key l.length (Nat.le_refl _) i
  rwa [List.take_length] at this
theorem FbOk.sent {cs rm : Nat} {P : List (List M13)} (h : FbOk cs rm P) (l : List M13) : FbOk cs rm (sentF cs rm P l) := by
  unfold sentF
  split
  · rename_i e
    obtain ⟨a, b⟩ := fitsF_zero e
    exact h.puts (badF_ok a) b
  · exact h

/-- Peek, Take. -/
def peekF (cs : Nat) (P : List (List M13)) (p c k : Int) : M13 × Bool := match plN cs p c with
  | none => (zero13, false)
  | some i => if 0 ≤ k ∧ k < (lenF P i : Int) then ((P.getD i []).getD k.toNat zero13, true) else (zero13, false)
def tookF (cs : Nat) (P : List (List M13)) (p c k : Int) : List (List M13) := match plN cs p c with
  | none => P
  | some i => if 0 ≤ k ∧ k < (lenF P i : Int) then P.set i ((P.getD i []).eraseIdx k.toNat) else P
def lenP (cs : Nat) (P : List (List M13)) (p c : Int) : Nat := match plN cs p c with
  | none => 0
  | some i => lenF P i
theorem FbOk.took {cs rm : Nat} {P : List (List M13)} (h : FbOk cs rm P) (p c k : Int) : FbOk cs rm (tookF cs P p c k) := by
  unfold tookF
  split
  · exact h
  · rename_i i hi
    split
    · rename_i hk
      refine ⟨by rw [List.length_set]; exact h.len, fun j => ?_, h.cs1, h.cs64, h.rm1, h.rm64⟩
      have hl := plN_lt hi
      have h1 := h.room j
      unfold lenF at h1 ⊢
      by_cases e : i = j
      · subst e
        have h2 : ((P.getD i []).eraseIdx k.toNat).length ≤ (P.getD i []).length := by rw [List.length_eraseIdx]; split <;> omega
        simp only [List.getD, List.getElem?_set_self (by rw [h.len]; exact hl), Option.getD_some] at h2 ⊢
        exact Nat.le_trans h2 h1
      · simp only [List.getD, List.getElem?_set_ne e] at h1 ⊢
        exact h1
    · exact h

/-- How many in all. -/
def allF (P : List (List M13)) : Nat := (P.map List.length).sum
theorem allF_set {i : Nat} {L : List M13} : ∀ {P : List (List M13)}, i < P.length → allF (P.set i L) + lenF P i = allF P + L.length := by
  intro P
  induction P generalizing i with
  | nil => intro h; simp at h
  | cons a r ih =>
    intro h
    cases i with
    | zero => simp [allF, lenF]; omega
    | succ i =>
      have := ih (i := i) (by simpa using h)
      simp [allF, lenF] at this ⊢
      omega
theorem allF_put {cs : Nat} {P : List (List M13)} {m : M13} (h : thM cs m < P.length) : allF (putF cs P m) = allF P + 1 := by
  have := allF_set (L := P.getD (thM cs m) [] ++ [m]) h
  unfold putF
  unfold lenF at this
  rw [List.length_append, List.length_singleton] at this
  omega
theorem allF_puts {cs : Nat} : ∀ {l : List M13} {P : List (List M13)}, P.length = 2 + 2 * cs → (∀ m ∈ l, okM cs m = true) → allF (putsF cs P l) = allF P + l.length
  | [], _, _, _ => rfl
  | m :: r, P, hP, h => by
    have h1 := allF_put (m := m) (P := P) (by rw [hP]; exact (okM_th (h m List.mem_cons_self)).2)
    have h2 := allF_puts (l := r) (P := putF cs P m) (by rw [len_putF]; exact hP) (fun x hx => h x (List.mem_cons_of_mem _ hx))
    show allF (putsF cs (putF cs P m) r) = _
    rw [h2, h1, List.length_cons]
    omega
theorem allF_le {rm : Nat} : ∀ {P : List (List M13)}, (∀ i, lenF P i ≤ rm) → allF P ≤ P.length * rm
  | [], _ => by simp [allF]
  | a :: r, h => by
    have h0 := h 0
    have h1 := allF_le (P := r) (fun i => by have := h (i + 1); simpa [lenF] using this)
    simp [allF, lenF] at h0 h1 ⊢
    rw [Nat.add_mul]
    omega
/-- Nothing on its way. -/
def noneF (cs : Nat) : List (List M13) := List.replicate (2 + 2 * cs) []
theorem FbOk.none {cs rm : Nat} (h1 : 1 ≤ cs) (h2 : cs ≤ 64) (h3 : 1 ≤ rm) (h4 : rm ≤ 64) : FbOk cs rm (noneF cs) := by
  refine ⟨List.length_replicate, fun i => ?_, h1, h2, h3, h4⟩
  unfold lenF noneF
  simp only [List.getD, List.getElem?_replicate]
  split <;> simp
theorem allF_none (cs : Nat) : allF (noneF cs) = 0 := by simp [allF, noneF]
theorem lenF_none (cs i : Nat) : lenF (noneF cs) i = 0 := by
  unfold lenF noneF
  simp only [List.getD, List.getElem?_replicate]
  split <;> simp

end Go.Proofs.YtakomlmbdienpaaDoor
