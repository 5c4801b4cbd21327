/- DERIVED of nothing: the lines of a cache, in sets and ways, as lists. Own work. -/
import Derived.Test.YtcackmmfnojpfaaDoorPlPure
namespace Go.Proofs.YtcackmmfnojpfaaDoor

/-- A line of a cache. -/
structure En where
  line : Int
  state : Int
  mode : Int
  epoch : Int
  d0 : Int
  d1 : Int
  d2 : Int
  d3 : Int
  held : Bool
  fresh : Bool
  deriving DecidableEq

def En.zero : En := ⟨0, 0, 0, 0, 0, 0, 0, 0, false, false⟩
def En.one (l : Int) : En := ⟨l, 1, 0, 0, 0, 0, 0, 0, false, false⟩
/-- Is it that line's? -/
def En.is (l : Int) (e : En) : Bool := e.state != 0 && e.line == l
def En.free (e : En) : Bool := e.state == 0
def En.right (e : En) : Bool := decide ((0 ≤ e.line ∧ e.line ≤ 31) ∧ (1 ≤ e.state ∧ e.state ≤ 4) ∧ (0 ≤ e.mode ∧ e.mode ≤ 3) ∧ 0 ≤ e.epoch ∧ e.epoch ≤ 255)

/-- The first place at which it holds; -1, if there is none. -/
def ix (p : En → Bool) : List En → Int
  | [] => -1
  | e :: r => if p e = true then 0 else if ix p r < 0 then -1 else ix p r + 1

theorem ix_cases (p : En → Bool) : ∀ es : List En, (ix p es = -1 ∧ ∀ j (h : j < es.length), p es[j] = false) ∨ ∃ i, ∃ h : i < es.length, ix p es = (i : Int) ∧ p es[i] = true ∧ ∀ j (hj : j < i), p (es[j]'(Nat.lt_trans hj h)) = false
  | [] => .inl ⟨rfl, fun j h => absurd h (Nat.not_lt_zero _)⟩
  | e :: r => by
    by_cases he : p e = true
    · exact .inr ⟨0, by simp, by simp [ix, he], by simpa using he, fun j hj => absurd hj (Nat.not_lt_zero _)⟩
    · rcases ix_cases p r with ⟨h1, h2⟩ | ⟨i, hi, h1, h2, h3⟩
      · refine .inl ⟨by simp [ix, he, h1], fun j hj => ?_⟩
        cases j with
        | zero => simpa using he
        | succ j => simpa using h2 j (by simpa using hj)
      · refine .inr ⟨i + 1, by simpa using hi, ?_, by simpa using h2, fun j hj => ?_⟩
        · have : ¬ ((i : Int) < 0) := by omega
          simp [ix, he, h1, this]
        · cases j with
          | zero => simpa using he
          | succ j => simpa using h3 j (by omega)

theorem ix_none {p : En → Bool} {es : List En} (h : ∀ j (hj : j < es.length), p es[j] = false) : ix p es = -1 := by
  rcases ix_cases p es with ⟨h1, _⟩ | ⟨i, hi, _, h2, _⟩
  · exact h1
  · rw [h i hi] at h2; cases h2

theorem ix_at {p : En → Bool} {es : List En} (i : Nat) (hi : i < es.length) (h : p es[i] = true) (hl : ∀ j (hj : j < i), p (es[j]'(Nat.lt_trans hj hi)) = false) : ix p es = (i : Int) := by
  rcases ix_cases p es with ⟨_, h2⟩ | ⟨k, hk, h1, h2, h3⟩
  · rw [h2 i hi] at h; cases h
  · rcases Nat.lt_trichotomy k i with hlt | heq | hgt
    · rw [hl k hlt] at h2; cases h2
    · rw [h1, heq]
    · rw [h3 i hgt] at h; cases h

theorem ix_neg {p : En → Bool} {es : List En} (h : ix p es < 0) : ix p es = -1 ∧ ∀ j (hj : j < es.length), p es[j] = false := by
  rcases ix_cases p es with h1 | ⟨i, hi, h1, _⟩
  · exact h1
  · omega

theorem ix_pos {p : En → Bool} {es : List En} (h : ¬ ix p es < 0) : ∃ i, ∃ hi : i < es.length, ix p es = (i : Int) ∧ p es[i] = true ∧ ∀ j (hj : j < i), p (es[j]'(Nat.lt_trans hj hi)) = false := by
  rcases ix_cases p es with ⟨h1, _⟩ | h1
  · omega
  · exact h1

/-- Where a line stands in its set; where it stands or could. -/
def fnd (l : Int) (es : List En) : Int := ix (En.is l) es
def plc (l : Int) (es : List En) : Int := if fnd l es < 0 then ix En.free es else fnd l es

def vld (l : Int) : Bool := decide (0 ≤ l ∧ l ≤ 31)
/-- A set: its tree's bits, its ways. -/
abbrev St := Nat × List En
/-- The set in which a line is at home. -/
def hm (A : List St) (l : Int) : Nat := (l % (A.length : Int)).toNat
def stA (A : List St) (l : Int) : St := A.getD (hm A l) (0, [])
def getA (A : List St) (l : Int) : En × Bool :=
  if vld l = true then (if fnd l (stA A l).2 < 0 then (En.zero, false) else ((stA A l).2.getD (fnd l (stA A l).2).toNat En.zero, true)) else (En.zero, false)
def putA (A : List St) (e : En) : Nat × List St :=
  if e.right = true then (if plc e.line (stA A e.line).2 < 0 then (6, A) else (0, A.set (hm A e.line) ((stA A e.line).1, (stA A e.line).2.set (plc e.line (stA A e.line).2).toNat e))) else (1, A)
def dropA (A : List St) (l : Int) : Bool × List St :=
  if vld l = true then (if fnd l (stA A l).2 < 0 then (false, A) else (true, A.set (hm A l) ((stA A l).1, (stA A l).2.set (fnd l (stA A l).2).toNat En.zero))) else (false, A)
def touchA (A : List St) (l : Int) : Bool × List St :=
  if vld l = true then (if fnd l (stA A l).2 < 0 then (false, A) else (true, A.set (hm A l) (touchI (stA A l).1 ((stA A l).2.length : Int) (fnd l (stA A l).2), (stA A l).2))) else (false, A)
def roomA (A : List St) (l : Int) : Bool := vld l && decide (0 ≤ plc l (stA A l).2)
/-- The first line that isn't pinned. -/
def loose (pins : List Int) : List En → Int
  | [] => -1
  | e :: r => if pins.contains e.line = true then loose pins r else e.line
def vicA (A : List St) (l : Int) (pins : List Int) : Int :=
  if vld l = true then
    (if plc l (stA A l).2 < 0 then
      (if pins.contains ((stA A l).2.getD (victimI (stA A l).1 ((stA A l).2.length : Int)).toNat En.zero).line = true then loose pins (stA A l).2
        else ((stA A l).2.getD (victimI (stA A l).1 ((stA A l).2.length : Int)).toNat En.zero).line)
      else -1)
  else -1
def listA (A : List St) : List En := (A.flatMap (·.2)).filter (fun e => !e.free)

/-- A new array. -/
def newA (n k : Nat) : List St := List.replicate n (0, List.replicate k En.zero)

theorem vld_of {l : Int} (h : vld l = true) : 0 ≤ l ∧ l ≤ 31 := by simpa [vld] using h
theorem vld_no {l : Int} (h : vld l = false) : ¬ (0 ≤ l ∧ l ≤ 31) := by simpa only [vld, decide_eq_false_iff_not] using h

theorem hm_lt {A : List St} (h : 0 < A.length) (l : Int) : hm A l < A.length := by
  have h1 := Int.emod_nonneg l (show (A.length : Int) ≠ 0 by omega)
  have h2 := Int.emod_lt_of_pos l (show (0 : Int) < A.length by omega)
  unfold hm; omega
theorem hm_cast {A : List St} (h : 0 < A.length) (l : Int) : ((hm A l : Nat) : Int) = l % (A.length : Int) := by
  have h1 := Int.emod_nonneg l (show (A.length : Int) ≠ 0 by omega)
  unfold hm; omega
theorem stA_get {A : List St} (h : 0 < A.length) (l : Int) : A[hm A l]? = some (stA A l) := by
  have := hm_lt h l
  simp [stA, List.getD, List.getElem?_eq_getElem this]

end Go.Proofs.YtcackmmfnojpfaaDoor
