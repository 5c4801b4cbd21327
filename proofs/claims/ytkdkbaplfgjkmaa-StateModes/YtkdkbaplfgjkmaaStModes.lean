/- DERIVED of the program: StateModes returns true. Own work. -/
import Derived.Test.YtkdkbaplfgjkmaaStC
namespace Go.Proofs.Ytkdkbaplfgjkmaa
open Go.RowKit Go.Extern.Stop Go.Stop Go.Extern

/-- What StateModes has counted behind so many modes. -/
def smS (a k : Int) : Nat → Bool
  | 0 => true
  | n + 1 => smS a k n && decide ((nxS a k (n : Int)).1 = (nxS a k 0).1) && ((nxS a k (n : Int)).2 == (nxS a k 0).2)
def ocS (a k : Int) : Nat → Nat
  | 0 => 0
  | n + 1 => ocS a k n + (if (nxS a k (n : Int)).1 = 3 ∧ k = 5 then 1 else 0)
def mcS (a k : Int) : Nat → Nat
  | 0 => 0
  | n + 1 => mcS a k n + (if (nxS a k (n : Int)).1 = 0 ∧ (nxS a k (n : Int)).2 = true ∧ k = 5 then 1 else 0)
theorem ocS_le (a k : Int) (n : Nat) : ocS a k n ≤ n := by
  induction n with
  | zero => exact Nat.le_refl _
  | succ n ih => unfold ocS; split <;> omega
theorem mcS_le (a k : Int) (n : Nat) : mcS a k n ≤ n := by
  induction n with
  | zero => exact Nat.le_refl _
  | succ n ih => unfold mcS; split <;> omega
def mdF (a k : Int) : Bool :=
  if k = 5 ∧ dtS a = true then decide (ocS a k 4 = 2) && (if a = 4 then decide (mcS a k 4 = 1) && decide ((nxS a k 0).1 = 1) && (nxS a k 0).2 else decide (mcS a k 4 = 0)) else smS a k 4
theorem mdF_all : ∀ A : Fin 5, ∀ K : Fin 6, mdF (A.val : Int) (5 + (K.val : Int)) = true := by decide +kernel

set_option maxHeartbeats 3200000 in
set_option maxRecDepth 20000 in
theorem stateModes_any (w : World) (n0 n1 : Int) : Calls Try.prog 8 #[.int .i64 n0, .int .i64 n1] w fun r w' => r = .returned (.bool true) ∧ Below w.heap.size w w' := by
  obtain ⟨A, hA, hA4⟩ := wI_nat0 n0 4 (by decide)
  obtain ⟨K, hK, hK5⟩ := wI_nat0 n1 5 (by decide)
  have ht := mdF_all ⟨A, by omega⟩ ⟨K, by omega⟩
  simp only at ht
  have hw : IntKind.i64.wrap (5 + (K : Int)) = 5 + (K : Int) := by rw [IntKind.wrap_i64]; omega
  have HA : Hid (∀ y, Calls Try.prog 20 #[.int .i64 n0, .int .i64 0, .int .i64 4] y fun r w' => r = .returned (.int .i64 (A : Int)) ∧ w' = y) := Hid.in (fun y => hA ▸ within_i n0 0 4 y (by decide) (by decide) (by decide))
  have HK : Hid (∀ y, Calls Try.prog 20 #[.int .i64 n1, .int .i64 0, .int .i64 5] y fun r w' => r = .returned (.int .i64 (K : Int)) ∧ w' = y) := Hid.in (fun y => hK ▸ within_i n1 0 5 y (by decide) (by decide) (by decide))
  obtain ⟨k, hk⟩ : ∃ k, 5 + (K : Int) = k := ⟨_, rfl⟩
  rw [hk] at ht
  have hw' : IntKind.i64.wrap (5 + (K : Int)) = k := by rw [hw, hk]
  clear hw hk hK hK5 hA hA4
  obtain ⟨a, ha⟩ : ∃ a, (A : Int) = a := ⟨_, rfl⟩
  rw [ha] at ht HA
  clear ha
  obtain ⟨f, g, hf⟩ : ∃ f g, nxS a k 0 = (f, g) := ⟨_, _, rfl⟩
  have HF := Hid.in hf
  have HT := Hid.in ht
  clear ht hf
  go_enter Try.func8, Try.ntmps8
  go_wp2_with fail
  refine (HA.out _).mono ?_
  rintro r w' ⟨rfl, rfl⟩
  go_wp2_with fail
  refine (HK.out _).mono ?_
  rintro r w' ⟨rfl, rfl⟩
  go_wp2_with fail
  refine (stNext_c _ _ _ _ _ HF.out _).mono ?_
  rintro r w' ⟨rfl, rfl⟩
  rename World => w
  obtain ⟨w0, hw0⟩ : ∃ x, x = w := ⟨_, rfl⟩
  subst hw0
  go_wp2
  go_loopw [7, 8, 11, 12] (fun o c s v wr => ∃ n : Nat, n ≤ 4 ∧ o = .int .i64 ((ocS a k n : Nat) : Int) ∧ c = .int .i64 ((mcS a k n : Nat) : Int) ∧ s = .bool (smS a k n) ∧ v = .int .i64 (n : Int) ∧ wr = w0) (fun _ _ _ v _ => 10 - (intOf v).toNat)
  case atStart => exact ⟨0, by decide, rfl, rfl, rfl, rfl, rfl⟩
  case round =>
    obtain ⟨n, hn, rfl, rfl, rfl, rfl, hwr⟩ := hrel
    subst hwr
    by_cases hlt : n < 4
    · obtain ⟨x, b, hx⟩ : ∃ x b, nxS a k (n : Int) = (x, b) := ⟨_, _, rfl⟩
      have HX := Hid.in hx
      have HS : Hid (smS a k (n + 1) = (smS a k n && decide (x = f) && (b == g))) := Hid.in (by rw [smS, hx, HF.out])
      have HO : Hid (ocS a k (n + 1) = ocS a k n + (if x = 3 ∧ k = 5 then 1 else 0)) := Hid.in (by rw [ocS, hx])
      have HC : Hid (mcS a k (n + 1) = mcS a k n + (if x = 0 ∧ b = true ∧ k = 5 then 1 else 0)) := Hid.in (by rw [mcS, hx])
      have ho := ocS_le a k n
      have hc := mcS_le a k n
      generalize ocS a k n = oc at ho HO ⊢
      generalize mcS a k n = mc at hc HC ⊢
      generalize smS a k n = S at HS ⊢
      have i1 : (n : Int) ≤ 3 := by omega
      clear hx hn
      cases S with
      | false =>
        by_cases x3 : x = 3
        · subst x3
          by_cases k5 : k = 5
          · subst k5
            as_aux_lemma =>
              go_wp2_with fail
              refine (stNext_c _ _ _ _ _ HX.out _).mono ?_
              rintro r w' ⟨rfl, rfl⟩
              go_wp2
              go_roundw
              case rel => exact ⟨n + 1, by omega, by rw [HO.out]; go_num, by rw [HC.out]; rfl, by rw [HS.out]; rfl, by go_num, trivial⟩
              case measure => simp [intOf]; omega
          · as_aux_lemma =>
              have q5 := ne_q k5
              go_wp2_with fail
              refine (stNext_c _ _ _ _ _ HX.out _).mono ?_
              rintro r w' ⟨rfl, rfl⟩
              go_wp2
              go_roundw
              case rel => exact ⟨n + 1, by omega, by rw [HO.out]; simp [k5], by rw [HC.out]; rfl, by rw [HS.out]; rfl, by go_num, trivial⟩
              case measure => simp [intOf]; omega
        by_cases x0 : x = 0
        · subst x0
          cases b with
          | false =>
            as_aux_lemma =>
              go_wp2_with fail
              refine (stNext_c _ _ _ _ _ HX.out _).mono ?_
              rintro r w' ⟨rfl, rfl⟩
              go_wp2
              go_roundw
              case rel => exact ⟨n + 1, by omega, by rw [HO.out]; rfl, by rw [HC.out]; rfl, by rw [HS.out]; rfl, by go_num, trivial⟩
              case measure => simp [intOf]; omega
          | true =>
            by_cases k5 : k = 5
            · subst k5
              as_aux_lemma =>
                go_wp2_with fail
                refine (stNext_c _ _ _ _ _ HX.out _).mono ?_
                rintro r w' ⟨rfl, rfl⟩
                go_wp2
                go_roundw
                case rel => exact ⟨n + 1, by omega, by rw [HO.out]; rfl, by rw [HC.out]; go_num, by rw [HS.out]; rfl, by go_num, trivial⟩
                case measure => simp [intOf]; omega
            · as_aux_lemma =>
                have q5 := ne_q k5
                go_wp2_with fail
                refine (stNext_c _ _ _ _ _ HX.out _).mono ?_
                rintro r w' ⟨rfl, rfl⟩
                go_wp2
                go_roundw
                case rel => exact ⟨n + 1, by omega, by rw [HO.out]; simp, by rw [HC.out]; simp [k5], by rw [HS.out]; rfl, by go_num, trivial⟩
                case measure => simp [intOf]; omega
        as_aux_lemma =>
          have q3 := ne_q x3
          have q0 := ne_q x0
          go_wp2_with fail
          refine (stNext_c _ _ _ _ _ HX.out _).mono ?_
          rintro r w' ⟨rfl, rfl⟩
          go_wp2
          go_roundw
          case rel => exact ⟨n + 1, by omega, by rw [HO.out]; simp [x3], by rw [HC.out]; simp [x0], by rw [HS.out]; rfl, by go_num, trivial⟩
          case measure => simp [intOf]; omega
      | true =>
        by_cases xf : x = f
        · have xq : (x == f) = true := by simpa using xf
          have xd : decide (x = f) = true := by simpa using xf
          clear xf
          by_cases x3 : x = 3
          · subst x3
            by_cases k5 : k = 5
            · subst k5
              as_aux_lemma =>
                go_wp2_with fail
                refine (stNext_c _ _ _ _ _ HX.out _).mono ?_
                rintro r w' ⟨rfl, rfl⟩
                go_wp2
                go_roundw
                case rel => exact ⟨n + 1, by omega, by rw [HO.out]; go_num, by rw [HC.out]; rfl, by rw [HS.out]; simp [xd], by go_num, trivial⟩
                case measure => simp [intOf]; omega
            · as_aux_lemma =>
                have q5 := ne_q k5
                go_wp2_with fail
                refine (stNext_c _ _ _ _ _ HX.out _).mono ?_
                rintro r w' ⟨rfl, rfl⟩
                go_wp2
                go_roundw
                case rel => exact ⟨n + 1, by omega, by rw [HO.out]; simp [k5], by rw [HC.out]; rfl, by rw [HS.out]; simp [xd], by go_num, trivial⟩
                case measure => simp [intOf]; omega
          by_cases x0 : x = 0
          · subst x0
            cases b with
            | false =>
              as_aux_lemma =>
                go_wp2_with fail
                refine (stNext_c _ _ _ _ _ HX.out _).mono ?_
                rintro r w' ⟨rfl, rfl⟩
                go_wp2
                go_roundw
                case rel => exact ⟨n + 1, by omega, by rw [HO.out]; rfl, by rw [HC.out]; rfl, by rw [HS.out]; simp [xd], by go_num, trivial⟩
                case measure => simp [intOf]; omega
            | true =>
              by_cases k5 : k = 5
              · subst k5
                as_aux_lemma =>
                  go_wp2_with fail
                  refine (stNext_c _ _ _ _ _ HX.out _).mono ?_
                  rintro r w' ⟨rfl, rfl⟩
                  go_wp2
                  go_roundw
                  case rel => exact ⟨n + 1, by omega, by rw [HO.out]; rfl, by rw [HC.out]; go_num, by rw [HS.out]; simp [xd], by go_num, trivial⟩
                  case measure => simp [intOf]; omega
              · as_aux_lemma =>
                  have q5 := ne_q k5
                  go_wp2_with fail
                  refine (stNext_c _ _ _ _ _ HX.out _).mono ?_
                  rintro r w' ⟨rfl, rfl⟩
                  go_wp2
                  go_roundw
                  case rel => exact ⟨n + 1, by omega, by rw [HO.out]; simp, by rw [HC.out]; simp [k5], by rw [HS.out]; simp [xd], by go_num, trivial⟩
                  case measure => simp [intOf]; omega
          as_aux_lemma =>
            have q3 := ne_q x3
            have q0 := ne_q x0
            go_wp2_with fail
            refine (stNext_c _ _ _ _ _ HX.out _).mono ?_
            rintro r w' ⟨rfl, rfl⟩
            go_wp2
            go_roundw
            case rel => exact ⟨n + 1, by omega, by rw [HO.out]; simp [x3], by rw [HC.out]; simp [x0], by rw [HS.out]; simp [xd], by go_num, trivial⟩
            case measure => simp [intOf]; omega
        · have xq := ne_q xf
          have xd : decide (x = f) = false := by simpa using xf
          clear xf
          by_cases x3 : x = 3
          · subst x3
            by_cases k5 : k = 5
            · subst k5
              as_aux_lemma =>
                go_wp2_with fail
                refine (stNext_c _ _ _ _ _ HX.out _).mono ?_
                rintro r w' ⟨rfl, rfl⟩
                go_wp2
                go_roundw
                case rel => exact ⟨n + 1, by omega, by rw [HO.out]; go_num, by rw [HC.out]; rfl, by rw [HS.out]; simp [xd], by go_num, trivial⟩
                case measure => simp [intOf]; omega
            · as_aux_lemma =>
                have q5 := ne_q k5
                go_wp2_with fail
                refine (stNext_c _ _ _ _ _ HX.out _).mono ?_
                rintro r w' ⟨rfl, rfl⟩
                go_wp2
                go_roundw
                case rel => exact ⟨n + 1, by omega, by rw [HO.out]; simp [k5], by rw [HC.out]; rfl, by rw [HS.out]; simp [xd], by go_num, trivial⟩
                case measure => simp [intOf]; omega
          by_cases x0 : x = 0
          · subst x0
            cases b with
            | false =>
              as_aux_lemma =>
                go_wp2_with fail
                refine (stNext_c _ _ _ _ _ HX.out _).mono ?_
                rintro r w' ⟨rfl, rfl⟩
                go_wp2
                go_roundw
                case rel => exact ⟨n + 1, by omega, by rw [HO.out]; rfl, by rw [HC.out]; rfl, by rw [HS.out]; simp [xd], by go_num, trivial⟩
                case measure => simp [intOf]; omega
            | true =>
              by_cases k5 : k = 5
              · subst k5
                as_aux_lemma =>
                  go_wp2_with fail
                  refine (stNext_c _ _ _ _ _ HX.out _).mono ?_
                  rintro r w' ⟨rfl, rfl⟩
                  go_wp2
                  go_roundw
                  case rel => exact ⟨n + 1, by omega, by rw [HO.out]; rfl, by rw [HC.out]; go_num, by rw [HS.out]; simp [xd], by go_num, trivial⟩
                  case measure => simp [intOf]; omega
              · as_aux_lemma =>
                  have q5 := ne_q k5
                  go_wp2_with fail
                  refine (stNext_c _ _ _ _ _ HX.out _).mono ?_
                  rintro r w' ⟨rfl, rfl⟩
                  go_wp2
                  go_roundw
                  case rel => exact ⟨n + 1, by omega, by rw [HO.out]; simp, by rw [HC.out]; simp [k5], by rw [HS.out]; simp [xd], by go_num, trivial⟩
                  case measure => simp [intOf]; omega
          as_aux_lemma =>
            have q3 := ne_q x3
            have q0 := ne_q x0
            go_wp2_with fail
            refine (stNext_c _ _ _ _ _ HX.out _).mono ?_
            rintro r w' ⟨rfl, rfl⟩
            go_wp2
            go_roundw
            case rel => exact ⟨n + 1, by omega, by rw [HO.out]; simp [x3], by rw [HC.out]; simp [x0], by rw [HS.out]; simp [xd], by go_num, trivial⟩
            case measure => simp [intOf]; omega
    · obtain rfl : n = 4 := by omega
      have ht := HT.out
      unfold mdF at ht
      rw [HF.out] at ht
      clear hlt hn HT
      generalize ocS a k 4 = oc at ht ⊢
      generalize mcS a k 4 = mc at ht ⊢
      generalize smS a k 4 = S at ht ⊢
      by_cases k5 : k = 5
      · subst k5
        obtain ⟨D, hD⟩ : ∃ D, dtS a = D := ⟨_, rfl⟩
        have HD := Hid.in hD
        rw [hD] at ht
        clear hD
        cases D with
        | false =>
          simp at ht
          subst ht
          as_aux_lemma =>
            go_wp2_with fail
            refine (stDirty_e a false HD.out _).mono ?_
            rintro r w' ⟨rfl, rfl⟩
            go_wp2_with fail
            refine (stateRuns_any _).mono ?_
            rintro r w' ⟨rfl, rfl⟩
            go_wp2
            go_ret
            exact ⟨rfl, Below.refl _ _⟩
        | true =>
          by_cases a4 : a = 4
          · subst a4
            simp at ht
            obtain ⟨rfl, ⟨rfl, rfl⟩, rfl⟩ := ht
            as_aux_lemma =>
              go_wp2_with fail
              refine (stDirty_e 4 true HD.out _).mono ?_
              rintro r w' ⟨rfl, rfl⟩
              go_wp2_with fail
              refine (stateRuns_any _).mono ?_
              rintro r w' ⟨rfl, rfl⟩
              go_wp2
              go_ret
              exact ⟨rfl, Below.refl _ _⟩
          · simp [a4] at ht
            obtain ⟨rfl, rfl⟩ := ht
            as_aux_lemma =>
              have q4 := ne_q a4
              go_wp2_with fail
              refine (stDirty_e a true HD.out _).mono ?_
              rintro r w' ⟨rfl, rfl⟩
              go_wp2_with fail
              refine (stateRuns_any _).mono ?_
              rintro r w' ⟨rfl, rfl⟩
              go_wp2
              go_ret
              exact ⟨rfl, Below.refl _ _⟩
      · simp [k5] at ht
        subst ht
        as_aux_lemma =>
          have q5 := ne_q k5
          have q5' : (k != 5) = true := by simp [bne, q5]
          go_wp2_with fail
          refine (stateRuns_any _).mono ?_
          rintro r w' ⟨rfl, rfl⟩
          go_wp2
          go_ret
          exact ⟨rfl, Below.refl _ _⟩

end Go.Proofs.Ytkdkbaplfgjkmaa
