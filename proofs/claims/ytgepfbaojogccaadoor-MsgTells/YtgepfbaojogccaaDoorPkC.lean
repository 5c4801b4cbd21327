/- DERIVED of the program: pack.Read and the Reader's methods, by what they do to a reader in memory. Own work. -/
import Derived.Test.YtgepfbaojogccaaDoorPkB
import Derived.Deep.QuietTactic
import Derived.BigQuiet
namespace Go.Proofs.YtgepfbaojogccaaDoor
open Go.RowKit Go.Extern.Stop Go.Stop Go.Extern

/-- The text of a reader's errors. -/
abbrev opP : ByteArray := ⟨#[112, 97, 99, 107, 46, 82, 101, 97, 100]⟩

/-- A reader's error. -/
def rerr (sa : Nat → Addr) (c at_ : Nat) : Value := if c = 0 then .nilIface else flt opP at_ (snt (sa c))

/-- A sentinel, or none. -/
def serr (sa : Nat → Addr) (c : Nat) : Value := if c = 0 then .nilIface else snt (sa c)

theorem u64_join (u c i : Nat) (hi : i ≤ 9) (hu : u < 2 ^ (7 * i)) (hc : c < 128) (h9 : i = 9 → c ≤ 1) : bits .or .u64 (u : Int) (((c * 2 ^ (7 * i) : Nat)) : Int) = ((u + c * 2 ^ (7 * i) : Nat) : Int) ∧ c * 2 ^ (7 * i) < 18446744073709551616 ∧ u < 18446744073709551616 ∧ u + c * 2 ^ (7 * i) < 18446744073709551616 ∧ u + c * 2 ^ (7 * i) < 2 ^ (7 * (i + 1)) := by
  have hA : ∀ i : Fin 10, 2 ^ (7 * i.val) ≤ 9223372036854775808 ∧ (i.val < 9 → 2 ^ (7 * i.val) ≤ 72057594037927936) := by decide
  obtain ⟨hA1, hA2⟩ := hA ⟨i, by omega⟩
  simp only at hA1 hA2
  have e2 : 2 ^ (7 * (i + 1)) = 128 * 2 ^ (7 * i) := by rw [show 7 * (i + 1) = 7 + 7 * i from by omega, Nat.pow_add]
  have hm : c * 2 ^ (7 * i) + u < 18446744073709551616 := by
    rcases Nat.lt_or_ge i 9 with h | h
    · have h1 := hA2 h
      have h2 : c * 2 ^ (7 * i) ≤ 127 * 2 ^ (7 * i) := Nat.mul_le_mul_right _ (by omega)
      omega
    · have h1 := h9 (by omega)
      have h2 : c * 2 ^ (7 * i) ≤ 1 * 2 ^ (7 * i) := Nat.mul_le_mul_right _ h1
      omega
  have hm2 : u + c * 2 ^ (7 * i) < 2 ^ (7 * (i + 1)) := by
    have h2 : c * 2 ^ (7 * i) ≤ 127 * 2 ^ (7 * i) := Nat.mul_le_mul_right _ (by omega)
    omega
  refine ⟨?_, by omega, by omega, by omega, hm2⟩
  rw [(bits_nat .u64 64 (by decide) (fun n h0 h1 => by rw [IntKind.wrap_u64]; omega) u (c * 2 ^ (7 * i)) (by omega) (by omega)).2]
  have : u ||| c * 2 ^ (7 * i) = u + c * 2 ^ (7 * i) := by
    rw [Nat.or_comm, Nat.mul_comm c, ← Nat.two_pow_add_eq_or_of_lt hu, Nat.add_comm]
  rw [this]

theorem wrap_join (U c k : Nat) (hk : k ≤ 9) (hU : U < 2 ^ (7 * k)) (h9 : k = 9 → c ≤ 1) : bits .or .u64 (U : Int) (IntKind.u64.wrap ((c : Int) % 128 * 2 ^ (7 * k))) = ((U + c % 128 * 2 ^ (7 * k) : Nat) : Int) ∧ U + c % 128 * 2 ^ (7 * k) < 18446744073709551616 ∧ U + c % 128 * 2 ^ (7 * k) < 2 ^ (7 * (k + 1)) := by
  obtain ⟨h1, h2, h3, h4, h5⟩ := u64_join U (c % 128) k hk hU (by omega) (fun h => by have := h9 h; omega)
  have e : ((c : Int) % 128 * 2 ^ (7 * k)) = ((c % 128 * 2 ^ (7 * k) : Nat) : Int) := by push_cast; rfl
  rw [e, IntKind.wrap_u64, Int.emod_eq_of_lt (by omega) (by omega)]
  exact ⟨h1, h4, h5⟩

theorem drop_cons {bs : List Nat} {k c : Nat} (h : k < bs.length) (hc : bs[k] = c) : bs.drop k = c :: bs.drop (k + 1) := by
  rw [List.drop_eq_getElem_cons h, hc]

set_option maxHeartbeats 1600000 in
set_option maxRecDepth 20000 in
theorem first_some (b o cap : Nat) (bs : List Nat) (w : World) (sa : Nat → Addr) (hE : Env10 w sa) (hc : ∀ (k : Nat) (h : k < bs.length), w.cell? ⟨b, o + k, none⟩ = some (.int .u8 (bs[k] : Nat))) (hby : ∀ x ∈ bs, x < 256) (hlen : bs.length ≤ 140737488355328) :
    Calls Tryd.prog 42 #[.slice (some ⟨b, o, none⟩) bs.length cap] w fun r w' => r = .returned (.tuple #[.int .i64 (uz (dec 0 0 bs).2.1), .int .i64 (dec 0 0 bs).2.2, serr sa (dec 0 0 bs).1]) ∧ Below w.heap.size w w' := by
  have g3 := hE.g 3 (by omega) (by omega)
  have g4 := hE.g 4 (by omega) (by omega)
  simp only [gix] at g3 g4
  have HC := Hid.in hc
  have HBY := Hid.in hby
  clear hE hc hby
  go_enter Tryd.func42, Tryd.ntmps42
  go_wp2
  go_loop [5, 10] (fun u i => ∃ k U : Nat, k ≤ bs.length ∧ k ≤ 9 ∧ i = .int .i64 k ∧ u = .int .u64 U ∧ U < 2 ^ (7 * k) ∧ dec 0 0 bs = dec k U (bs.drop k)) (fun _ i => bs.length - (intOf i).toNat)
  case atStart => exact ⟨0, 0, by omega, by omega, rfl, rfl, by decide, rfl⟩
  case round =>
    obtain ⟨k, U, hk, hk9, rfl, rfl, hU, hd⟩ := hrel
    have HD := Hid.in hd
    have HU := Hid.in hU
    clear hd hU
    by_cases hlt : k < bs.length
    · have hcell := HC.out k hlt
      have hc8 := HBY.out _ (List.getElem_mem hlt)
      generalize hcc : bs[k] = c at hcell hc8
      have HDC := Hid.in (HD.out.trans (congrArg (dec k U) (drop_cons hlt hcc)))
      clear hcc
      by_cases hform : (0 < k ∧ c = 0) ∨ (k = 9 ∧ 1 < c)
      · have HF : Hid (dec 0 0 bs = (4, 0, 0)) := Hid.in (HDC.out.trans (dec_form hform))
        clear HDC
        rcases hform with ⟨h1, h2⟩ | ⟨h1, h2⟩
        · have h3 : c < 1 := by omega
          clear h2
          go_wp2
          go_quiet (fail)
          all_goals
            go_wp2
            go_ret3
            exact ⟨by rw [HF.out]; rfl, drewN_below (Below.refl _ _) _⟩
        · have hq : ((k : Int) == 9) = true := by simp; omega
          have h3 : 0 < k := by omega
          clear h1
          go_wp2
          go_quiet (fail)
          all_goals
            go_wp2
            go_ret3
            exact ⟨by rw [HF.out]; rfl, drewN_below (Below.refl _ _) _⟩
      · obtain ⟨V, hV⟩ : ∃ V : Nat, V = U + c % 128 * 2 ^ (7 * k) := ⟨_, rfl⟩
        obtain ⟨hor, hv1, hv2⟩ := wrap_join U c k hk9 HU.out (fun h => by omega)
        rw [← hV] at hor hv1 hv2
        have HV2 := Hid.in hv2
        clear hv2
        by_cases hc1 : c < 128
        · have HF : Hid (dec 0 0 bs = (0, V, k + 1)) := Hid.in (HDC.out.trans ((dec_last hform hc1).trans (by rw [hV, Nat.mod_eq_of_lt hc1])))
          clear HDC hV
          have hff : (0 < k → 1 ≤ c) ∧ (k = 9 → c ≤ 1) := ⟨fun h => by omega, fun h => by omega⟩
          clear hform
          by_cases hk0 : 0 < k
          · have hc0 := hff.1 hk0
            by_cases hk9' : k < 9
            · clear hff
              go_wp2_with fail
              refine (unfold_any V _ hv1).mono ?_
              rintro r w' ⟨rfl, rfl⟩
              go_wp2
              go_ret3
              exact ⟨by rw [HF.out]; rfl, Below.refl _ _⟩
            · have hc9 := hff.2 (by omega)
              clear hff
              have hq : ((k : Int) == 9) = true := by simp; omega
              have hq0 : ((c : Int) == 0) = false := by simp; omega
              have hq1 : ¬ (1 : Int) < (c : Int) := by omega
              go_wp2_with fail
              refine (unfold_any V _ hv1).mono ?_
              rintro r w' ⟨rfl, rfl⟩
              go_wp2
              go_ret3
              exact ⟨by rw [HF.out]; rfl, Below.refl _ _⟩
          · clear hff
            go_wp2_with fail
            refine (unfold_any V _ hv1).mono ?_
            rintro r w' ⟨rfl, rfl⟩
            go_wp2
            go_ret3
            exact ⟨by rw [HF.out]; rfl, Below.refl _ _⟩
        · have HF : Hid (dec 0 0 bs = dec (k + 1) V (bs.drop (k + 1))) := Hid.in (HDC.out.trans ((dec_more hform hc1).trans (by rw [hV])))
          have hk8 : k ≤ 8 := by omega
          clear HDC hV hform
          by_cases hk0 : 0 < k
          · go_wp2
            go_round
            case rel => exact ⟨k + 1, V, by omega, by omega, by go_num, rfl, HV2.out, HF.out⟩
            case measure => simp [intOf]; omega
          · go_wp2
            go_round
            case rel => exact ⟨k + 1, V, by omega, by omega, by go_num, rfl, HV2.out, HF.out⟩
            case measure => simp [intOf]; omega
    · have HF : Hid (dec 0 0 bs = (3, 0, 0)) := Hid.in (HD.out.trans (by rw [List.drop_eq_nil_of_le (by omega)]; rfl))
      go_wp2
      go_quiet (fail)
      all_goals
        go_wp2
        go_ret3
        exact ⟨by rw [HF.out]; rfl, drewN_below (Below.refl _ _) _⟩

theorem first_none (ao : Option Addr) (cap : Nat) (w : World) (sa : Nat → Addr) (hE : Env10 w sa) :
    Calls Tryd.prog 42 #[.slice ao 0 cap] w fun r w' => r = .returned (.tuple #[.int .i64 0, .int .i64 0, snt (sa 3)]) ∧ Below w.heap.size w w' := by
  have g3 := hE.g 3 (by omega) (by omega)
  simp only [gix] at g3
  clear hE
  go_enter Tryd.func42, Tryd.ntmps42
  go_wp2
  refine wp_loop_rounds 1 ?_
  rw [rounds_succ]
  go_wp2
  go_quiet (fail)
  all_goals
    go_wp2
    go_ret3
    exact ⟨rfl, drewN_below (Below.refl _ _) _⟩

theorem first_any (ao : Option Addr) (cap : Nat) (bs : List Nat) (w : World) (sa : Nat → Addr) (hE : Env10 w sa) (hL : Lie w ao cap bs) (hby : ∀ x ∈ bs, x < 256) (hlen : bs.length ≤ 140737488355328) :
    Calls Tryd.prog 42 #[.slice ao bs.length cap] w fun r w' => r = .returned (.tuple #[.int .i64 (uz (dec 0 0 bs).2.1), .int .i64 (dec 0 0 bs).2.2, serr sa (dec 0 0 bs).1]) ∧ Below w.heap.size w w' := by
  cases hbs : bs with
  | nil => exact first_none ao cap w sa hE
  | cons x r =>
    rw [← hbs]
    obtain ⟨b, o, rfl, _⟩ := hL.2.2 0 (by simp [hbs])
    refine first_some b o cap bs w sa hE (fun k hk => ?_) hby hlen
    obtain ⟨b', o', e, hc⟩ := hL.2.2 k hk
    cases e
    exact hc

end Go.Proofs.YtgepfbaojogccaaDoor
