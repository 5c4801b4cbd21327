/- DERIVED of the program: pack.Read and the Reader's methods, by what they do to a reader in memory. Own work. -/
import Derived.Test.YtmgmjklnibmacabDoorPkB
import Derived.Deep.QuietTactic
import Derived.BigQuiet
namespace Go.Proofs.YtmgmjklnibmacabDoor
open Go.RowKit Go.Extern.Stop Go.Stop Go.Extern

/-- The text of a reader's errors. -/
abbrev opP : ByteArray := ⟨#[112, 97, 99, 107, 46, 82, 101, 97, 100]⟩

/-- A reader's error. -/
def rerr (sa : Nat → Addr) (c at_ : Nat) : Value := if c = 0 then .nilIface else flt opP at_ (snt (sa c))

/-- A sentinel, or none. -/
def serr (sa : Nat → Addr) (c : Nat) : Value := if c = 0 then .nilIface else snt (sa c)

theorem u64_join (u c i : Nat) (hi : i ≤ 9) (hu : u < 2 ^ (7 * i)) (hc : c < 128) (h9 : i = 9 → c ≤ 1) : bits .or .u64 (u : Int) (((c * 2 ^ (7 * i) : Nat)) : Int) = ((u + c * 2 ^ (7 * i) : Nat) : Int) ∧ c * 2 ^ (7 * i) < 18446744073709551616 ∧ u < 18446744073709551616 ∧ u + c * 2 ^ (7 * i) < 18446744073709551616 ∧ u + c * 2 ^ (7 * i) < 2 ^ (7 * (i + 1)) := by
  have hA : ∀ i : Fin 10, 2 ^ (7 * i.val) ≤ 9223372036854775808 ∧ (i.val < 9 → 2 ^ (7 * i.val) ≤ 72057594037927936) := by decide
  obtain ⟨hA1, hA2⟩ := hA ⟨i, by omega⟩
  simp only at hA1 hA2
  have e2 : 2 ^ (7 * (i + 1)) = 128 * 2 ^ (7 * i) := by rw [show 7 * (i + 1) = 7 + 7 * i from by omega, Nat.pow_add]
  have hm : c * 2 ^ (7 * i) + u < 18446744073709551616 := by
    rcases Nat.lt_or_ge i 9 with h | h
    · have h1 := hA2 h
      have h2 : c * 2 ^ (7 * i) ≤ 127 * 2 ^ (7 * i) := Nat.mul_le_mul_right _ (by omega)
      omega
    · have h1 := h9 (by omega)
      have h2 : c * 2 ^ (7 * i) ≤ 1 * 2 ^ (7 * i) := Nat.mul_le_mul_right _ h1
      omega
  have hm2 : u + c * 2 ^ (7 * i) < 2 ^ (7 * (i + 1)) := by
    have h2 : c * 2 ^ (7 * i) ≤ 127 * 2 ^ (7 * i) := Nat.mul_le_mul_right _ (by omega)
    omega
  refine ⟨?_, by omega, by omega, by omega, hm2⟩
  rw [(bits_nat .u64 64 (by decide) (fun n h0 h1 => by rw [IntKind.wrap_u64]; omega) u (c * 2 ^ (7 * i)) (by omega) (by omega)).2]
  have : u ||| c * 2 ^ (7 * i) = u + c * 2 ^ (7 * i) := by
    rw [Nat.or_comm, Nat.mul_comm c, ← Nat.two_pow_add_eq_or_of_lt hu, Nat.add_comm]
  rw [this]

theorem wrap_join (U c k : Nat) (hk : k ≤ 9) (hU : U < 2 ^ (7 * k)) (h9 : k = 9 → c ≤ 1) : bits .or .u64 (U : Int) (IntKind.u64.wrap ((c : Int) % 128 * 2 ^ (7 * k))) = ((U + c % 128 * 2 ^ (7 * k) : Nat) : Int) ∧ U + c % 128 * 2 ^ (7 * k) < 18446744073709551616 ∧ U + c % 128 * 2 ^ (7 * k) < 2 ^ (7 * (k + 1)) := by
  obtain ⟨h1, h2, h3, h4, h5⟩ := u64_join U (c % 128) k hk hU (by omega) (fun h => by have := h9 h; omega)
  have e : ((c : Int) % 128 * 2 ^ (7 * k)) = ((c % 128 * 2 ^ (7 * k) : Nat) : Int) := by push_cast; rfl
  rw [e, IntKind.wrap_u64, Int.emod_eq_of_lt (by omega) (by omega)]
  exact ⟨h1, h4, h5⟩

theorem drop_cons {bs : List Nat} {k c : Nat} (h : k < bs.length) (hc : bs[k] = c) : bs.drop k = c :: bs.drop (k + 1) := by
  rw [List.drop_eq_getElem_cons h, hc]

end Go.Proofs.YtmgmjklnibmacabDoor
