/- DERIVED of the program: msg.Get by its contract. Own work. -/
import Derived.Test.YtakomlmbdienpaaDoorSgF
import Derived.Test.YtakomlmbdienpaaDoorBaseKeep
import Derived.Laws.ResultCell
namespace Go.Proofs.YtakomlmbdienpaaDoor
open Go.RowKit Go.Extern.Stop Go.Stop Go.Extern

/-- "msg.Get" -/
def opSGet : ByteArray := ⟨#[109, 115, 103, 46, 71, 101, 116]⟩
/-- What Get answers beside the message. -/
def gErr (sa : Nat → Addr) (l : List (ByteArray × Int)) (c : Nat) : Value := if c = 0 then .nilIface else flt opSGet 0 (chn l (snt (sa c)))

theorem gotM_code (bs : List Nat) (hc : (getM bs).1.1 = 0 ∨ 3 ≤ (getM bs).1.1 ∧ (getM bs).1.1 ≤ 5) : (gotM bs).1 = 0 ∨ 3 ≤ (gotM bs).1 ∧ (gotM bs).1 ≤ 5 := by
  have he : endS bs (getM bs).1.2 (getM bs).1.1 = 0 ∨ 3 ≤ endS bs (getM bs).1.2 (getM bs).1.1 ∧ endS bs (getM bs).1.2 (getM bs).1.1 ≤ 5 := by
    unfold endS
    split
    · exact hc
    · split
      · exact .inr ⟨by decide, by decide⟩
      · exact .inl rfl
  unfold gotM
  split
  · exact he
  · split
    · exact .inl rfl
    · exact .inr ⟨by decide, by decide⟩

end Go.Proofs.YtakomlmbdienpaaDoor
