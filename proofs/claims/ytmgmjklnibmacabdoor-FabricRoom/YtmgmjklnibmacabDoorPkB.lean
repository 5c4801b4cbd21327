/- DERIVED of the program: pack.Num. Own work. -/
import Derived.Test.YtmgmjklnibmacabDoorPkA
import Derived.Deep.DeepCutAuto
import Derived.Deep.RegionHeld3
import Derived.Deep.DrawnRows
namespace Go.Proofs.YtmgmjklnibmacabDoor
open Go.RowKit Go.Extern.Stop Go.Stop Go.Extern

/-- 'make([]byte, n, m)'. -/
theorem wpList_make_room {P : Program} (w : World) {ops : Array Oper} {rest : List Oper} {o : Oper} {a : Act} {Q : Exit → Act → World → Prop}
    (hg : o.guard = none) (l c : Operand) (t : TypeId) (hop : o.op = Op.makeSlice t l c)
    (e : TypeId) (i : TypeInfo) (h1 : P.underlying t = some (.slice e)) (h2 : P.info? e = some i) (h3 : i.zero = some (.int .u8 0)) (h4 : i.size = 1) (h5 : i.bytes = 1)
    (kl kc : IntKind) (L C : Int) (n m : Nat) (hl : a.eval l = .int kl L) (hc : a.eval c = .int kc C) (hL : L = (n : Int)) (hC : C = (m : Int)) (hnm : n ≤ m) (b2 : m ≤ 281474976710656) (Z : List Value) (hZ : Z = List.replicate m (Value.int .u8 0))
    (hK : wpList P ops Q rest (a.put o.dst (.slice (some ⟨w.heap.size, 0, none⟩) n m)) (w.alloc (.cells Z.toArray e))) :
    wpList P ops Q (o :: rest) a w := by
  refine wpList_plain hg fun K hK' => ?_
  have hrun := run_make (P := P) w t e i (.int .u8 0) h1 h2 h3 kl kc L C (by omega) (by omega) (by rw [h5]; omega) (by omega)
  subst hL
  subst hC
  subst hZ
  have hz : madeCells (Value.int .u8 0).cells m = (List.replicate m (Value.int .u8 0)).toArray := by
    apply Array.toList_inj.1
    exact toList_madeCells_one _ _
  rw [h4] at hrun
  simp only [Int.toNat_natCast, Nat.mul_one, hz] at hrun
  unfold Oper.wp
  simp [execOp, hop, hl, hc, hrun, Result.andThen]
  exact hK' _ _ hK

theorem splice_head (bs : List Nat) (k : Nat) : splice (List.replicate (bs.length + k) (Value.int .u8 0)) 0 (bys bs) = bys bs ++ List.replicate k (.int .u8 0) := by
  simp [splice, bys_length]

/-- What a new block of bytes, with room behind them, owns. -/
theorem owns_room {w : World} {base g k : Nat} {bs : List Nat} (hg : base ≤ g) (hk : bs.length + k ≤ maxLen) (h : w.heap[g]? = some (.cells (bys bs ++ List.replicate k (Value.int .u8 0)).toArray 5 (0, 0))) :
    Own w base (some ⟨g, 0, none⟩) bs.length (bs.length + k) bs := by
  refine ⟨by simp [bys_length], .inr ⟨g, bs.length + k, _, rfl, hg, h, by omega, hk, by simp [bys_length], ?_⟩⟩
  simp [← bys_length bs]

theorem u8_or128' (x : Nat) : bits .or .u8 ((x : Int) % 256) 128 = ((x % 128 + 128 : Nat) : Int) := by
  have hd : ∀ y : Fin 256, (y.val ||| 128) = y.val % 128 + 128 := by decide +kernel
  have h := (bits_nat .u8 8 (by decide) wraps_u8 (x % 256) 128 (by omega) (by omega)).2
  rw [hd ⟨x % 256, by omega⟩] at h
  rw [show ((x : Int) % 256) = ((x % 256 : Nat) : Int) from by omega]
  refine h.trans ?_
  simp only
  omega

end Go.Proofs.YtmgmjklnibmacabDoor
