/- DERIVED of the program: slices of bytes in memory; pack.fold, unfold. Own work. -/
import Derived.Test.YtgepfbaojogccaaDoorPkPure
import Derived.Laws.CopyOwn
import Derived.Laws.MakeOwn
import Derived.Laws.BitsLemmas
import Derived.Laws.Bits64
import Derived.ProofKit
import Derived.Deep.AppendLies
import Derived.Laws.AppendOwnNone
namespace Go.Proofs.YtgepfbaojogccaaDoor
open Go.RowKit Go.Extern.Stop Go.Stop Go.Extern

/-- Bytes as cells. -/
def bys (bs : List Nat) : List Value := bs.map fun (x : Nat) => Value.int .u8 (x : Int)

theorem bys_length (bs : List Nat) : (bys bs).length = bs.length := by simp [bys]
theorem bys_append (xs bs : List Nat) : bys (xs ++ bs) = bys xs ++ bys bs := by simp [bys]
theorem bys_get (bs : List Nat) (j : Nat) (v : Value) (h : (bys bs)[j]? = some v) : ∃ hj : j < bs.length, v = .int .u8 (bs[j] : Nat) := by
  unfold bys at h
  rw [List.getElem?_map] at h
  rcases Nat.lt_or_ge j bs.length with hj | hj
  · rw [List.getElem?_eq_getElem hj] at h
    exact ⟨hj, (Option.some.inj h).symm⟩
  · rw [List.getElem?_eq_none hj] at h; cases h
theorem bys_one (bs : List Nat) : ∀ v ∈ bys bs, v.oneCell' = true := by
  intro v hv
  simp only [bys, List.mem_map] at hv
  obtain ⟨x, _, rfl⟩ := hv
  rfl

/-- A slice at that address, of that room, reads as bs. -/
def Lie (w : World) (ao : Option Addr) (cap : Nat) (bs : List Nat) : Prop :=
  bs.length ≤ cap ∧ (ao = none → cap = 0) ∧ ∀ (k : Nat) (h : k < bs.length), ∃ b o, ao = some ⟨b, o, none⟩ ∧ w.cell? ⟨b, o + k, none⟩ = some (.int .u8 (bs[k] : Nat))

theorem Lie.nil (w : World) : Lie w none 0 [] := ⟨Nat.le_refl _, fun _ => rfl, fun _ h => absurd h (Nat.not_lt_zero _)⟩

theorem Lie.kept {w w' : World} {ao : Option Addr} {cap : Nat} {bs : List Nat} {row : Option Nat} (h : Lie w ao cap bs) (hg : w.grownBy w' row) (hne : oblk ao = none ∨ oblk ao ≠ row) : Lie w' ao cap bs := by
  refine ⟨h.1, h.2.1, fun k hk => ?_⟩
  obtain ⟨b, o, rfl, hc⟩ := h.2.2 k hk
  refine ⟨b, o, rfl, hg.cell hc ?_⟩
  rcases hne with hne | hne
  · cases hne
  · exact hne

theorem grown_trans {a b c : World} {row : Option Nat} (h : a.grownBy b row) (k : b.grownBy c row) : a.grownBy c row :=
  ⟨k.1.trans h.1, k.2.trans h.2, k.3.trans h.3, Nat.le_trans h.4 k.4, fun i hi hn => (k.5 i (Nat.lt_of_lt_of_le hi h.4) hn).trans (h.5 i hi hn)⟩

theorem Lie.below {w w' : World} {ao : Option Addr} {cap : Nat} {bs : List Nat} {B : Nat} (h : Lie w ao cap bs) (hb : Below B w w') (hB : ∀ b, oblk ao = some b → b < B) : Lie w' ao cap bs := by
  refine ⟨h.1, h.2.1, fun k hk => ?_⟩
  obtain ⟨b, o, rfl, hc⟩ := h.2.2 k hk
  exact ⟨b, o, rfl, (hb.cell (p := ⟨b, o + k, none⟩) (hB b rfl)).trans hc⟩

theorem Lie.lt {w : World} {ao : Option Addr} {cap : Nat} {bs : List Nat} (h : Lie w ao cap bs) (h0 : 0 < bs.length) : ∃ b o, ao = some ⟨b, o, none⟩ ∧ b < w.heap.size := by
  obtain ⟨b, o, rfl, hc⟩ := h.2.2 0 h0
  exact ⟨b, o, rfl, lt_cell (q := ⟨b, o + 0, none⟩) hc⟩

/-- In a world that is as it was. -/
theorem Lie.step {w w' : World} {ao : Option Addr} {cap : Nat} {bs : List Nat} (h : Lie w ao cap bs) (hb : Below w.heap.size w w') : Lie w' ao cap bs := by
  refine ⟨h.1, h.2.1, fun k hk => ?_⟩
  obtain ⟨b, o, rfl, hc⟩ := h.2.2 k hk
  exact ⟨b, o, rfl, (hb.cell (p := ⟨b, o + k, none⟩) (lt_cell (q := ⟨b, o + k, none⟩) hc)).trans hc⟩

/-- What the call's own memory holds. -/
theorem Lie.own {w : World} {base n cap : Nat} {ao : Option Addr} {bs : List Nat} (h : w.ownsRow base 5 1 (.slice ao n cap) n (bys bs)) : n = bs.length ∧ Lie w ao cap bs := by
  obtain ⟨h1, h2⟩ := h
  rw [bys_length, Nat.mul_one] at h1
  refine ⟨h1.symm, ?_⟩
  subst h1
  rcases h2 with ⟨e, h0⟩ | ⟨g, cap', cur, e, hg, hh, hle, hm, hsz, ht⟩
  · obtain ⟨rfl, h3⟩ : ao = none ∧ cap = 0 := by simpa [h0] using e
    subst h3
    have : bs = [] := List.length_eq_zero_iff.1 h0
    subst this
    exact Lie.nil w
  · cases e
    refine ⟨hle, (by simp), fun k hk => ⟨g, 0, rfl, ?_⟩⟩
    have hx : cur.toList[k]? = some (.int .u8 (bs[k] : Nat)) := by
      have : (cur.toList.take (bs.length * 1))[k]? = some (.int .u8 (bs[k] : Nat)) := by rw [ht]; simp [bys, hk]
      rw [List.getElem?_take] at this
      simpa [hk] using this
    simp only [World.cell?, hh, Nat.zero_add]
    simpa using hx

/-- What is read out of it, byte by byte. -/
theorem Lie.src {w : World} {ao : Option Addr} {cap : Nat} {bs : List Nat} (h : Lie w ao cap bs) (h0 : 0 < bs.length) : ∃ ad, ao = some ad ∧ ∀ j v, (bys bs)[j]? = some v → w.cell? (ad.add j) = some v := by
  obtain ⟨b, o, rfl, _⟩ := h.2.2 0 h0
  refine ⟨_, rfl, fun j v hj => ?_⟩
  obtain ⟨hj', rfl⟩ := bys_get _ _ _ hj
  obtain ⟨b', o', e, hc⟩ := h.2.2 j hj'
  cases e
  rw [Addr.add_lit]
  exact hc

theorem Tryd.infoU8 : (Tryd.prog.info? 5).map (fun i => (i.zero, i.size, i.bytes)) = some (some (.int .u8 0), 1, 1) := by kernel_rfl

/-- The call's own slice of bytes. -/
def Own (w : World) (B : Nat) (ao : Option Addr) (n cap : Nat) (bs : List Nat) : Prop := w.ownsRow B 5 1 (.slice ao n cap) n (bys bs)

theorem Own.nil (w : World) (B : Nat) : Own w B none 0 0 [] := ⟨rfl, .inl ⟨rfl, rfl⟩⟩
theorem Own.lie {w : World} {B n cap : Nat} {ao : Option Addr} {bs : List Nat} (h : Own w B ao n cap bs) : Lie w ao cap bs := (Lie.own h).2
theorem Own.len {w : World} {B n cap : Nat} {ao : Option Addr} {bs : List Nat} (h : Own w B ao n cap bs) : n = bs.length := (Lie.own h).1
theorem Own.blk {w : World} {B n cap : Nat} {ao : Option Addr} {bs : List Nat} (h : Own w B ao n cap bs) : ∀ k, oblk ao = some k → B ≤ k ∧ k < w.heap.size := by
  obtain ⟨h1, h2⟩ := h
  intro k hk
  rcases h2 with ⟨e, _⟩ | ⟨g, cap', cur, e, hg, hh, r⟩
  · simp only [Value.slice.injEq] at e
    rw [e.1] at hk; cases hk
  · simp only [Value.slice.injEq] at e
    rw [e.1] at hk
    cases hk
    refine ⟨hg, ?_⟩
    rcases Nat.lt_or_ge g w.heap.size with h' | h'
    · exact h'
    · rw [Array.getElem?_eq_none h'] at hh; cases hh
theorem Own.kept {w w' : World} {B n cap : Nat} {ao : Option Addr} {bs : List Nat} {row : Option Nat} (h : Own w B ao n cap bs) (hg : w.grownBy w' row) (hne : oblk ao = none ∨ oblk ao ≠ row) : Own w' B ao n cap bs :=
  World.ownsRow.kept h hg (by
    cases ao with
    | none => exact .inl rfl
    | some q => exact hne)
theorem Own.step {w w' : World} {B n cap : Nat} {ao : Option Addr} {bs : List Nat} (h : Own w B ao n cap bs) (hb : Below w.heap.size w w') : Own w' B ao n cap bs := by
  refine h.kept (grown_of_below hb none) ?_
  cases ao <;> simp [oblk]

theorem Lie.lit1 (w : World) (t : TypeId) (Y : Int) (y : Nat) (hY : Y = (y : Int)) : Lie (w.alloc (.cells #[.int .u8 Y] t)) (some ⟨w.heap.size, 0, none⟩) 1 [y] := by
  subst hY
  refine ⟨Nat.le_refl _, (by simp), fun k hk => ⟨w.heap.size, 0, rfl, ?_⟩⟩
  have : k = 0 := by simpa using hk
  subst this
  simp

theorem own_shape {w : World} {B n : Nat} {v : Value} {xs : List Value} (h : w.ownsRow B 5 1 v n xs) : ∃ ao cap, v = .slice ao n cap := by
  rcases h.2 with ⟨rfl, rfl⟩ | ⟨g, cap, cur, rfl, _⟩
  · exact ⟨_, _, rfl⟩
  · exact ⟨_, _, rfl⟩

theorem wp_append_nothing {w : World} {o : Oper} {a : Act} {K : Act → World → Prop} {Q : Exit → Act → World → Prop} (s x : Operand)
    (ho : o.op = .call { callee := .builtin .append, args := #[s, x], argTypes := #[22, 22] }) (B : Nat) (i0 : TypeInfo) (hi : Tryd.prog.info? 5 = some i0)
    (v : Value) (n : Nat) (xs : List Value) (hs : a.eval s = v) (hown : w.ownsRow B 5 1 v n xs) (hx : a.eval x = .slice none 0 0) (h : K (a.put o.dst v) w) : o.wp Tryd.prog a w K Q := by
  have hrun := run_append_owned_none (P := Tryd.prog) (w := w) B 22 o.type 5 i0 1 Tryd.underlying22 hi v n xs hown
  unfold Oper.wp
  simp [execOp, ho, resolve, invoke, builtin, hs, hx, hrun, Result.andThen]
  exact h

/-- 'append(out, src...)', out the call's own: one law for whatever source. -/
theorem wp_concat {w : World} {o : Oper} {a : Act} {K : Act → World → Prop} {Q : Exit → Act → World → Prop} (s x : Operand)
    (ho : o.op = .call { callee := .builtin .append, args := #[s, x], argTypes := #[22, 22] }) (B : Nat) (w0 : World)
    (ao ao2 : Option Addr) (n cap m cap2 : Nat) (bs new : List Nat) (hs : a.eval s = .slice ao n cap) (hown : Own w B ao n cap bs) (hx : a.eval x = .slice ao2 m cap2) (hm : m = new.length) (hL : Lie w ao2 cap2 new)
    (hb : Below B w0 w) (hB : B ≤ w.heap.size) (hlen : n + m ≤ 140737488355328)
    (h : ∀ ao' cap' w', Hid (Own w' B ao' (n + m) cap' (bs ++ new)) → Hid (Below B w0 w') → K (a.put o.dst (.slice ao' (n + m) cap')) w') : o.wp Tryd.prog a w K Q := by
  obtain ⟨i0, hi, hz0, hz1, hz2⟩ := info_parts Tryd.infoU8
  have hbl := hown.blk
  have key : ∀ ad, ao2 = some ad → o.wp Tryd.prog a w K Q := by
    rintro ad rfl
    refine wp_append_own w s x 22 ho B 5 i0 (.int .u8 0) 1 1 Tryd.underlying22 hi hz0 hz1 hz2 rfl (by decide) _ n (bys bs) hs hown ad m cap2 (bys new) hx (by rw [bys_length]; omega) ?_ (bys_one new) (by unfold maxLen; omega) (by omega) hB ?_
    · intro j u hj
      obtain ⟨hj', rfl⟩ := bys_get _ _ _ hj
      obtain ⟨b', o', e, hc⟩ := hL.2.2 j hj'
      cases e
      rw [Addr.add_lit]
      exact hc
    · intro v' w' hown' hgrow _
      obtain ⟨ao', cap', rfl⟩ := own_shape hown'
      refine h ao' cap' w' (Hid.in ?_) (Hid.in ?_)
      · unfold Own
        rw [bys_append]
        exact hown'
      · refine hb.grown hgrow hB ?_
        intro k hk
        refine (hbl k ?_).1
        cases ao with
        | none => cases hk
        | some q => exact hk
  cases ao2 with
  | some ad => exact key ad rfl
  | none =>
    have hc0 := hL.2.1 rfl
    subst hc0
    have h0 : new = [] := by
      cases new with
      | nil => rfl
      | cons y r => obtain ⟨_, _, e, _⟩ := hL.2.2 0 (by simp); cases e
    subst h0
    have hm0 : m = 0 := hm
    subst hm0
    refine wp_append_nothing s x ho B i0 hi _ n (bys bs) hs hown hx ?_
    exact h ao cap w (Hid.in (by rw [List.append_nil]; exact hown)) (Hid.in hb)

theorem wpList_concat {w : World} {ops : Array Oper} {rest : List Oper} {o : Oper} {a : Act} {Q : Exit → Act → World → Prop} (hgd : o.guard = none) (s x : Operand)
    (ho : o.op = .call { callee := .builtin .append, args := #[s, x], argTypes := #[22, 22] }) (B : Nat) (w0 : World)
    (ao ao2 : Option Addr) (n cap m cap2 : Nat) (bs new : List Nat) (hs : a.eval s = .slice ao n cap) (hown : Own w B ao n cap bs) (hx : a.eval x = .slice ao2 m cap2) (hm : m = new.length) (hL : Lie w ao2 cap2 new)
    (hb : Below B w0 w) (hB : B ≤ w.heap.size) (hlen : n + m ≤ 140737488355328)
    (h : ∀ ao' cap' w', Hid (Own w' B ao' (n + m) cap' (bs ++ new)) → Hid (Below B w0 w') → wpList Tryd.prog ops Q rest (a.put o.dst (.slice ao' (n + m) cap')) w') : wpList Tryd.prog ops Q (o :: rest) a w :=
  wpList_plain hgd fun _ hK => wp_concat s x ho B w0 ao ao2 n cap m cap2 bs new hs hown hx hm hL hb hB hlen fun ao' cap' w' h1 h2 => hK _ _ (h ao' cap' w' h1 h2)

theorem step_concat {w : World} {ops : Array Oper} {o : Oper} {a : Act} {K : Act → World → Prop} {Q : Exit → Act → World → Prop} {E : Prop} (hgd : o.guard = none) (s x : Operand)
    (ho : o.op = .call { callee := .builtin .append, args := #[s, x], argTypes := #[22, 22] }) (B : Nat) (w0 : World)
    (ao ao2 : Option Addr) (n cap m cap2 : Nat) (bs new : List Nat) (hs : a.eval s = .slice ao n cap) (hown : Own w B ao n cap bs) (hx : a.eval x = .slice ao2 m cap2) (hm : m = new.length) (hL : Lie w ao2 cap2 new)
    (hb : Below B w0 w) (hB : B ≤ w.heap.size) (hlen : n + m ≤ 140737488355328)
    (h : ∀ ao' cap' w', Hid (Own w' B ao' (n + m) cap' (bs ++ new)) → Hid (Below B w0 w') → K (a.put o.dst (.slice ao' (n + m) cap')) w') :
    if Region.wanted o (yielded ops a.tmps) = true then Oper.wp Tryd.prog o a w K Q else E := by
  have hw : Region.wanted o (yielded ops a.tmps) = true := by simp [Region.wanted, hgd]
  rw [if_pos hw]
  exact wp_concat s x ho B w0 ao ao2 n cap m cap2 bs new hs hown hx hm hL hb hB hlen h

theorem u64_or1 (m : Nat) (h : 2 * m < 18446744073709551616) : bits .or .u64 (2 * (m : Int)) 1 = 2 * (m : Int) + 1 := by
  refine bits_join .u64 64 (by decide) (fun n h0 h1 => ?_) 1 _ _ (by omega) (by omega) (by omega) (by omega) (by omega) (by omega)
  rw [IntKind.wrap_u64]; omega

theorem u64_and1 (m : Nat) (h : m < 18446744073709551616) : bits .and .u64 (m : Int) 1 = (m : Int) % 2 := by
  refine bits_mask .u64 64 (by decide) (fun n h0 h1 => ?_) 1 (by decide) _ (by omega) (by omega)
  rw [IntKind.wrap_u64]; omega

theorem fold_any (n : Int) (w : World) (h0 : -9223372036854775808 ≤ n) (h1 : n ≤ 9223372036854775807) :
    Calls Tryd.prog 41 #[.int .i64 n] w fun r w' => r = .returned (.int .u64 (zz n : Nat)) ∧ w' = w := by
  by_cases hn : n < 0
  · obtain ⟨m, hm⟩ : ∃ m : Nat, n = -1 - (m : Int) := ⟨(-1 - n).toNat, by omega⟩
    subst hm
    have ho : bits .or .u64 ((-1 - (-1 - (m : Int))) * 2) 1 = 2 * (m : Int) + 1 := by rw [show (-1 - (-1 - (m : Int))) * 2 = 2 * (m : Int) from by omega]; exact u64_or1 m (by omega)
    go_enter Tryd.func41, Tryd.ntmps41
    go_wp2
    go_ret
    exact ⟨ret_int (by unfold zz; split <;> omega), rfl⟩
  · obtain ⟨m, hm⟩ : ∃ m : Nat, n = (m : Int) := ⟨n.toNat, by omega⟩
    subst hm
    go_enter Tryd.func41, Tryd.ntmps41
    go_wp2
    go_ret
    exact ⟨ret_int (by unfold zz; split <;> omega), rfl⟩

theorem unfold_any (u : Nat) (w : World) (h1 : u < 18446744073709551616) :
    Calls Tryd.prog 52 #[.int .u64 u] w fun r w' => r = .returned (.int .i64 (uz u)) ∧ w' = w := by
  have ha := u64_and1 u h1
  by_cases hn : u % 2 = 1
  · have hq : ((u : Int) % 2 == 1) = true := by simp; omega
    go_enter Tryd.func52, Tryd.ntmps52
    go_wp2
    go_ret
    exact ⟨ret_int (by unfold uz; split <;> omega), rfl⟩
  · have hq : ((u : Int) % 2 == 1) = false := by simp; omega
    go_enter Tryd.func52, Tryd.ntmps52
    go_wp2
    go_ret
    exact ⟨ret_int (by unfold uz; split <;> omega), rfl⟩

end Go.Proofs.YtgepfbaojogccaaDoor
