/- DERIVED of the program: slices.Delete of the first store; Pop by its contract. Own work. -/
import Derived.Test.YteajmkfmoocanaaDoorBfA
namespace Go.Proofs.YteajmkfmoocanaaDoor
open Go.RowKit Go.Extern.Stop Go.Stop Go.Extern

/-- 's[1:]' of a row of structs of two cells. -/
theorem slice_from1 (ts te : TypeId) (z : Value) (by_ : Nat) (hts : Tryd.prog.underlying ts = some (.slice te)) (hte : (Tryd.prog.info? te).map (fun i => (i.zero, i.size, i.bytes)) = some (some z, 2, by_)) (b o n cap : Nat) (hn : 1 ≤ n) (w : World) :
    (Instr.sliceAt ts (.slice (some ⟨b, o, none⟩) n cap) (some (.int .i64 1)) none none).run Tryd.prog w = .ok (.slice (some (if cap = 1 then ⟨b, o, none⟩ else ⟨b, o + 2, none⟩)) (n - 1) (cap - 1)) w := by
  obtain ⟨i0, hi, hz0, hz1, hz2⟩ := info_parts hte
  have hj2 : (1 : Int) ≤ (n : Int) := by omega
  simp [Instr.sliceAt, Instr.slice, Instr.sliceBounds, Instr.sliceBound, asIntOf, Sem.run_bind, run_underlying hts, hj2, sizeOf, typeInfo, hi, hz1]
  split <;> rfl
theorem OwnA.tail {t : TypeId} {w : World} {B n cap b o : Nat} {L : List (Int × Int)} (h : OwnW t w B (some ⟨b, o, none⟩) n cap L) (hn : 1 ≤ n) : OwnW t w B (some (if cap = 1 then ⟨b, o, none⟩ else ⟨b, o + 2, none⟩)) (n - 1) (cap - 1) (L.drop 1) := by
  unfold OwnW
  rw [List.map_drop]
  by_cases hc : cap = 1
  · rw [if_pos hc]
    have hle := h.le
    have hl := h.len
    obtain rfl : n = 1 := by omega
    subst hc
    rw [List.drop_eq_nil_of_le (by omega)]
    exact h.gone
  · rw [if_neg hc]
    have := h.drop 1 hn
    rwa [Nat.one_mul] at this

/-- 'clear(s)' of one struct of two numbers. -/
theorem run_clear_one (w : World) (t e ty : TypeId) (z : Value) (zs : List Value) (ht : Tryd.prog.underlying t = some (.slice e)) (hv : ∀ w, (zeroValue e).run Tryd.prog w = .ok z w) (hz : (Builtin.zeroCells z.cells 1).toList = zs) (h1 : ∀ v ∈ zs, v.oneCell' = true) (b o c : Nat)
    (hc : ∀ j, j < zs.length → (w.cell? ⟨b, o + j, none⟩).isSome = true) (hf : ∀ j, j < zs.length → w.frozen? ⟨b, o + j, none⟩ = false) :
    (Builtin.clear_ #[t] ty #[.slice (some ⟨b, o, none⟩) 1 c]).run Tryd.prog w = .ok (.tuple #[]) (w.setCells b o zs) := by
  have hst := run_storeCells_cells (P := Tryd.prog) b o zs 0 w (by simpa using hc) (by simpa using hf) h1
  simp only [Nat.add_zero] at hst
  simp [Builtin.clear_, run_underlying ht, hv, hz, hst]
theorem Tryd.zeroWrite (w : World) : (zeroValue 32).run Tryd.prog w = .ok (.agg #[.int .i64 0, .int .u32 0]) w := by
  obtain ⟨i0, hi, hz0, hz1, hz2⟩ := info_parts Tryd.infoWrite
  simp [zeroValue, typeInfo, hi, hz0]
theorem wpList_clear1 {w : World} {ops : Array Oper} {rest : List Oper} {o : Oper} {a : Act} {Q : Exit → Act → World → Prop} (hgd : o.guard = none) (s : Operand)
    (ho : o.op = .call { callee := .builtin .clear, args := #[s], argTypes := #[47] }) (b of c : Nat) (cur : Array Value) (hs : a.eval s = .slice (some ⟨b, of, none⟩) 1 c) (hh : w.heap[b]? = some (.cells cur 32 (0, 0))) (hsz : of + 2 ≤ cur.size)
    (h : wpList Tryd.prog ops Q rest (a.put o.dst (.tuple #[])) (w.setCells b of [.int .i64 0, .int .u32 0])) : wpList Tryd.prog ops Q (o :: rest) a w := by
  refine wpList_plain hgd fun K hK => ?_
  have hr := run_clear_one w 47 32 o.type (.agg #[.int .i64 0, .int .u32 0]) [.int .i64 0, .int .u32 0] Tryd.underlying47 Tryd.zeroWrite (by kernel_rfl) (fun v hv => by simp only [List.mem_cons, List.not_mem_nil, or_false] at hv; rcases hv with rfl | rfl <;> rfl) b of c
    (fun j hj => by
      have hlt : of + j < cur.size := by simp only [List.length_cons, List.length_nil] at hj; omega
      rw [blk_cell hh (Array.getElem?_eq_getElem hlt)]; rfl)
    (fun j hj => blk_free hh)
  unfold Oper.wp execOp
  simp only [ho, resolve, invoke, builtin, Sem.run_bind, Sem.run_pure, Result.andThen_ok, List.map_toArray, List.map_cons, List.map_nil, hs, hr]
  exact hK _ _ h

/-- Cells behind a row's last one written: it stays. -/
theorem OwnA.past {t : TypeId} {m : Nat} {w : World} {B n cap g o p : Nat} {rs : List (List Value)} {vs : List Value} (h : OwnA t m w B (some ⟨g, o, none⟩) n cap rs) (hp : o + n * m ≤ p) : OwnA t m (w.setCells g p vs) B (some ⟨g, o, none⟩) n cap rs := by
  refine ⟨h.each, h.len, h.le, h.max, h.nil0, fun ad e => ?_⟩
  obtain ⟨g', o', cur, e', hg, hh, hsz, hrd⟩ := h.at_ _ rfl
  cases e'
  cases e
  obtain ⟨cs', h1, h2, h3, h4⟩ := blk_setCells vs p w cur hh
  refine ⟨g, o, cs', rfl, hg, h1, by rw [h2]; exact hsz, fun j u hj => ?_⟩
  have hlt := (List.getElem?_eq_some_iff.1 hj).1
  rw [flat_len h.each, h.len] at hlt
  rw [h3 _ (by omega)]
  exact hrd j u hj

/-- 's[p:p+1]' of a row of p structs of two cells that has more room. -/
theorem slice_mid (ts te : TypeId) (z : Value) (by_ : Nat) (hts : Tryd.prog.underlying ts = some (.slice te)) (hte : (Tryd.prog.info? te).map (fun i => (i.zero, i.size, i.bytes)) = some (some z, 2, by_)) (b o p n cap : Nat) (hn : n = p + 1) (hc : n ≤ cap) (w : World) :
    (Instr.sliceAt ts (.slice (some ⟨b, o, none⟩) p cap) (some (.int .i64 (p : Int))) (some (.int .i64 (n : Int))) none).run Tryd.prog w = .ok (.slice (some ⟨b, o + p * 2, none⟩) 1 (cap - p)) w := by
  obtain ⟨i0, hi, hz0, hz1, hz2⟩ := info_parts hte
  subst hn
  have hj3 : ¬ cap = p := by omega
  have hj4 : (0 : Int) ≤ (p : Int) + 1 ∧ (p : Int) + 1 ≤ (cap : Int) := by omega
  have hj6 : ((p : Int) + 1).toNat = p + 1 := by omega
  simp [Instr.sliceAt, Instr.slice, Instr.sliceBounds, Instr.sliceBound, asIntOf, Sem.run_bind, run_underlying hts, sizeOf, typeInfo, hi, hz1, hj3, hj4, hj6, Addr.add_lit]

set_option maxHeartbeats 1600000 in
theorem delete_any (w : World) (B b o n p cap : Nat) (L : List (Int × Int)) (hO : OwnW 32 w B (some ⟨b, o, none⟩) n cap L) (hnp : n = p + 1) (h8 : n ≤ 1000) (hB : B ≤ w.heap.size) :
    Calls Tryd.prog 25 #[.slice (some ⟨b, o, none⟩) n cap, .int .i64 0, .int .i64 1] w fun r w' => r = .returned (.slice (some ⟨b, o, none⟩) p cap) ∧ OwnW 32 w' B (some ⟨b, o, none⟩) p cap (L.drop 1) ∧ w.grownBy w' (some b) := by
  have HO := Hid.in hO
  have hle := hO.le
  have hmx : (cap : Int) ≤ 9223372036854775807 := by have := hO.max; unfold maxLen at this; omega
  have hs1 := slice_from1 47 32 _ _ Tryd.underlying47 Tryd.infoWrite b o n cap (by omega)
  have hs2 := slice_mid 47 32 _ _ Tryd.underlying47 Tryd.infoWrite b o p n cap hnp hle
  have HT := Hid.in (hO.tail (by omega))
  obtain ⟨A, hA⟩ : ∃ A, (if cap = 1 then (⟨b, o, none⟩ : Addr) else ⟨b, o + 2, none⟩) = A := ⟨_, rfl⟩
  have hp : n - 1 = p := by omega
  rw [hA, hp] at hs1 HT
  have i1 : (1 : Int) ≤ (n : Int) := by omega
  have i2 : (n : Int) ≤ (cap : Int) := by omega
  have hpc : p + 1 ≤ cap := by omega
  have hp8 : p ≤ 1000 := by omega
  have HN := Hid.in hnp
  clear hO hA hp hnp
  have H0 : Hid (OwnA 32 2 w.drew B (some ⟨b, o, none⟩) 0 cap []) := Hid.in (by have := (HO.out.step ((Below.refl _ _).drew)).take 0 (Nat.zero_le _); rwa [List.take_zero] at this)
  have HR : Hid (Rows' 2 w.drew (some A) (cap - 1) ((L.drop 1).map wc)) := Hid.in (OwnA.rows (HT.out.step ((Below.refl _ _).drew)) (wcs_one _))
  have HL : Hid (p = ((L.drop 1).map wc).length) := Hid.in (by rw [List.length_map, HT.out.wlen])
  clear HT HO
  go_enter Tryd.func25, Tryd.ntmps25
  go_wp2_with fail
  go_region_law (refine step_concatA rfl 47 32 2 16 _ (.tmp 22) (.tmp 25) rfl Tryd.underlying47 Tryd.infoWrite rfl (by decide) (by decide) B (some ⟨b, o, none⟩) (some A) 0 cap p (cap - 1) [] _ rfl H0.out rfl HL.out HR.out hB (by omega) ?_; intro ao' cap' w' h1 h2 h3 h4; obtain ⟨rfl, rfl⟩ := h4.out (by omega))
  all_goals
    clear hs1 H0 HR h3 h4
    obtain ⟨_, _, cur, ee, hg, hh, hsz, _⟩ := h1.out.at_ _ rfl
    cases ee
    have hsz2 : o + p * 2 + 2 ≤ cur.size := by have : (p + 1) * 2 ≤ cap' * 2 := Nat.mul_le_mul_right 2 hpc; omega
    have HF : Hid (OwnW 32 (w'.setCells b (o + p * 2) [.int .i64 0, .int .u32 0]) B (some ⟨b, o, none⟩) p cap' (L.drop 1) ∧ w.grownBy (w'.setCells b (o + p * 2) [.int .i64 0, .int .u32 0]) (some b)) := Hid.in (by
      have h1' := h1.out
      rw [Nat.zero_add, List.nil_append] at h1'
      have hg1 := h2.out
      have hg2 := grown_setCells w' b (o + p * 2) [.int .i64 0, .int .u32 0]
      exact ⟨h1'.past (Nat.le_refl _), ⟨hg2.os.trans hg1.os, hg2.tape.trans hg1.tape, hg2.output.trans hg1.output, Nat.le_trans hg1.size hg2.size, fun k hk hne => (hg2.block k (Nat.lt_of_lt_of_le hk hg1.size) hne).trans (hg1.block k hk hne)⟩⟩)
    have HH := Hid.in hh
    have HS := Hid.in hsz2
    clear h1 h2 hh hsz hsz2 hg
    go_wp2_with (first | (refine wpList_clear1 rfl (.tmp 31) rfl b (o + p * 2) _ cur rfl HH.out HS.out ?_) | fail)
    go_ret
    exact ⟨rfl, HF.out⟩

end Go.Proofs.YteajmkfmoocanaaDoor
