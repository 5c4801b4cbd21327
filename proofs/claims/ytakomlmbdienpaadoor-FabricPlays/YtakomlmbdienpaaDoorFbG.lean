/- DERIVED of the program: the project's fabric: slices.Delete of messages; Send (refused too), Take by their contracts. Own work. -/
import Derived.Test.YtakomlmbdienpaaDoorFbF
namespace Go.Proofs.YtakomlmbdienpaaDoor
open Go.RowKit Go.Extern.Stop Go.Stop Go.Extern

theorem sentF_no {cs rm : Nat} {P : List (List M13)} {L : List M13} (h : (fitsF cs rm P L).1 ≠ 0) : sentF cs rm P L = P := if_neg h
theorem sentF_ok {cs rm : Nat} {P : List (List M13)} {L : List M13} (h : (fitsF cs rm P L).1 = 0) : sentF cs rm P L = putsF cs P L := if_pos h
theorem perr_ne (sa : Nat → Addr) (c : Nat) (op : ByteArray) (n : Int) (h : c ≠ 0) : perr sa c op n = flt op n (snt (sa c)) := if_neg h
theorem fbsend_c (w : World) (sa : Nat → Addr) (hE : Env10 w sa) (q cs rm : Nat) (S : List Nat) (P : List (List M13)) (hF : Fab w q S cs rm P) (ao : Option Addr) (n cap : Nat) (L : List M13) (hL : Rows' 13 w ao cap (L.map mc)) (hn : L.length = n) (hIn : InB L) (hlen : n ≤ 1000) (hsep : ∀ k, oblk ao = some k → k ∉ S) (c k : Nat) (P' : List (List M13)) (hc : fitsF cs rm P L = (c, k)) (hP : sentF cs rm P L = P') :
    Calls Tryd.prog 10 #[.pointer (some ⟨q, 0, none⟩), .slice ao n cap] w fun r w' => r = .returned (perr sa c opFSend (k : Int)) ∧ ∃ S', Turned w w' q S S' cs rm P' := by
  by_cases hc0 : c = 0
  · subst hc0
    obtain ⟨h1, h2⟩ := fitsF_zero (by rw [hc])
    rw [sentF_ok (by rw [hc])] at hP
    subst hP
    exact fbsend_ok w sa hE q cs rm S P hF ao n cap L hL hn hIn hlen hsep h1 h2
  · rw [sentF_no (by rw [hc]; exact hc0)] at hP
    subst hP
    have HFi := Hid.in (fbfits_c w sa hE q cs rm S P hF ao n cap L hL hn hIn hlen c k hc)
    have HF := Hid.in hF
    have HP := perr_ne sa c opFSend (k : Int) hc0
    rw [HP] at HFi
    rw [HP]
    clear hF hL hn hIn hsep hE hc HP
    go_enter Tryd.func10, Tryd.ntmps10
    go_wp2_with fail
    refine HFi.out.mono ?_
    rintro r w1 ⟨rfl, hb1⟩
    clear HFi
    go_wp2
    go_ret
    exact ⟨rfl, S, Turned.same HF.out hb1⟩

theorem slice_toM (b o N cap j : Nat) (hj : j ≤ cap) (w : World) : (Instr.sliceAt 44 (.slice (some ⟨b, o, none⟩) N cap) none (some (.int .i64 (j : Int))) none).run Tryd.prog w = .ok (.slice (some ⟨b, o, none⟩) j cap) w := by
  obtain ⟨i0, hi, hz0, hz1, hz2⟩ := info_parts Tryd.infoMsg
  simp [Instr.sliceAt, Instr.slice, Instr.sliceBounds, Instr.sliceBound, asIntOf, Sem.run_bind, run_underlying Tryd.underlying44, hj, sizeOf, typeInfo, hi, Addr.add_lit]
theorem slice_fromM (b o n cap j : Nat) (hj : j ≤ n) (w : World) :
    (Instr.sliceAt 44 (.slice (some ⟨b, o, none⟩) n cap) (some (.int .i64 (j : Int))) none none).run Tryd.prog w = .ok (.slice (some (if cap = j then ⟨b, o, none⟩ else ⟨b, o + j * 13, none⟩)) (n - j) (cap - j)) w := by
  obtain ⟨i0, hi, hz0, hz1, hz2⟩ := info_parts Tryd.infoMsg
  simp [Instr.sliceAt, Instr.slice, Instr.sliceBounds, Instr.sliceBound, asIntOf, Sem.run_bind, run_underlying Tryd.underlying44, hj, sizeOf, typeInfo, hi, hz1, Addr.add_lit]
  split <;> rfl
theorem slice_midM (b o p n cap : Nat) (hn : n = p + 1) (hc : n ≤ cap) (w : World) :
    (Instr.sliceAt 44 (.slice (some ⟨b, o, none⟩) p cap) (some (.int .i64 (p : Int))) (some (.int .i64 (n : Int))) none).run Tryd.prog w = .ok (.slice (some ⟨b, o + p * 13, none⟩) 1 (cap - p)) w := by
  obtain ⟨i0, hi, hz0, hz1, hz2⟩ := info_parts Tryd.infoMsg
  subst hn
  have hj3 : ¬ cap = p := by omega
  have hj4 : (0 : Int) ≤ (p : Int) + 1 ∧ (p : Int) + 1 ≤ (cap : Int) := by omega
  have hj6 : ((p : Int) + 1).toNat = p + 1 := by omega
  simp [Instr.sliceAt, Instr.slice, Instr.sliceBounds, Instr.sliceBound, asIntOf, Sem.run_bind, run_underlying Tryd.underlying44, sizeOf, typeInfo, hi, hz1, hj3, hj4, hj6, Addr.add_lit]
theorem slice_threeM (b o n cap k j : Nat) (hkj : k ≤ j) (hj : j ≤ n) (hc : n ≤ cap) : ∃ v, ∀ w, (Instr.sliceAt 44 (.slice (some ⟨b, o, none⟩) n cap) (some (.int .i64 (k : Int))) (some (.int .i64 (j : Int))) (some (.int .i64 (n : Int)))).run Tryd.prog w = .ok v w := by
  obtain ⟨i0, hi, hz0, hz1, hz2⟩ := info_parts Tryd.infoMsg
  refine ⟨.slice (some (if n = k then ⟨b, o, none⟩ else ⟨b, o + k * 13, none⟩)) (j - k) (n - k), fun w => ?_⟩
  simp [Instr.sliceAt, Instr.slice, Instr.sliceBounds, Instr.sliceBound, asIntOf, Sem.run_bind, run_underlying Tryd.underlying44, sizeOf, typeInfo, hi, hz1, Addr.add_lit, hkj, hj, hc]
  split <;> rfl

/-- 'clear(s)' of one message. -/
theorem run_clearM (w : World) (ty : TypeId) (b o c : Nat) (hc : ∀ j, j < 13 → (w.cell? ⟨b, o + j, none⟩).isSome = true) (hf : ∀ j, j < 13 → w.frozen? ⟨b, o + j, none⟩ = false) :
    (Builtin.clear_ #[44] ty #[.slice (some ⟨b, o, none⟩) 1 c]).run Tryd.prog w = .ok (.tuple #[]) (w.setCells b o (mc zero13)) := by
  obtain ⟨i0, hi, hz0, hz1, hz2⟩ := info_parts Tryd.infoMsg
  have hv : (zeroValue 32).run Tryd.prog w = .ok (.agg (mv zero13)) w := by simp [zeroValue, typeInfo, hi, hz0]
  have hz : (Builtin.zeroCells (Value.agg (mv zero13)).cells 1).toList = mc zero13 := by kernel_rfl
  have hst := run_storeCells_cells (P := Tryd.prog) b o (mc zero13) 0 w (by rw [mc_len]; simpa using hc) (by rw [mc_len]; simpa using hf) (mc_one _)
  simp only [Nat.add_zero] at hst
  simp [Builtin.clear_, run_underlying Tryd.underlying44, hv, hz, hst]
theorem wpList_clearM {w : World} {ops : Array Oper} {rest : List Oper} {o : Oper} {a : Act} {Q : Exit → Act → World → Prop} (hgd : o.guard = none) (s : Operand)
    (ho : o.op = .call { callee := .builtin .clear, args := #[s], argTypes := #[44] }) (b of c : Nat) (cur : Array Value) (hs : a.eval s = .slice (some ⟨b, of, none⟩) 1 c) (hh : w.heap[b]? = some (.cells cur 32 (0, 0))) (hsz : of + 13 ≤ cur.size)
    (h : wpList Tryd.prog ops Q rest (a.put o.dst (.tuple #[])) (w.setCells b of (mc zero13))) : wpList Tryd.prog ops Q (o :: rest) a w := by
  refine wpList_plain hgd fun K hK => ?_
  have hr := run_clearM w o.type b of c
    (fun j hj => by
      have hlt : of + j < cur.size := by omega
      rw [blk_cell hh (Array.getElem?_eq_getElem hlt)]; rfl)
    (fun j hj => blk_free hh)
  unfold Oper.wp execOp
  simp only [ho, resolve, invoke, builtin, Sem.run_bind, Sem.run_pure, Result.andThen_ok, List.map_toArray, List.map_cons, List.map_nil, hs, hr]
  exact hK _ _ h
/-- Cells behind a row's last one written: it stays. -/
theorem OwnA.past {t : TypeId} {m : Nat} {w : World} {B n cap g o p : Nat} {rs : List (List Value)} {vs : List Value} (h : OwnA t m w B (some ⟨g, o, none⟩) n cap rs) (hp : o + n * m ≤ p) : OwnA t m (w.setCells g p vs) B (some ⟨g, o, none⟩) n cap rs := by
  refine ⟨h.each, h.len, h.le, h.max, h.nil0, fun ad e => ?_⟩
  obtain ⟨g', o', cur, e', hg, hh, hsz, hrd⟩ := h.at_ _ rfl
  cases e'
  cases e
  obtain ⟨cs', h1, h2, h3, h4⟩ := blk_setCells vs p w cur hh
  refine ⟨g, o, cs', rfl, hg, h1, by rw [h2]; exact hsz, fun j u hj => ?_⟩
  have hlt := (List.getElem?_eq_some_iff.1 hj).1
  rw [flat_len h.each, h.len] at hlt
  rw [h3 _ (by omega)]
  exact hrd j u hj

set_option maxHeartbeats 3200000 in
set_option maxRecDepth 20000 in
theorem fdelete_any (w : World) (B b o n k j p cap : Nat) (L : List M13) (hO : OwnA 32 13 w B (some ⟨b, o, none⟩) n cap (L.map mc)) (hk : k < n) (hj : j = k + 1) (hnp : n = p + 1) (h8 : n ≤ 1000) (hB : B ≤ w.heap.size) :
    Calls Tryd.prog 33 #[.slice (some ⟨b, o, none⟩) n cap, .int .i64 (k : Int), .int .i64 (j : Int)] w fun r w' => r = .returned (.slice (some ⟨b, o, none⟩) p cap) ∧ OwnA 32 13 w' B (some ⟨b, o, none⟩) p cap ((L.eraseIdx k).map mc) ∧ w.grownBy w' (some b) := by
  have HO := Hid.in hO
  have hle := hO.le
  have hLn := hO.mlen
  have hmx : (cap : Int) ≤ 9223372036854775807 := by have := hO.max; unfold maxLen at this; omega
  have hs1 := slice_fromM b o n cap j (by omega)
  have hs2 := slice_midM b o p n cap hnp hle
  have hs3 := slice_toM b o n cap k (by omega)
  obtain ⟨v3, hs4⟩ := slice_threeM b o n cap k j (by omega) (by omega) hle
  have i1 : (k : Int) ≤ (j : Int) := by omega
  have i2 : (j : Int) ≤ (n : Int) := by omega
  have i3 : (n : Int) ≤ (cap : Int) := by omega
  have HT : Hid (OwnA 32 13 w B (some (if cap = j then ⟨b, o, none⟩ else ⟨b, o + j * 13, none⟩)) (n - j) (cap - j) ((L.drop j).map mc)) := Hid.in (by
    rw [List.map_drop]
    by_cases hc : cap = j
    · rw [if_pos hc]
      have e1 : n - j = 0 := by omega
      have e2 : cap - j = 0 := by omega
      rw [e1, e2, List.drop_eq_nil_of_le (by rw [List.length_map]; omega)]
      exact hO.gone
    · rw [if_neg hc]
      exact hO.drop j (by omega))
  obtain ⟨A, hA⟩ : ∃ A, (if cap = j then (⟨b, o, none⟩ : Addr) else ⟨b, o + j * 13, none⟩) = A := ⟨_, rfl⟩
  obtain ⟨r1, hr1⟩ : ∃ r1, n - j = r1 := ⟨_, rfl⟩
  obtain ⟨c1, hc1⟩ : ∃ c1, cap - j = c1 := ⟨_, rfl⟩
  rw [hA, hr1, hc1] at hs1 HT
  have hne : ((k : Int) == (j : Int)) = false := by simp; omega
  have hkr : k + r1 = p := by omega
  have hpc : p + 1 ≤ cap := by omega
  have hp8 : k + r1 ≤ 1000000 := by omega
  have hrc : k + r1 ≤ cap := by omega
  have H0 : Hid (OwnA 32 13 w.drew B (some ⟨b, o, none⟩) k cap ((L.take k).map mc)) := Hid.in (by rw [List.map_take]; exact (HO.out.step ((Below.refl _ _).drew)).take k (by omega))
  have HR : Hid (Rows' 13 w.drew (some A) c1 ((L.drop j).map mc)) := Hid.in (OwnA.rows (HT.out.step ((Below.refl _ _).drew)) (mcs_one _))
  have HL : Hid (r1 = ((L.drop j).map mc).length) := Hid.in (by rw [List.length_map, HT.out.mlen])
  have HEr : Hid ((L.eraseIdx k).map mc = (L.take k).map mc ++ (L.drop j).map mc) := Hid.in (by rw [List.eraseIdx_eq_take_drop_succ, List.map_append, hj])
  have HKR := Hid.in hkr
  clear HT HO hO hA hr1 hc1 hj hnp hk hLn
  go_enter Tryd.func33, Tryd.ntmps33
  go_wp2_with fail
  go_region_law (refine step_concatA rfl 44 32 13 80 _ (.tmp 22) (.tmp 25) rfl Tryd.underlying44 Tryd.infoMsg rfl (by decide) (by decide) B (some ⟨b, o, none⟩) (some A) k cap r1 c1 _ _ rfl H0.out rfl HL.out HR.out hB hp8 ?_; intro ao' cap' w' h1 h2 h3 h4; obtain ⟨rfl, rfl⟩ := h4.out hrc)
  all_goals
    clear hs1 H0 HR h3 h4 hs3
    obtain ⟨_, _, cur, ee, hg, hh, hsz, _⟩ := h1.out.at_ _ rfl
    cases ee
    have hsz2 : o + p * 13 + 13 ≤ cur.size := by have : (p + 1) * 13 ≤ cap' * 13 := Nat.mul_le_mul_right 13 hpc; omega
    have HF : Hid (OwnA 32 13 (w'.setCells b (o + p * 13) (mc zero13)) B (some ⟨b, o, none⟩) p cap' ((L.eraseIdx k).map mc) ∧ w.grownBy (w'.setCells b (o + p * 13) (mc zero13)) (some b)) := Hid.in (by
      have h1' := h1.out
      rw [← HEr.out, HKR.out] at h1'
      have hg1 := h2.out
      have hg2 := grown_setCells w' b (o + p * 13) (mc zero13)
      exact ⟨h1'.past (Nat.le_refl _), ⟨hg2.os.trans hg1.os, hg2.tape.trans hg1.tape, hg2.output.trans hg1.output, Nat.le_trans hg1.size hg2.size, fun k hk hne => (hg2.block k (Nat.lt_of_lt_of_le hk hg1.size) hne).trans (hg1.block k hk hne)⟩⟩)
    have HH := Hid.in hh
    have HS := Hid.in hsz2
    clear h1 h2 hh hsz hsz2 hg
    go_wp2_with (first | (refine wpList_clearM rfl (.tmp 31) rfl b (o + p * 13) _ cur rfl HH.out HS.out ?_) | fail)
    go_ret
    exact ⟨rfl, HF.out⟩

end Go.Proofs.YtakomlmbdienpaaDoor
