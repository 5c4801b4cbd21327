/- DERIVED of the program: FabricWhole answers true. Own work. -/
import Derived.Test.YtmgmjklnibmacaaDoorFbArg
namespace Go.Proofs.YtmgmjklnibmacaaDoor
open Go.RowKit Go.Extern.Stop Go.Stop Go.Extern

/-- Two fabrics in one world. -/
structure Duo (w wr : World) (qa qb : Nat) (Sa Sb : List Nat) (cs rm : Nat) (P Q : List (List M13)) : Prop where
  a : Lv w wr qa Sa cs rm P
  b : Lv w wr qb Sb cs rm Q
  d : ∀ x ∈ Sa, x ∉ Sb
theorem Duo.step {w wr w' : World} {qa qb cs rm : Nat} {Sa Sb : List Nat} {P Q : List (List M13)} (h : Duo w wr qa qb Sa Sb cs rm P Q) (hb : Below wr.heap.size wr w') : Duo w w' qa qb Sa Sb cs rm P Q := ⟨h.a.step hb, h.b.step hb, h.d⟩
theorem Duo.goB {w wr w' : World} {qa qb cs rm : Nat} {Sa Sb Sb' : List Nat} {P Q Q' : List (List M13)} (h : Duo w wr qa qb Sa Sb cs rm P Q) (hb : Lv w w' qb Sb' cs rm Q') (hbe : Beside wr w' Sb Sb') : Duo w w' qa qb Sa Sb' cs rm P Q' :=
  ⟨⟨h.a.f.fr hbe.f (fun k hk => h.d k hk), h.a.lo, hb.b⟩, hb, fun x hx hm => by
    rcases hbe.s x hm with h1 | h1
    · exact h.d x hx h1
    · have := h.a.f.mem x hx; omega⟩
theorem Duo.goA {w wr w' : World} {qa qb cs rm : Nat} {Sa Sb Sa' : List Nat} {P Q P' : List (List M13)} (h : Duo w wr qa qb Sa Sb cs rm P Q) (ha : Lv w w' qa Sa' cs rm P') (hbe : Beside wr w' Sa Sa') : Duo w w' qa qb Sa' Sb cs rm P' Q :=
  ⟨ha, ⟨h.b.f.fr hbe.f (fun k hk hm => h.d k hm hk), h.b.lo, ha.b⟩, fun x hx hm => by
    rcases hbe.s x hx with h1 | h1
    · exact h.d x h1 hm
    · have := h.b.f.mem x hm; omega⟩
theorem eq_same (m : M13) (w : World) : (Op.equalIn 10000 32 (.agg (mv m)) (.agg (mv m))).run Tryd.prog w = .ok true w := by
  obtain ⟨k, c, l, t, o, e, w_, v, d0, d1, d2, d3, h⟩ := m
  have := eq_msgIn 9997 k c l t o e w_ v d0 d1 d2 d3 h k c l t o e w_ v d0 d1 d2 d3 h w
  rw [(eqB_iff _ _).2 rfl] at this
  exact this
theorem ne_same (m : M13) (w : World) : (binOp .neq 32 (.agg (mv m)) (.agg (mv m))).run Tryd.prog w = .ok (.bool false) w := by
  have := ne_msg m m w
  rwa [(eqB_iff _ _).2 rfl] at this
/-- An operation whose guard says yes. -/
theorem wpList_yes {P : Program} {ops : Array Oper} {Q : Exit → Act → World → Prop} {a : Act} {w : World} {rest : List Oper} {o : Oper} (hw : Region.wanted o (yielded ops a.tmps) = true)
    (h : ∀ K : Act → World → Prop, (∀ a w, wpList P ops Q rest a w → K a w) → o.wp P a w K Q) : wpList P ops Q (o :: rest) a w :=
  wpList_step fun K hK => by simp only [hw, if_true]; exact h K hK
theorem wpList_loadG {P : Program} {ops : Array Oper} {rest : List Oper} {op : Oper} {a : Act} {w : World} {Q : Exit → Act → World → Prop} (hgd : Region.wanted op (yielded ops a.tmps) = true) (ty : TypeId) (x : Operand) (ho : op.op = .load ty x)
    (b o : Nat) (hx : a.eval x = .pointer (some ⟨b, o, none⟩)) (cs : List Value) (d : TypeDesc) (hc : w.rangeAt b o cs)
    (hu : P.underlying ty = some d) (hd : d.isRow = true) (hi : (P.info? ty).map (·.size) = some cs.length)
    (h : wpList P ops Q rest (a.put op.dst (.agg cs.toArray)) w) : wpList P ops Q (op :: rest) a w :=
  wpList_yes hgd fun _ hK => wp_load_mid ty x ho b o hx cs d hc hu hd hi (hK _ _ h)
theorem wpList_build1G {w : World} {ops : Array Oper} {rest : List Oper} {o : Oper} {A : Act} {Q : Exit → Act → World → Prop} (hgd : Region.wanted o (yielded ops A.tmps) = true) (x : Operand) (ho : o.op = .buildSlice 44 1 #[(0, x)]) (a : M13) (hx : A.eval x = .agg (mv a))
    (hK : wpList Tryd.prog ops Q rest (A.put o.dst (.slice (some ⟨w.heap.size, 0, none⟩) 1 1)) (w.alloc (.cells (lits [a]) 32))) : wpList Tryd.prog ops Q (o :: rest) A w :=
  wpList_yes hgd fun _ h => wp_build1 x ho a hx (h _ _ hK)
/-- The row that is kept: right messages of cores that there are. -/
def OwnOk (W : List M13) : Prop := ∀ m ∈ W, okM 4 m = true ∧ M32 m ∧ M64 m
theorem OwnOk.snoc {W : List M13} (h : OwnOk W) {m : M13} (hm : okM 4 m = true ∧ M32 m ∧ M64 m) : OwnOk (W ++ [m]) := fun x hx => by
  rcases List.mem_append.1 hx with hx | hx
  · exact h x hx
  · obtain rfl := List.mem_singleton.1 hx; exact hm
theorem OwnOk.inb {W : List M13} (h : OwnOk W) : InB W := fun m hm => (h m hm).2
theorem OwnOk.bad {W : List M13} (h : OwnOk W) : badF 4 W = none := badF_all (fun m hm => (h m hm).1)
theorem Lv.ownW {w wr w' : World} {q cs rm : Nat} {S : List Nat} {P : List (List M13)} (h : Lv w wr q S cs rm P) {row : Option Nat} (hg : wr.grownBy w' row) (hr : ∀ k, row = some k → k ∉ S ∧ w.heap.size ≤ k) : Lv w w' q S cs rm P := by
  have hf : Fr row.toList wr w' := Fr.of_grown hg (fun k e => by rw [e]; simp)
  refine ⟨h.f.fr hf (fun k hk hm => (hr k (Option.mem_toList.1 hm)).1 hk), h.lo, hf.below h.b (fun k hk => (hr k (Option.mem_toList.1 hk)).2) h.b.size⟩
theorem Duo.own {w wr w' : World} {qa qb cs rm : Nat} {Sa Sb : List Nat} {P Q : List (List M13)} (h : Duo w wr qa qb Sa Sb cs rm P Q) {row : Option Nat} (hg : wr.grownBy w' row) (hr : ∀ k, row = some k → k ∉ Sa ∧ k ∉ Sb ∧ w.heap.size ≤ k) : Duo w w' qa qb Sa Sb cs rm P Q :=
  ⟨h.a.ownW hg (fun k hk => ⟨(hr k hk).1, (hr k hk).2.2⟩), h.b.ownW hg (fun k hk => ⟨(hr k hk).2.1, (hr k hk).2.2⟩), h.d⟩

set_option maxHeartbeats 6400000 in
set_option maxRecDepth 20000 in
theorem fabricWhole_any (w : World) (sa : Nat → Addr) (hE : Env10 w sa) (n0 : Int) (al : Option Addr) (nl capl : Nat) (Ls : List M13) (hLn : Ls.length = nl) (hL : Rows' 13 w al capl (Ls.map mc)) (hIn : InB Ls) : Calls Tryd.prog 6 #[.int .i64 n0, .slice al nl capl] w fun r w' => r = .returned (.bool true) ∧ Below w.heap.size w w' := by
  obtain ⟨k, ek, hk1, hk2⟩ := wI_nat n0 1 6 (by omega) (by omega)
  have W0 := Hid.in (fun w => within_n n0 1 6 w (by omega) (by omega) (by omega) k ek)
  have HE := Hid.in hE
  have HL := Hid.in hL
  have HIn := Hid.in hIn
  have HLn := Hid.in hLn
  clear ek hE hL hIn hLn
  go_enter Tryd.func6, Tryd.ntmps6
  go_wp2_with fail
  refine (W0.out _).mono ?_
  rintro r w ⟨rfl, rfl⟩
  go_wp2_with fail
  refine (lvnew_c w 4 k (by omega) (by omega) (by omega) (by omega)).mono ?_
  rintro r w1 ⟨qa, Sa, rfl, h1⟩
  have H1 := Hid.in h1
  clear h1
  go_wp2_with fail
  refine (lvnew_c w1 4 k (by omega) (by omega) (by omega) (by omega)).mono ?_
  rintro r w2 ⟨qb, Sb, rfl, h2⟩
  have HD : Hid (Duo w w2 qa qb Sa Sb 4 k (noneF 4) (noneF 4)) := Hid.in ⟨H1.out.step h2.b, ⟨h2.f, fun x hx => Nat.le_trans H1.out.b.size (h2.lo x hx), bstep H1.out.b (Nat.le_refl _) h2.b⟩, fun x hx hm => by have := H1.out.f.mem x hx; have := h2.lo x hm; omega⟩
  clear h2 H1
  go_wp2
  go_loopw [10, 11] (fun sl x wr => ∃ (i : Nat) (W : List M13) (ao : Option Addr) (N cap : Nat), i ≤ 12 ∧ i ≤ nl ∧ N ≤ i ∧ x = .int .i64 (i : Int) ∧ sl = .slice ao N cap ∧ W.length = N ∧ OwnOk W ∧ Duo w wr qa qb Sa Sb 4 k (noneF 4) (noneF 4) ∧ OwnA 32 13 wr w.heap.size ao N cap (W.map mc) ∧ (∀ k, oblk ao = some k → k ∉ Sa ∧ k ∉ Sb)) (fun _ x _ => 20 - (intOf x).toNat)
  case atStart => exact ⟨0, [], none, 0, 0, by omega, Nat.zero_le _, Nat.zero_le _, rfl, rfl, rfl, fun m hm => absurd hm List.not_mem_nil, HD.out, OwnA.nil _ _ _ _, fun k hk => by cases hk⟩
  case round =>
    obtain ⟨i, W, ao, N, cap, hi12, hinl, hNi, rfl, rfl, hN, hOk, hD, hO, hf⟩ := hrel
    have HN := Hid.in hN
    have HOk := Hid.in hOk
    have HD := Hid.in hD
    have HO := Hid.in hO
    have HF := Hid.in hf
    clear hN hOk hD hO hf
    by_cases hlt : i < nl ∧ i < 12
    · as_aux_lemma =>
        obtain ⟨hl1, hl2⟩ := hlt
        obtain ⟨mb, mo, m, rfl, hm, hRg⟩ := (HL.out.step HD.out.a.b).msg i (by rw [HLn.out]; exact hl1)
        obtain ⟨h32, h64⟩ := HIn.out.at hm
        have HRg := Hid.in hRg
        have i1 : (i : Int) < (nl : Int) := by omega
        have i2 : (i : Int) < 12 := by omega
        clear hm hRg
        obtain ⟨x0, x1, x2, x3, x4, x5, x6, x7, x8, x9, x10, x11, x12⟩ := m
        obtain ⟨qq, hqq⟩ : ∃ qq, wI x1 0 3 = qq := ⟨_, rfl⟩
        have hql := wI_le x1 0 3 (by omega)
        rw [hqq] at hql
        have HQ := Hid.in hqq
        have H32 : Hid (M32 (x0, qq, x2, x3, x4, x5, x6, x7, x8, x9, x10, x11, x12)) := Hid.in h32
        have H64 : Hid (M64 (x0, qq, x2, x3, x4, x5, x6, x7, x8, x9, x10, x11, x12)) := Hid.in ⟨h64.1, by omega, h64.2.2⟩
        clear h32 h64 hqq
        go_upto_region 11 with (first | (refine wpList_load_mid rfl 32 (.tmp 60) rfl mb (mo + i * 13) rfl (mc (x0, x1, x2, x3, x4, x5, x6, x7, x8, x9, x10, x11, x12)) _ HRg.out Tryd.underlying32 rfl (by rw [mc_len]; exact Tryd.sizeMsg) ?_; simp only [mc_arr, mv_eq]) | fail)
        go_wp2_with fail
        refine (within_i x1 0 3 _ (by omega) (by omega) (by omega)).mono ?_
        rw [HQ.out]
        rintro r w3 ⟨rfl, rfl⟩
        go_upto_region 12 with fail
        generalize hW : (wr.alloc (.cells #[.int .i64 x0, .int .i64 qq, .int .i64 x2, .int .i64 x3, .int .i64 x4, .int .i64 x5, .int .i64 x6, .int .u32 x7, .int .u32 x8, .int .u32 x9, .int .u32 x10, .int .u32 x11, .bool x12] 32)) = W1
        have hBK : W1.heap[wr.heap.size]? = some (.cells #[.int .i64 x0, .int .i64 qq, .int .i64 x2, .int .i64 x3, .int .i64 x4, .int .i64 x5, .int .i64 x6, .int .u32 x7, .int .u32 x8, .int .u32 x9, .int .u32 x10, .int .u32 x11, .bool x12] 32 (0, 0)) := by rw [← hW]; exact heap_alloc_new _ _
        have hb1 : Below wr.heap.size wr W1 := by rw [← hW]; exact below_alloc _ _
        obtain ⟨m, hm⟩ : ∃ m : M13, (x0, qq, x2, x3, x4, x5, x6, x7, x8, x9, x10, x11, x12) = m := ⟨_, rfl⟩
        have HRg : Hid (W1.rangeAt wr.heap.size 0 (mc m)) := Hid.in (fun j u hj => by
          rw [Nat.zero_add]
          refine blk_cell hBK ?_
          rw [← hm, mc_eq] at hj
          simpa using hj)
        rw [hm] at H32 H64
        have HCo : Hid (0 ≤ m.2.1 ∧ m.2.1 < ((4 : Nat) : Int)) := Hid.in (by rw [← hm]; exact ⟨hql.1, by show qq < _; omega⟩)
        have HD1 := Hid.in (HD.out.step hb1)
        have HO1 := Hid.in (HO.out.step hb1)
        have HFb : Hid (wr.heap.size ∉ Sa) := Hid.in (HD.out.a.f.far (Nat.le_refl _))
        have HFn : Hid (∀ x, W1.heap.size ≤ x → x ∉ Sa ∧ x ∉ Sb) := Hid.in (fun x hx => ⟨HD1.out.a.f.far hx, HD1.out.b.f.far hx⟩)
        obtain ⟨rb, hrb⟩ : ∃ rb, rtB m = rb := ⟨_, rfl⟩
        have HRi := Hid.in (fun y => sRight_any m y H32.out H64.out)
        rw [hrb] at HRi
        have HRb := Hid.in hrb
        clear hW hBK hb1 hm hrb HD HO hql
        go_wp2_with (first | (refine wpList_load_mid rfl 32 (.tmp 12) rfl wr.heap.size 0 rfl (mc m) _ HRg.out Tryd.underlying32 rfl (by rw [mc_len]; exact Tryd.sizeMsg) ?_; simp only [mc_arr]) | fail)
        refine (HRi.out _).mono ?_
        rintro r w4 ⟨rfl, hb4⟩
        have HD4 := Hid.in (HD1.out.step hb4)
        have HO4 := Hid.in (HO1.out.step hb4)
        have HR4 := Hid.in (rangeAt_step HRg.out hb4)
        clear hb4 HD1 HO1 HRg HRi
        cases rb with
        | false =>
          as_aux_lemma =>
            go_wp2
            go_roundw
            case rel => exact ⟨i + 1, W, ao, N, cap, by omega, by omega, by omega, by go_num, rfl, HN.out, HOk.out, HD4.out, HO4.out, HF.out⟩
            case measure => simp [intOf]; omega
        | true =>
          as_aux_lemma =>
            have hNl : N + 1 ≤ 1000000 := by omega
            go_wp2_with (first | (refine wpList_load_mid rfl 32 (.tmp 12) rfl wr.heap.size 0 rfl (mc m) _ HR4.out Tryd.underlying32 rfl (by rw [mc_len]; exact Tryd.sizeMsg) ?_; simp only [mc_arr]) | (refine wpList_build1 rfl (.tmp 69) rfl m rfl ?_) | (at_builtin; refine wpList_concatA rfl 44 32 13 80 _ (.tmp 68) (.tmp 70) rfl Tryd.underlying44 Tryd.infoMsg rfl (by decide) (by decide) w.heap.size ao (some ⟨w4.heap.size, 0, none⟩) N cap 1 1 (W.map mc) [mc m] rfl (HO4.out.step (below_alloc _ _)) rfl rfl (Rows'.lits w4 [m]) (Nat.le_trans HD4.out.a.b.size (below_alloc _ _).size) hNl ?_; intro ao3 cap3 w5 HO5 HG5 HN5 _) | fail)
            have HD5 := Hid.in ((HD4.out.step (below_alloc w4 (.cells (lits [m]) 32))).own HG5.out (fun k hk => ⟨(HF.out k hk).1, (HF.out k hk).2, (HO4.out.blk k hk).1⟩))
            have HF5 : Hid (∀ k, oblk ao3 = some k → k ∉ Sa ∧ k ∉ Sb) := Hid.in (fun k hk => by
              rcases HN5.out k hk with h1 | h1
              · exact HF.out k h1
              · exact ⟨(HD4.out.step (below_alloc w4 (.cells (lits [m]) 32))).a.f.far h1, (HD4.out.step (below_alloc w4 (.cells (lits [m]) 32))).b.f.far h1⟩)
            have HOk5 : Hid (OwnOk (W ++ [m])) := Hid.in (HOk.out.snoc ⟨by unfold okM; rw [HRb.out]; simpa using HCo.out.2, H32.out, H64.out⟩)
            clear hNl HG5 HN5 HO4 HD4
            go_roundw
            case rel => exact ⟨i + 1, W ++ [m], ao3, N + 1, cap3, by omega, by omega, by omega, by go_num, rfl, by rw [List.length_append, List.length_singleton, HN.out], HOk5.out, HD5.out, by rw [List.map_append]; exact HO5.out, HF5.out⟩
            case measure => simp [intOf]; omega
    · as_aux_lemma =>
        have hN12 : N ≤ 12 := by omega
        have htest : ¬ i < nl ∨ ¬ i < 12 := by omega
        rename World => wo
        go_upto_region 8 with fail
        go_cut [55] (fun b wx => b = .bool false ∧ wx = wo)
        case first =>
          by_cases hil : i < nl
          · have i1 : (i : Int) < (nl : Int) := by omega
            have i2 : ¬ (i : Int) < 12 := by omega
            go_wp2_with fail
            go_meet
            case rel => exact ⟨rfl, rfl⟩
          · have i1 : ¬ (i : Int) < (nl : Int) := by omega
            go_wp2_with fail
            go_meet
            case rel => exact ⟨rfl, rfl⟩
        case rest =>
          obtain ⟨rfl, hwx⟩ := hcut
          rename World => wc
          subst hwx
          rename World => wo
          clear htest hlt
          go_wp2
          go_loopw [13] (fun x wr => ∃ (j : Nat) (Sb : List Nat), j ≤ N ∧ x = .int .i64 (j : Int) ∧ (∀ (i : Nat) (m : M13), i < j → W[i]? = some m → lenF (putsF 4 (noneF 4) (W.take i)) (thM 4 m) < k) ∧ Duo w wr qa qb Sa Sb 4 k (noneF 4) (putsF 4 (noneF 4) (W.take j)) ∧ OwnA 32 13 wr w.heap.size ao N cap (W.map mc) ∧ (∀ k, oblk ao = some k → k ∉ Sa ∧ k ∉ Sb)) (fun x _ => 20 - (intOf x).toNat)
          case atStart => exact ⟨0, Sb, Nat.zero_le _, rfl, fun _ _ h => absurd h (Nat.not_lt_zero _), HD.out, HO.out, HF.out⟩
          case round =>
            obtain ⟨j, Sb2, hj, rfl, hfit, hD2, hO2, hF2⟩ := hrel
            have HFit := Hid.in hfit
            have HD2 := Hid.in hD2
            have HO2 := Hid.in hO2
            have HF2 := Hid.in hF2
            clear hfit hD2 hO2 hF2 HD HO HF
            rename World => wr
            go_upto_region 15 with fail
            by_cases hmore : ∃ m, W[j]? = some m ∧ lenF (putsF 4 (noneF 4) (W.take j)) (thM 4 m) < k
            · as_aux_lemma =>
                obtain ⟨m, hm, hroom⟩ := hmore
                have hjN : j < N := by rw [← HN.out]; exact (List.getElem?_eq_some_iff.1 hm).1
                obtain ⟨hok, h32, h64⟩ := HOk.out m (List.mem_of_getElem? hm)
                have HOne := Hid.in (one_ok hok hroom)
                have HM := Hid.in hm
                have HRoom := Hid.in hroom
                have HInm := Hid.in (inB1 ⟨h32, h64⟩)
                clear hroom hok h32 h64
                obtain ⟨ob, oo, m', rfl, hm', hRg⟩ := HO2.out.msg j (by rw [HN.out]; exact hjN)
                rw [hm] at hm'
                cases hm'
                have HRg := Hid.in hRg
                have ij : (j : Int) < (N : Int) := by omega
                have hsend := lvsend_f w wr sa HE.out qb 4 k Sb2 _ HD2.out.b [m] HInm.out 1 rfl (by omega) 0 0 0 rfl _ HOne.out.1 HOne.out.2
                rw [perr_none] at hsend
                clear hm hRg
                go_wp2_with (first | (refine wpList_loadG rfl 32 (.tmp 80) rfl ob (oo + j * 13) rfl (mc m) _ HRg.out Tryd.underlying32 rfl (by rw [mc_len]; exact Tryd.sizeMsg) ?_; simp only [mc_arr]) | (refine wpList_build1G rfl (.tmp 81) rfl m rfl ?_) | fail)
                refine hsend.mono ?_
                clear hsend
                rintro r w5 ⟨rfl, Sb5, hb5, hbe⟩
                have HD5 := Hid.in (HD2.out.goB hb5 hbe)
                obtain ⟨ho5, hf5⟩ := hbe.row HO2.out (fun k hk => (HF2.out k hk).2)
                have HO5 := Hid.in ho5
                have HF5 : Hid (∀ x, oblk (some ⟨ob, oo, none⟩) = some x → x ∉ Sa ∧ x ∉ Sb5) := Hid.in (fun x hx => ⟨(HF2.out x hx).1, hf5 x hx⟩)
                clear hb5 hbe ho5 hf5 HD2 HO2
                go_wp2
                go_roundw
                case rel =>
                  refine ⟨j + 1, Sb5, by omega, by go_num, fun x y hx hy => ?_, ?_, HO5.out, HF5.out⟩
                  · rcases Nat.lt_or_ge x j with h1 | h1
                    · exact HFit.out x y h1 hy
                    · obtain rfl : x = j := by omega
                      rw [HM.out] at hy
                      cases hy
                      exact HRoom.out
                  · rw [putsF_take HM.out]; exact HD5.out
                case measure => simp [intOf]; omega
            · as_aux_lemma =>
                go_cut [85] (fun b wx => b = .bool false ∧ ∃ Sb5, Duo w wx qa qb Sa Sb5 4 k (noneF 4) (putsF 4 (noneF 4) (W.take j)) ∧ OwnA 32 13 wx w.heap.size ao N cap (W.map mc) ∧ (∀ k, oblk ao = some k → k ∉ Sa ∧ k ∉ Sb5))
                case first =>
                  by_cases hjN : j < N
                  · obtain ⟨m, hm⟩ : ∃ m, W[j]? = some m := ⟨_, List.getElem?_eq_getElem (by rw [HN.out]; exact hjN)⟩
                    obtain ⟨hok, h32, h64⟩ := HOk.out m (List.mem_of_getElem? hm)
                    have HOne := Hid.in (one_full (P := putsF 4 (noneF 4) (W.take j)) (rm := k) hok (by rcases Nat.lt_or_ge (lenF (putsF 4 (noneF 4) (W.take j)) (thM 4 m)) k with h1 | h1; (· exact absurd ⟨m, hm, h1⟩ hmore); exact h1))
                    have HInm := Hid.in (inB1 ⟨h32, h64⟩)
                    clear hok h32 h64 hmore
                    obtain ⟨ob, oo, m', rfl, hm', hRg⟩ := HO2.out.msg j (by rw [HN.out]; exact hjN)
                    rw [hm] at hm'
                    cases hm'
                    have HRg := Hid.in hRg
                    have ij : (j : Int) < (N : Int) := by omega
                    have hsend := lvsend_f w wr sa HE.out qb 4 k Sb2 _ HD2.out.b [m] HInm.out 1 rfl (by omega) 6 0 0 rfl _ HOne.out.1 HOne.out.2
                    rw [perr_ne _ _ _ _ (by decide)] at hsend
                    clear hm hRg
                    go_wp2_with (first | (refine wpList_loadG rfl 32 (.tmp 80) rfl ob (oo + j * 13) rfl (mc m) _ HRg.out Tryd.underlying32 rfl (by rw [mc_len]; exact Tryd.sizeMsg) ?_; simp only [mc_arr]) | (refine wpList_build1G rfl (.tmp 81) rfl m rfl ?_) | fail)
                    refine hsend.mono ?_
                    clear hsend
                    rintro r w5 ⟨rfl, Sb5, hb5, hbe⟩
                    have HD5 := Hid.in (HD2.out.goB hb5 hbe)
                    obtain ⟨ho5, hf5⟩ := hbe.row HO2.out (fun k hk => (HF2.out k hk).2)
                    have HO5 := Hid.in ho5
                    have HF5 : Hid (∀ x, oblk (some ⟨ob, oo, none⟩) = some x → x ∉ Sa ∧ x ∉ Sb5) := Hid.in (fun x hx => ⟨(HF2.out x hx).1, hf5 x hx⟩)
                    clear hb5 hbe ho5 hf5 HD2 HO2
                    go_wp2
                    go_meet
                    case rel => exact ⟨rfl, Sb5, HD5.out, HO5.out, HF5.out⟩
                  · have ij : ¬ (j : Int) < (N : Int) := by omega
                    clear hmore
                    go_wp2_with fail
                    go_meet
                    case rel => exact ⟨rfl, Sb2, HD2.out, HO2.out, HF2.out⟩
                case rest =>
                  obtain ⟨rfl, Sb5, hD5, hO5, hF5⟩ := hcut
                  have HD5 := Hid.in hD5
                  have HO5 := Hid.in hO5
                  have HF5 := Hid.in hF5
                  have HStop : Hid (j = N ∨ ∃ m, W[j]? = some m ∧ k ≤ lenF (putsF 4 (noneF 4) (W.take j)) (thM 4 m)) := Hid.in (by
                    rcases Nat.lt_or_ge j N with h1 | h1
                    · have hm : W[j]? = some (W[j]'(by rw [HN.out]; exact h1)) := List.getElem?_eq_getElem _
                      refine .inr ⟨_, hm, ?_⟩
                      rcases Nat.lt_or_ge (lenF (putsF 4 (noneF 4) (W.take j)) (thM 4 (W[j]'(by rw [HN.out]; exact h1)))) k with h2 | h2
                      · exact absurd ⟨_, hm, h2⟩ hmore
                      · exact h2
                    · exact .inl (by omega))
                  clear hD5 hO5 hF5 hmore HD2 HO2 HF2
                  rename World => wr
                  by_cases hjN : j = N
                  · as_aux_lemma =>
                      subst hjN
                      have hfull : fullF 4 k (noneF 4) W = none := fullF_none (fun x m hm => HFit.out x m (by rw [← HN.out]; exact (List.getElem?_eq_some_iff.1 hm).1) hm)
                      have hft : fitsF 4 k (noneF 4) W = (0, 0) := fitsF_ok HOk.out.bad hfull
                      obtain ⟨P, hP⟩ : ∃ P, putsF 4 (noneF 4) W = P := ⟨_, rfl⟩
                      have hst : sentF 4 k (noneF 4) W = P := by rw [sentF_ok (by rw [hft]), hP]
                      have HD6 : Hid (Duo w wr qa qb Sa Sb5 4 k (noneF 4) P) := Hid.in (by have := HD5.out; rw [List.take_of_length_le (by rw [HN.out]; exact Nat.le_refl _), hP] at this; exact this)
                      have HAl : Hid (allF P = j) := Hid.in (by rw [← hP, allF_puts (noneF_len 4) (fun m hm => (HOk.out m hm).1), allF_none, HN.out, Nat.zero_add])
                      have hsend := lvsendr_f w wr sa HE.out qa 4 k Sa (noneF 4) HD6.out.a ao cap W (HO5.out.rows (mcs_one _)) (fun x hx => (HF5.out x hx).1) HOk.out.inb j HN.out (by omega) 0 0 0 rfl P hft hst
                      rw [perr_none] at hsend
                      clear hfull hft hst hP HFit HStop HD5
                      go_wp2_with fail
                      refine hsend.mono ?_
                      clear hsend
                      rintro r w6 ⟨rfl, Sa6, ha6, hbe⟩
                      have HD7 := Hid.in (HD6.out.goA ha6 hbe)
                      clear ha6 hbe HD6 HO5 HF5 HOk
                      go_wp2
                      go_loopw [15] (fun x wr => ∃ p : Nat, p ≤ 4 ∧ x = .int .i64 (p : Int) ∧ Duo w wr qa qb Sa6 Sb5 4 k P P) (fun x _ => 10 - (intOf x).toNat)
                      case atStart => exact ⟨0, by omega, rfl, HD7.out⟩
                      case round =>
                        obtain ⟨p, hp, rfl, hD8⟩ := hrel
                        have HD8 := Hid.in hD8
                        clear hD8 HD7
                        by_cases hp4 : p < 4
                        · as_aux_lemma =>
                            have ip : (p : Int) < 4 := by omega
                            go_wp2
                            go_loopw [16] (fun x wr => ∃ c : Nat, c ≤ 4 ∧ x = .int .i64 (c : Int) ∧ Duo w wr qa qb Sa6 Sb5 4 k P P) (fun x _ => 10 - (intOf x).toNat)
                            case atStart => exact ⟨0, by omega, rfl, HD8.out⟩
                            case round =>
                              obtain ⟨c, hc, rfl, hD9⟩ := hrel
                              have HD9 := Hid.in hD9
                              clear hD9 HD8
                              by_cases hc4 : c < 4
                              · as_aux_lemma =>
                                  have ic : (c : Int) < 4 := by omega
                                  obtain ⟨n1, hn1⟩ : ∃ n1, lenP 4 P (p : Int) (c : Int) = n1 := ⟨_, rfl⟩
                                  have HN1 := Hid.in hn1
                                  have hn64 : n1 ≤ 64 := by
                                    rw [← hn1]
                                    unfold lenP
                                    split
                                    · omega
                                    · have := HD9.out.a.f.ok.room; have h6 := HD9.out.a.f.ok.rm64; rename_i x _; exact Nat.le_trans (this x) h6
                                  have HLa := Hid.in (fblen_c wr qa 4 k Sa6 P HD9.out.a.f (p : Int) (c : Int) n1 hn1)
                                  have HLb := Hid.in (fblen_c wr qb 4 k Sb5 P HD9.out.b.f (p : Int) (c : Int) n1 hn1)
                                  clear hn1
                                  go_wp2_with fail
                                  refine HLa.out.mono ?_
                                  rintro r wz ⟨rfl, rfl⟩
                                  go_wp2_with fail
                                  refine HLb.out.mono ?_
                                  rintro r wr ⟨rfl, rfl⟩
                                  clear HLa HLb
                                  go_wp2
                                  go_loopw [17] (fun x wr => ∃ i : Nat, i ≤ n1 ∧ x = .int .i64 (i : Int) ∧ Duo w wr qa qb Sa6 Sb5 4 k P P) (fun x _ => 70 - (intOf x).toNat)
                                  case atStart => exact ⟨0, Nat.zero_le _, rfl, HD9.out⟩
                                  case round =>
                                    obtain ⟨i, hi, rfl, hD10⟩ := hrel
                                    have HD10 := Hid.in hD10
                                    clear hD10 HD9
                                    have HLa := Hid.in (fblen_c wr qa 4 k Sa6 P HD10.out.a.f (p : Int) (c : Int) n1 HN1.out)
                                    go_wp2_with fail
                                    refine HLa.out.mono ?_
                                    rintro r wz ⟨rfl, rfl⟩
                                    clear HLa
                                    by_cases hi1 : i < n1
                                    · as_aux_lemma =>
                                        have ii : (i : Int) < (n1 : Int) := by omega
                                        obtain ⟨m, bb, hpk⟩ : ∃ m bb, peekF 4 P (p : Int) (c : Int) (i : Int) = (m, bb) := ⟨_, _, rfl⟩
                                        have HPk := Hid.in hpk
                                        clear hpk
                                        go_wp2_with fail
                                        refine (fbpeek_c wz qa 4 k Sa6 P HD10.out.a.f (p : Int) (c : Int) (i : Int) m bb HPk.out).mono ?_
                                        rintro r v1 ⟨rfl, hb1⟩
                                        have HD11 := Hid.in (HD10.out.step hb1)
                                        clear hb1 HD10
                                        go_upto_region 34 with (first | (refine wpList_store_mid rfl 32 (.tmp 18) (.tmp 142) rfl v1.heap.size 0 (mv m) rfl rfl (there_zero v1 m) (Tryd.sizeMv _) (mv_one _) ?_; generalize hu1 : (v1.alloc _).setCells v1.heap.size 0 (mv m).toList = u1) | fail)
                                        have Ru1 : Hid (u1.rangeAt v1.heap.size 0 (mc m)) := Hid.in (by rw [← hu1]; exact World.rangeAt_setCells_same _ _ _ _ (by rw [Array.length_toList]; exact there_zero v1 m))
                                        have Gu1 : Hid (Below v1.heap.size v1 u1) := Hid.in (by
                                          have hg : v1.grownBy u1 (some v1.heap.size) := by rw [← hu1]; exact grown_trans' (grown_of_below (below_alloc _ _) _) (grown_setCells _ _ _ _)
                                          exact ⟨hg.os, hg.tape, hg.output, hg.size, fun k hk => hg.block k hk (fun e => by cases e; omega)⟩)
                                        clear hu1
                                        have HD12 := Hid.in (HD11.out.step Gu1.out)
                                        clear HD11 Gu1
                                        go_wp2_with fail
                                        refine (fbpeek_c u1 qb 4 k Sb5 P HD12.out.b.f (p : Int) (c : Int) (i : Int) m bb HPk.out).mono ?_
                                        rintro r v2 ⟨rfl, hb2⟩
                                        have HD13 := Hid.in (HD12.out.step hb2)
                                        have R2 := Hid.in (rangeAt_step Ru1.out hb2)
                                        clear hb2 HD12 Ru1
                                        go_upto_region 35 with (first | (refine wpList_store_mid rfl 32 (.tmp 20) (.tmp 150) rfl v2.heap.size 0 (mv m) rfl rfl (there_zero v2 m) (Tryd.sizeMv _) (mv_one _) ?_; generalize hu2 : (v2.alloc _).setCells v2.heap.size 0 (mv m).toList = u2) | fail)
                                        have Ru2 : Hid (u2.rangeAt v2.heap.size 0 (mc m)) := Hid.in (by rw [← hu2]; exact World.rangeAt_setCells_same _ _ _ _ (by rw [Array.length_toList]; exact there_zero v2 m))
                                        have Gu2 : Hid (Below v2.heap.size v2 u2) := Hid.in (by
                                          have hg : v2.grownBy u2 (some v2.heap.size) := by rw [← hu2]; exact grown_trans' (grown_of_below (below_alloc _ _) _) (grown_setCells _ _ _ _)
                                          exact ⟨hg.os, hg.tape, hg.output, hg.size, fun k hk => hg.block k hk (fun e => by cases e; omega)⟩)
                                        clear hu2
                                        have HD14 := Hid.in (HD13.out.step Gu2.out)
                                        have R3 := Hid.in (rangeAt_step R2.out Gu2.out)
                                        clear HD13 R2 Gu2
                                        have hne := fun w => ne_same m w
                                        have heq := fun w => eq_same m w
                                        go_wp2_with (first | (refine wpList_load_mid rfl 32 (.tmp 18) rfl v1.heap.size 0 rfl (mc m) _ R3.out Tryd.underlying32 rfl (by rw [mc_len]; exact Tryd.sizeMsg) ?_; simp only [mc_arr]) | (refine wpList_load_mid rfl 32 (.tmp 20) rfl v2.heap.size 0 rfl (mc m) _ Ru2.out Tryd.underlying32 rfl (by rw [mc_len]; exact Tryd.sizeMsg) ?_; simp only [mc_arr]) | fail)
                                        go_roundw
                                        case rel => exact ⟨i + 1, by omega, by go_num, HD14.out⟩
                                        case measure => simp [intOf]; omega
                                    · as_aux_lemma =>
                                        have ii : ¬ (i : Int) < (n1 : Int) := by omega
                                        go_wp2
                                        go_roundw
                                        case rel => exact ⟨c + 1, by omega, by go_num, HD10.out⟩
                                        case measure => simp [intOf]; omega
                              · as_aux_lemma =>
                                  have ic : ¬ (c : Int) < 4 := by omega
                                  go_wp2
                                  go_roundw
                                  case rel => exact ⟨p + 1, by omega, by go_num, HD9.out⟩
                                  case measure => simp [intOf]; omega
                        · as_aux_lemma =>
                            have ip : ¬ (p : Int) < 4 := by omega
                            have HC := Hid.in (fball_c wr qa 4 k Sa6 P HD8.out.a.f j HAl.out)
                            go_wp2_with fail
                            refine HC.out.mono ?_
                            rintro r wz ⟨rfl, rfl⟩
                            go_wp2_with fail
                            refine (fabricRuns_any _ sa (HE.out.below HD8.out.a.b)).mono ?_
                            rintro r x4 ⟨rfl, hb4⟩
                            have HB4 := Hid.in (bstep HD8.out.a.b (Nat.le_refl _) hb4)
                            clear hb4 HC
                            go_wp2
                            go_ret
                            exact ⟨rfl, HB4.out⟩
                  · as_aux_lemma =>
                      obtain ⟨m, hm, hkm⟩ : ∃ m, W[j]? = some m ∧ k ≤ lenF (putsF 4 (noneF 4) (W.take j)) (thM 4 m) := by
                        rcases HStop.out with h1 | h1
                        · exact absurd h1 hjN
                        · exact h1
                      have hfull : fullF 4 k (noneF 4) W = some j := fullF_some HFit.out (fun x hx => by rw [hm] at hx; cases hx; exact hkm) (by rw [HN.out]; omega)
                      have hft : fitsF 4 k (noneF 4) W = (6, j) := fitsF_full HOk.out.bad hfull
                      have hst : sentF 4 k (noneF 4) W = noneF 4 := sentF_no (by rw [hft]; simp)
                      have hjf : ((j : Int) == (N : Int)) = false := by simp; omega
                      have hsend := lvsendr_f w wr sa HE.out qa 4 k Sa (noneF 4) HD5.out.a ao cap W (HO5.out.rows (mcs_one _)) (fun x hx => (HF5.out x hx).1) HOk.out.inb N HN.out (by omega) 6 j (j : Int) rfl _ hft hst
                      have HIs := Hid.in (fun y (hy : Env10 y sa) => kIs_perr opFSend (j : Int) 6 (by omega) y sa hy)
                      rw [perr_ne _ _ _ _ (by decide)] at hsend HIs
                      clear hm hkm hfull hft hst HFit HStop
                      go_wp2_with fail
                      refine hsend.mono ?_
                      clear hsend
                      rintro r w6 ⟨rfl, Sa6, ha6, _⟩
                      have HA6 := Hid.in ha6
                      clear ha6 HD5 HO5 HF5 HOk
                      have hA : Calls Tryd.prog 13 #[.pointer (some ⟨qa, 0, none⟩)] w6 fun r w' => r = .returned (.int .i64 0) ∧ w' = w6 := fball_c w6 qa 4 k Sa6 _ HA6.out.f 0 (allF_none 4)
                      have HA := Hid.in hA
                      clear hA
                      go_wp2_with fail
                      refine HA.out.mono ?_
                      rintro r w7 ⟨rfl, rfl⟩
                      clear HA
                      go_wp2_with fail
                      refine (HIs.out _ (HE.out.below HA6.out.b)).mono ?_
                      rintro r w8 ⟨rfl, hb8⟩
                      have HB8 := Hid.in (bstep HA6.out.b (Nat.le_refl _) hb8)
                      clear hb8
                      go_wp2_with fail
                      refine (fabricRuns_any _ sa (HE.out.below HB8.out)).mono ?_
                      rintro r w9 ⟨rfl, hb9⟩
                      have HB9 := Hid.in (bstep HB8.out (Nat.le_refl _) hb9)
                      clear hb9
                      go_wp2
                      go_ret
                      exact ⟨rfl, HB9.out⟩

end Go.Proofs.YtmgmjklnibmacaaDoor
