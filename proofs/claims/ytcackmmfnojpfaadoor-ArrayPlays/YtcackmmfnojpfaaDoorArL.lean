/- DERIVED of the program: rows of entries of the call's own; List by its contract. Own work. -/
import Derived.Test.YtcackmmfnojpfaaDoorArG
namespace Go.Proofs.YtcackmmfnojpfaaDoor
open Go.RowKit Go.Extern.Stop Go.Stop Go.Extern

/-- The cells of a row of entries. -/
def ecs (es : List En) : List Value := es.flatMap En.ec
theorem ecs_append (a b : List En) : ecs (a ++ b) = ecs a ++ ecs b := by simp [ecs]
theorem ecs_len : ∀ es : List En, (ecs es).length = es.length * 10
  | [] => rfl
  | e :: r => by
    have := ecs_len r
    simp only [ecs, List.flatMap_cons, List.length_append, ec_len, List.length_cons] at this ⊢
    rw [this]; omega
theorem ecs_get : ∀ (es : List En) (j c : Nat) (hj : j < es.length), c < 10 → (ecs es)[j * 10 + c]? = (es[j].ec)[c]?
  | e :: r, 0, c, _, hc => by
    simp only [ecs, List.flatMap_cons, Nat.zero_mul, Nat.zero_add, List.getElem_cons_zero]
    rw [List.getElem?_append_left (by rw [ec_len]; exact hc)]
  | e :: r, j + 1, c, hj, hc => by
    have := ecs_get r j c (by simpa using hj) hc
    simp only [ecs, List.flatMap_cons, List.getElem_cons_succ] at this ⊢
    rw [List.getElem?_append_right (by rw [ec_len]; omega), ec_len, show (j + 1) * 10 + c - 10 = j * 10 + c by omega]
    exact this
theorem ec_one (e : En) : ∀ v ∈ e.ec, v.oneCell' = true := by
  intro v hv
  simp only [En.ec, List.mem_cons, List.not_mem_nil, or_false] at hv
  rcases hv with rfl | rfl | rfl | rfl | rfl | rfl | rfl | rfl | rfl | rfl <;> rfl

/-- The call's own row of entries. -/
def OwnE (t : TypeId) (w : World) (B : Nat) (ao : Option Addr) (n cap : Nat) (es : List En) : Prop := w.ownsRow B t 10 (.slice ao n cap) n (ecs es)

theorem OwnE.nil (t : TypeId) (w : World) (B : Nat) : OwnE t w B none 0 0 [] := ⟨rfl, .inl ⟨rfl, rfl⟩⟩
theorem OwnE.len {t : TypeId} {w : World} {B n cap : Nat} {ao : Option Addr} {es : List En} (h : OwnE t w B ao n cap es) : n = es.length := by
  have := h.1
  rw [ecs_len] at this
  omega
theorem OwnE.blk {t : TypeId} {w : World} {B n cap : Nat} {ao : Option Addr} {es : List En} (h : OwnE t w B ao n cap es) : ∀ k, oblk ao = some k → B ≤ k ∧ ∃ cur, w.heap[k]? = some (.cells cur t (0, 0)) := by
  obtain ⟨h1, h2⟩ := h
  intro k hk
  rcases h2 with ⟨e, _⟩ | ⟨g, cap', cur, e, hg, hh, r⟩
  · simp only [Value.slice.injEq] at e
    rw [e.1] at hk; cases hk
  · simp only [Value.slice.injEq] at e
    rw [e.1] at hk
    cases hk
    exact ⟨hg, cur, hh⟩
theorem OwnE.step {t : TypeId} {w w' : World} {B n cap : Nat} {ao : Option Addr} {es : List En} (h : OwnE t w B ao n cap es) (hb : Below w.heap.size w w') : OwnE t w' B ao n cap es :=
  World.ownsRow.kept h (grown_of_below hb none) (by
    cases ao with
    | none => exact .inl rfl
    | some q => exact .inr (by simp [Value.ownBlock]))
theorem OwnE.low {t : TypeId} {w : World} {B B' n cap : Nat} {ao : Option Addr} {es : List En} (h : OwnE t w B ao n cap es) (hB : B' ≤ B) : OwnE t w B' ao n cap es := by
  obtain ⟨h1, h2⟩ := h
  refine ⟨h1, ?_⟩
  rcases h2 with h2 | ⟨g, cap', cur, e, hg, hh, r⟩
  · exact .inl h2
  · exact .inr ⟨g, cap', cur, e, Nat.le_trans hB hg, hh, r⟩
theorem OwnE.ent {t : TypeId} {w : World} {B n cap : Nat} {ao : Option Addr} {es : List En} (h : OwnE t w B ao n cap es) (j : Nat) (hj : j < es.length) : ∃ b, ao = some ⟨b, 0, none⟩ ∧ ECells w b (j * 10) es[j] := by
  have hn := h.len
  obtain ⟨h1, h2⟩ := h
  rcases h2 with ⟨e, h0⟩ | ⟨g, cap', cur, e, hg, hh, hle, hm, hsz, ht⟩
  · omega
  · simp only [Value.slice.injEq] at e
    refine ⟨g, e.1, ?_⟩
    have f : ∀ c v, c < 10 → (es[j].ec)[c]? = some v → w.cell? ⟨g, j * 10 + c, none⟩ = some v := by
      intro c v hc hv
      have hx : cur.toList[j * 10 + c]? = some v := by
        have h3 : (cur.toList.take (n * 10))[j * 10 + c]? = some v := by rw [ht, ecs_get es j c hj hc, hv]
        rw [List.getElem?_take] at h3
        simpa [show j * 10 + c < n * 10 by omega] using h3
      simp only [World.cell?, hh]
      simpa using hx
    exact ⟨f 0 _ (by decide) rfl, f 1 _ (by decide) rfl, f 2 _ (by decide) rfl, f 3 _ (by decide) rfl, f 4 _ (by decide) rfl, f 5 _ (by decide) rfl, f 6 _ (by decide) rfl, f 7 _ (by decide) rfl, f 8 _ (by decide) rfl, f 9 _ (by decide) rfl⟩
theorem ownE_shape {t : TypeId} {w : World} {B n : Nat} {v : Value} {xs : List Value} (h : w.ownsRow B t 10 v n xs) : ∃ ao cap, v = .slice ao n cap := by
  rcases h.2 with ⟨rfl, rfl⟩ | ⟨g, cap, cur, rfl, _⟩
  · exact ⟨_, _, rfl⟩
  · exact ⟨_, _, rfl⟩

/-- 'append(row, e)', row the call's own, e in a new block. -/
theorem wpList_pushE {w : World} {ops : Array Oper} {rest : List Oper} {o : Oper} {a : Act} {Q : Exit → Act → World → Prop} (ts te : TypeId) (hgd : o.guard = none) (s x : Operand)
    (ho : o.op = .call { callee := .builtin .append, args := #[s, x], argTypes := #[ts, ts] }) (hts : Tryd.prog.underlying ts = some (.slice te)) (hte : (Tryd.prog.info? te).map (fun i => (i.zero, i.size, i.bytes)) = some (some En.zero.val, 10, 56)) (B : Nat) (w0 : World)
    (ao : Option Addr) (H n cap : Nat) (es : List En) (e : En) (hs : a.eval s = .slice ao n cap) (hown : OwnE te w B ao n cap es) (hx : a.eval x = .slice (some ⟨H, 0, none⟩) 1 1) (hc : ECells w H 0 e)
    (hb : Below B w0 w) (hB : B ≤ w.heap.size) (hlen : n ≤ 1000)
    (h : ∀ ao' cap' w', Hid (OwnE te w' B ao' (n + 1) cap' (es ++ [e])) → Hid (Below B w0 w') → Hid (w.grownBy w' (oblk ao)) → wpList Tryd.prog ops Q rest (a.put o.dst (.slice ao' (n + 1) cap')) w') : wpList Tryd.prog ops Q (o :: rest) a w := by
  obtain ⟨i0, hi, hz0, hz1, hz2⟩ := info_parts hte
  have hbl := hown.blk
  refine wpList_append_own w hgd s x ts ho B te i0 En.zero.val 10 56 hts hi hz0 hz1 hz2 rfl (by decide) _ n _ hs hown ⟨H, 0, none⟩ 1 1 e.ec hx rfl ?_ (ec_one e) (by unfold maxLen; omega) (by omega) hB ?_
  · intro j u hj
    have hj10 : j < 10 := by have := (List.getElem?_eq_some_iff.1 hj).1; rwa [ec_len] at this
    rw [Addr.add_lit]
    obtain ⟨c0, c1, c2, c3, c4, c5, c6, c7, c8, c9⟩ := hc
    have h10 : j = 0 ∨ j = 1 ∨ j = 2 ∨ j = 3 ∨ j = 4 ∨ j = 5 ∨ j = 6 ∨ j = 7 ∨ j = 8 ∨ j = 9 := by omega
    rcases h10 with rfl | rfl | rfl | rfl | rfl | rfl | rfl | rfl | rfl | rfl
    · exact c0.trans hj
    · exact c1.trans hj
    · exact c2.trans hj
    · exact c3.trans hj
    · exact c4.trans hj
    · exact c5.trans hj
    · exact c6.trans hj
    · exact c7.trans hj
    · exact c8.trans hj
    · exact c9.trans hj
  · intro v' w' hown' hgrow _
    obtain ⟨ao', cap', rfl⟩ := ownE_shape hown'
    have hob : (Value.slice ao n cap).ownBlock = oblk ao := by cases ao <;> rfl
    rw [hob] at hgrow
    refine h ao' cap' w' (Hid.in ?_) (Hid.in ?_) (Hid.in hgrow)
    · unfold OwnE
      rw [ecs_append, show ecs [e] = e.ec from by simp [ecs]]
      exact hown'
    · exact hb.grown hgrow hB (fun k hk => (hbl k hk).1)

theorem ECells.lit (w : World) (t : TypeId) (e : En) (o : Obj) (ho : o = .cells e.ec.toArray t) : ECells (w.alloc o) w.heap.size 0 e := by
  subst ho
  have h : (w.alloc (.cells e.ec.toArray t)).heap[w.heap.size]? = some (.cells e.ec.toArray t) := heap_alloc_new _ _
  exact ⟨blk_cell h rfl, blk_cell h rfl, blk_cell h rfl, blk_cell h rfl, blk_cell h rfl, blk_cell h rfl, blk_cell h rfl, blk_cell h rfl, blk_cell h rfl, blk_cell h rfl⟩

theorem listA_take {A : List St} {i b : Nat} {es : List En} (h : A[i]? = some (b, es)) : listA (A.take (i + 1)) = listA (A.take i) ++ es.filter (fun e => !e.free) := by
  obtain ⟨hl, he⟩ := List.getElem?_eq_some_iff.1 h
  rw [List.take_succ_eq_append_getElem hl, he]
  simp [listA, List.filter_append]
theorem filt_take {es : List En} {j : Nat} (h : j < es.length) : (es.take (j + 1)).filter (fun e => !e.free) = (es.take j).filter (fun e => !e.free) ++ (if es[j].free then [] else [es[j]]) := by
  rw [List.take_succ_eq_append_getElem h, List.filter_append]
  congr 1
  cases hf : es[j].free <;> simp [hf]
theorem listA_le {A : List St} {k : Nat} (h : ∀ i (hi : i < A.length), (A[i]).2.length = k) : ∀ i, i ≤ A.length → (listA (A.take i)).length ≤ i * k
  | 0, _ => by simp [listA]
  | i + 1, hi => by
    have h1 := listA_le h i (by omega)
    have h2 := h i (by omega)
    rw [listA_take (i := i) (b := A[i].1) (es := A[i].2) (by rw [List.getElem?_eq_getElem (by omega)]), List.length_append]
    have h3 := List.length_filter_le (fun e => !e.free) (A[i]).2
    rw [Nat.succ_mul]
    omega

set_option maxHeartbeats 3200000 in
set_option maxRecDepth 20000 in
theorem list_any (w : World) (B k : Nat) (A : List St) (hA : Arr w B k A) :
    Calls Tryd.prog 26 #[.pointer (some ⟨B + 1, 0, none⟩)] w fun r w' => ∃ ao cap, r = .returned (.slice ao (listA A).length cap) ∧ OwnE 32 w' w.heap.size ao (listA A).length cap (listA A) ∧ Below w.heap.size w w' := by
  have HA := Hid.in hA
  have k0 : w.cell? ⟨B + 1, 0, none⟩ = some (.slice (some ⟨B, 0, none⟩) A.length A.length) := blk_cell hA.q rfl
  obtain ⟨p1, p2, p3, p4⟩ := hA.pos
  have HLE := Hid.in (listA_le (fun i hi => (hA.ok i hi).2))
  clear hA
  go_enter Tryd.func26, Tryd.ntmps26
  go_wp2
  go_loopw [3, 13] (fun s c wr => ∃ (i : Nat) (ao : Option Addr) (n cap : Nat), i ≤ A.length ∧ c = .int .i64 (i : Int) ∧ s = .slice ao n cap ∧ OwnE 32 wr w.heap.size ao n cap (listA (A.take i)) ∧ Below w.heap.size w wr) (fun _ c _ => 8 - (intOf c).toNat)
  case atStart => exact ⟨0, none, 0, 0, Nat.zero_le _, rfl, rfl, OwnE.nil _ _ _, Below.refl _ _⟩
  case round =>
    obtain ⟨i, ao, n, cap, hi, rfl, rfl, hO, hb⟩ := hrel
    have HO := Hid.in hO
    have HB := Hid.in hb
    clear hO hb
    by_cases hlt : i < A.length
    · obtain ⟨b, es, hg⟩ : ∃ b es, A[i]? = some (b, es) := ⟨_, _, List.getElem?_eq_getElem hlt⟩
      have hA2 := HA.out.step HB.out
      obtain ⟨_, k1, k2, _, hk, _⟩ := hA2.hdr hg
      have HG := Hid.in hg
      have HK := Hid.in hk
      have i1 : (i : Int) < (A.length : Int) := by omega
      rename World => wo
      clear hA2 hg hk k0
      go_wp2
      go_loopw [3, 20] (fun s c wv => ∃ (j : Nat) (ao : Option Addr) (n cap : Nat), j ≤ k ∧ c = .int .i64 (j : Int) ∧ s = .slice ao n cap ∧ OwnE 32 wv w.heap.size ao n cap (listA (A.take i) ++ (es.take j).filter (fun e => !e.free)) ∧ Below w.heap.size w wv) (fun _ c _ => 8 - (intOf c).toNat)
      case atStart => exact ⟨0, ao, n, cap, Nat.zero_le _, rfl, rfl, by simpa using HO.out.step (below_alloc _ _), HB.out.alloc HB.out.size _⟩
      case round =>
        obtain ⟨j, ao2, n2, cap2, hj, rfl, rfl, hO2, hb2⟩ := hrel
        have HO2 := Hid.in hO2
        have HB2 := Hid.in hb2
        clear hO2 hb2 k1 k2
        by_cases hjk : j < k
        · have hje : j < es.length := by rw [HK.out]; exact hjk
          obtain ⟨c0, c1, c2, c3, c4, c5, c6, c7, c8, c9⟩ := (HA.out.ent HG.out j hje).step HB2.out
          obtain ⟨e, he⟩ : ∃ e, es[j] = e := ⟨_, rfl⟩
          rw [he] at c0 c1 c2 c3 c4 c5 c6 c7 c8 c9
          obtain ⟨e0, e1, e2, e3, e4, e5, e6, e7, e8, e9⟩ := e
          have HE := Hid.in he
          clear he
          simp only [] at c0 c1 c2 c3 c4 c5 c6 c7 c8 c9
          have j1 : (j : Int) < (k : Int) := by omega
          have hn2 : n2 ≤ 1000 := by
            have h1 := HO2.out.len
            have h2 := HLE.out i hi
            have h3 := List.length_filter_le (fun e : En => !e.free) (es.take j)
            rw [List.length_append] at h1
            have h4 : (es.take j).length ≤ 8 := by rw [List.length_take]; omega
            have h5 : i * k ≤ 8 * 8 := Nat.mul_le_mul (by omega) p4
            omega
          rename World => wp
          by_cases hz : e1 = 0
          · subst hz
            have HN : Hid ((es.take (j + 1)).filter (fun e => !e.free) = (es.take j).filter (fun e => !e.free)) := Hid.in (by rw [filt_take hje, HE.out]; simp [En.free])
            go_wp2
            go_roundw
            case rel => exact ⟨j + 1, ao2, n2, cap2, by omega, by go_num, rfl, by rw [HN.out]; exact HO2.out.step (below_alloc _ _), HB2.out.alloc HB2.out.size _⟩
            case measure => simp [intOf]; omega
          · have hz1 : (e1 != 0) = true := by simpa using hz
            have HN : Hid ((es.take (j + 1)).filter (fun e => !e.free) = (es.take j).filter (fun e => !e.free) ++ [En.mk e0 e1 e2 e3 e4 e5 e6 e7 e8 e9]) := Hid.in (by rw [filt_take hje, HE.out]; simp [En.free, hz])
            have HP1 : Hid (Below w.heap.size w (wp.alloc (.cells (En.mk e0 e1 e2 e3 e4 e5 e6 e7 e8 e9).ec.toArray 32))) := Hid.in (HB2.out.alloc HB2.out.size _)
            have HP2 : Hid (Below w.heap.size w ((wp.alloc (.cells (En.mk e0 e1 e2 e3 e4 e5 e6 e7 e8 e9).ec.toArray 32)).alloc (.cells (En.mk e0 e1 e2 e3 e4 e5 e6 e7 e8 e9).ec.toArray 32))) := Hid.in (HP1.out.alloc HP1.out.size _)
            have HLT : Hid (ECells ((wp.alloc (.cells (En.mk e0 e1 e2 e3 e4 e5 e6 e7 e8 e9).ec.toArray 32)).alloc (.cells (En.mk e0 e1 e2 e3 e4 e5 e6 e7 e8 e9).ec.toArray 32)) (wp.heap.size + 1) 0 (En.mk e0 e1 e2 e3 e4 e5 e6 e7 e8 e9)) := Hid.in (by
              have h := ECells.lit (wp.alloc (.cells (En.mk e0 e1 e2 e3 e4 e5 e6 e7 e8 e9).ec.toArray 32)) 32 (En.mk e0 e1 e2 e3 e4 e5 e6 e7 e8 e9) _ rfl
              rw [World.size_alloc] at h
              exact h)
            go_wp2_with (first
              | (at_builtin; refine wpList_pushE 58 32 rfl (.tmp 27) (.tmp 29) rfl Tryd.underlying58 Tryd.infoEntry w.heap.size w ao2 (wp.heap.size + 1) n2 cap2 _ (En.mk e0 e1 e2 e3 e4 e5 e6 e7 e8 e9) rfl ((HO2.out.step (below_alloc _ _)).step (below_alloc _ _)) rfl HLT.out HP2.out HP2.out.size hn2 ?_; intro ao3 cap3 w3 HO3 HB3 _)
              | fail)
            go_roundw
            case rel => exact ⟨j + 1, ao3, n2 + 1, cap3, by omega, by go_num, rfl, by rw [HN.out, ← List.append_assoc]; exact HO3.out, HB3.out⟩
            case measure => simp [intOf]; omega
        · have HN : Hid (listA (A.take (i + 1)) = listA (A.take i) ++ (es.take j).filter (fun e => !e.free)) := Hid.in (by rw [listA_take HG.out, List.take_of_length_le (l := es) (by rw [HK.out]; omega)])
          go_wp2
          go_roundw
          case rel => exact ⟨i + 1, ao2, n2, cap2, by omega, by go_num, rfl, by rw [HN.out]; exact HO2.out, HB2.out⟩
          case measure => simp [intOf]; omega
    · have HN : Hid (listA (A.take i) = listA A) := Hid.in (by rw [List.take_of_length_le (by omega)])
      have hn := HO.out.len
      rw [HN.out] at hn
      have HNN := Hid.in hn
      clear hn
      go_wp2
      go_ret
      exact ⟨ao, cap, by rw [← HNN.out]; rfl, by rw [← HNN.out, ← HN.out]; exact HO.out, HB.out⟩

end Go.Proofs.YtcackmmfnojpfaaDoor
