/- DERIVED of the program: the document's own array: Get, Drop, Put by their contracts. Own work. -/
import Derived.Test.YtcackmmfnojpfaaDoorArR
import Derived.StillTailTactics
namespace Go.Proofs.YtcackmmfnojpfaaDoor
open Go.RowKit Go.Extern.Stop Go.Stop Go.Extern

/-- What an entry's store leaves. -/
theorem RAt.store {w : World} {lo hi R k eb ecap : Nat} {g : Nat → Nat} {A : List St} (hA : RAt w lo hi R k A eb ecap g) {h b : Nat} {es : List En} (hh : A[h]? = some (b, es)) (i : Nat) (hi' : i < es.length) (e : En) (he0 : e.state ≠ 0 → 0 ≤ e.line) :
    RAt (w.setCells (g h) (i * 10) e.ref.ec) lo hi R k (A.set h (b, es.set i e)) eb ecap g ∧ Apart lo hi w (w.setCells (g h) (i * 10) e.ref.ec) := by
  obtain ⟨hl, he⟩ := List.getElem?_eq_some_iff.1 hh
  have hap : Apart (g h) (g h + 1) w (w.setCells (g h) (i * 10) e.ref.ec) := apart_setCells _ w _ _ _ _ (Nat.le_refl _) (by omega)
  obtain ⟨l1, l2, l3⟩ := hA.lt
  obtain ⟨f1, f2, f3, f4, f5⟩ := hA.off h hl
  obtain ⟨o1, o2, o3, o4, o5, o6⟩ := hA.oth
  refine ⟨?_, apart_setCells _ w _ _ _ _ f4 f5⟩
  obtain ⟨cb, b1, b2⟩ := hA.b
  obtain ⟨ce, e1, e2⟩ := hA.e
  have hk := (hA.ok h hl).2
  rw [he] at hk
  refine ⟨by rw [List.length_set]; exact (hap.block _ l1 (by omega)).trans hA.q, ⟨cb, (hap.block _ (by omega) (by omega)).trans b1, fun j hj => ?_⟩, ⟨ce, (hap.block _ l2 (by omega)).trans e1, fun j hj => ?_⟩, fun j hj => ?_, fun a c ha hc => hA.inj a c (by simpa using ha) (by simpa using hc), fun j hj => hA.off j (by simpa using hj), hA.oth, by rw [List.length_set]; exact hA.nn, hA.kk, fun j hj => ?_, fun j hj m hm => ?_⟩
  · have hj' : j < A.length := by simpa using hj
    rw [b2 j hj']
    by_cases hjh : j = h
    · subst hjh; simp [he]
    · rw [List.getElem_set_ne (fun e => hjh e.symm)]
  · exact e2 j (by simpa using hj)
  · have hj' : j < A.length := by simpa using hj
    obtain ⟨c2, v1, v2⟩ := hA.v j hj'
    by_cases hjh : j = h
    · subst hjh
      refine ⟨_, setCells_blk _ _ _ _ _ _ v1, fun m hm c v hv => ?_⟩
      have hm' : m < es.length := by simpa using hm
      rw [he] at v2
      have hc : c < 10 := by
        have := (List.getElem?_eq_some_iff.1 hv).1
        rwa [ec_len] at this
      by_cases hmi : m = i
      · subst hmi
        simp only [List.getElem_set_self] at hv
        refine setL_in _ _ _ _ _ hv ?_
        rw [ec_len]
        have := v2 m hm' 9 _ rfl
        have := (Array.getElem?_eq_some_iff.1 this).1
        omega
      · simp only [List.getElem_set_self, List.getElem_set_ne (fun e => hmi e.symm)] at hv
        rw [setL_out _ _ _ _ (by rw [ec_len]; omega)]
        exact v2 m hm' c v hv
    · refine ⟨c2, (hap.block _ (l3 j hj') (by have := hA.inj j h hj' hl hjh; omega)).trans v1, ?_⟩
      rw [List.getElem_set_ne (fun e => hjh e.symm)]
      exact v2
  · have hj' : j < A.length := by simpa using hj
    by_cases hjh : j = h
    · subst hjh
      have := hA.ok j hj'
      rw [he] at this
      simpa using this
    · rw [List.getElem_set_ne (fun e => hjh e.symm)]
      exact hA.ok j hj'
  · have hj' : j < A.length := by simpa using hj
    by_cases hjh : j = h
    · subst hjh
      have hp := hA.pos j hj'
      rw [he] at hp
      simp only [List.getElem_set_self] at hm ⊢
      have hm' : m < es.length := by simpa using hm
      by_cases hmi : m = i
      · subst hmi; simp only [List.getElem_set_self]; exact he0
      · rw [List.getElem_set_ne (fun e => hmi e.symm)]; exact hp m hm'
    · simp only [List.getElem_set_ne (fun e => hjh e.symm)] at hm ⊢
      exact hA.pos j hj' m hm

theorem RAt.bits {w : World} {lo hi R k eb ecap : Nat} {g : Nat → Nat} {A : List St} (hA : RAt w lo hi R k A eb ecap g) {h b : Nat} {es : List En} (hh : A[h]? = some (b, es)) (b' : Nat) (hb' : b' < 256) :
    RAt (w.setCell ⟨R, h, none⟩ (.int .u8 (b' : Int))) lo hi R k (A.set h (b', es)) eb ecap g ∧ Apart lo hi w (w.setCell ⟨R, h, none⟩ (.int .u8 (b' : Int))) := by
  obtain ⟨hl, he⟩ := List.getElem?_eq_some_iff.1 hh
  have hap : ∀ a z, a ≤ R → R < z → Apart a z w (w.setCell ⟨R, h, none⟩ (.int .u8 (b' : Int))) := fun a z h1 h2 => apart_setCells [.int .u8 (b' : Int)] w R h a z h1 h2
  have ha := hap R (R + 1) (Nat.le_refl _) (by omega)
  obtain ⟨l1, l2, l3⟩ := hA.lt
  obtain ⟨o1, o2, o3, o4, o5, o6⟩ := hA.oth
  refine ⟨?_, hap _ _ o5 (by omega)⟩
  obtain ⟨cb, b1, b2⟩ := hA.b
  obtain ⟨ce, e1, e2⟩ := hA.e
  refine ⟨by rw [List.length_set]; exact (ha.block _ l1 (by omega)).trans hA.q, ⟨_, blk_set _ b1, fun j hj => ?_⟩, ⟨ce, (ha.block _ l2 (by omega)).trans e1, fun j hj => e2 j (by simpa using hj)⟩, fun j hj => ?_, fun a c ha hc => hA.inj a c (by simpa using ha) (by simpa using hc), fun j hj => hA.off j (by simpa using hj), hA.oth, by rw [List.length_set]; exact hA.nn, hA.kk, fun j hj => ?_, fun j hj m hm => ?_⟩
  · have hj' : j < A.length := by simpa using hj
    have f1 := b2 j hj'
    have hsz := (Array.getElem?_eq_some_iff.1 f1).1
    by_cases hjh : j = h
    · subst hjh; simp [hsz]
    · rw [Array.getElem?_setIfInBounds_ne (fun e => hjh e.symm), List.getElem_set_ne (fun e => hjh e.symm)]
      exact f1
  · have hj' : j < A.length := by simpa using hj
    obtain ⟨c2, v1, v2⟩ := hA.v j hj'
    have := hA.off j hj'
    refine ⟨c2, (ha.block _ (l3 j hj') (by omega)).trans v1, ?_⟩
    by_cases hjh : j = h
    · subst hjh
      rw [he] at v2
      simpa using v2
    · rw [List.getElem_set_ne (fun e => hjh e.symm)]
      exact v2
  · have hj' : j < A.length := by simpa using hj
    by_cases hjh : j = h
    · subst hjh
      have := hA.ok j hj'
      rw [he] at this
      simpa using ⟨hb', this.2⟩
    · rw [List.getElem_set_ne (fun e => hjh e.symm)]
      exact hA.ok j hj'
  · have hj' : j < A.length := by simpa using hj
    by_cases hjh : j = h
    · subst hjh
      have hp := hA.pos j hj'
      rw [he] at hp
      simp only [List.getElem_set_self] at hm ⊢
      exact hp m hm
    · simp only [List.getElem_set_ne (fun e => hjh e.symm)] at hm ⊢
      exact hA.pos j hj' m hm

theorem RAt.free {w : World} {lo hi R k eb ecap : Nat} {g : Nat → Nat} {A : List St} (hA : RAt w lo hi R k A eb ecap g) {h : Nat} (hl : h < A.length) (o : Nat) : w.frozen? ⟨g h, o, none⟩ = false := by
  obtain ⟨cs, e1, _⟩ := hA.v h hl
  exact blk_free e1
theorem RAt.freeB {w : World} {lo hi R k eb ecap : Nat} {g : Nat → Nat} {A : List St} (hA : RAt w lo hi R k A eb ecap g) (o : Nat) : w.frozen? ⟨R, o, none⟩ = false := by
  obtain ⟨cs, e1, _⟩ := hA.b
  exact blk_free e1

abbrev rzeroObj : Obj := .cells #[.int .i64 0, .int .i64 0, .int .i64 0, .int .i64 0, .int .u32 0, .int .u32 0, .int .u32 0, .int .u32 0, .bool false, .bool false] 46
theorem rzero_cells (w : World) : ECells (w.alloc rzeroObj) w.heap.size 0 En.zero ∧ ∀ i, (w.alloc rzeroObj).frozen? ⟨w.heap.size, i, none⟩ = false := by
  have h : (w.alloc rzeroObj).heap[w.heap.size]? = some rzeroObj := heap_alloc_new _ _
  exact ⟨⟨blk_cell h rfl, blk_cell h rfl, blk_cell h rfl, blk_cell h rfl, blk_cell h rfl, blk_cell h rfl, blk_cell h rfl, blk_cell h rfl, blk_cell h rfl, blk_cell h rfl⟩, fun i => blk_free h⟩

set_option maxHeartbeats 1600000 in
theorem rget_any (w : World) (lo hi R k : Nat) (A : List St) (hA0 : RArr w lo hi R k A) (l : Int) :
    Calls Tryd.prog 21 #[.pointer (some ⟨R + 1, 0, none⟩), .int .i64 l] w fun r w' => r = .returned (.tuple #[(getA A l).1.val, .bool (getA A l).2]) ∧ Below w.heap.size w w' := by
  obtain ⟨eb, ecap, g, hA⟩ := hA0
  have HA := Hid.in hA
  have HZ : Hid (Below w.heap.size w (w.alloc rzeroObj)) := Hid.in (below_alloc _ _)
  cases hv : vld l with
  | false =>
    have HV := Hid.in hv
    have HR : Hid (getA A l = (En.zero, false)) := Hid.in (by simp [getA, hv])
    rw [HR.out]
    clear hv hA
    go_enter Tryd.func21, Tryd.ntmps21
    go_wp2_with fail
    refine (rfind_out _ _ l HV.out).mono ?_
    rintro r w1 ⟨rfl, rfl⟩
    go_wp2
    exact bodyPost_ret (v := .tuple #[En.zero.val, .bool false]) (by simp [results, Tryd.results21, go_sem, En.zero]) rfl ⟨rfl, HZ.out⟩
  | true =>
    have HV := Hid.in hv
    have HS := Hid.in (hm_cast hA.npos.1 l)
    have HG := Hid.in (stA_get hA.npos.1 l)
    obtain ⟨b, es, hst⟩ : ∃ b es, stA A l = (b, es) := ⟨_, _, rfl⟩
    have HR : Hid (getA A l = if fnd l es < 0 then (En.zero, false) else (es.getD (fnd l es).toNat En.zero, true)) := Hid.in (by simp [getA, hv, hst])
    rw [hst] at HG
    clear hv hA hst
    generalize hm A l = h at HS HG
    by_cases hz : fnd l es < 0
    · rw [HR.out, if_pos hz]
      clear HR
      obtain ⟨f, hf⟩ : ∃ f, fnd l es = f := ⟨_, rfl⟩
      rw [hf] at hz
      have HF := Hid.in hf
      clear hf
      go_enter Tryd.func21, Tryd.ntmps21
      go_wp2_with fail
      refine (rfind_in _ lo hi R k eb ecap g A (HA.out.step HZ.out) l HV.out h b es HS.out.symm HG.out).mono ?_
      rw [HF.out]
      rintro r w1 ⟨rfl, rfl⟩
      go_wp2
      exact bodyPost_ret (v := .tuple #[En.zero.val, .bool false]) (by simp [results, Tryd.results21, go_sem, En.zero]) rfl ⟨rfl, HZ.out⟩
    · rw [HR.out, if_neg hz]
      clear HR
      obtain ⟨i, hie, hfi, hns, _⟩ := found hz
      rw [hfi, Int.toNat_natCast, List.getD_eq_getElem?_getD, List.getElem?_eq_getElem hie]
      simp only [Option.getD_some]
      have hA1 := HA.out.step HZ.out
      have hg := hA1.ent HG.out i hie
      rw [ref_full hns] at hg
      obtain ⟨e, he⟩ : ∃ e, es[i] = e := ⟨_, rfl⟩
      rw [he] at hg ⊢
      have HF := Hid.in hfi
      clear hz he hfi hns
      obtain ⟨⟨k0, k1, k2, k3, k4, k5⟩, _, hk, hl⟩ := hA1.hdr HG.out
      obtain ⟨p1, p2, p3, p4⟩ := hA1.npos
      have hik : (i : Int) < (k : Int) := by omega
      have hlA : (h : Int) < (A.length : Int) := by omega
      obtain ⟨e0, e1, e2, e3, e4, e5, e6, e7, e8, e9⟩ := e
      obtain ⟨g0, g1, g2, g3, g4, g5, g6, g7, g8, g9⟩ := hg
      simp only [] at g0 g1 g2 g3 g4 g5 g6 g7 g8 g9
      clear hA1 hk
      go_enter Tryd.func21, Tryd.ntmps21
      go_wp2_with fail
      refine (rfind_in _ lo hi R k eb ecap g A (HA.out.step HZ.out) l HV.out h b es HS.out.symm HG.out).mono ?_
      rw [HF.out]
      rintro r w1 ⟨rfl, rfl⟩
      go_wp2
      exact bodyPost_ret (v := .tuple #[(En.mk e0 e1 e2 e3 e4 e5 e6 e7 e8 e9).val, .bool true]) (by simp [results, Tryd.results21, go_sem]) rfl ⟨rfl, below_alloc _ _⟩

theorem rTouch_c (b : Nat) (ways way : Int) (c : Nat) (hb : b < 256) (h : touchI b ways way = c) (w : World) :
    Calls Tryd.prog 42 #[.int .u8 (b : Int), .int .i64 ways, .int .i64 way] w fun r w' => r = .returned (.int .u8 (c : Int)) ∧ w' = w := by
  rw [← h]; exact rTouch_any b hb ways way w
theorem rVictim_c (b : Nat) (ways : Int) (c : Int) (hb : b < 256) (h : victimI b ways = c) (w : World) :
    Calls Tryd.prog 43 #[.int .u8 (b : Int), .int .i64 ways] w fun r w' => r = .returned (.int .i64 c) ∧ w' = w := by
  rw [← h]; exact rVictim_any b hb ways w

theorem zero_ref : En.zero.ref.ec = [.int .i64 (-1), .int .i64 0, .int .i64 0, .int .i64 0, .int .u32 0, .int .u32 0, .int .u32 0, .int .u32 0, .bool false, .bool false] := rfl

set_option maxHeartbeats 1600000 in
theorem rdrop_any (w : World) (lo hi R k : Nat) (A : List St) (hA0 : RArr w lo hi R k A) (l : Int) :
    Calls Tryd.prog 22 #[.pointer (some ⟨R + 1, 0, none⟩), .int .i64 l] w fun r w' => r = .returned (.bool (dropA A l).1) ∧ RArr w' lo hi R k (dropA A l).2 ∧ Apart lo hi w w' := by
  obtain ⟨eb, ecap, g, hA⟩ := hA0
  have HA := Hid.in hA
  cases hv : vld l with
  | false =>
    have HV := Hid.in hv
    have HR : Hid (dropA A l = (false, A)) := Hid.in (by simp [dropA, hv])
    rw [HR.out]
    clear hv hA
    go_enter Tryd.func22, Tryd.ntmps22
    go_wp2_with fail
    refine (rfind_out _ _ l HV.out).mono ?_
    rintro r w1 ⟨rfl, rfl⟩
    go_wp2
    go_ret
    exact ⟨rfl, ⟨_, _, _, HA.out⟩, Apart.of_below (Below.refl _ _)⟩
  | true =>
    have HV := Hid.in hv
    have HS := Hid.in (hm_cast hA.npos.1 l)
    have HG := Hid.in (stA_get hA.npos.1 l)
    obtain ⟨b, es, hst⟩ : ∃ b es, stA A l = (b, es) := ⟨_, _, rfl⟩
    have HR : Hid (dropA A l = if fnd l es < 0 then (false, A) else (true, A.set (hm A l) (b, es.set (fnd l es).toNat En.zero))) := Hid.in (by simp [dropA, hv, hst])
    rw [hst] at HG
    clear hv hst
    generalize hm A l = h at HS HG HR
    by_cases hz : fnd l es < 0
    · rw [HR.out, if_pos hz]
      clear HR hA
      obtain ⟨f, hf⟩ : ∃ f, fnd l es = f := ⟨_, rfl⟩
      rw [hf] at hz
      have HF := Hid.in hf
      clear hf
      go_enter Tryd.func22, Tryd.ntmps22
      go_wp2_with fail
      refine (rfind_in _ lo hi R k eb ecap g A HA.out l HV.out h b es HS.out.symm HG.out).mono ?_
      rw [HF.out]
      rintro r w1 ⟨rfl, rfl⟩
      go_wp2
      go_ret
      exact ⟨rfl, ⟨_, _, _, HA.out⟩, Apart.of_below (Below.refl _ _)⟩
    · rw [HR.out, if_neg hz]
      clear HR
      obtain ⟨i, hie, hfi, _, _⟩ := found hz
      rw [hfi, Int.toNat_natCast]
      have HF := Hid.in hfi
      clear hz hfi
      obtain ⟨⟨k0, k1, k2, k3, k4, k5⟩, _, hk, hl⟩ := hA.hdr HG.out
      obtain ⟨p1, p2, p3, p4⟩ := hA.npos
      have hik : (i : Int) < (k : Int) := by omega
      have hlA : (h : Int) < (A.length : Int) := by omega
      obtain ⟨g0, g1, g2, g3, g4, g5, g6, g7, g8, g9⟩ := hA.ent HG.out i hie
      have hf := hA.free hl
      clear hA hk
      go_enter Tryd.func22, Tryd.ntmps22
      go_wp2_with fail
      refine (rfind_in _ lo hi R k eb ecap g A HA.out l HV.out h b es HS.out.symm HG.out).mono ?_
      rw [HF.out]
      rintro r w1 ⟨rfl, rfl⟩
      go_wp2
      go_ret
      obtain ⟨r1, r2⟩ := HA.out.store HG.out i hie En.zero (fun h => absurd rfl h)
      rw [zero_ref] at r1 r2
      exact ⟨rfl, ⟨_, _, _, r1⟩, r2⟩

set_option maxHeartbeats 1600000 in
set_option maxRecDepth 20000 in
theorem rtouch_any (w : World) (lo hi R k : Nat) (A : List St) (hA0 : RArr w lo hi R k A) (l : Int) :
    Calls Tryd.prog 23 #[.pointer (some ⟨R + 1, 0, none⟩), .int .i64 l] w fun r w' => r = .returned (.bool (touchA A l).1) ∧ RArr w' lo hi R k (touchA A l).2 ∧ Apart lo hi w w' := by
  obtain ⟨eb, ecap, g, hA⟩ := hA0
  have HA := Hid.in hA
  cases hv : vld l with
  | false =>
    have HV := Hid.in hv
    have HR : Hid (touchA A l = (false, A)) := Hid.in (by simp [touchA, hv])
    rw [HR.out]
    clear hv hA
    go_enter Tryd.func23, Tryd.ntmps23
    go_wp2_with fail
    refine (rfind_out _ _ l HV.out).mono ?_
    rintro r w1 ⟨rfl, rfl⟩
    go_wp2
    go_ret
    exact ⟨rfl, ⟨_, _, _, HA.out⟩, Apart.of_below (Below.refl _ _)⟩
  | true =>
    have HV := Hid.in hv
    have HS := Hid.in (hm_cast hA.npos.1 l)
    have HG := Hid.in (stA_get hA.npos.1 l)
    obtain ⟨b, es, hst⟩ : ∃ b es, stA A l = (b, es) := ⟨_, _, rfl⟩
    have HR : Hid (touchA A l = if fnd l es < 0 then (false, A) else (true, A.set (hm A l) (touchI b (es.length : Int) (fnd l es), es))) := Hid.in (by simp [touchA, hv, hst])
    rw [hst] at HG
    clear hv hst
    generalize hm A l = h at HS HG HR
    by_cases hz : fnd l es < 0
    · rw [HR.out, if_pos hz]
      clear HR hA
      obtain ⟨f, hf⟩ : ∃ f, fnd l es = f := ⟨_, rfl⟩
      rw [hf] at hz
      have HF := Hid.in hf
      clear hf
      go_enter Tryd.func23, Tryd.ntmps23
      go_wp2_with fail
      refine (rfind_in _ lo hi R k eb ecap g A HA.out l HV.out h b es HS.out.symm HG.out).mono ?_
      rw [HF.out]
      rintro r w1 ⟨rfl, rfl⟩
      go_wp2
      go_ret
      exact ⟨rfl, ⟨_, _, _, HA.out⟩, Apart.of_below (Below.refl _ _)⟩
    · rw [HR.out, if_neg hz]
      clear HR
      obtain ⟨i, hie, hfi, _, _⟩ := found hz
      obtain ⟨⟨k0, k1, k2, k3, k4, k5⟩, hb8, hk, hl⟩ := hA.hdr HG.out
      rw [hfi, hk]
      have HF := Hid.in hfi
      have HB8 := Hid.in hb8
      obtain ⟨T, hT⟩ : ∃ T, touchI b (k : Int) (i : Int) = T := ⟨_, rfl⟩
      have hT8 : T < 256 := by rw [← hT]; exact touchI_lt hb8 _ _
      rw [hT]
      have HT := Hid.in hT
      have HT8 := Hid.in hT8
      obtain ⟨p1, p2, p3, p4⟩ := hA.npos
      have hlA : (h : Int) < (A.length : Int) := by omega
      have hf := hA.freeB
      have hRR : ¬ R = R + 1 := by omega
      clear hA hk hz hfi hT hT8 hb8
      go_enter Tryd.func23, Tryd.ntmps23
      go_wp2_with fail
      refine (rfind_in _ lo hi R k eb ecap g A HA.out l HV.out h b es HS.out.symm HG.out).mono ?_
      rw [HF.out]
      rintro r w1 ⟨rfl, rfl⟩
      go_wp2
      refine wp_region_still_tail 19 (by kernel_rfl) (by kernel_rfl) ?_
      simp only [List.take_succ_cons, List.take_zero, List.drop_succ_cons, List.drop_zero]
      repeat still_step
      still_call (rTouch_c b _ _ T HB8.out HT.out _)
      still_step
      refine wpStill_nil ?_
      go_wp2
      go_ret
      obtain ⟨r1, r2⟩ := HA.out.bits HG.out T HT8.out
      exact ⟨rfl, ⟨_, _, _, r1.step ((Below.refl _ _).drew)⟩, r2.drew⟩

end Go.Proofs.YtcackmmfnojpfaaDoor
