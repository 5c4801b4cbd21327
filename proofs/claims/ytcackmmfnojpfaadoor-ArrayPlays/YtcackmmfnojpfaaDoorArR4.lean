/- DERIVED of the program: the document's own array: Victim, Put by their contracts. Own work. -/
import Derived.Test.YtcackmmfnojpfaaDoorArR3
namespace Go.Proofs.YtcackmmfnojpfaaDoor
open Go.RowKit Go.Extern.Stop Go.Stop Go.Extern

set_option maxHeartbeats 1600000 in
theorem rvictim_any (w : World) (lo hi R k : Nat) (A : List St) (hA0 : RArr w lo hi R k A) (l : Int) (ao : Option Addr) (cap : Nat) (zs : List Int) (hZ : Ints w ao cap zs) (hlen : zs.length ≤ 35184372088832) :
    Calls Tryd.prog 25 #[.pointer (some ⟨R + 1, 0, none⟩), .int .i64 l, .slice ao zs.length cap] w fun r w' => r = .returned (.int .i64 (vicA A l zs)) ∧ Below w.heap.size w w' := by
  have HRA := Hid.in hA0
  obtain ⟨eb, ecap, g, hA⟩ := hA0
  have HZ := Hid.in hZ
  clear hZ
  cases hv : vld l with
  | false =>
    have HR : Hid (vicA A l zs = -1) := Hid.in (by simp [vicA, hv])
    rw [HR.out]
    have hn := vld_no hv
    clear hA hv
    by_cases h0 : l < 0
    · go_enter Tryd.func25, Tryd.ntmps25
      go_wp2
      go_ret
      exact ⟨rfl, Below.refl _ _⟩
    · have h1 : 32 ≤ l := by omega
      go_enter Tryd.func25, Tryd.ntmps25
      go_wp2
      go_ret
      exact ⟨rfl, Below.refl _ _⟩
  | true =>
    have hs := (hm_cast hA.npos.1 l).symm
    have hg := stA_get hA.npos.1 l
    obtain ⟨b, es, hst⟩ : ∃ b es, stA A l = (b, es) := ⟨_, _, rfl⟩
    have HV : Hid (vicA A l zs = if plc l es < 0 then (if zs.contains (es.getD (victimI b (es.length : Int)).toNat En.zero).line = true then loose zs es else (es.getD (victimI b (es.length : Int)).toNat En.zero).line) else -1) := Hid.in (by simp only [vicA, hv, hst, if_true])
    have hrm : roomA A l = decide (0 ≤ plc l es) := by simp [roomA, hv, hst]
    rw [hst] at hg
    generalize hm A l = h at hs hg
    obtain ⟨v0, v31⟩ := vld_of hv
    by_cases hp : plc l es < 0
    · rw [decide_eq_false (show ¬ 0 ≤ plc l es by omega)] at hrm
      have HRM := Hid.in hrm
      rw [HV.out, if_pos hp]
      have HFU : Hid (∀ j (hj : j < es.length), (es[j]).state ≠ 0) := Hid.in (fun j hj => (plc_neg hp j hj).1)
      obtain ⟨⟨k0, k1, k2, k3, k4, k5⟩, hb8, hk, hl⟩ := hA.hdr hg
      obtain ⟨p1, p2, p3, p4⟩ := hA.npos
      obtain ⟨q1, q2⟩ := viced (isW_of hA.kk) hb8
      rw [hk]
      obtain ⟨v, hvv⟩ : ∃ v : Nat, victimI b (k : Int) = (v : Int) := ⟨(victimI b (k : Int)).toNat, by omega⟩
      have hve : v < es.length := by omega
      rw [hvv, Int.toNat_natCast, List.getD_eq_getElem?_getD, List.getElem?_eq_getElem hve]
      simp only [Option.getD_some]
      have hvk : (v : Int) < (k : Int) := by omega
      obtain ⟨x, hx⟩ : ∃ x, (es[v]).line = x := ⟨_, rfl⟩
      rw [hx]
      have HX := Hid.in hx
      have HVV := Hid.in hvv
      have HB8 := Hid.in hb8
      have HK := Hid.in hk
      have HA := Hid.in hA
      have HG := Hid.in hg
      have h0 : (h : Int) < (A.length : Int) := by omega
      have hnz : ¬ A.length = 0 := by omega
      clear hx hvv hb8 hk q1 q2 k0 k1 k2 k3 k4 k5 hA hg hv hst hrm hp HV
      obtain ⟨c, hc⟩ : ∃ c, zs.contains x = c := ⟨_, rfl⟩
      have HC := Hid.in hc
      rw [hc]
      clear hc
      go_enter Tryd.func25, Tryd.ntmps25
      go_wp2_with fail
      refine (rroom_any w lo hi R k A HRA.out l).mono ?_
      rw [HRM.out]
      rintro r w1 ⟨rfl, hb⟩
      have hA2 := HA.out.step hb
      have HB := Hid.in hb
      obtain ⟨⟨k0, k1, k2, k3, k4, k5⟩, _, _, _⟩ := hA2.hdr HG.out
      have g0 := (hA2.ent HG.out v hve).c0
      rw [ref_full (HFU.out v hve), HX.out] at g0
      have HA2 := Hid.in hA2
      clear hb hA2
      go_upto_region 4 with fail
      go_quiet ((go_at_call 43; exact Calls.quiet_of_same (rVictim_c b _ _ HB8.out HVV.out _)))
      go_wp2_with fail
      have HBQ : Hid (∀ n, Below w.heap.size w (w1.drewN n)) := Hid.in (fun n => drewN_below HB.out n)
      refine (among_any _ ao cap zs (HZ.out.step (HBQ.out _)) hlen x c HC.out).mono ?_
      cases c with
      | false =>
        rintro r w2 ⟨rfl, rfl⟩
        go_wp2
        go_ret
        exact ⟨rfl, HBQ.out _⟩
      | true =>
        rintro r w2 ⟨rfl, hw2⟩
        have hb2 : Below w.heap.size w w2 := by rw [hw2]; exact HBQ.out _
        have HB2 := Hid.in hb2
        have hA3 := HA.out.step hb2
        have HA3 := Hid.in hA3
        clear hw2 k0 k1 k2 k3 k4 k5 g0 HBQ hb2
        obtain ⟨⟨k0, k1, k2, k3, k4, k5⟩, _, _, _⟩ := hA3.hdr HG.out
        clear hA3
        go_wp2
        go_loopw [9] (fun i wr => ∃ j : Nat, j ≤ k ∧ i = .int .i64 (j : Int) ∧ loose zs es = loose zs (es.drop j) ∧ wr = w2) (fun i _ => 8 - (intOf i).toNat)
        case atStart => exact ⟨0, Nat.zero_le _, rfl, rfl, rfl⟩
        case round =>
          obtain ⟨j, hj, rfl, hp, rfl⟩ := hrel
          have HP := Hid.in hp
          clear hp
          by_cases hjk : j < k
          · have hje : j < es.length := by rw [HK.out]; exact hjk
            have c0 := (HA3.out.ent HG.out j hje).c0
            rw [ref_full (HFU.out j hje)] at c0
            obtain ⟨y, hy⟩ : ∃ y, (es[j]).line = y := ⟨_, rfl⟩
            rw [hy] at c0
            have HE := Hid.in hy
            clear hy
            have i1 : (j : Int) < (k : Int) := by omega
            obtain ⟨c, hc⟩ : ∃ c, zs.contains y = c := ⟨_, rfl⟩
            have HC2 := Hid.in hc
            clear hc
            go_wp2_with fail
            refine (among_any _ ao cap zs (HZ.out.step HB2.out) hlen y c HC2.out).mono ?_
            rintro r w3 ⟨rfl, rfl⟩
            cases c with
            | false =>
              have HN : Hid (loose zs es = y) := Hid.in (by rw [HP.out, loose_stop hje (by rw [HE.out]; exact HC2.out), HE.out])
              go_wp2
              go_ret
              exact ⟨ret_int HN.out.symm, HB2.out⟩
            | true =>
              have HN : Hid (loose zs es = loose zs (es.drop (j + 1))) := Hid.in (by rw [HP.out, loose_skip hje (by rw [HE.out]; exact HC2.out)])
              go_wp2
              go_roundw
              case rel => exact ⟨j + 1, by omega, by go_num, HN.out, trivial⟩
              case measure => simp [intOf]; omega
          · have HN : Hid (loose zs es = -1) := Hid.in (by rw [HP.out, List.drop_eq_nil_of_le (by rw [HK.out]; omega)]; rfl)
            go_wp2
            go_ret
            exact ⟨ret_int HN.out.symm, HB2.out⟩
    · rw [decide_eq_true (show 0 ≤ plc l es by omega)] at hrm
      have HRM := Hid.in hrm
      rw [HV.out, if_neg hp]
      clear hA hg hv hst hrm hp HV
      go_enter Tryd.func25, Tryd.ntmps25
      go_wp2_with fail
      refine (rroom_any w lo hi R k A HRA.out l).mono ?_
      rw [HRM.out]
      rintro r w1 ⟨rfl, hb⟩
      have HB := Hid.in hb
      clear hb
      go_wp2
      go_ret
      exact ⟨rfl, HB.out⟩

/-- The first free way from m on. -/
def wv (es : List En) (m : Nat) : Int := if ix En.free (es.drop m) < 0 then -1 else (m : Int) + ix En.free (es.drop m)
theorem wv_end {es : List En} {m : Nat} (h : es.length ≤ m) : wv es m = -1 := by
  unfold wv; rw [List.drop_eq_nil_of_le h]; rfl
theorem wv_zero (es : List En) : wv es 0 = ix En.free es := by
  unfold wv
  rw [List.drop_zero]
  rcases ix_cases En.free es with ⟨h, _⟩ | ⟨i, _, h, _⟩
  · rw [h]; rfl
  · rw [h, if_neg (by omega)]; simp
theorem wv_step {es : List En} {m : Nat} (h : m < es.length) : wv es m = if (es[m]).state = 0 then (m : Int) else wv es (m + 1) := by
  have e : ix En.free (es.drop m) = if (es[m]).free = true then 0 else if ix En.free (es.drop (m + 1)) < 0 then -1 else ix En.free (es.drop (m + 1)) + 1 := by rw [List.drop_eq_getElem_cons h]; rfl
  unfold wv
  generalize ix En.free (es.drop (m + 1)) = y at e ⊢
  by_cases hz : (es[m]).state = 0
  · have hf : (es[m]).free = true := by simp [En.free, hz]
    rw [e, if_pos hf, if_pos hz]; simp
  · have hf : ¬ (es[m]).free = true := by simp [En.free, hz]
    rw [e, if_neg hf, if_neg hz]
    by_cases hn : y < 0
    · rw [if_pos hn, if_pos hn]; rfl
    · rw [if_neg hn, if_neg hn, if_neg (by omega)]; omega

set_option maxHeartbeats 1600000 in
theorem rput_arg (w : World) (p : Value) (e : En) (hr : e.right = false) :
    Calls Tryd.prog 18 #[p, e.val] w fun r w' => r = .returned (.int .i64 1) ∧ Below w.heap.size w w' := by
  have h : e.line < 0 ∨ 32 ≤ e.line ∨ e.state < 1 ∨ 4 < e.state ∨ e.mode < 0 ∨ 3 < e.mode ∨ e.epoch < 0 ∨ 255 < e.epoch := by
    simp only [En.right, decide_eq_false_iff_not] at hr
    omega
  clear hr
  obtain ⟨e0, e1, e2, e3, e4, e5, e6, e7, e8, e9⟩ := e
  simp only [] at h
  by_cases h0 : e0 < 0
  · clear h
    go_enter Tryd.func18, Tryd.ntmps18
    go_wp2
    go_ret
    exact ⟨rfl, below_alloc _ _⟩
  · by_cases h1 : 32 ≤ e0
    · clear h
      go_enter Tryd.func18, Tryd.ntmps18
      go_wp2
      go_ret
      exact ⟨rfl, below_alloc _ _⟩
    · by_cases h2 : e1 < 1
      · clear h
        go_enter Tryd.func18, Tryd.ntmps18
        go_wp2
        go_ret
        exact ⟨rfl, below_alloc _ _⟩
      · by_cases h3 : 4 < e1
        · clear h
          go_enter Tryd.func18, Tryd.ntmps18
          go_wp2
          go_ret
          exact ⟨rfl, below_alloc _ _⟩
        · by_cases h4 : e2 < 0
          · clear h
            go_enter Tryd.func18, Tryd.ntmps18
            go_wp2
            go_ret
            exact ⟨rfl, below_alloc _ _⟩
          · by_cases h5 : 3 < e2
            · clear h
              go_enter Tryd.func18, Tryd.ntmps18
              go_wp2
              go_ret
              exact ⟨rfl, below_alloc _ _⟩
            · by_cases h6 : e3 < 0
              · clear h
                go_enter Tryd.func18, Tryd.ntmps18
                go_wp2
                go_ret
                exact ⟨rfl, below_alloc _ _⟩
              · have h7 : 255 < e3 := by omega
                clear h
                go_enter Tryd.func18, Tryd.ntmps18
                go_wp2
                go_ret
                exact ⟨rfl, below_alloc _ _⟩

theorem ref_right {e : En} (h : e.state ≠ 0) : e.ref.ec = e.ec := by rw [ref_full h]

set_option maxHeartbeats 3200000 in
set_option maxRecDepth 20000 in
theorem rput_any (w : World) (lo hi R k : Nat) (A : List St) (hA0 : RArr w lo hi R k A) (e : En) :
    Calls Tryd.prog 18 #[.pointer (some ⟨R + 1, 0, none⟩), e.val] w fun r w' => r = .returned (.int .i64 ((putA A e).1 : Nat)) ∧ RArr w' lo hi R k (putA A e).2 ∧ Apart lo hi w w' := by
  cases hr : e.right with
  | false =>
    have HR : putA A e = (1, A) := by simp [putA, hr]
    rw [HR]
    exact (rput_arg w _ e hr).mono fun r w' ⟨h1, h2⟩ => ⟨h1, hA0.step h2, Apart.of_below h2⟩
  | true =>
    obtain ⟨eb, ecap, g, hA⟩ := hA0
    have hr' := hr
    simp only [En.right, decide_eq_true_eq] at hr'
    obtain ⟨⟨r0, r1⟩, ⟨r2, r3⟩, ⟨r4, r5⟩, r6, r7⟩ := hr'
    have HVL : Hid (vld e.line = true) := Hid.in (by simp only [vld, decide_eq_true_eq]; omega)
    have hs := (hm_cast hA.npos.1 e.line).symm
    have hg := stA_get hA.npos.1 e.line
    obtain ⟨b, es, hst⟩ : ∃ b es, stA A e.line = (b, es) := ⟨_, _, rfl⟩
    have HR : Hid (putA A e = if plc e.line es < 0 then (6, A) else (0, A.set (hm A e.line) (b, es.set (plc e.line es).toNat e))) := Hid.in (by simp [putA, hr, hst])
    rw [hst] at hg
    generalize hm A e.line = h at hs hg HR
    have HA := Hid.in hA
    have HG := Hid.in hg
    have HS := Hid.in hs
    obtain ⟨_, hb8, hk, hl⟩ := hA.hdr hg
    obtain ⟨p1, p2, p3, p4⟩ := hA.npos
    have HK := Hid.in hk
    have HZ : Hid (Below w.heap.size w (w.alloc (.cells e.ec.toArray 46))) := Hid.in (below_alloc _ _)
    have HST : Hid (e.state ≠ 0) := Hid.in (by omega)
    have HLN : Hid (0 ≤ e.line) := Hid.in r0
    have HPL : Hid (plc e.line es = if fnd e.line es < 0 then ix En.free es else fnd e.line es) := Hid.in rfl
    have hfl := fnd_lt e.line es
    have hA1 := hA.step HZ.out
    obtain ⟨⟨k0, k1, k2, k3, k4, k5⟩, _, _, _⟩ := hA1.hdr hg
    have hfr := hA1.free hl
    have h0 : (h : Int) < (A.length : Int) := by omega
    have HWL : Hid (∀ m, g m = w.heap.size → m < A.length → False) := Hid.in (fun m he hm => by have := hA.lt.2.2 m hm; omega)
    have hgw : ¬ g h = w.heap.size := by have := hA.lt.2.2 h hl; omega
    clear hA hg hs hst hr hb8 hk k3 k5 hA1
    obtain ⟨e0, e1, e2, e3, e4, e5, e6, e7, e8, e9⟩ := e
    simp only [] at r0 r1 r2 r3 r4 r5 r6 r7 hfl
    have hlit : (En.mk e0 e1 e2 e3 e4 e5 e6 e7 e8 e9).ec.toArray = #[.int .i64 e0, .int .i64 e1, .int .i64 e2, .int .i64 e3, .int .u32 e4, .int .u32 e5, .int .u32 e6, .int .u32 e7, .bool e8, .bool e9] := rfl
    rw [hlit] at k0 k1 k2 k4 hfr HZ
    clear hlit
    obtain ⟨f, hf⟩ : ∃ f, fnd e0 es = f := ⟨_, rfl⟩
    rw [hf] at hfl
    have HF := Hid.in hf
    clear hf
    go_enter Tryd.func18, Tryd.ntmps18
    go_wp2_with fail
    refine (rfind_in _ lo hi R k eb ecap g A (HA.out.step HZ.out) e0 HVL.out h b es HS.out HG.out).mono ?_
    rw [HF.out]
    rintro r w1 ⟨rfl, hw1⟩
    subst hw1
    by_cases hz : f < 0
    · have HP2 : Hid (plc e0 es = ix En.free es) := Hid.in (by have := HPL.out; simp only [HF.out] at this; rw [if_pos hz] at this; exact this)
      have hf1 : f = -1 := by omega
      subst hf1
      clear HPL hz hfl
      go_wp2
      go_loopw [6, 7] (fun v i wr => ∃ j : Nat, j ≤ k ∧ i = .int .i64 ((j : Int) - 1) ∧ v = .int .i64 (wv es j) ∧ wr = w.alloc (.cells #[.int .i64 e0, .int .i64 e1, .int .i64 e2, .int .i64 e3, .int .u32 e4, .int .u32 e5, .int .u32 e6, .int .u32 e7, .bool e8, .bool e9] 46)) (fun _ i _ => (intOf i + 1).toNat)
      case atStart => exact ⟨k, Nat.le_refl _, rfl, by rw [wv_end (by rw [HK.out]; exact Nat.le_refl _)], rfl⟩
      case round =>
        obtain ⟨j, hj, rfl, rfl, rfl⟩ := hrel
        by_cases hj0 : 1 ≤ j
        · obtain ⟨m, rfl⟩ : ∃ m, j = m + 1 := ⟨j - 1, by omega⟩
          have hme : m < es.length := by rw [HK.out]; omega
          have hec := ((HA.out.step HZ.out).ent HG.out m hme).c0
          have HWS := Hid.in (wv_step hme)
          have hmi : ((m + 1 : Nat) : Int) - 1 = (m : Int) := by omega
          rw [hmi]
          have i1 : (m : Int) < (k : Int) := by omega
          clear hmi
          by_cases hzs : (es[m]).state = 0
          · rw [ref_free hzs] at hec
            simp only [] at hec
            have HN : Hid (wv es m = (m : Int)) := Hid.in (by rw [HWS.out, if_pos hzs])
            clear hzs
            go_wp2
            go_roundw
            case rel => exact ⟨m, by omega, rfl, by rw [HN.out], trivial⟩
            case measure => simp [intOf]
          · rw [ref_full hzs] at hec
            have hpo : 0 ≤ (es[m]).line := by
              obtain ⟨hl', he⟩ := List.getElem?_eq_some_iff.1 HG.out
              have := HA.out.pos h hl'
              rw [he] at this
              exact this m hme hzs
            have HN : Hid (wv es m = wv es (m + 1)) := Hid.in (by rw [HWS.out, if_neg hzs])
            obtain ⟨x, hx⟩ : ∃ x, (es[m]).line = x := ⟨_, rfl⟩
            rw [hx] at hec hpo
            have hx0 : ¬ x < 0 := by omega
            clear hzs hx
            go_wp2
            go_roundw
            case rel => exact ⟨m, by omega, rfl, by rw [HN.out], trivial⟩
            case measure => simp [intOf]
        · obtain rfl : j = 0 := by omega
          have HW0 := Hid.in (wv_zero es)
          rw [HW0.out]
          by_cases hn : ix En.free es < 0
          · obtain ⟨x, hx⟩ : ∃ x, ix En.free es = x := ⟨_, rfl⟩
            rw [hx] at hn ⊢
            have hq : putA A (En.mk e0 e1 e2 e3 e4 e5 e6 e7 e8 e9) = (6, A) := by
              have h1 := HR.out
              rw [HP2.out, hx, if_pos hn] at h1
              exact h1
            have HQ := Hid.in hq
            clear hq hx
            go_wp2
            go_ret
            exact ⟨by rw [HQ.out]; rfl, by rw [HQ.out]; exact ⟨_, _, _, HA.out.step HZ.out⟩, Apart.of_below HZ.out⟩
          · obtain ⟨i, hik, hix⟩ : ∃ i : Nat, (i : Int) < (k : Int) ∧ ix En.free es = (i : Int) := by
              obtain ⟨i, hi', hix, _, _⟩ := ix_pos hn
              exact ⟨i, by have := HK.out; omega, hix⟩
            rw [hix]
            have HPI : Hid (plc e0 es = (i : Int)) := Hid.in (HP2.out.trans hix)
            clear hn hix HW0
            have hie : i < es.length := by rw [HK.out]; omega
            obtain ⟨g0, g1, g2, g3, g4, g5, g6, g7, g8, g9⟩ := (HA.out.step HZ.out).ent HG.out i hie
            have hq : putA A (En.mk e0 e1 e2 e3 e4 e5 e6 e7 e8 e9) = (0, A.set h (b, es.set i (En.mk e0 e1 e2 e3 e4 e5 e6 e7 e8 e9))) := by
              have h1 := HR.out
              rw [HPI.out, if_neg (by omega), Int.toNat_natCast] at h1
              exact h1
            have HQ := Hid.in hq
            clear hq
            go_wp2
            go_region
            go_wp2
            go_ret
            obtain ⟨q1, q2⟩ := (HA.out.step HZ.out).store HG.out i hie (En.mk e0 e1 e2 e3 e4 e5 e6 e7 e8 e9) (fun _ => HLN.out)
            rw [ref_right HST.out] at q1 q2
            exact ⟨by rw [HQ.out]; rfl, by rw [HQ.out]; exact ⟨_, _, _, q1.step ((Below.refl _ _).drew)⟩, ((Apart.of_below HZ.out).trans q2).drew⟩
    · obtain ⟨i, rfl⟩ : ∃ i : Nat, f = (i : Int) := ⟨f.toNat, by omega⟩
      have HPI : Hid (plc e0 es = (i : Int)) := Hid.in (by have := HPL.out; simp only [HF.out] at this; rw [if_neg hz] at this; exact this)
      have hik : (i : Int) < (k : Int) := by have := HK.out; omega
      clear hz HPL hfl
      have hie : i < es.length := by rw [HK.out]; omega
      obtain ⟨g0, g1, g2, g3, g4, g5, g6, g7, g8, g9⟩ := (HA.out.step HZ.out).ent HG.out i hie
      have hq : putA A (En.mk e0 e1 e2 e3 e4 e5 e6 e7 e8 e9) = (0, A.set h (b, es.set i (En.mk e0 e1 e2 e3 e4 e5 e6 e7 e8 e9))) := by
        have h1 := HR.out
        rw [HPI.out, if_neg (by omega), Int.toNat_natCast] at h1
        exact h1
      have HQ := Hid.in hq
      clear hq
      go_wp2
      go_region
      go_wp2
      go_ret
      obtain ⟨q1, q2⟩ := (HA.out.step HZ.out).store HG.out i hie (En.mk e0 e1 e2 e3 e4 e5 e6 e7 e8 e9) (fun _ => HLN.out)
      rw [ref_right HST.out] at q1 q2
      exact ⟨by rw [HQ.out]; rfl, by rw [HQ.out]; exact ⟨_, _, _, q1.step ((Below.refl _ _).drew)⟩, ((Apart.of_below HZ.out).trans q2).drew⟩

end Go.Proofs.YtcackmmfnojpfaaDoor
