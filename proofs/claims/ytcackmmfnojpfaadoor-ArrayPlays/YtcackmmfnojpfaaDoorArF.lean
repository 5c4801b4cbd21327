/- DERIVED of the program: Victim by its contract. Own work. -/
import Derived.Test.YtcackmmfnojpfaaDoorArE
namespace Go.Proofs.YtcackmmfnojpfaaDoor
open Go.RowKit Go.Extern.Stop Go.Stop Go.Extern

theorem loose_skip {pins : List Int} {es : List En} {j : Nat} (h : j < es.length) (hc : pins.contains es[j].line = true) : loose pins (es.drop j) = loose pins (es.drop (j + 1)) := by
  rw [List.drop_eq_getElem_cons h, loose, if_pos hc]
theorem loose_stop {pins : List Int} {es : List En} {j : Nat} (h : j < es.length) (hc : pins.contains es[j].line = false) : loose pins (es.drop j) = es[j].line := by
  rw [List.drop_eq_getElem_cons h, loose, if_neg (by simp only [hc]; decide)]

set_option maxHeartbeats 1600000 in
theorem avictim_any (w : World) (B k : Nat) (A : List St) (hA : Arr w B k A) (l : Int) (ao : Option Addr) (cap : Nat) (zs : List Int) (hZ : Ints w ao cap zs) (hlen : zs.length ≤ 35184372088832) :
    Calls Tryd.prog 13 #[.pointer (some ⟨B + 1, 0, none⟩), .int .i64 l, .slice ao zs.length cap] w fun r w' => r = .returned (.int .i64 (vicA A l zs)) ∧ Below w.heap.size w w' := by
  have HA := Hid.in hA
  have HZ := Hid.in hZ
  clear hZ
  cases hv : vld l with
  | false =>
    have HV := Hid.in hv
    have HR : Hid (vicA A l zs = -1) := Hid.in (by simp [vicA, hv])
    rw [HR.out]
    clear hv hA
    go_enter Tryd.func13, Tryd.ntmps13
    go_wp2_with fail
    refine (place_out _ B k A HA.out l HV.out).mono ?_
    rintro r w1 ⟨rfl, hb⟩
    have HB := Hid.in hb
    clear hb
    go_wp2
    go_ret
    exact ⟨rfl, HB.out⟩
  | true =>
    have HS := Hid.in (set_home hA.nn hv)
    have HG := Hid.in (stA_get hA.pos.1 l)
    obtain ⟨b, es, hst⟩ : ∃ b es, stA A l = (b, es) := ⟨_, _, rfl⟩
    have HR : Hid (vicA A l zs = if plc l es < 0 then (if zs.contains (es.getD (victimI b (es.length : Int)).toNat En.zero).line = true then loose zs es else (es.getD (victimI b (es.length : Int)).toNat En.zero).line) else -1) := Hid.in (by simp only [vicA, hv, hst, if_true])
    rw [hst] at HG
    clear hv hst
    generalize hm A l = h at HS HG
    obtain ⟨f, hf⟩ : ∃ f, plc l es = f := ⟨_, rfl⟩
    rw [hf] at HR
    have HF := Hid.in hf
    clear hf
    have hh0 : ¬ (h : Int) < 0 := by omega
    by_cases hz : f < 0
    · rw [HR.out, if_pos hz]
      clear HR
      obtain ⟨k0, k1, k2, hb8, hk, hl⟩ := hA.hdr HG.out
      obtain ⟨p1, p2, p3, p4⟩ := hA.pos
      obtain ⟨v1, v2⟩ := viced (isW_of hA.kk) hb8
      rw [hk]
      obtain ⟨v, hvv⟩ : ∃ v : Nat, victimI b (k : Int) = (v : Int) := ⟨(victimI b (k : Int)).toNat, by omega⟩
      rw [hvv, Int.toNat_natCast, List.getD_eq_getElem?_getD, List.getElem?_eq_getElem (by omega : v < es.length)]
      simp only [Option.getD_some]
      have hvk : (v : Int) < (k : Int) := by omega
      have hve : v < es.length := by omega
      obtain ⟨x, hx⟩ : ∃ x, (es[v]).line = x := ⟨_, rfl⟩
      rw [hx]
      have HX := Hid.in hx
      have HVV := Hid.in hvv
      have HB8 := Hid.in hb8
      have HK := Hid.in hk
      have hlA : (h : Int) < (A.length : Int) := by omega
      have hfz : ¬ 0 ≤ f := by omega
      clear hx hvv hb8 hk v1 v2 k0 k1 k2 hA
      obtain ⟨c, hc⟩ : ∃ c, zs.contains x = c := ⟨_, rfl⟩
      have HC := Hid.in hc
      rw [hc]
      clear hc
      go_enter Tryd.func13, Tryd.ntmps13
      go_wp2_with fail
      refine (place_in _ B k A HA.out l h b es HS.out HG.out).mono ?_
      rw [HF.out]
      rintro r w1 ⟨rfl, hb⟩
      have hA2 := HA.out.step hb
      have HB := Hid.in hb
      obtain ⟨k0, k1, k2, _, _, _⟩ := hA2.hdr HG.out
      have g0 := (hA2.ent HG.out v hve).c0
      rw [HX.out] at g0
      have HA2 := Hid.in hA2
      have hne : ¬ B + 2 + h = w1.heap.size := by have := hA2.lt.2 h hl; omega
      have hlt : B + 2 + h < w1.heap.size := by have := hA2.lt.2 h hl; omega
      clear hb hA2
      go_upto_region 5 with fail
      go_quiet ((go_at_call 31; exact Calls.quiet_of_same (victim_c b _ _ HB8.out HVV.out _)))
      go_wp2_with fail
      have HBQ : Hid (∀ n, Below w.heap.size w ((w1.alloc (.cells #[.int .u8 (b : Int), .slice (some ⟨B + 2 + h, 0, none⟩) k k] 77)).drewN n)) := Hid.in (fun n => drewN_below (HB.out.alloc HB.out.size _) n)
      refine (contains_any _ ao cap zs (HZ.out.step (HBQ.out _)) hlen x c HC.out).mono ?_
      cases c with
      | false =>
        rintro r w2 ⟨rfl, rfl⟩
        go_wp2
        go_ret
        exact ⟨rfl, HBQ.out _⟩
      | true =>
        rintro r w2 ⟨rfl, hw2⟩
        have hb2 : Below w.heap.size w w2 := by rw [hw2]; exact HBQ.out _
        have HB2 := Hid.in hb2
        have k3 : w2.cell? ⟨w1.heap.size, 1, none⟩ = some (.slice (some ⟨B + 2 + h, 0, none⟩) k k) := by rw [hw2]; simp
        clear hw2 hb2 k0 k1 k2 g0 hne hlt HBQ
        go_wp2
        go_loopw [51] (fun i wr => ∃ j : Nat, j ≤ k ∧ i = .int .i64 j ∧ loose zs es = loose zs (es.drop j) ∧ Below w.heap.size w wr) (fun i _ => 8 - (intOf i).toNat)
        case atStart => exact ⟨0, Nat.zero_le _, rfl, rfl, HB2.out⟩
        case round =>
          obtain ⟨j, hj, rfl, hp, hbl⟩ := hrel
          have HP := Hid.in hp
          have HBL := Hid.in hbl
          clear hp hbl k3
          by_cases hjk : j < k
          · have hje : j < es.length := by rw [HK.out]; exact hjk
            obtain ⟨c0, c1, c2, c3, c4, c5, c6, c7, c8, c9⟩ := (HA.out.ent HG.out j hje).step HBL.out
            obtain ⟨e, he⟩ : ∃ e, es[j] = e := ⟨_, rfl⟩
            rw [he] at c0 c1 c2 c3 c4 c5 c6 c7 c8 c9
            obtain ⟨e0, e1, e2, e3, e4, e5, e6, e7, e8, e9⟩ := e
            have HE := Hid.in he
            clear he
            simp only [] at c0 c1 c2 c3 c4 c5 c6 c7 c8 c9
            have i1 : (j : Int) < (k : Int) := by omega
            obtain ⟨c, hc⟩ : ∃ c, zs.contains e0 = c := ⟨_, rfl⟩
            have HC2 := Hid.in hc
            clear hc
            go_wp2_with fail
            refine (contains_any _ ao cap zs (HZ.out.step (HBL.out.alloc HBL.out.size _)) hlen e0 c HC2.out).mono ?_
            rintro r w3 ⟨rfl, rfl⟩
            have HB3 : Hid (Below w.heap.size w (wr.alloc (.cells (En.mk e0 e1 e2 e3 e4 e5 e6 e7 e8 e9).ec.toArray 32))) := Hid.in (HBL.out.alloc HBL.out.size _)
            cases c with
            | false =>
              have HN : Hid (loose zs es = e0) := Hid.in (by rw [HP.out, loose_stop hje (by rw [HE.out]; exact HC2.out), HE.out])
              go_wp2
              go_ret
              exact ⟨ret_int HN.out.symm, HB3.out⟩
            | true =>
              have HN : Hid (loose zs es = loose zs (es.drop (j + 1))) := Hid.in (by rw [HP.out, loose_skip hje (by rw [HE.out]; exact HC2.out)])
              go_wp2
              go_roundw
              case rel => exact ⟨j + 1, by omega, by go_num, HN.out, HB3.out⟩
              case measure => simp [intOf]; omega
          · have HN : Hid (loose zs es = -1) := Hid.in (by rw [HP.out, List.drop_eq_nil_of_le (by rw [HK.out]; omega)]; rfl)
            go_wp2
            go_ret
            exact ⟨ret_int HN.out.symm, HBL.out⟩
    · rw [HR.out, if_neg hz]
      have hfz : 0 ≤ f := by omega
      clear HR hA
      go_enter Tryd.func13, Tryd.ntmps13
      go_wp2_with fail
      refine (place_in _ B k A HA.out l h b es HS.out HG.out).mono ?_
      rw [HF.out]
      rintro r w1 ⟨rfl, hb⟩
      have HB := Hid.in hb
      clear hb
      go_wp2
      go_ret
      exact ⟨rfl, HB.out⟩

end Go.Proofs.YtcackmmfnojpfaaDoor
