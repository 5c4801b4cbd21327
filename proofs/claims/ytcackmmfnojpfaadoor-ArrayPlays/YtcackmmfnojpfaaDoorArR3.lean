/- DERIVED of the program: the document's own array: Room, Victim, Put by their contracts. Own work. -/
import Derived.Test.YtcackmmfnojpfaaDoorArR2
import Derived.Test.YtcackmmfnojpfaaDoorArInv
import Derived.Test.YtcackmmfnojpfaaDoorArF
namespace Go.Proofs.YtcackmmfnojpfaaDoor
open Go.RowKit Go.Extern.Stop Go.Stop Go.Extern

theorem among_any (w : World) (ao : Option Addr) (cap : Nat) (zs : List Int) (hZ : Ints w ao cap zs) (hlen : zs.length ≤ 35184372088832) (v : Int) (c : Bool) (hc : zs.contains v = c) :
    Calls Tryd.prog 44 #[.int .i64 v, .slice ao zs.length cap] w fun r w' => r = .returned (.bool c) ∧ w' = w := by
  have HZ := Hid.in hZ
  have HC := Hid.in hc
  clear hZ hc
  go_enter Tryd.func44, Tryd.ntmps44
  go_wp2
  go_loopw [9] (fun i wr => ∃ j : Nat, j ≤ zs.length ∧ i = .int .i64 j ∧ (zs.take j).contains v = false ∧ wr = w) (fun i _ => zs.length - (intOf i).toNat)
  case atStart => exact ⟨0, Nat.zero_le _, rfl, rfl, rfl⟩
  case round =>
    obtain ⟨j, hj, rfl, hp, rfl⟩ := hrel
    have HP := Hid.in hp
    clear hp
    by_cases hlt : j < zs.length
    · obtain ⟨g, o, rfl, hc⟩ := HZ.out.cell j hlt
      obtain ⟨z, hz⟩ : ∃ z, zs[j] = z := ⟨_, rfl⟩
      rw [hz] at hc
      have HE := Hid.in hz
      clear hz
      have i1 : (j : Int) < (zs.length : Int) := by omega
      by_cases hq : z = v
      · subst hq
        have HN : Hid (zs.contains z = true) := Hid.in (by rw [List.contains_iff_mem]; exact HE.out ▸ List.getElem_mem hlt)
        go_wp2
        go_ret
        exact ⟨ret_bool (HN.out.symm.trans HC.out), rfl⟩
      · have hq1 : (z == v) = false := by simpa using hq
        have HN : Hid ((zs.take (j + 1)).contains v = false) := Hid.in (by
          have h := HP.out
          rw [List.take_succ_eq_append_getElem hlt, HE.out]
          simp only [List.contains_eq_mem, decide_eq_false_iff_not, List.mem_append, List.mem_singleton, not_or] at h ⊢
          exact ⟨h, fun x => hq x.symm⟩)
        go_wp2
        go_roundw
        case rel => exact ⟨j + 1, by omega, by go_num, HN.out, trivial⟩
        case measure => simp [intOf]; omega
    · have HN : Hid (zs.contains v = false) := Hid.in (by have h := HP.out; rwa [List.take_of_length_le (by omega)] at h)
      go_wp2
      go_ret
      exact ⟨ret_bool (HN.out.symm.trans HC.out), rfl⟩

theorem room_yes {l : Int} {es : List En} {j : Nat} (hj : j < es.length) (h : (es[j]).state = 0 ∨ En.is l es[j] = true) : 0 ≤ plc l es := by
  rcases Int.lt_or_le (plc l es) 0 with hx | hx
  · obtain ⟨h1, h2⟩ := plc_neg hx j hj
    rcases h with h | h
    · exact absurd h h1
    · simp only [En.is, Bool.and_eq_true, bne_iff_ne, ne_eq, beq_iff_eq] at h
      exact absurd h.2 h2
  · exact hx
theorem room_no {l : Int} {es : List En} (h : ∀ j (hj : j < es.length), (es[j]).state ≠ 0 ∧ En.is l es[j] = false) : plc l es < 0 := by
  rcases Int.lt_or_le (plc l es) 0 with hx | hx
  · exact hx
  · obtain ⟨i, hi, _, h2⟩ := plc_pos (show ¬ plc l es < 0 by omega)
    rcases h2 with ⟨h3, _⟩ | ⟨h3, h4, _⟩
    · exact absurd h3 (h i hi).1
    · have := (h i hi).2
      simp [En.is, h3, h4] at this

set_option maxHeartbeats 1600000 in
theorem rroom_any (w : World) (lo hi R k : Nat) (A : List St) (hA0 : RArr w lo hi R k A) (l : Int) :
    Calls Tryd.prog 24 #[.pointer (some ⟨R + 1, 0, none⟩), .int .i64 l] w fun r w' => r = .returned (.bool (roomA A l)) ∧ Below w.heap.size w w' := by
  obtain ⟨eb, ecap, g, hA⟩ := hA0
  cases hv : vld l with
  | false =>
    have HR : Hid (roomA A l = false) := Hid.in (by simp [roomA, hv])
    rw [HR.out]
    have hn := vld_no hv
    clear hA hv
    by_cases h0 : l < 0
    · go_enter Tryd.func24, Tryd.ntmps24
      go_wp2
      go_ret
      exact ⟨rfl, Below.refl _ _⟩
    · have h1 : 32 ≤ l := by omega
      go_enter Tryd.func24, Tryd.ntmps24
      go_wp2
      go_ret
      exact ⟨rfl, Below.refl _ _⟩
  | true =>
    have hs := (hm_cast hA.npos.1 l).symm
    have hg := stA_get hA.npos.1 l
    obtain ⟨b, es, hst⟩ : ∃ b es, stA A l = (b, es) := ⟨_, _, rfl⟩
    have HR : Hid (roomA A l = decide (0 ≤ plc l es)) := Hid.in (by simp [roomA, hv, hst])
    rw [hst] at hg
    generalize hm A l = h at hs hg
    obtain ⟨v0, v31⟩ := vld_of hv
    obtain ⟨⟨k0, k1, k2, k3, k4, k5⟩, hb, hk, hl⟩ := hA.hdr hg
    obtain ⟨p1, p2, p3, p4⟩ := hA.npos
    have HA := Hid.in hA
    have HH := Hid.in hg
    have HK := Hid.in hk
    have HPO : Hid (∀ j (hj : j < es.length), (es[j]).state ≠ 0 → 0 ≤ (es[j]).line) := Hid.in (by
      obtain ⟨hl', he⟩ := List.getElem?_eq_some_iff.1 hg
      have := hA.pos h hl'
      rw [he] at this
      exact this)
    rw [HR.out]
    clear hA hk hv hst k5 k3 k1 hg HR
    have h0 : (h : Int) < (A.length : Int) := by omega
    have hnz : ¬ A.length = 0 := by omega
    go_enter Tryd.func24, Tryd.ntmps24
    go_wp2
    go_quiet (fail)
    go_wp2
    go_loopw [26] (fun i wr => ∃ j : Nat, j ≤ k ∧ i = .int .i64 (j : Int) ∧ (∀ m (hm : m < j) (hm' : m < es.length), (es[m]).state ≠ 0 ∧ En.is l es[m] = false) ∧ Below w.heap.size w wr) (fun i _ => 8 - (intOf i).toNat)
    case atStart => exact ⟨0, Nat.zero_le _, rfl, fun m hm => absurd hm (Nat.not_lt_zero _), drewN_below (Below.refl _ _) _⟩
    case round =>
      obtain ⟨j, hj, rfl, hp, hbl⟩ := hrel
      have HP := Hid.in hp
      have HB := Hid.in hbl
      clear hp hbl
      by_cases hlt : j < k
      · have hje : j < es.length := by rw [HK.out]; exact hlt
        have hec := (HA.out.ent HH.out j hje).step HB.out
        have i1 : (j : Int) < (k : Int) := by omega
        by_cases hz : (es[j]).state = 0
        · rw [ref_free hz] at hec
          obtain ⟨c0, c1, c2, c3, c4, c5, c6, c7, c8, c9⟩ := hec
          simp only [] at c0 c1 c2 c3 c4 c5 c6 c7 c8 c9
          have HN : Hid (decide (0 ≤ plc l es) = true) := Hid.in (decide_eq_true (room_yes hje (.inl hz)))
          clear hz
          go_wp2
          go_ret
          exact ⟨ret_bool HN.out.symm, HB.out.alloc HB.out.size _⟩
        · rw [ref_full hz] at hec
          have hpo := HPO.out j hje hz
          obtain ⟨e, he⟩ : ∃ e, es[j] = e := ⟨_, rfl⟩
          rw [he] at hec hpo
          have HE := Hid.in he
          obtain ⟨e0, e1, e2, e3, e4, e5, e6, e7, e8, e9⟩ := e
          obtain ⟨c0, c1, c2, c3, c4, c5, c6, c7, c8, c9⟩ := hec
          simp only [] at c0 c1 c2 c3 c4 c5 c6 c7 c8 c9 hpo
          have hz' : ¬ e1 = 0 := by rw [he] at hz; exact hz
          clear he
          have hl0 : ¬ e0 < 0 := by omega
          by_cases hq : e0 = l
          · subst hq
            have HN : Hid (decide (0 ≤ plc e0 es) = true) := Hid.in (decide_eq_true (room_yes hje (.inr (by rw [HE.out]; simp [En.is, hz']))))
            clear hz hz'
            go_wp2
            go_ret
            exact ⟨ret_bool HN.out.symm, HB.out.alloc HB.out.size _⟩
          · have hq1 : (e0 == l) = false := by simpa using hq
            have HN : Hid ((es[j]).state ≠ 0 ∧ En.is l es[j] = false) := Hid.in ⟨hz, by rw [HE.out]; simp [En.is, hq]⟩
            clear hz hz'
            go_wp2
            go_roundw
            case rel => exact ⟨j + 1, by omega, by go_num, fun m hm hm' => by
              rcases Nat.lt_or_ge m j with h | h
              · exact HP.out m h hm'
              · obtain rfl : m = j := by omega
                exact HN.out, HB.out.alloc HB.out.size _⟩
            case measure => simp [intOf]; omega
      · have HN : Hid (decide (0 ≤ plc l es) = false) := Hid.in (decide_eq_false (by have := room_no (l := l) (fun m hm => HP.out m (by have := HK.out; omega) hm); omega))
        go_wp2
        go_ret
        exact ⟨ret_bool HN.out.symm, HB.out⟩

end Go.Proofs.YtcackmmfnojpfaaDoor
