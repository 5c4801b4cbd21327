/- DERIVED of the program: Replay of the document's own model by its contract. Own work. -/
import Derived.Test.YtncgjclehplfeaaDoorTsS
import Derived.Test.YtncgjclehplfeaaDoorTsI
import Derived.OwnWalk
namespace Go.Proofs.YtncgjclehplfeaaDoor
open Go.RowKit Go.Extern.Stop Go.Stop Go.Extern

theorem rreplay_no (w : World) (c n : Int) (h : ¬ ((1 ≤ c ∧ c ≤ 64) ∧ 1 ≤ n ∧ n ≤ 128)) (v : Value) :
    Calls Tryd.prog 26 #[.int .i64 c, .int .i64 n, v] w fun r w' => r = .returned (.tuple #[.int .i64 0, .int .i64 1, .slice none 0 0]) ∧ w' = w := by
  have HN := Hid.in (rtnew_no w c n h)
  clear h
  go_enter Tryd.func26, Tryd.ntmps26
  go_wp2_with fail
  refine HN.out.mono ?_
  rintro r w' ⟨rfl, rfl⟩
  go_wp2
  go_ret3
  exact ⟨rfl, rfl⟩
/-- Its answer. -/
def rrepV (nM : Nat) (res : Option (Nat × Nat × Int)) (MF : List Int) (r : Ending) (w' : World) : Prop :=
  match res with
  | none => ∃ ao cap, r = .returned (.tuple #[.int .i64 (-1), .int .i64 0, .slice ao nM cap]) ∧ RowU w' ao cap MF
  | some (i, c, _) => r = .returned (.tuple #[.int .i64 (i : Int), .int .i64 (c : Int), .slice none 0 0])
set_option maxHeartbeats 3200000 in
set_option maxRecDepth 20000 in
theorem rreplay_c (w : World) (nA nM : Nat) (h1 : 1 ≤ nA) (h2 : nA ≤ 64) (h3 : 1 ≤ nM) (h4 : nM ≤ 128) (al : Option Addr) (n cap : Nat) (L : List Ev) (hn : L.length = n) (hn6 : n ≤ 10000) (hR : RowE w al cap L)
    (res : Option (Nat × Nat × Int)) (hres : badS (ts0 nA nM) L 0 = res) (MF : List Int) (hMF : (runS (ts0 nA nM) L).2 = MF) :
    Calls Tryd.prog 26 #[.int .i64 (nA : Int), .int .i64 (nM : Int), .slice al n cap] w fun r w' => rrepV nM res MF r w' ∧ Below w.heap.size w w' := by
  have HL := Hid.in hn
  have HR := Hid.in hR
  have HRES := Hid.in hres
  have HMF := Hid.in hMF
  clear hn hR hres hMF
  go_enter Tryd.func26, Tryd.ntmps26
  go_wp2_with fail
  refine (rtnew_c w nA nM h1 h2 h3 h4).mono ?_
  rintro r w1 ⟨q, S0, rfl, hP, hb, hs⟩
  have HP := Hid.in hP
  have HB := Hid.in hb
  have HS := Hid.in hs
  clear hP hb hs
  go_wp2
  go_loopw [25] (fun c wr => ∃ (j : Nat) (s : TS) (S : List Nat), j ≤ n ∧ c = .int .i64 (j : Int) ∧ RM wr q S j s.1 s.2 ∧ Below w.heap.size w wr ∧ (∀ k ∈ S, w.heap.size ≤ k) ∧ badS s (L.drop j) j = res ∧ (runS s (L.drop j)).2 = MF ∧ s.2.length = nM) (fun c _ => n - (intOf c).toNat)
  case atStart => exact ⟨0, ts0 nA nM, S0, Nat.zero_le _, rfl, HP.out, HB.out, HS.out, HRES.out, HMF.out, by simp⟩
  case round =>
    obtain ⟨j, s, S, hj, rfl, hP, hB, hS, hres, hmf, hnM⟩ := hrel
    clear HP HB HS HRES HMF
    have HP := Hid.in hP
    have HB := Hid.in hB
    have HS := Hid.in hS
    have HRES := Hid.in hres
    have HMF := Hid.in hmf
    have HNM := Hid.in hnM
    clear hP hB hS hres hmf hnM
    rename World => wo
    by_cases hlt : j < n
    · obtain ⟨b, o, k, c, a, v, z, d, rfl, x0, x1, x2, x3, x4, x5, hxx⟩ := HR.out.eat j (by rw [HL.out]; exact hlt)
      have HX := Hid.in (show L.drop j = ⟨k, c, a, v, z, d⟩ :: L.drop (j + 1) by
        obtain ⟨hh, he⟩ := List.getElem?_eq_some_iff.1 hxx
        rw [← he, List.drop_eq_getElem_cons hh])
      have y0 := (HB.out.cell (p := ⟨b, o + j * 6, none⟩) (lt_cell x0)).trans x0
      have y1 := (HB.out.cell (p := ⟨b, o + j * 6 + 1, none⟩) (lt_cell x1)).trans x1
      have y2 := (HB.out.cell (p := ⟨b, o + j * 6 + 2, none⟩) (lt_cell x2)).trans x2
      have y3 := (HB.out.cell (p := ⟨b, o + j * 6 + 3, none⟩) (lt_cell x3)).trans x3
      have y4 := (HB.out.cell (p := ⟨b, o + j * 6 + 4, none⟩) (lt_cell x4)).trans x4
      have y5 := (HB.out.cell (p := ⟨b, o + j * 6 + 5, none⟩) (lt_cell x5)).trans x5
      have i1 : (j : Int) < (n : Int) := by omega
      clear x0 x1 x2 x3 x4 x5 hxx
      obtain ⟨r0, hr0⟩ : ∃ r0, refP s.1 s.2 ⟨k, c, a, v, z, d⟩ = r0 := ⟨_, rfl⟩
      have HH := Hid.in hr0
      clear hr0
      go_wp2_with fail
      have hbx := below_alloc wo (.cells #[.int .i64 k, .int .i64 c, .int .i64 a, .int .u32 v, .int .u32 z, .bool d] 24)
      refine (rstep_c _ q j S s.1 s.2 (HP.out.step hbx) (by omega) k c a v z d r0 HH.out).mono ?_
      rintro r w2 ⟨rfl, S', hT⟩
      have hT2 := hT.after hbx
      by_cases h0 : r0 = 0
      · subst h0
        have hSS : ∀ k ∈ S', w.heap.size ≤ k := fun k hk => by
          rcases hT2.s k hk with h | h
          · exact HS.out k h
          · exact Nat.le_trans HB.out.size h
        have HN : Hid (∃ s' : TS, RM w2 q S' (j + 1) s'.1 s'.2 ∧ Below w.heap.size w w2 ∧ (∀ k ∈ S', w.heap.size ≤ k) ∧ badS s' (L.drop (j + 1)) (j + 1) = res ∧ (runS s' (L.drop (j + 1))).2 = MF ∧ s'.2.length = nM) :=
          Hid.in ⟨stepS s ⟨k, c, a, v, z, d⟩, hT2.p, hT2.f.below HB.out HS.out HB.out.size, hSS, by
            have := HRES.out; rw [HX.out, badS_yes HH.out] at this; exact this, by
            have := HMF.out; rw [HX.out] at this; exact this, by rw [stepS_len2]; exact HNM.out⟩
        clear hT hT2 hSS hbx y0 y1 y2 y3 y4 y5
        go_wp2
        go_roundw
        case rel =>
          obtain ⟨s', e1, e2, e3, e4, e5, e6⟩ := HN.out
          exact ⟨j + 1, s', S', by omega, by go_num, e1, e2, e3, e4, e5, e6⟩
        case measure => simp [intOf]; omega
      · have e0 : ((r0 : Int) == 0) = false := by simpa using h0
        have HZ := Hid.in h0
        have HB2 : Hid (Below w.heap.size w w2) := Hid.in (hT2.f.below HB.out HS.out HB.out.size)
        clear hT hT2 hbx y0 y1 y2 y3 y4 y5 h0
        go_wp2
        go_ret3
        refine ⟨?_, HB2.out⟩
        have := HRES.out
        rw [HX.out, badS_no (by rw [HH.out]; exact HZ.out), HH.out] at this
        subst this
        exact rfl
    · obtain rfl : j = n := by omega
      have HD : Hid (L.drop j = []) := Hid.in (List.drop_eq_nil_of_le (by rw [HL.out]; exact Nat.le_refl _))
      obtain ⟨am, capm, hq, hM⟩ := HP.out.mrow
      have HM := Hid.in hM
      clear hM
      go_wp2_with fail
      go_quiet (fail)
      go_wp2
      go_ret3
      refine ⟨?_, drewN_below HB.out _⟩
      have hr := HRES.out
      have hm := HMF.out
      rw [HD.out] at hr hm
      subst hr
      refine ⟨am, capm, by have h := HNM.out; subst h; rfl, ?_⟩
      rw [show s.2 = MF from hm] at HM
      exact Rows'.step HM.out (drewN_below (Below.refl _ _) _)
end Go.Proofs.YtncgjclehplfeaaDoor
