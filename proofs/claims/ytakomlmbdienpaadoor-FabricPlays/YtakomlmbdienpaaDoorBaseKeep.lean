/- DERIVED of the program: assentkeep.Is and Only where they answer yes; assentbook.Within for bounds of whichever sign; small laws on worlds. Own work. -/
import Derived.Test.YtakomlmbdienpaaDoorBaseEnv
import Derived.Deep.MidRow
import Derived.Deep.QuietTactic
import Derived.BigQuiet
namespace Go.Proofs.YtakomlmbdienpaaDoor
open Go.RowKit Go.Extern.Stop Go.Stop Go.Extern

theorem belowSetCells {B b : Nat} {a : World} (hb : B ≤ b) : ∀ (vs : List Value) (o : Nat) (w : World), Below B a w → Below B a (w.setCells b o vs)
  | [], _, _, h => h
  | _ :: vs, o, _, h => belowSetCells hb vs (o + 1) _ (h.setCell hb _)

theorem range_new (W : World) (H : Nat) (hH : H = W.heap.size) (cs : List Value) (t : TypeId) : (W.alloc (.cells cs.toArray t)).drew.rangeAt H 0 cs := by
  subst hH
  intro j v hv
  simpa using hv

theorem read9 {b : Nat} {v0 v1 v2 v3 v4 v5 v6 v7 v8 : Value} (W : World) (h : W.rangeAt b 0 [v0, v1, v2, v3, v4, v5, v6, v7, v8]) :
    W.cell? ⟨b, 0, none⟩ = some v0 ∧ W.cell? ⟨b, 1, none⟩ = some v1 ∧ W.cell? ⟨b, 2, none⟩ = some v2 ∧ W.cell? ⟨b, 3, none⟩ = some v3 ∧ W.cell? ⟨b, 4, none⟩ = some v4 ∧ W.cell? ⟨b, 5, none⟩ = some v5 ∧ W.cell? ⟨b, 6, none⟩ = some v6 ∧ W.cell? ⟨b, 7, none⟩ = some v7 ∧ W.cell? ⟨b, 8, none⟩ = some v8 :=
  ⟨by simpa using h 0 _ rfl, by simpa using h 1 _ rfl, by simpa using h 2 _ rfl, by simpa using h 3 _ rfl, by simpa using h 4 _ rfl, by simpa using h 5 _ rfl, by simpa using h 6 _ rfl, by simpa using h 7 _ rfl, by simpa using h 8 _ rfl⟩

theorem Zero3.var {W : World} {tb : Nat} (h : Zero3 W tb) : IsVar3 W tb := ⟨⟨_, h.c0⟩, ⟨_, h.c1⟩, ⟨_, h.c2⟩, h.f0, h.f1, h.f2⟩

theorem below_set3 {B : Nat} {w W : World} (h : Below B w W) (tb : Nat) (hB : B ≤ tb) (op : ByteArray) (n : Int) (e : Value) : Below B w (set3 W tb op n e) := by
  unfold set3
  exact ((h.setCell hB _).setCell hB _).setCell hB _

/-- assentkeep.Is of a Fault of that code, text and place. -/
theorem kIs_flt (op : ByteArray) (n : Int) (l : List (ByteArray × Int)) (c : Nat) (h1 : 1 ≤ c) (h2 : c ≤ 10) (w : World) (sa : Nat → Addr) (hE : Env10 w sa) :
    Calls Tryd.prog 14 #[flt op n (chn l (snt (sa c))), .int .i64 c, .string op, .int .i64 n] w fun r w' => r = .returned (.bool true) ∧ Below w.heap.size w w' := by
  have HE := Hid.in hE
  clear hE
  have hc : ((c : Int) == 0) = false := by simp; omega
  go_enter Tryd.func14, Tryd.ntmps14
  go_wp2_with fail
  refine (error_code _ sa (HE.out.below ((Below.refl _ _).alloc (Nat.le_refl _) _)) c h1 h2).mono ?_
  rintro r w' ⟨rfl, rfl⟩
  go_wp2_with fail
  refine (Is_chn ((op, n) :: l) (sa c) (sa c) _ ((HE.out.s c h1 h2).alloc _) ((HE.out.s c h1 h2).alloc _)).mono ?_
  rintro r w1 ⟨rfl, hb1⟩
  rw [show decide (sa c = sa c) = true from by simp]
  have hz : Zero3 w1 w.heap.size := (Zero3.new w _ rfl).below hb1 (by simp)
  have HB1 : Hid (Below w.heap.size w w1) := Hid.in (((Below.refl _ _).alloc (Nat.le_refl _) _).trans (hb1.mono (by simp)))
  have HZ := Hid.in hz
  clear hb1 hz
  go_wp2_with fail
  refine (As_flt op n (chn l (snt (sa c))) (chn_if _ _) w.heap.size _ (HE.out.et.below HB1.out HE.out.et.lt) HZ.out.var).mono ?_
  rintro r w2 ⟨rfl, hb2⟩
  have hlt : w.heap.size < w1.heap.size := HZ.out.var.lt
  obtain ⟨s0, s1, s2⟩ := set3_cells op n (chn l (snt (sa c))) HZ.out.var
  have k0 : w2.cell? ⟨w.heap.size, 0, none⟩ = some (.string op) := (hb2.cell (p := ⟨w.heap.size, 0, none⟩) hlt).trans s0
  have k1 : w2.cell? ⟨w.heap.size, 1, none⟩ = some (.int .i64 n) := (hb2.cell (p := ⟨w.heap.size, 1, none⟩) hlt).trans s1
  have HB2 : Hid (Below w.heap.size w w2) := Hid.in ((below_set3 HB1.out _ (Nat.le_refl _) _ _ _).trans (hb2.mono (Nat.le_of_lt hlt)))
  clear s0 s1 s2 hb2 hlt
  go_wp2
  go_ret
  exact ⟨rfl, HB2.out⟩

/-- assentkeep.Only of a way down to the sentinel of that code. -/
theorem kOnly_chn (l : List (ByteArray × Int)) (c : Nat) (h1 : 1 ≤ c) (h2 : c ≤ 10) (w : World) (sa : Nat → Addr) (hE : Env10 w sa) :
    Calls Tryd.prog 20 #[chn l (snt (sa c)), .int .i64 c] w fun r w' => r = .returned (.bool true) ∧ Below w.heap.size w w' := by
  have HE := Hid.in hE
  clear hE
  have hc : ((c : Int) == 0) = false := by simp; omega
  obtain ⟨t', v', he⟩ : ∃ t v, chn l (snt (sa c)) = .iface t v := by cases l with
    | nil => exact ⟨_, _, rfl⟩
    | cons x l => exact ⟨_, _, rfl⟩
  have HI : Hid (∀ d, 1 ≤ d → d ≤ 10 → ∀ W, Below w.heap.size w W → Calls Tryd.prog 34 #[.iface t' v', snt (sa d)] W fun r w' => r = .returned (.bool (decide (sa c = sa d))) ∧ Below W.heap.size W w') := Hid.in (by
    intro d h3 h4 W hW
    rw [← he]
    exact Is_chn l (sa c) (sa d) W ((HE.out.s c h1 h2).below hW (HE.out.s c h1 h2).lt) ((HE.out.s d h3 h4).below hW (HE.out.s d h3 h4).lt))
  rw [he]
  clear he
  go_enter Tryd.func20, Tryd.ntmps20
  go_wp2
  go_loopw [5] (fun i wr => ∃ k : Nat, 1 ≤ k ∧ k ≤ 11 ∧ i = .int .i64 k ∧ Below w.heap.size w wr) (fun i _ => 11 - (intOf i).toNat)
  case atStart => exact ⟨1, Nat.le_refl _, by omega, rfl, Below.refl _ _⟩
  case round =>
    obtain ⟨k, hk1, hk, rfl, hb⟩ := hrel
    have HB := Hid.in hb
    clear hb
    by_cases hlt : k ≤ 10
    · have HD : Hid (decide (sa c = sa k) = ((k : Int) == (c : Int))) := Hid.in (by
        by_cases e : c = k
        · subst e; simp
        · have h1 : ¬ sa c = sa k := fun e' => e (HE.out.inj c k h1 h2 hk1 hlt e')
          have h2 : ¬ (k : Int) = (c : Int) := by omega
          simp [h1, h2])
      generalize hq : ((k : Int) == (c : Int)) = q at HD
      go_wp2_with fail
      refine (error_code _ sa (HE.out.below HB.out) k hk1 hlt).mono ?_
      rintro r w' ⟨rfl, rfl⟩
      go_wp2_with fail
      refine (HI.out k hk1 hlt _ HB.out).mono ?_
      rintro r w2 ⟨rfl, hb2⟩
      rw [HD.out]
      have HB2 := Hid.in (bstep HB.out (Nat.le_refl _) hb2)
      clear hb2
      cases q
      all_goals
        go_wp2
        go_roundw
        case rel => exact ⟨k + 1, by omega, by omega, by go_num, HB2.out⟩
        case measure => simp [intOf]; omega
    · go_wp2
      go_ret
      exact ⟨rfl, HB.out⟩

end Go.Proofs.YtakomlmbdienpaaDoor
