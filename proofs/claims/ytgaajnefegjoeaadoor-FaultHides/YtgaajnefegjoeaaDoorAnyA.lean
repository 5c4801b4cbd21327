/- DERIVED of the program: fault.Any of a way of Faults down to a sentinel, over a row of sentinels. Own work. -/
import Derived.Test.YtgaajnefegjoeaaDoorFltB
namespace Go.Proofs.YtgaajnefegjoeaaDoor
open Go.RowKit Go.Extern.Stop Go.Stop Go.Extern

/-- The place of the first a in the row, from i on; -1: nowhere. -/
def fidx (a : Addr) : List Addr → Nat → Int
  | [], _ => -1
  | b :: r, i => if a = b then (i : Int) else fidx a r (i + 1)
theorem fidx_drop (a : Addr) : ∀ (bs : List Addr) (i k : Nat), k ≤ bs.length → (∀ j (h : j < bs.length), j < k → a ≠ bs[j]) → fidx a bs i = fidx a (bs.drop k) (i + k)
  | bs, i, 0, _, _ => by simp
  | [], i, k + 1, h, _ => by simp at h
  | b :: r, i, k + 1, h, hn => by
    have h0 := hn 0 (by simp) (by omega)
    simp only [fidx, List.drop_succ_cons]
    rw [if_neg (by simpa using h0), fidx_drop a r (i + 1) k (by simpa using h) (fun j hj hk => by have := hn (j + 1) (by simpa using hj) (by omega); simpa using this)]
    congr 1; omega
theorem fidx_hit (a : Addr) (bs : List Addr) (k : Nat) (h : k < bs.length) (hn : ∀ j (h : j < bs.length), j < k → a ≠ bs[j]) (he : a = bs[k]) : fidx a bs 0 = k := by
  rw [fidx_drop a bs 0 k (Nat.le_of_lt h) hn, List.drop_eq_getElem_cons h]
  simp [fidx, he]
theorem fidx_miss (a : Addr) (bs : List Addr) (hn : ∀ j (h : j < bs.length), j < bs.length → a ≠ bs[j]) : fidx a bs 0 = -1 := by
  rw [fidx_drop a bs 0 bs.length (Nat.le_refl _) hn]
  simp [fidx]

set_option maxHeartbeats 1600000 in
theorem any_chn (l : List (ByteArray × Int)) (a : Addr) (bs : List Addr) (sb so cap : Nat) (w : World) (hl : bs.length ≤ 1000000)
    (hc : ∀ (k : Nat) (h : k < bs.length), w.cell? ⟨sb, so + k, none⟩ = some (snt bs[k])) (ha : Sen w a) (hbs : ∀ (k : Nat) (h : k < bs.length), Sen w bs[k]) :
    Calls Tryd.prog 15 #[chn l (snt a), .slice (some ⟨sb, so, none⟩) bs.length cap] w fun r w' => r = .returned (.int .i64 (fidx a bs 0)) ∧ Below w.heap.size w w' := by
  have hmf : ∀ (fn : Fn) (first cap : Array Value) (w : World), (Instr.makeFunc fn first cap).run Tryd.prog w = .ok (.func fn first cap) w := fun _ _ _ _ => rfl
  obtain ⟨t', v', he⟩ : ∃ t v, chn l (snt a) = .iface t v := by cases l with
    | nil => exact ⟨_, _, rfl⟩
    | cons x l => exact ⟨_, _, rfl⟩
  have HH := Hid.in (anyH_chn l a)
  have HC := Hid.in hc
  have HA := Hid.in ha
  have HS := Hid.in hbs
  clear hc ha hbs
  rw [he] at HH ⊢
  have HE := Hid.in he
  clear he
  go_enter Tryd.func15, Tryd.ntmps15
  go_wp2
  go_loopw [9] (fun i wr => ∃ k : Nat, k ≤ bs.length ∧ i = .int .i64 k ∧ (∀ j (h : j < bs.length), j < k → a ≠ bs[j]) ∧ Below w.heap.size w wr ∧ wr.cell? ⟨w.heap.size, 0, none⟩ = some (.iface t' v')) (fun i _ => bs.length - (intOf i).toNat)
  case atStart => exact ⟨0, Nat.zero_le _, rfl, fun j _ h => absurd h (by omega), (Below.refl _ _).alloc (Nat.le_refl _) _, by simp [go_sem]⟩
  case round =>
    obtain ⟨k, hk, rfl, hne, hb, hp⟩ := hrel
    have HN := Hid.in hne
    clear hne
    by_cases hlt : k < bs.length
    · have hcell : wr.cell? ⟨sb, so + k, none⟩ = some (snt bs[k]) := (hb.cell (p := ⟨sb, so + k, none⟩) (lt_cell (HC.out k hlt))).trans (HC.out k hlt)
      have HB := Hid.in hb
      clear hb
      go_wp2_with fail
      refine (HH.out bs[k] ⟨w.heap.size, 0, none⟩ ⟨wr.heap.size, 0, none⟩ _ (alloc_cell _ hp) (by simp) ((HA.out.below HB.out HA.out.lt).alloc _) (((HS.out k hlt).below HB.out (HS.out k hlt).lt).alloc _)).mono ?_
      rintro r w2 ⟨rfl, hb2⟩
      have HB2 : Hid (Below wr.heap.size wr w2) := Hid.in (((Below.refl _ _).alloc (Nat.le_refl _) _).trans (hb2.mono (by simp)))
      have HP2 : Hid (w2.cell? ⟨w.heap.size, 0, none⟩ = some (.iface t' v')) := Hid.in ((HB2.out.cell (p := ⟨w.heap.size, 0, none⟩) (lt_cell hp)).trans hp)
      clear hb2 hcell
      by_cases hab : a = bs[k]
      · have hd : decide (a = bs[k]) = true := by simp [hab]
        rw [hd]
        have HF := Hid.in (fidx_hit a bs k hlt HN.out hab)
        clear hab hd hp
        go_wp2
        go_ret
        exact ⟨by rw [HF.out]; rfl, bstep HB.out (Nat.le_refl _) HB2.out⟩
      · have hd : decide (a = bs[k]) = false := by simp [hab]
        rw [hd]
        have HX := Hid.in hab
        clear hab hd hp
        go_wp2
        go_roundw
        case rel => exact ⟨k + 1, hlt, by go_num, fun j hj hjk => by
          rcases Nat.lt_or_eq_of_le (Nat.le_of_lt_succ hjk) with h | h
          · exact HN.out j hj h
          · subst h; exact HX.out, bstep HB.out (Nat.le_refl _) HB2.out, HP2.out⟩
        case measure => simp [intOf]; omega
    · have HB := Hid.in hb
      clear hb hp
      have HF := Hid.in (fidx_miss a bs (fun j hj _ => HN.out j hj (by omega)))
      go_wp2
      go_ret
      exact ⟨by rw [HF.out]; rfl, HB.out⟩

theorem any_none (x : Value) (hx : isIf x) (w : World) : Calls Tryd.prog 15 #[x, .slice none 0 0] w fun r w' => r = .returned (.int .i64 (-1)) ∧ Below w.heap.size w w' := by
  rcases hx with rfl | ⟨t', v', rfl⟩
  all_goals
    go_enter Tryd.func15, Tryd.ntmps15
    go_wp2
    refine wp_loop_rounds 1 ?_
    rw [rounds_succ]
    go_wp2
    go_ret
    exact ⟨rfl, (Below.refl _ _).alloc (Nat.le_refl _) _⟩
end Go.Proofs.YtgaajnefegjoeaaDoor
