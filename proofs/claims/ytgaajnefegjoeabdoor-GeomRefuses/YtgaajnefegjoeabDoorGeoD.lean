/- DERIVED of the program: the document's own answer on configurations (assentref1.Config) by its contract. Own work. -/
import Derived.Test.YtgaajnefegjoeabDoorGeoC
namespace Go.Proofs.YtgaajnefegjoeabDoor
open Go.RowKit Go.Extern.Stop Go.Stop Go.Extern

theorem rwithin_any (n a b : Int) (w : World) : Calls Tryd.prog 28 #[.int .i64 n, .int .i64 a, .int .i64 b] w fun r w' => r = .returned (.bool (wB n a b)) ∧ w' = w := by
  by_cases h1 : a ≤ n
  · by_cases h2 : n ≤ b
    · have HE := Hid.in (wB_yes ⟨h1, h2⟩)
      go_enter Tryd.func28, Tryd.ntmps28
      go_wp2
      go_ret
      exact ⟨ret_bool HE.out.symm, rfl⟩
    · have HE := Hid.in (wB_no (n := n) (a := a) (b := b) (fun h => h2 h.2))
      go_enter Tryd.func28, Tryd.ntmps28
      go_wp2
      go_ret
      exact ⟨ret_bool HE.out.symm, rfl⟩
  · have HE := Hid.in (wB_no (n := n) (a := a) (b := b) (fun h => h1 h.1))
    go_enter Tryd.func28, Tryd.ntmps28
    go_wp2
    go_ret
    exact ⟨ret_bool HE.out.symm, rfl⟩
theorem rtwo_any (n : Int) (w : World) : Calls Tryd.prog 29 #[.int .i64 n, .int .i64 8] w fun r w' => r = .returned (.bool (pB n)) ∧ w' = w := by
  by_cases h1 : 1 ≤ n
  · by_cases h2 : n ≤ 8
    · have h8 : n = 1 ∨ n = 2 ∨ n = 3 ∨ n = 4 ∨ n = 5 ∨ n = 6 ∨ n = 7 ∨ n = 8 := by omega
      clear h1 h2
      rcases h8 with rfl | rfl | rfl | rfl | rfl | rfl | rfl | rfl
      all_goals
        go_enter Tryd.func29, Tryd.ntmps29
        go_wp2
        go_ret
        exact ⟨rfl, rfl⟩
    · have HE : Hid (pB n = false) := Hid.in (by simp only [pB, decide_eq_false_iff_not]; omega)
      go_enter Tryd.func29, Tryd.ntmps29
      go_wp2
      go_ret
      exact ⟨ret_bool HE.out.symm, rfl⟩
  · have HE : Hid (pB n = false) := Hid.in (by simp only [pB, decide_eq_false_iff_not]; omega)
    go_enter Tryd.func29, Tryd.ntmps29
    go_wp2
    go_ret
    exact ⟨ret_bool HE.out.symm, rfl⟩

set_option maxHeartbeats 8000000 in
set_option maxRecDepth 100000 in
theorem rConfig_any (c0 c1 c2 c3 c4 c5 c6 c7 c8 : Int) (w : World) :
    Calls Tryd.prog 15 #[cfg c0 c1 c2 c3 c4 c5 c6 c7 c8] w fun r w' => r = .returned (.int .i64 (fno (bs9 c0 c1 c2 c3 c4 c5 c6 c7 c8) 0)) ∧ Below w.heap.size w w' := by
  have HX : Hid (∀ b0 b1 b2 b3 b4 b5 b6 b7 b8 : Bool, wB c0 1 64 = b0 → wB c1 1 32 = b1 → pB c2 = b2 → pB c3 = b3 → wB c4 1 8 = b4 → wB c5 1 8 = b5 → wB c6 1 64 = b6 → wB c7 1 15 = b7 → wB c8 (-1) (IntKind.i64.wrap (c7 - 1)) = b8 → bs9 c0 c1 c2 c3 c4 c5 c6 c7 c8 = [b0, b1, b2, b3, b4, b5, b6, b7, b8]) := Hid.in (by
    intro b0 b1 b2 b3 b4 b5 b6 b7 b8 h0 h1 h2 h3 h4 h5 h6 h7 h8
    simp only [bs9, h0, h1, h2, h3, h4, h5, h6, h7, h8])
  generalize hb : bs9 c0 c1 c2 c3 c4 c5 c6 c7 c8 = bs at HX
  clear hb
  go_enter Tryd.func15, Tryd.ntmps15
  go_wp2_with fail
  go_cut [3] (fun p3 wc => p3 = .slice (some ⟨w.heap.size + 1, 0, none⟩) 9 9 ∧ wc.rangeAt (w.heap.size + 1) 0 [.bool (wB c0 1 64), .bool (wB c1 1 32), .bool (pB c2), .bool (pB c3), .bool (wB c4 1 8), .bool (wB c5 1 8), .bool (wB c6 1 64), .bool (wB c7 1 15), .bool (wB c8 (-1) (IntKind.i64.wrap (c7 - 1)))] ∧ Below w.heap.size w wc)
  case first =>
    go_region_held3 (fun W => W.cell? ⟨w.heap.size, 0, none⟩ = some (.int .i64 c0) ∧ W.cell? ⟨w.heap.size, 1, none⟩ = some (.int .i64 c1) ∧ W.cell? ⟨w.heap.size, 2, none⟩ = some (.int .i64 c2) ∧ W.cell? ⟨w.heap.size, 3, none⟩ = some (.int .i64 c3) ∧ W.cell? ⟨w.heap.size, 4, none⟩ = some (.int .i64 c4) ∧ W.cell? ⟨w.heap.size, 5, none⟩ = some (.int .i64 c5) ∧ W.cell? ⟨w.heap.size, 6, none⟩ = some (.int .i64 c6) ∧ W.cell? ⟨w.heap.size, 7, none⟩ = some (.int .i64 c7) ∧ W.cell? ⟨w.heap.size, 8, none⟩ = some (.int .i64 c8)) (first | go_keep | (simp [*]; done))
      (first
        | (go_at_call 28; refine (rwithin_any _ _ _ _).mono ?_; rintro e w' ⟨rfl, rfl⟩)
        | (go_at_call 29; refine (rtwo_any _ _).mono ?_; rintro e w' ⟨rfl, rfl⟩))
    all_goals
      go_wp2_with fail
      go_meet
      case rel => exact ⟨rfl, range_new _ _ (by simp) _ _, ((((Below.refl _ _).alloc (Nat.le_refl _) _).alloc (by simp) _).drew)⟩
  case rest =>
    obtain ⟨rfl, hr, hb⟩ := hcut
    have HB := Hid.in hb
    have HL := HX.out _ _ _ _ _ _ _ _ _ rfl rfl rfl rfl rfl rfl rfl rfl rfl
    clear hb HX
    generalize wB c0 1 64 = b0 at hr HL
    generalize wB c1 1 32 = b1 at hr HL
    generalize pB c2 = b2 at hr HL
    generalize pB c3 = b3 at hr HL
    generalize wB c4 1 8 = b4 at hr HL
    generalize wB c5 1 8 = b5 at hr HL
    generalize wB c6 1 64 = b6 at hr HL
    generalize wB c7 1 15 = b7 at hr HL
    generalize wB c8 (-1) (IntKind.i64.wrap (c7 - 1)) = b8 at hr HL
    have HLL := Hid.in HL
    have hcl : ∀ k : Nat, k < 9 → wc.cell? ⟨w.heap.size + 1, k, none⟩ = some (.bool ([b0, b1, b2, b3, b4, b5, b6, b7, b8].getD k false)) := by
      intro k hk
      have h : k = 0 ∨ k = 1 ∨ k = 2 ∨ k = 3 ∨ k = 4 ∨ k = 5 ∨ k = 6 ∨ k = 7 ∨ k = 8 := by omega
      clear hk
      rcases h with rfl | rfl | rfl | rfl | rfl | rfl | rfl | rfl | rfl
      all_goals exact (by simpa using hr _ _ rfl)
    clear HL hr
    go_wp2
    go_loop [4] (fun i => ∃ k : Nat, k ≤ 9 ∧ i = .int .i64 k ∧ fno bs 0 = fno (bs.drop k) k) (fun i => 9 - (intOf i).toNat)
    case atStart => exact ⟨0, Nat.zero_le _, rfl, rfl⟩
    case round =>
      obtain ⟨k, hk, rfl, hf⟩ := hrel
      have HF := Hid.in hf
      clear hf
      by_cases hlt : k < 9
      · have hi := hcl k hlt
        clear hcl
        cases hbk : [b0, b1, b2, b3, b4, b5, b6, b7, b8].getD k false with
        | true =>
          rw [hbk] at hi
          have HN := Hid.in (fno_yes bs k (by rw [HLL.out]; exact hlt) (by rw [HLL.out]; exact hbk))
          clear hbk
          go_wp2
          go_round
          case rel => exact ⟨k + 1, by omega, by go_num, by rw [HF.out, HN.out]⟩
          case measure => simp [intOf]; omega
        | false =>
          rw [hbk] at hi
          have HN := Hid.in (fno_no bs k (by rw [HLL.out]; exact hlt) (by rw [HLL.out]; exact hbk))
          clear hbk
          go_wp2
          go_ret
          exact ⟨ret_int (by rw [HF.out, HN.out]), HB.out⟩
      · have HK : Hid (fno bs 0 = -1) := Hid.in (by rw [HF.out, List.drop_eq_nil_of_le (by rw [HLL.out]; simp; omega)]; rfl)
        go_wp2
        go_ret
        exact ⟨ret_int HK.out.symm, HB.out⟩
end Go.Proofs.YtgaajnefegjoeabDoor
