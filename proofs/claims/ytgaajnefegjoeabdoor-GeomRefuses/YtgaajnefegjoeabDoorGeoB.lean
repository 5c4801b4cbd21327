/- DERIVED of the program: geom.Check by its contract. Own work. -/
import Derived.Test.YtgaajnefegjoeabDoorGeoA
import Derived.Deep.RegionHeld3
import Derived.Deep.DeepCutAuto
import Derived.Deep.MidRow
namespace Go.Proofs.YtgaajnefegjoeabDoor
open Go.RowKit Go.Extern.Stop Go.Stop Go.Extern

/-- "geom.Check". -/
abbrev opC : ByteArray := ⟨#[103, 101, 111, 109, 46, 67, 104, 101, 99, 107]⟩
/-- A configuration. -/
abbrev cfg (c0 c1 c2 c3 c4 c5 c6 c7 c8 : Int) : Value := .agg #[.int .i64 c0, .int .i64 c1, .int .i64 c2, .int .i64 c3, .int .i64 c4, .int .i64 c5, .int .i64 c6, .int .i64 c7, .int .i64 c8]
/-- The place of the first no, from i on; -1: none. -/
def fno : List Bool → Nat → Int
  | [], _ => -1
  | b :: r, i => if b = true then fno r (i + 1) else i
theorem fno_yes (bs : List Bool) (k : Nat) (h : k < bs.length) (hb : bs.getD k false = true) : fno (bs.drop k) k = fno (bs.drop (k + 1)) (k + 1) := by
  rw [List.drop_eq_getElem_cons h]
  have : bs[k] = true := by simpa [List.getD_eq_getElem?_getD, h] using hb
  simp [fno, this]
theorem fno_no (bs : List Bool) (k : Nat) (h : k < bs.length) (hb : bs.getD k false = false) : fno (bs.drop k) k = k := by
  rw [List.drop_eq_getElem_cons h]
  have : bs[k] = false := by simpa [List.getD_eq_getElem?_getD, h] using hb
  simp [fno, this]
def bs9 (c0 c1 c2 c3 c4 c5 c6 c7 c8 : Int) : List Bool := [wB c0 1 64, wB c1 1 32, pB c2, pB c3, wB c4 1 8, wB c5 1 8, wB c6 1 64, wB c7 1 15, wB c8 (-1) (IntKind.i64.wrap (c7 - 1))]
/-- What Check answers. -/
def chkV (k : Int) (a : Addr) : Value := if k < 0 then .nilIface else flt opC k (snt a)

set_option maxRecDepth 100000 in
theorem Tryd.index9 (b0 b1 b2 b3 b4 b5 b6 b7 b8 : Bool) (k : Nat) (hk : k < 9) (w : World) :
    (Instr.index 42 (.agg #[.bool b0, .bool b1, .bool b2, .bool b3, .bool b4, .bool b5, .bool b6, .bool b7, .bool b8]) (.int .i64 k)).run Tryd.prog w = .ok (.bool ([b0, b1, b2, b3, b4, b5, b6, b7, b8].getD k false)) w := by
  have h : k = 0 ∨ k = 1 ∨ k = 2 ∨ k = 3 ∨ k = 4 ∨ k = 5 ∨ k = 6 ∨ k = 7 ∨ k = 8 := by omega
  clear hk
  rcases h with rfl | rfl | rfl | rfl | rfl | rfl | rfl | rfl | rfl
  all_goals
    change _ = _
    kernel_rfl

set_option maxHeartbeats 8000000 in
set_option maxRecDepth 100000 in
theorem check_any (c0 c1 c2 c3 c4 c5 c6 c7 c8 : Int) (w : World) (sa : Nat → Addr) (hE : Env10 w sa) :
    Calls Tryd.prog 8 #[cfg c0 c1 c2 c3 c4 c5 c6 c7 c8] w fun r w' => r = .returned (chkV (fno (bs9 c0 c1 c2 c3 c4 c5 c6 c7 c8) 0) (sa 1)) ∧ Below w.heap.size w w' := by
  have HE := Hid.in hE
  have HX : Hid (∀ b0 b1 b2 b3 b4 b5 b6 b7 b8 : Bool, wB c0 1 64 = b0 → wB c1 1 32 = b1 → pB c2 = b2 → pB c3 = b3 → wB c4 1 8 = b4 → wB c5 1 8 = b5 → wB c6 1 64 = b6 → wB c7 1 15 = b7 → wB c8 (-1) (IntKind.i64.wrap (c7 - 1)) = b8 → bs9 c0 c1 c2 c3 c4 c5 c6 c7 c8 = [b0, b1, b2, b3, b4, b5, b6, b7, b8]) := Hid.in (by
    intro b0 b1 b2 b3 b4 b5 b6 b7 b8 h0 h1 h2 h3 h4 h5 h6 h7 h8
    simp only [bs9, h0, h1, h2, h3, h4, h5, h6, h7, h8])
  clear hE
  generalize hb : bs9 c0 c1 c2 c3 c4 c5 c6 c7 c8 = bs at HX
  have HBS := Hid.in hb
  clear hb
  go_enter Tryd.func8, Tryd.ntmps8
  go_wp2_with fail
  have f1 : ∀ v ∈ [Value.bool (wB c0 1 64), Value.bool (wB c1 1 32), Value.bool (pB c2), Value.bool (pB c3), Value.bool (wB c4 1 8), Value.bool (wB c5 1 8), Value.bool (wB c6 1 64), Value.bool (wB c7 1 15), Value.bool (wB c8 (-1) (IntKind.i64.wrap (c7 - 1)))], v.oneCell' = true := by
    intro v hv
    simp only [List.mem_cons, List.not_mem_nil, or_false] at hv
    rcases hv with rfl | rfl | rfl | rfl | rfl | rfl | rfl | rfl | rfl <;> rfl
  have f2 : ((w.alloc (.cells #[.int .i64 c0, .int .i64 c1, .int .i64 c2, .int .i64 c3, .int .i64 c4, .int .i64 c5, .int .i64 c6, .int .i64 c7, .int .i64 c8] 26)).alloc (.cells #[.bool false, .bool false, .bool false, .bool false, .bool false, .bool false, .bool false, .bool false, .bool false] 42)).drew.there (w.heap.size + 1) 0 9 := by
    intro j hj
    have h : j = 0 ∨ j = 1 ∨ j = 2 ∨ j = 3 ∨ j = 4 ∨ j = 5 ∨ j = 6 ∨ j = 7 ∨ j = 8 := by omega
    clear hj
    rcases h with rfl | rfl | rfl | rfl | rfl | rfl | rfl | rfl | rfl <;> simp
  have f3 : (Tryd.prog.info? 42).map (fun x => x.size) = some 9 := by kernel_rfl
  have f4 : ∀ (W : World) (vs : List Value) (i : Nat), (W.setCells (w.heap.size + 1) 0 vs).cell? ⟨w.heap.size, i, none⟩ = W.cell? ⟨w.heap.size, i, none⟩ := fun W vs i => World.cell?_setCells_out _ _ _ _ _ (fun hb _ => absurd hb (by simp))
  go_cut [3] (fun p3 wc => p3 = .pointer (some ⟨w.heap.size + 1, 0, none⟩) ∧ wc.rangeAt (w.heap.size + 1) 0 [.bool (wB c0 1 64), .bool (wB c1 1 32), .bool (pB c2), .bool (pB c3), .bool (wB c4 1 8), .bool (wB c5 1 8), .bool (wB c6 1 64), .bool (wB c7 1 15), .bool (wB c8 (-1) (IntKind.i64.wrap (c7 - 1)))] ∧ Below w.heap.size w wc)
  case first =>
    go_region_held3 (fun W => W.cell? ⟨w.heap.size, 0, none⟩ = some (.int .i64 c0) ∧ W.cell? ⟨w.heap.size, 1, none⟩ = some (.int .i64 c1) ∧ W.cell? ⟨w.heap.size, 2, none⟩ = some (.int .i64 c2) ∧ W.cell? ⟨w.heap.size, 3, none⟩ = some (.int .i64 c3) ∧ W.cell? ⟨w.heap.size, 4, none⟩ = some (.int .i64 c4) ∧ W.cell? ⟨w.heap.size, 5, none⟩ = some (.int .i64 c5) ∧ W.cell? ⟨w.heap.size, 6, none⟩ = some (.int .i64 c6) ∧ W.cell? ⟨w.heap.size, 7, none⟩ = some (.int .i64 c7) ∧ W.cell? ⟨w.heap.size, 8, none⟩ = some (.int .i64 c8)) (first | go_keep | (simp [*]; done))
      (first
        | (go_at_call 20; refine (gwithin_any _ _ _ _).mono ?_; rintro e w' ⟨rfl, rfl⟩)
        | (go_at_call 21; refine (power_any _ _).mono ?_; rintro e w' ⟨rfl, rfl⟩))
    all_goals
      go_wp2_with fail
      go_meet
      case rel => exact ⟨rfl, World.rangeAt_setCells_same _ _ _ _ f2, belowSetCells (by omega) _ _ _ ((((Below.refl _ _).alloc (Nat.le_refl _) _).alloc (by simp) _).drew)⟩
  case rest =>
    obtain ⟨rfl, hr, hb⟩ := hcut
    have HB := Hid.in hb
    have HL := HX.out _ _ _ _ _ _ _ _ _ rfl rfl rfl rfl rfl rfl rfl rfl rfl
    clear f1 f2 f3 f4 hb HX HBS
    generalize wB c0 1 64 = b0 at hr HL
    generalize wB c1 1 32 = b1 at hr HL
    generalize pB c2 = b2 at hr HL
    generalize pB c3 = b3 at hr HL
    generalize wB c4 1 8 = b4 at hr HL
    generalize wB c5 1 8 = b5 at hr HL
    generalize wB c6 1 64 = b6 at hr HL
    generalize wB c7 1 15 = b7 at hr HL
    generalize wB c8 (-1) (IntKind.i64.wrap (c7 - 1)) = b8 at hr HL
    have HLL := Hid.in HL
    have hg : wc.cell? ⟨0, 0, none⟩ = some (snt (sa 1)) := (HE.out.below HB.out).g 1 (by omega) (by omega)
    have hix := Tryd.index9 b0 b1 b2 b3 b4 b5 b6 b7 b8
    clear HL
    go_wp2_with (refine wpList_load_mid rfl 42 _ rfl _ _ rfl _ _ hr Tryd.underlying42 rfl (by kernel_rfl) ?_)
    go_loop [38] (fun i => ∃ k : Nat, k ≤ 9 ∧ i = .int .i64 k ∧ fno bs 0 = fno (bs.drop k) k) (fun i => 9 - (intOf i).toNat)
    case atStart => exact ⟨0, Nat.zero_le _, rfl, rfl⟩
    case round =>
      obtain ⟨k, hk, rfl, hf⟩ := hrel
      have HF := Hid.in hf
      clear hf
      by_cases hlt : k < 9
      · have hi := hix k hlt
        clear hix
        cases hbk : [b0, b1, b2, b3, b4, b5, b6, b7, b8].getD k false with
        | true =>
          rw [hbk] at hi
          have HN := Hid.in (fno_yes bs k (by rw [HLL.out]; exact hlt) (by rw [HLL.out]; exact hbk))
          clear hbk
          go_wp2
          go_round
          case rel => exact ⟨k + 1, by omega, by go_num, by rw [HF.out, HN.out]⟩
          case measure => simp [intOf]; omega
        | false =>
          rw [hbk] at hi
          have HN := Hid.in (fno_no bs k (by rw [HLL.out]; exact hlt) (by rw [HLL.out]; exact hbk))
          clear hbk
          go_wp2_with (go_at_call 22; refine (wrap_some _ _ _ _ _).mono ?_; rintro e w' ⟨rfl, rfl⟩)
          go_ret
          refine ⟨?_, HB.out⟩
          rw [HF.out, HN.out]
          simp [chkV]
      · have HK : Hid (fno bs 0 = -1) := Hid.in (by rw [HF.out, List.drop_eq_nil_of_le (by rw [HLL.out]; simp; omega)]; rfl)
        go_wp2
        go_ret
        exact ⟨by rw [HK.out]; rfl, HB.out⟩

end Go.Proofs.YtgaajnefegjoeabDoor
