/- DERIVED of the program: GeomWhole returns true, for every configuration and number. Own work. -/
import Derived.Test.YtgaajnefegjoeabDoorGeoRefuses
import Derived.Deep.DrawnRows
import Derived.Deep.DeepCutAuto
import Derived.Deep.QuietTactic
import Derived.BigQuiet
namespace Go.Proofs.YtgaajnefegjoeabDoor
open Go.RowKit Go.Extern.Stop Go.Stop Go.Extern

/-- How many of the first a words lie in set s of k. -/
def cnt (k s : Nat) : Nat → Nat
  | 0 => 0
  | a + 1 => cnt k s a + (if a / 4 % k = s then 1 else 0)
theorem cnt_le (k s : Nat) : ∀ a, cnt k s a ≤ a
  | 0 => Nat.le_refl _
  | a + 1 => by
    have := cnt_le k s a
    unfold cnt
    split <;> omega
theorem cnt_whole : ∀ L, L < 7 → 1 ≤ L → ∀ k, k ∈ [1, 2, 4, 8] → ∀ s, s < k → cnt k s (4 * L) / 4 = (L + k - 1 - s) / k := by decide

theorem fno_small {k0 k1 k2 k3 k4 k5 k6 k8 : Int} (h : Small k0 k1 k2 k3 k4 k5 k6 k8) : fno (bs9 k0 k1 k2 k3 k4 k5 k6 2 k8) 0 = -1 := by
  obtain ⟨e0, e1, e2, e3, e4, e5, e6, e7, e8⟩ := h.bits
  simp only [bs9, fno, e0, e1, e2, e3, e4, e5, e6, e7, e8, if_true]

/-- The old world below; the variable own at block ob. -/
structure Own (w W : World) (ob : Nat) (k0 k1 k2 k3 k4 k5 k6 k8 : Int) : Prop where
  below : Below w.heap.size w W
  r : W.rangeAt ob 0 [.int .i64 k0, .int .i64 k1, .int .i64 k2, .int .i64 k3, .int .i64 k4, .int .i64 k5, .int .i64 k6, .int .i64 2, .int .i64 k8]
theorem Own.lt {w W : World} {ob : Nat} {k0 k1 k2 k3 k4 k5 k6 k8 : Int} (h : Own w W ob k0 k1 k2 k3 k4 k5 k6 k8) : ob < W.heap.size := lt_cell (read9 W h.r).1
theorem Own.step {w W W' : World} {ob : Nat} {k0 k1 k2 k3 k4 k5 k6 k8 : Int} (hb : Below W.heap.size W W') (h : Own w W ob k0 k1 k2 k3 k4 k5 k6 k8) : Own w W' ob k0 k1 k2 k3 k4 k5 k6 k8 :=
  ⟨bstep h.below (Nat.le_refl _) hb, fun j v hv => (hb.cell (p := ⟨ob, 0 + j, none⟩) h.lt).trans (h.r j v hv)⟩
theorem Own.drew {w W : World} {ob : Nat} {k0 k1 k2 k3 k4 k5 k6 k8 : Int} (h : Own w W ob k0 k1 k2 k3 k4 k5 k6 k8) : Own w W.drew ob k0 k1 k2 k3 k4 k5 k6 k8 := h.step (Below.refl _ _).drew

/-- The variable many at block mb. -/
structure Many (W : World) (mb k a : Nat) : Prop where
  c : ∀ i : Nat, i < 8 → W.cell? ⟨mb, i, none⟩ = some (.int .i64 (cnt k i a))
  f : ∀ i : Nat, i < 8 → W.frozen? ⟨mb, i, none⟩ = false
theorem Many.lt {W : World} {mb k a : Nat} (h : Many W mb k a) : mb < W.heap.size := lt_cell (h.c 0 (by omega))
theorem Many.step {W W' : World} {mb k a : Nat} (h : Many W mb k a) (hb : Below W.heap.size W W') : Many W' mb k a :=
  ⟨fun i hi => (hb.cell (p := ⟨mb, i, none⟩) h.lt).trans (h.c i hi), fun i hi => (hb.frozen (p := ⟨mb, i, none⟩) h.lt).trans (h.f i hi)⟩
theorem Many.put {W : World} {mb k a s : Nat} (h : Many W mb k a) (hs : a / 4 % k = s) : Many (W.setCell ⟨mb, s, none⟩ (.int .i64 (cnt k s a + 1))) mb k (a + 1) := by
  refine ⟨fun i hi => ?_, fun i hi => by rw [frozen_set]; exact h.f i hi⟩
  by_cases e : s = i
  · subst e
    rw [World.cell?_setCell_same _ _ _ (h.c s hi)]
    simp [cnt, hs]
  · rw [World.cell?_setCell_other _ _ _ _ (fun h' => e (congrArg Addr.off h')), h.c i hi]
    simp [cnt, hs, e]
theorem Own.set {w W : World} {ob mb : Nat} {k0 k1 k2 k3 k4 k5 k6 k8 : Int} (h : Own w W ob k0 k1 k2 k3 k4 k5 k6 k8) (hm : w.heap.size ≤ mb) (hne : ob ≠ mb) (i : Nat) (v : Value) : Own w (W.setCell ⟨mb, i, none⟩ v) ob k0 k1 k2 k3 k4 k5 k6 k8 :=
  ⟨h.below.setCell hm _, fun j u hu => by rw [World.cell?_setCell_other _ _ _ _ (fun e => hne (congrArg Addr.block e).symm)]; exact h.r j u hu⟩

set_option maxHeartbeats 8000000 in
set_option maxRecDepth 100000 in
theorem geomWhole_any (w : World) (sa : Nat → Addr) (hE : Env10 w sa) (c0 c1 c2 c3 c4 c5 c6 c7 c8 sets : Int) :
    Calls Tryd.prog 6 #[cfg c0 c1 c2 c3 c4 c5 c6 c7 c8, .int .i64 sets] w fun r w' => r = .returned (.bool true) ∧ Below w.heap.size w w' := by
  have HE := Hid.in hE
  clear hE
  obtain ⟨k0, k1, k2, k3, k4, k5, k6, k8, hS, hk⟩ := kConfig_any c0 c1 c2 c3 c4 c5 c6 c7 c8
  obtain ⟨L, hL1, hL2, hL⟩ : ∃ L : Nat, 1 ≤ L ∧ L ≤ 6 ∧ k1 = (L : Int) := ⟨k1.toNat, by have := hS.p1; omega, by have := hS.p1; omega, by have := hS.p1; omega⟩
  subst hL
  have HK := Hid.in hk
  have HF := Hid.in (fno_small hS)
  clear hk hS
  have b1 := wi_le sets 0 3 (by omega) (by omega)
  generalize h1 : wi sets 0 3 = s at b1
  have H1 := Hid.in h1
  clear h1
  go_enter Tryd.func6, Tryd.ntmps6
  go_wp2_with fail
  refine (HK.out _).mono ?_
  rintro r w1 ⟨rfl, hb1⟩
  have HB1 : Hid (Below w.heap.size w w1) := Hid.in (((Below.refl _ _).alloc (Nat.le_refl _) _).trans (hb1.mono (by simp)))
  clear hb1 HK
  go_wp2_with fail
  have hO : Own w (w1.alloc (.cells #[.int .i64 k0, .int .i64 L, .int .i64 k2, .int .i64 k3, .int .i64 k4, .int .i64 k5, .int .i64 k6, .int .i64 2, .int .i64 k8] 26)) w1.heap.size k0 L k2 k3 k4 k5 k6 k8 :=
    ⟨HB1.out.alloc HB1.out.size _, fun j v hv => by simpa using hv⟩
  have hwr : IntKind.i64.wrap ((L : Int) * 4) = (L : Int) * 4 := by rw [IntKind.wrap_i64]; omega
  have HCK := Hid.in (fun W (h : Own w W w1.heap.size k0 L k2 k3 k4 k5 k6 k8) => check_any k0 L k2 k3 k4 k5 k6 2 k8 W sa (HE.out.below h.below))
  have HTO := Hid.in (fun W (h : Own w W w1.heap.size k0 L k2 k3 k4 k5 k6 k8) => total_yes k0 L k2 k3 k4 k5 k6 2 k8 W sa (HE.out.below h.below) HF.out (by omega))
  rw [HF.out, show chkV (-1) (sa 1) = .nilIface from rfl] at HCK
  go_cut [25] (fun x wc => x = .bool false ∧ Own w wc w1.heap.size k0 L k2 k3 k4 k5 k6 k8)
  case first =>
    have g0 : ∀ W, Own w W w1.heap.size k0 L k2 k3 k4 k5 k6 k8 → W.cell? ⟨w1.heap.size, 0, none⟩ = some (.int .i64 k0) := fun W h => (read9 W h.r).1
    have g1 : ∀ W, Own w W w1.heap.size k0 L k2 k3 k4 k5 k6 k8 → W.cell? ⟨w1.heap.size, 1, none⟩ = some (.int .i64 L) := fun W h => (read9 W h.r).2.1
    have g2 : ∀ W, Own w W w1.heap.size k0 L k2 k3 k4 k5 k6 k8 → W.cell? ⟨w1.heap.size, 2, none⟩ = some (.int .i64 k2) := fun W h => (read9 W h.r).2.2.1
    have g3 : ∀ W, Own w W w1.heap.size k0 L k2 k3 k4 k5 k6 k8 → W.cell? ⟨w1.heap.size, 3, none⟩ = some (.int .i64 k3) := fun W h => (read9 W h.r).2.2.2.1
    have g4 : ∀ W, Own w W w1.heap.size k0 L k2 k3 k4 k5 k6 k8 → W.cell? ⟨w1.heap.size, 4, none⟩ = some (.int .i64 k4) := fun W h => (read9 W h.r).2.2.2.2.1
    have g5 : ∀ W, Own w W w1.heap.size k0 L k2 k3 k4 k5 k6 k8 → W.cell? ⟨w1.heap.size, 5, none⟩ = some (.int .i64 k5) := fun W h => (read9 W h.r).2.2.2.2.2.1
    have g6 : ∀ W, Own w W w1.heap.size k0 L k2 k3 k4 k5 k6 k8 → W.cell? ⟨w1.heap.size, 6, none⟩ = some (.int .i64 k6) := fun W h => (read9 W h.r).2.2.2.2.2.2.1
    have g7 : ∀ W, Own w W w1.heap.size k0 L k2 k3 k4 k5 k6 k8 → W.cell? ⟨w1.heap.size, 7, none⟩ = some (.int .i64 2) := fun W h => (read9 W h.r).2.2.2.2.2.2.2.1
    have g8 : ∀ W, Own w W w1.heap.size k0 L k2 k3 k4 k5 k6 k8 → W.cell? ⟨w1.heap.size, 8, none⟩ = some (.int .i64 k8) := fun W h => (read9 W h.r).2.2.2.2.2.2.2.2
    have k5' : ∀ W, Own w W w1.heap.size k0 L k2 k3 k4 k5 k6 k8 → Own w W.drew w1.heap.size k0 L k2 k3 k4 k5 k6 k8 := fun W h => h.drew
    go_region_held3 (fun W => Own w W w1.heap.size k0 L k2 k3 k4 k5 k6 k8 ∧ W.cell? ⟨w1.heap.size, 0, none⟩ = some (.int .i64 k0) ∧ W.cell? ⟨w1.heap.size, 1, none⟩ = some (.int .i64 L) ∧ W.cell? ⟨w1.heap.size, 2, none⟩ = some (.int .i64 k2) ∧ W.cell? ⟨w1.heap.size, 3, none⟩ = some (.int .i64 k3) ∧ W.cell? ⟨w1.heap.size, 4, none⟩ = some (.int .i64 k4) ∧ W.cell? ⟨w1.heap.size, 5, none⟩ = some (.int .i64 k5) ∧ W.cell? ⟨w1.heap.size, 6, none⟩ = some (.int .i64 k6) ∧ W.cell? ⟨w1.heap.size, 7, none⟩ = some (.int .i64 2) ∧ W.cell? ⟨w1.heap.size, 8, none⟩ = some (.int .i64 k8)) (first | go_keep | (simp [*]; done))
      (first
        | (go_at_call 8; refine (HCK.out _ ?_).mono ?_; (simp [*]); rintro e w' ⟨rfl, hb⟩; have hS : Own w w' w1.heap.size k0 L k2 k3 k4 k5 k6 k8 := Own.step hb (by simp [*]); clear hb)
        | (go_at_call 17; refine (HTO.out _ ?_).mono ?_; (simp [*]); rintro e w' ⟨rfl, hb⟩; have hS : Own w w' w1.heap.size k0 L k2 k3 k4 k5 k6 k8 := Own.step hb (by simp [*]); clear hb))
    all_goals
      go_wp2_with fail
      go_meet
      case rel => exact ⟨rfl, hS⟩
  case rest =>
  obtain ⟨rfl, hO2⟩ := hcut
  have HO := Hid.in hO2
  clear hO hO2 HB1 hwr
  go_upto_region 4 with fail
  go_cut [6] (fun x wd => (∃ k : Nat, x = .int .i64 k ∧ (k = 1 ∨ k = 2 ∨ k = 4 ∨ k = 8)) ∧ wd = wc)
  case first =>
    go_wp2_with fail
    refine (within_any sets 0 3 _ (by omega) (by omega) (by omega)).mono ?_
    rw [H1.out]
    rintro r w ⟨rfl, rfl⟩
    have hs : s = 0 ∨ s = 1 ∨ s = 2 ∨ s = 3 := by omega
    clear b1 H1
    rcases hs with rfl | rfl | rfl | rfl
    · go_wp2_with fail
      go_meet
      case rel => exact ⟨⟨1, rfl, by decide⟩, rfl⟩
    · go_wp2_with fail
      go_meet
      case rel => exact ⟨⟨2, rfl, by decide⟩, rfl⟩
    · go_wp2_with fail
      go_meet
      case rel => exact ⟨⟨4, rfl, by decide⟩, rfl⟩
    · go_wp2_with fail
      go_meet
      case rel => exact ⟨⟨8, rfl, by decide⟩, rfl⟩
  case rest =>
  obtain ⟨⟨k, rfl, hk⟩, hw⟩ := hcut
  subst hw
  have hk1 : 1 ≤ k := by omega
  have hk8 : k ≤ 8 := by omega
  have HKK := Hid.in hk
  clear hk b1 H1 s
  go_wp2_with fail
  have hO0 : Own w (wc.alloc (.cells #[.int .i64 0, .int .i64 0, .int .i64 0, .int .i64 0, .int .i64 0, .int .i64 0, .int .i64 0, .int .i64 0] 37)) w1.heap.size k0 L k2 k3 k4 k5 k6 k8 := HO.out.step ((Below.refl _ _).alloc (Nat.le_refl _) _)
  have hM0 : Many (wc.alloc (.cells #[.int .i64 0, .int .i64 0, .int .i64 0, .int .i64 0, .int .i64 0, .int .i64 0, .int .i64 0, .int .i64 0] 37)) wc.heap.size k 0 := by
    constructor
    · intro i hi
      have h : i = 0 ∨ i = 1 ∨ i = 2 ∨ i = 3 ∨ i = 4 ∨ i = 5 ∨ i = 6 ∨ i = 7 := by omega
      clear hi
      rcases h with rfl | rfl | rfl | rfl | rfl | rfl | rfl | rfl <;> simp [cnt]
    · intro i hi
      simp
  have HW : Hid (w.heap.size ≤ wc.heap.size ∧ w1.heap.size ≠ wc.heap.size) := Hid.in ⟨HO.out.below.size, Nat.ne_of_lt HO.out.lt⟩
  have HO0 := Hid.in hO0
  have HM0 := Hid.in hM0
  clear HO hO0 hM0
  go_loopw [8] (fun i wr => ∃ a : Nat, a ≤ 4 * L ∧ i = .int .i64 a ∧ Own w wr w1.heap.size k0 L k2 k3 k4 k5 k6 k8 ∧ Many wr wc.heap.size k a) (fun i _ => 4 * L - (intOf i).toNat)
  case atStart => exact ⟨0, Nat.zero_le _, rfl, HO0.out, HM0.out⟩
  case round =>
    obtain ⟨a, ha, rfl, hO, hM⟩ := hrel
    obtain ⟨g0, g1, g2, g3, g4, g5, g6, g7, g8⟩ := read9 wr hO.r
    have HO := Hid.in hO
    have HM := Hid.in hM
    clear hO hM HO0 HM0
    go_wp2_with fail
    refine (HTO.out _ HO.out).mono ?_
    rintro r w2 ⟨rfl, hb2⟩
    have HO2 := Hid.in (HO.out.step hb2)
    have HM2 := Hid.in (HM.out.step hb2)
    clear g0 g1 g2 g3 g4 g5 g6 g7 g8 hb2 HO HM
    by_cases hlt : a < 4 * L
    · obtain ⟨l, d, s, hl, hd, hs⟩ : ∃ l d s : Nat, a / 4 = l ∧ a % 4 = d ∧ l % k = s := ⟨_, _, _, rfl, rfl, rfl⟩
      have hld : 4 * l + d = a ∧ d ≤ 3 ∧ l < L := by omega
      obtain ⟨e1, e2, e3⟩ := hld
      have hsk : s < k := by rw [← hs]; exact Nat.mod_lt _ (by omega)
      have HS := Hid.in (show a / 4 % k = s by rw [hl, hs])
      have HLn : Hid (lineF (a : Int) = (l : Int)) := Hid.in (by rw [lineF, if_pos (by omega)]; omega)
      have HWd : Hid (wordF (a : Int) = (d : Int)) := Hid.in (by rw [wordF, if_pos (by omega)]; omega)
      have HAd : Hid (addrF (l : Int) (d : Int) = (a : Int)) := Hid.in (by rw [addrF, if_pos (by omega)]; omega)
      have HSt : Hid (setF (l : Int) (k : Int) = (s : Int)) := Hid.in (by rw [setF, if_pos (by have := HKK.out; omega)]; omega)
      have HPr : Hid (0 < a → d = 0 → lineF ((a : Int) - 1) = (l : Int) - 1) := Hid.in (by intro h1 h2; rw [lineF, if_pos (by omega)]; omega)
      have HCn := Hid.in (cnt_le k s a)
      have HE1 := Hid.in e1
      clear hl hd hs e1
      have g1 := (read9 w2 HO2.out.r).2.1
      have gm := HM2.out.c s (by omega)
      have fm := HM2.out.f s (by omega)
      have hcn := HCn.out
      have HFin : Hid (∀ W, W = w2.setCell ⟨wc.heap.size, s, none⟩ (.int .i64 (cnt k s a + 1)) → Own w W w1.heap.size k0 L k2 k3 k4 k5 k6 k8 ∧ Many W wc.heap.size k (a + 1)) := Hid.in (fun W hW => by
        subst hW
        exact ⟨HO2.out.set HW.out.1 HW.out.2 _ _, HM2.out.put HS.out⟩)
      generalize hcs : cnt k s a = n at gm hcn HFin
      clear hcs
      go_wp2_with fail
      refine (line_any _ _).mono ?_
      rw [HLn.out]
      rintro r w2 ⟨rfl, rfl⟩
      go_wp2_with fail
      refine (word_any _ _).mono ?_
      rw [HWd.out]
      rintro r w2 ⟨rfl, rfl⟩
      go_wp2_with fail
      refine (addr_any _ _ _).mono ?_
      rw [HAd.out]
      rintro r w2 ⟨rfl, rfl⟩
      by_cases hd0 : d = 0
      · by_cases ha0 : 0 < a
        · have HP := Hid.in (HPr.out ha0 hd0)
          subst hd0
          go_wp2_with fail
          refine (line_any _ _).mono ?_
          rw [HP.out]
          rintro r w2 ⟨rfl, rfl⟩
          go_wp2_with fail
          refine (set_any _ _ _).mono ?_
          rw [HSt.out]
          rintro r w2 ⟨rfl, rfl⟩
          go_wp2
          go_roundw
          case rel => exact ⟨a + 1, by omega, by go_num, (HFin.out _ rfl).1, (HFin.out _ rfl).2⟩
          case measure => simp [intOf]; omega
        · subst hd0
          go_wp2_with fail
          refine (set_any _ _ _).mono ?_
          rw [HSt.out]
          rintro r w2 ⟨rfl, rfl⟩
          go_wp2
          go_roundw
          case rel => exact ⟨a + 1, by omega, by go_num, (HFin.out _ rfl).1, (HFin.out _ rfl).2⟩
          case measure => simp [intOf]; omega
      · have hdn : ((d : Int) == 0) = false := by simp; omega
        go_wp2_with fail
        refine (set_any _ _ _).mono ?_
        rw [HSt.out]
        rintro r w2 ⟨rfl, rfl⟩
        go_wp2
        go_roundw
        case rel => exact ⟨a + 1, by omega, by go_num, (HFin.out _ rfl).1, (HFin.out _ rfl).2⟩
        case measure => simp [intOf]; omega
    · have hae : a = 4 * L := by omega
      have HMe := HM2
      rw [hae] at HMe
      have HMM := HMe
      clear hae HMe HM2
      have g1 := (read9 w2 HO2.out.r).2.1
      have HCW : Hid (∀ s, s < k → cnt k s (4 * L) / 4 = (L + k - 1 - s) / k ∧ cnt k s (4 * L) ≤ 4 * L) := Hid.in (fun s hs => ⟨cnt_whole L (by omega) hL1 k (by have := HKK.out; simp; omega) s hs, cnt_le _ _ _⟩)
      go_wp2_with fail
      go_loopw [12] (fun i wr => ∃ s : Nat, s ≤ k ∧ i = .int .i64 s ∧ Own w wr w1.heap.size k0 L k2 k3 k4 k5 k6 k8 ∧ Many wr wc.heap.size k (4 * L)) (fun i _ => k - (intOf i).toNat)
      case atStart => exact ⟨0, Nat.zero_le _, rfl, HO2.out, HMM.out⟩
      case round =>
        obtain ⟨s, hs, rfl, hO, hM⟩ := hrel
        by_cases hsk : s < k
        · have h1 := (read9 wr hO.r).2.1
          have h2 := hM.c s (by omega)
          obtain ⟨q1, q2⟩ := HCW.out s hsk
          have hz : ¬ (k : Int) = 0 := by omega
          generalize hcs : cnt k s (4 * L) = n at h2 q1 q2
          clear hcs
          have HO := Hid.in hO
          have HM := Hid.in hM
          have hne : ((n : Int) / 4 != ((L : Int) + k - 1 - s) / k) = false := by
            have h3 : ((L + k - 1 - s : Nat) : Int) = (L : Int) + k - 1 - s := by omega
            have h4 : ((n / 4 : Nat) : Int) = (((L + k - 1 - s) / k : Nat) : Int) := by rw [q1]
            rw [Int.natCast_ediv, Int.natCast_ediv, h3] at h4
            simpa using h4
          clear hO hM q1
          go_wp2_with fail
          go_quiet (fail)
          go_wp2
          go_roundw
          case rel => exact ⟨s + 1, by omega, by go_num, HO.out.step (drewN_below (Below.refl _ _) _), HM.out.step (drewN_below (Below.refl _ _) _)⟩
          case measure => simp [intOf]; omega
        · have HO := Hid.in hO
          clear hO hM
          go_wp2_with fail
          refine (geomRuns_any _ sa (HE.out.below HO.out.below)).mono ?_
          rintro r w3 ⟨rfl, hb3⟩
          have HB3 := Hid.in (bstep HO.out.below (Nat.le_refl _) hb3)
          clear hb3
          go_wp2
          go_ret
          exact ⟨rfl, HB3.out⟩
end Go.Proofs.YtgaajnefegjoeabDoor
