/- DERIVED of the program: assentbook.Intact of bytes; assentref1.Num. Own work. -/
import Derived.Test.YtgepfbaojogccaaDoorPkG
import Derived.Test.YtgepfbaojogccaaDoorPkSizes
namespace Go.Proofs.YtgepfbaojogccaaDoor
open Go.RowKit Go.Extern.Stop Go.Stop Go.Extern

theorem bys_some {l : List Nat} {k x : Nat} (h : l[k]? = some x) : (bys l).toArray[k]? = some (.int .u8 (x : Int)) := by
  simp [bys, h]

/-- What a block of bytes reads as, from its head on. -/
theorem Lie.head {w : World} {g n : Nat} {bs rs : List Nat} {t : TypeId} (h : w.heap[g]? = some (.cells (bys (bs ++ rs)).toArray t (0, 0))) (hn : bs.length ≤ n) : Lie w (some ⟨g, 0, none⟩) n bs := by
  refine ⟨hn, (by simp), fun k hk => ⟨g, 0, rfl, ?_⟩⟩
  rw [Nat.zero_add]
  refine blk_cell h (bys_some ?_)
  rw [List.getElem?_append_left hk, List.getElem?_eq_getElem hk]

theorem blk_mark {w : World} {g k m : Nat} {bs : List Nat} {t : TypeId} (h : w.heap[g]? = some (.cells (bys (bs ++ List.replicate 80 m)).toArray t (0, 0))) (hk : k < 80) : w.cell? ⟨g, bs.length + k, none⟩ = some (.int .u8 (m : Int)) := by
  refine blk_cell h (bys_some ?_)
  rw [List.getElem?_append_right (by omega), List.getElem?_replicate, if_pos (by omega)]

set_option maxHeartbeats 1600000 in
set_option maxRecDepth 20000 in
theorem intact_any (ao : Option Addr) (g cap c2 : Nat) (bs : List Nat) (m : Nat) (w : World) (hq : w.heap[g]? = some (.cells (bys (bs ++ List.replicate 80 m)).toArray 5 (0, 0))) (hc2 : bs.length + 80 ≤ c2) (hL : Lie w ao cap bs) (hlen : bs.length ≤ 140737488355328) :
    Calls Tryd.prog 22 #[.slice (some ⟨g, 0, none⟩) (bs.length + 80) c2, .slice ao bs.length cap, .int .u8 (m : Int)] w fun r w' => r = .returned (.bool true) ∧ Below w.heap.size w w' := by
  have HQ := Hid.in hq
  have HL := Hid.in hL
  clear hq hL
  go_enter Tryd.func22, Tryd.ntmps22
  go_wp2_with fail
  refine (same_any _ _ _ _ _ _ bs bs w rfl rfl (Lie.head HQ.out (by omega)) HL.out (by omega)).mono ?_
  rw [show decide (bs = bs) = true from by simp]
  rintro r w1 ⟨rfl, hb1⟩
  have HB1 := Hid.in hb1
  clear hb1
  go_wp2
  go_loopw [7] (fun i wr => ∃ k : Nat, k ≤ 80 ∧ i = .int .i64 (bs.length + k : Nat) ∧ Below w.heap.size w wr) (fun i _ => bs.length + 80 - (intOf i).toNat)
  case atStart => exact ⟨0, by omega, rfl, HB1.out⟩
  case round =>
    obtain ⟨k, hk, rfl, hb⟩ := hrel
    have HB := Hid.in hb
    clear hb
    by_cases hlt : k < 80
    · have h1 : wr.cell? ⟨g, bs.length + k, none⟩ = some (.int .u8 (m : Int)) := blk_mark ((HB.out.block g (blk_lt HQ.out)).trans HQ.out) hlt
      go_wp2
      go_roundw
      case rel => exact ⟨k + 1, by omega, by go_num, HB.out⟩
      case measure => simp [intOf]; omega
    · go_wp2
      go_ret
      exact ⟨rfl, HB.out⟩

theorem Own.lit0 (w : World) (B : Nat) (hB : B ≤ w.heap.size) : Own (w.alloc (.cells #[] 5)) B (some ⟨w.heap.size, 0, none⟩) 0 0 [] :=
  ⟨rfl, .inr ⟨w.heap.size, 0, #[], rfl, hB, heap_alloc_new _ _, Nat.le_refl _, Nat.zero_le _, rfl, rfl⟩⟩

theorem u64_and127 (x : Nat) (h : x < 18446744073709551616) : bits .and .u64 (x : Int) 127 = (x : Int) % 128 := by
  refine bits_mask .u64 64 (by decide) (fun n h0 h1 => ?_) 7 (by decide) _ (by omega) (by omega)
  rw [IntKind.wrap_u64]; omega

theorem u8_or128a (x : Nat) (h : x < 128) : bits .or .u8 (x : Int) 128 = ((x + 128 : Nat) : Int) := by
  have h1 := u8_or128' x
  rw [show (x : Int) % 256 = x from by omega, Nat.mod_eq_of_lt h] at h1
  exact h1

set_option maxHeartbeats 1600000 in
set_option maxRecDepth 20000 in
theorem refNum_any (ao : Option Addr) (cap : Nat) (bs : List Nat) (n : Int) (w : World) (hL : Lie w ao cap bs) (hlen : bs.length ≤ 140737488355000) (h0 : -9223372036854775808 ≤ n) (h1 : n ≤ 9223372036854775807) :
    Calls Tryd.prog 34 #[.slice ao bs.length cap, .int .i64 n] w fun r w' => ∃ ao' c, r = .returned (.slice ao' (bs.length + (enc (zz n)).length) c) ∧
      Own w' w.heap.size ao' (bs.length + (enc (zz n)).length) c (bs ++ enc (zz n)) ∧ Below w.heap.size w w' := by
  have HL := Hid.in hL
  have HZ := Hid.in (zz_lt n h0 h1)
  have HEL := Hid.in (enc_len10 _ HZ.out)
  have HL1 : Hid (Lie (w.alloc (.cells #[] 5)) ao cap bs) := Hid.in (hL.step (below_alloc _ _))
  have HO1 : Hid (Own (w.alloc (.cells #[] 5)) w.heap.size (some ⟨w.heap.size, 0, none⟩) 0 0 []) := Hid.in (Own.lit0 w _ (Nat.le_refl _))
  clear hL
  go_enter Tryd.func34, Tryd.ntmps34
  go_upto_region 2 with (at_builtin; refine wpList_concat rfl (.tmp 7) (.tmp 8) rfl w.heap.size w _ _ 0 0 _ _ [] bs rfl HO1.out rfl rfl HL1.out (below_alloc _ _) (by simp) (by omega) ?_; intro ao1 c1 w1 HO2 HB2)
  simp only [Nat.zero_add, List.nil_append] at HO2 ⊢
  obtain ⟨u, hu, hun, hup⟩ : ∃ u : Nat, u = zz n ∧ (n < 0 → ∃ m : Nat, n = -1 - (m : Int) ∧ u = 2 * m + 1) ∧ (¬ n < 0 → (u : Int) = n * 2) := by
    refine ⟨zz n, rfl, fun h => ⟨(-1 - n).toNat, by omega, ?_⟩, fun h => ?_⟩
    · unfold zz; rw [if_pos h]
    · unfold zz; rw [if_neg h]; omega
  have hu64 : u < 18446744073709551616 := by rw [hu]; exact HZ.out
  have HU := Hid.in hu
  clear hu
  have hfx := flip_i64 n h0 h1
  go_upto_if 14 with fail
  go_cut [6] (fun x wd => x = .int .u64 (u : Int) ∧ wd = w1)
  case first =>
    by_cases hn : n < 0
    · obtain ⟨m, rfl, hm⟩ := hun hn
      have HO : Hid (bits .or .u64 (IntKind.u64.wrap (IntKind.u64.wrap (-1 - (-1 - (m : Int))) * 2)) 1 = (u : Int)) := Hid.in (by
        rw [show IntKind.u64.wrap (IntKind.u64.wrap (-1 - (-1 - (m : Int))) * 2) = 2 * (m : Int) from by rw [IntKind.wrap_u64, IntKind.wrap_u64]; omega, u64_or1 m (by omega)]; omega)
      clear hm hun hup
      go_wp2_with fail
      go_meet
      case rel => exact ⟨by rw [HO.out], rfl⟩
    · have hu2 := hup hn
      clear hun hup
      go_wp2_with fail
      go_meet
      case rel => exact ⟨by rw [show IntKind.u64.wrap (IntKind.u64.wrap n * 2) = (u : Int) from by rw [IntKind.wrap_u64, IntKind.wrap_u64]; omega], rfl⟩
  case rest =>
  obtain ⟨rfl, hw⟩ := hcut
  subst hw
  go_wp2
  go_loopw [5, 6] (fun v u wr => ∃ (pre : List Nat) (x : Nat) (ap : Option Addr) (c : Nat), u = .int .u64 x ∧ x < 18446744073709551616 ∧ enc (zz n) = pre ++ enc x ∧ v = .slice ap (bs.length + pre.length) c ∧
      Own wr w.heap.size ap (bs.length + pre.length) c (bs ++ pre) ∧ Below w.heap.size w wr) (fun _ u _ => (intOf u).toNat)
  case atStart => exact ⟨[], u, _, _, rfl, hu64, by rw [HU.out]; rfl, rfl, by rw [List.append_nil]; exact HO2.out, HB2.out⟩
  case round =>
    obtain ⟨pre, x, ap, c, rfl, hx, he, rfl, hown, hb⟩ := hrel
    have HO := Hid.in hown
    have HB := Hid.in hb
    have hpl : pre.length + (enc x).length = (enc (zz n)).length := by rw [he]; simp
    have hpl2 : pre.length ≤ 10 := by have := HEL.out; omega
    have HE := Hid.in he
    clear hown hb he hpl
    by_cases hlt : x < 128
    · have HN : Hid (enc x = [x]) := Hid.in (enc_lt hlt)
      go_wp2_with (at_builtin; refine wpList_concat rfl (.tmp 31) (.tmp 34) rfl w.heap.size w _ _ _ _ _ _ (bs ++ pre) [x] rfl (HO.out.step ((Below.refl _ _).alloc (Nat.le_refl _) _)) rfl rfl (Lie.lit1 _ _ _ x (by omega)) (HB.out.alloc HB.out.size _) (by have := HB.out.size; simp; omega) (by omega) ?_; intro ao' c' w2 HO2 HB2)
      go_ret
      have hL : bs.length + pre.length + 1 = bs.length + (enc (zz n)).length := by rw [HE.out, HN.out]; simp; omega
      have h := HO2.out
      rw [hL, List.append_assoc, ← HN.out, ← HE.out] at h
      exact ⟨ao', c', by rw [hL]; rfl, h, HB2.out⟩
    · have hand := u64_and127 x hx
      have hor : bits .or .u8 ((x : Int) % 128) 128 = ((x % 128 + 128 : Nat) : Int) := by
        rw [show (x : Int) % 128 = ((x % 128 : Nat) : Int) from by omega]; exact u8_or128a _ (by omega)
      have HN : Hid (enc x = (x % 128 + 128) :: enc (x / 128)) := Hid.in (enc_ge (by omega))
      go_wp2_with (at_builtin; refine wpList_concat rfl (.tmp 22) (.tmp 27) rfl w.heap.size w _ _ _ _ _ _ (bs ++ pre) [x % 128 + 128] rfl (HO.out.step ((Below.refl _ _).alloc (Nat.le_refl _) _)) rfl rfl (Lie.lit1 _ _ _ (x % 128 + 128) (by omega)) (HB.out.alloc HB.out.size _) (by have := HB.out.size; simp; omega) (by omega) ?_; intro ao' c' w2 HO2 HB2)
      go_roundw
      case rel =>
        refine ⟨pre ++ [x % 128 + 128], x / 128, ao', c', by go_num, by omega, by rw [HE.out, HN.out]; simp, ?_, ?_, HB2.out⟩
        · simp [Nat.add_assoc]
        · have h := HO2.out
          rw [List.append_assoc] at h
          rw [List.length_append, List.length_singleton, ← Nat.add_assoc]
          exact h
      case measure => simp [intOf]; omega

end Go.Proofs.YtgepfbaojogccaaDoor
