/- DERIVED of the program: the project's fabric: Len, Peek, All by their contracts. Own work. -/
import Derived.Test.YtakomlmbdienpaaDoorFbB
namespace Go.Proofs.YtakomlmbdienpaaDoor
open Go.RowKit Go.Extern.Stop Go.Stop Go.Extern

theorem Fab.hd {w : World} {q cs rm : Nat} {S : List Nat} {P : List (List M13)} (h : Fab w q S cs rm P) : w.cell? ⟨q, 0, none⟩ = some (.int .i64 (cs : Int)) ∧ w.cell? ⟨q, 1, none⟩ = some (.int .i64 (rm : Int)) := by
  obtain ⟨⟨pb, pcap, C, h1, _⟩, _⟩ := h
  exact ⟨blk_cell h1 rfl, blk_cell h1 rfl⟩

theorem fblen_c (w : World) (q cs rm : Nat) (S : List Nat) (P : List (List M13)) (hF : Fab w q S cs rm P) (p c : Int) (n : Nat) (hn : lenP cs P p c = n) :
    Calls Tryd.prog 15 #[.pointer (some ⟨q, 0, none⟩), .int .i64 p, .int .i64 c] w fun r w' => r = .returned (.int .i64 (n : Int)) ∧ w' = w := by
  subst hn
  unfold lenP
  cases hp : plN cs p c with
  | none =>
    have HP := Hid.in (place_c w q cs hF.hd.1 hF.ok.cs1 hF.ok.cs64 p c _ (plI_none hp))
    clear hF hp
    go_enter Tryd.func15, Tryd.ntmps15
    go_wp2_with fail
    refine HP.out.mono ?_
    rintro r w' ⟨rfl, rfl⟩
    go_wp2
    go_ret
    exact ⟨rfl, rfl⟩
  | some i =>
    have HP := Hid.in (place_c w q cs hF.hd.1 hF.ok.cs1 hF.ok.cs64 p c _ (plI_some hp))
    obtain ⟨pb, pcap, ao, cap, hb, k1, k2, _⟩ := hF.row (plN_lt hp)
    have k0 : w.cell? ⟨q, 2, none⟩ = some (.slice (some ⟨pb, 0, none⟩) (2 + 2 * cs) pcap) := blk_cell hb rfl
    have hi := plN_lt hp
    obtain ⟨N, hN⟩ : ∃ N, 2 + 2 * cs = N := ⟨_, rfl⟩
    rw [hN] at k0 hi
    have i1 : (i : Int) < (N : Int) := by omega
    simp only []
    clear hF hp hb hN
    go_enter Tryd.func15, Tryd.ntmps15
    go_wp2_with fail
    refine HP.out.mono ?_
    rintro r w' ⟨rfl, rfl⟩
    go_wp2
    go_ret
    exact ⟨rfl, rfl⟩

theorem peekF_none {cs : Nat} {P : List (List M13)} {p c : Int} (k : Int) (h : plN cs p c = none) : peekF cs P p c k = (zero13, false) := by unfold peekF; rw [h]
theorem peekF_out {cs : Nat} {P : List (List M13)} {p c k : Int} {i : Nat} (h : plN cs p c = some i) (hk : ¬ (0 ≤ k ∧ k < (lenF P i : Int))) : peekF cs P p c k = (zero13, false) := by unfold peekF; rw [h]; simp only [if_neg hk]
theorem peekF_in {cs : Nat} {P : List (List M13)} {p c : Int} {i j : Nat} {m : M13} (h : plN cs p c = some i) (hm : (P.getD i [])[j]? = some m) : peekF cs P p c (j : Int) = (m, true) := by
  have hj : j < lenF P i := (List.getElem?_eq_some_iff.1 hm).1
  unfold peekF
  rw [h]
  simp only [if_pos (show (0 : Int) ≤ (j : Int) ∧ (j : Int) < (lenF P i : Int) by omega), Int.toNat_natCast, List.getD]
  rw [List.getD] at hm
  rw [hm]
  rfl

theorem rangeAt_step {w w' : World} {b o : Nat} {cs : List Value} (h : w.rangeAt b o cs) (hb : Below w.heap.size w w') : w'.rangeAt b o cs := fun j v hv => by
  have hc := h j v hv
  have hl := lt_cell hc
  simp only [World.cell?] at hc ⊢
  rw [hb.block b hl]
  exact hc

set_option maxRecDepth 20000 in
set_option maxHeartbeats 1600000 in
theorem fbpeek_c (w : World) (q cs rm : Nat) (S : List Nat) (P : List (List M13)) (hF : Fab w q S cs rm P) (p c k : Int) (m : M13) (b : Bool) (hm : peekF cs P p c k = (m, b)) :
    Calls Tryd.prog 21 #[.pointer (some ⟨q, 0, none⟩), .int .i64 p, .int .i64 c, .int .i64 k] w fun r w' => r = .returned (.tuple #[.agg (mv m), .bool b]) ∧ Below w.heap.size w w' := by
  obtain ⟨hc0, _⟩ := hF.hd
  have bz : Below w.heap.size w (w.alloc (.cells (mv zero13) 32)) := below_alloc _ _
  have hq : q < w.heap.size := hF.mem q hF.q
  cases hp : plN cs p c with
  | none =>
    rw [peekF_none k hp] at hm
    cases hm
    have HP := Hid.in (place_c (w.alloc (.cells (mv zero13) 32)) q cs ((bz.cell (p := ⟨q, 0, none⟩) hq).trans hc0) hF.ok.cs1 hF.ok.cs64 p c _ (plI_none hp))
    clear hF hp hc0 hq bz
    go_enter Tryd.func21, Tryd.ntmps21
    go_wp2_with fail
    refine HP.out.mono ?_
    rintro r w' ⟨rfl, rfl⟩
    clear HP
    simp only [zero13, mv_eq]
    go_wp2
    (try simp only [Exit.inBlock, Exit.then])
    refine bodyPost_ret (v := .tuple #[.agg (mv zero13), .bool false]) ?_ rfl ⟨rfl, below_alloc _ _⟩
    rw [results_cell_tmp rfl]
    simp only [zero13, mv_eq]
    go_simp
  | some i =>
    have hi := plN_lt hp
    have HP := Hid.in (place_c (w.alloc (.cells (mv zero13) 32)) q cs ((bz.cell (p := ⟨q, 0, none⟩) hq).trans hc0) hF.ok.cs1 hF.ok.cs64 p c _ (plI_some hp))
    obtain ⟨pb, pcap, ao, cap, hb, k1, k2, hO, hrow⟩ := (hF.step bz).row hi
    have k0 : (w.alloc (.cells (mv zero13) 32)).cell? ⟨q, 2, none⟩ = some (.slice (some ⟨pb, 0, none⟩) (2 + 2 * cs) pcap) := blk_cell hb rfl
    clear hrow k2
    have hlen := hF.ok.room i
    have hrm := hF.ok.rm64
    obtain ⟨N, hN⟩ : ∃ N, 2 + 2 * cs = N := ⟨_, rfl⟩
    obtain ⟨L, hL⟩ : ∃ L, lenF P i = L := ⟨_, rfl⟩
    rw [hN] at k0 hi
    rw [hL] at k1 hO hlen
    have i1 : (i : Int) < (N : Int) := by omega
    obtain ⟨L1, hL1⟩ : ∃ L1, (L : Int) - 1 = L1 := ⟨_, rfl⟩
    have hw1 : IntKind.i64.wrap ((L : Int) - 1) = L1 := by rw [wrapI (by omega) (by omega)]; exact hL1
    by_cases hk : 0 ≤ k ∧ k < (L : Int)
    · obtain ⟨j, rfl⟩ : ∃ j : Nat, k = (j : Int) := ⟨k.toNat, by omega⟩
      have hj : j < (P.getD i []).length := by have := hL; unfold lenF at this; omega
      obtain ⟨mb, mo, m', rfl, hm', hR⟩ := hO.msg j hj
      rw [peekF_in hp hm'] at hm
      cases hm
      have HB1 : Hid (wB (j : Int) 0 L1 = true) := Hid.in (wB_yes ⟨by omega, by omega⟩)
      have HR := Hid.in hR
      have i2 : (j : Int) < (L : Int) := by omega
      have i3 : j < L := by omega
      clear hF hp hc0 hq bz hb hO hR hj hm' hk hN hL hlen hL1 hrm
      obtain ⟨kk, cc, l, t, o, e, w_, v, d0, d1, d2, d3, h⟩ := m
      go_enter Tryd.func21, Tryd.ntmps21
      go_wp2_with fail
      refine HP.out.mono ?_
      rintro r w' ⟨rfl, rfl⟩
      clear HP
      simp only [zero13, mv_eq] at *
      go_wp2_with fail
      refine (fbwithin_c _ 0 _ true HB1.out _).mono ?_
      rintro r w' ⟨rfl, rfl⟩
      go_wp2_with (first | (refine wpList_load_mid rfl 32 (.tmp 40) rfl mb (mo + j * 13) rfl (mc (kk, cc, l, t, o, e, w_, v, d0, d1, d2, d3, h)) _ HR.out Tryd.underlying32 rfl (by rw [mc_len]; exact Tryd.sizeMsg) ?_; simp only [mc_arr, mv_eq]) | fail)
      (try simp only [Exit.inBlock, Exit.then])
      refine bodyPost_ret (v := .tuple #[.agg (mv (kk, cc, l, t, o, e, w_, v, d0, d1, d2, d3, h)), .bool true]) ?_ rfl ⟨rfl, below_alloc _ _⟩
      rw [results_cell_tmp rfl]
      simp only [mv_eq]
      go_simp
    · rw [peekF_out hp (by rw [hL]; exact hk)] at hm
      cases hm
      have HB1 : Hid (wB k 0 L1 = false) := Hid.in (wB_no (fun h => hk ⟨h.1, by omega⟩))
      clear hF hp hc0 hq bz hb hO hk hN hL hlen hL1 hrm
      go_enter Tryd.func21, Tryd.ntmps21
      go_wp2_with fail
      refine HP.out.mono ?_
      rintro r w' ⟨rfl, rfl⟩
      clear HP
      simp only [zero13, mv_eq] at *
      go_wp2_with fail
      refine (fbwithin_c _ 0 _ false HB1.out _).mono ?_
      rintro r w' ⟨rfl, rfl⟩
      go_wp2
      (try simp only [Exit.inBlock, Exit.then])
      refine bodyPost_ret (v := .tuple #[.agg (mv zero13), .bool false]) ?_ rfl ⟨rfl, below_alloc _ _⟩
      rw [results_cell_tmp rfl]
      simp only [zero13, mv_eq]
      go_simp


theorem allF_take {P : List (List M13)} {i : Nat} (h : i < P.length) : allF (P.take (i + 1)) = allF (P.take i) + lenF P i := by
  unfold allF lenF
  rw [List.take_add_one, List.getElem?_eq_getElem h, Option.toList_some, List.map_append, List.sum_append]
  simp [List.getD, List.getElem?_eq_getElem h]
theorem Fab.rows {w : World} {q cs rm : Nat} {S : List Nat} {P : List (List M13)} (h : Fab w q S cs rm P) : ∃ pb pcap, w.cell? ⟨q, 2, none⟩ = some (.slice (some ⟨pb, 0, none⟩) (2 + 2 * cs) pcap) ∧ ∀ i, i < 2 + 2 * cs → ∃ ao cap, w.cell? ⟨pb, i, none⟩ = some (.slice ao (lenF P i) cap) := by
  obtain ⟨⟨pb, pcap, C, h1, h2, h3, h4, h5, rfl⟩, h6⟩ := h
  refine ⟨pb, pcap, blk_cell h1 rfl, fun i hi => ?_⟩
  have hlen : C.length = 2 + 2 * cs := by rw [← h6.len, ← h4, List.length_map]
  obtain ⟨c, hc⟩ : ∃ c, C[i]? = some c := ⟨_, List.getElem?_eq_getElem (by omega)⟩
  obtain ⟨e1, e2⟩ := h5 i c hc
  have hL : lenF P i = c.L.length := by unfold lenF; rw [← h4]; simp [List.getD, hc]
  obtain ⟨k1, _⟩ := h2.cell hc
  rw [e1, e2] at k1
  rw [hL]
  exact ⟨c.ao, c.cap, k1⟩

theorem fball_c (w : World) (q cs rm : Nat) (S : List Nat) (P : List (List M13)) (hF : Fab w q S cs rm P) (n : Nat) (hn : allF P = n) :
    Calls Tryd.prog 13 #[.pointer (some ⟨q, 0, none⟩)] w fun r w' => r = .returned (.int .i64 (n : Int)) ∧ w' = w := by
  have hle : ∀ j, allF (P.take j) ≤ 130 * 64 := by
    intro j
    have h1 : ∀ i, lenF (P.take j) i ≤ 64 := fun i => by
      have := hF.ok.room i
      have h2 := hF.ok.rm64
      have h3 : lenF (P.take j) i ≤ lenF P i := by
        unfold lenF
        simp only [List.getD, List.getElem?_take]
        split
        · exact Nat.le_refl _
        · simp
      omega
    have h2 := allF_le h1
    have h3 : (P.take j).length ≤ 130 := by rw [List.length_take, hF.ok.len]; have := hF.ok.cs64; omega
    exact Nat.le_trans h2 (Nat.mul_le_mul_right 64 h3)
  obtain ⟨pb, pcap, k0, hR⟩ := hF.rows
  have hPl := hF.ok.len
  have h64 := hF.ok.cs64
  obtain ⟨N, hN⟩ : ∃ N, 2 + 2 * cs = N := ⟨_, rfl⟩
  rw [hN] at k0 hR hPl
  have hN2 : N ≤ 130 := by omega
  have HR := Hid.in hR
  have HT : Hid (∀ i, i < N → allF (P.take (i + 1)) = allF (P.take i) + lenF P i) := Hid.in (fun i hi => allF_take (by omega))
  have HLE := Hid.in hle
  have HE : Hid (allF (P.take N) = n) := Hid.in (by rw [List.take_of_length_le (by omega)]; exact hn)
  clear hF hle hR hPl hn hN h64
  go_enter Tryd.func13, Tryd.ntmps13
  go_wp2
  go_loopw [3, 11] (fun v x wr => ∃ i : Nat, i ≤ N ∧ v = .int .i64 (allF (P.take i) : Int) ∧ x = .int .i64 (i : Int) ∧ wr = w) (fun _ x _ => 200 - (intOf x).toNat)
  case atStart => exact ⟨0, Nat.zero_le _, rfl, rfl, rfl⟩
  case round =>
    obtain ⟨i, hi, rfl, rfl, rfl⟩ := hrel
    by_cases hlt : i < N
    · obtain ⟨ao, cap, k1⟩ := HR.out i hlt
      have hw := HT.out i hlt
      have hb := HLE.out (i + 1)
      obtain ⟨b, hbq⟩ : ∃ b, allF (P.take (i + 1)) = b := ⟨_, rfl⟩
      have HQ := Hid.in hbq
      rw [hbq] at hw hb
      clear hbq
      generalize allF (P.take i) = a at *
      generalize lenF P i = l at *
      have hww : IntKind.i64.wrap ((a : Int) + (l : Int)) = (b : Int) := by rw [wrapI (by omega) (by omega)]; omega
      have i1 : (i : Int) < (N : Int) := by omega
      go_wp2
      go_roundw
      case rel => exact ⟨i + 1, by omega, by rw [HQ.out]; exact congrArg (Value.int .i64) (by omega), by go_num, trivial⟩
      case measure => simp [intOf]; omega
    · have hiN : i = N := by omega
      subst hiN
      rw [HE.out]
      clear HR HT HLE HE
      go_wp2
      go_ret
      exact ⟨rfl, rfl⟩

end Go.Proofs.YtakomlmbdienpaaDoor
