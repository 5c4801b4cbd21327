/- DERIVED of the program: the project's fabric: Fits by its contract. Own work. -/
import Derived.Test.YtakomlmbdienpaaDoorFbC
import Derived.Test.YtakomlmbdienpaaDoorGenZ
namespace Go.Proofs.YtakomlmbdienpaaDoor
open Go.RowKit Go.Extern.Stop Go.Stop Go.Extern

/-- A row of messages that came in, or is read: numbers in their bounds. -/
def InB (l : List M13) : Prop := ∀ m ∈ l, M32 m ∧ M64 m
theorem InB.at {l : List M13} (h : InB l) {j : Nat} {m : M13} (hm : l[j]? = some m) : M32 m ∧ M64 m := h m (List.mem_of_getElem? hm)

/-- A count a pool. -/
def tk (T : List Nat) : List (List Value) := T.map fun (z : Nat) => [.int .i64 (z : Int)]
theorem tk_len (T : List Nat) : (tk T).length = T.length := List.length_map _
theorem tk_set (T : List Nat) (i z : Nat) : tk (T.set i z) = (tk T).set i [.int .i64 (z : Int)] := by unfold tk; rw [List.map_set]
theorem tk_get {T : List Nat} {i : Nat} (h : i < T.length) : (tk T)[i]? = some [.int .i64 ((T.getD i 0 : Nat) : Int)] := by
  unfold tk
  rw [List.getElem?_map, List.getElem?_eq_getElem h]
  simp [List.getD, h]
theorem Tryd.infoInt1 : (Tryd.prog.info? 3).map (fun i => (i.zero, i.size, i.bytes)) = some (some (.int .i64 0), 1, 8) := by kernel_rfl
/-- What the counts say behind so many messages. -/
def Cnt (cs N : Nat) (P : List (List M13)) (l : List M13) (T : List Nat) : Prop := T.length = N ∧ ∀ p, p < N → lenF P p + T.getD p 0 = lenF (putsF cs P l) p
theorem Cnt.next {cs N : Nat} {P : List (List M13)} {l : List M13} {T : List Nat} {i : Nat} {m : M13} (h : Cnt cs N P (l.take i) T) (hP : P.length = N) (hm : l[i]? = some m) (ht : thM cs m < N) : Cnt cs N P (l.take (i + 1)) (T.set (thM cs m) (T.getD (thM cs m) 0 + 1)) := by
  refine ⟨by rw [List.length_set]; exact h.1, fun p hp => ?_⟩
  rw [putsF_take hm, lenF_putF (by rw [len_putsF, hP]; exact ht), ← h.2 p hp]
  by_cases e : thM cs m = p
  · subst e
    rw [if_pos rfl]
    simp only [List.getD, List.getElem?_set_self (by rw [h.1]; exact ht : thM cs m < T.length), Option.getD_some]
    omega
  · rw [if_neg e]
    simp only [List.getD, List.getElem?_set_ne e]
    omega
theorem Cnt.start (cs N : Nat) (P : List (List M13)) : Cnt cs N P [] (List.replicate N 0) := by
  refine ⟨List.length_replicate, fun p hp => ?_⟩
  simp [putsF, List.getD, hp]

set_option maxRecDepth 20000 in
set_option maxHeartbeats 6400000 in
theorem fbfits_c (w : World) (sa : Nat → Addr) (hE : Env10 w sa) (q cs rm : Nat) (S : List Nat) (P : List (List M13)) (hF : Fab w q S cs rm P) (ao : Option Addr) (n cap : Nat) (L : List M13) (hL : Rows' 13 w ao cap (L.map mc)) (hn : L.length = n) (hIn : InB L) (hlen : n ≤ 1000) (cd kk : Nat) (hc : fitsF cs rm P L = (cd, kk)) :
    Calls Tryd.prog 17 #[.pointer (some ⟨q, 0, none⟩), .slice ao n cap] w fun r w' => r = .returned (perr sa cd opFSend (kk : Int)) ∧ Below w.heap.size w w' := by
  have hg1 : w.cell? ⟨0, 0, none⟩ = some (snt (sa 1)) := hE.g 1 (by omega) (by omega)
  have hg6 : w.cell? ⟨1, 0, none⟩ = some (snt (sa 6)) := hE.g 6 (by omega) (by omega)
  obtain ⟨hc0, hc1⟩ := hF.hd
  obtain ⟨pb, pcap, k2, hR⟩ := hF.rows
  have hPl := hF.ok.len
  have hcs1 := hF.ok.cs1
  have hcs64 := hF.ok.cs64
  have hrm := hF.ok.rm64
  have hroom := hF.ok.room
  obtain ⟨N, hN⟩ : ∃ N, 2 + 2 * cs = N := ⟨_, rfl⟩
  have hN2 : N ≤ 130 := by omega
  rw [hN] at k2 hR hPl
  have hq := hF.mem q hF.q
  have HN := Hid.in hN
  have HL := Hid.in hL
  have HIn := Hid.in hIn
  have HR := Hid.in hR
  have HC := Hid.in hc
  have HPL := Hid.in hPl
  have HRO := Hid.in hroom
  have HLn := Hid.in hn
  clear hF hL hIn hR hc hPl hn hE hN hroom
  have hqg : ∀ wr, Below w.heap.size w wr → wr.cell? ⟨q, 0, none⟩ = some (.int .i64 (cs : Int)) ∧ wr.cell? ⟨q, 1, none⟩ = some (.int .i64 (rm : Int)) ∧ wr.cell? ⟨q, 2, none⟩ = some (.slice (some ⟨pb, 0, none⟩) N pcap) ∧ wr.cell? ⟨0, 0, none⟩ = some (snt (sa 1)) ∧ wr.cell? ⟨1, 0, none⟩ = some (snt (sa 6)) := fun wr hb =>
    ⟨(hb.cell (p := ⟨q, 0, none⟩) hq).trans hc0, (hb.cell (p := ⟨q, 1, none⟩) hq).trans hc1, (hb.cell (p := ⟨q, 2, none⟩) hq).trans k2, (hb.cell (p := ⟨0, 0, none⟩) (lt_cell hg1)).trans hg1, (hb.cell (p := ⟨1, 0, none⟩) (lt_cell hg6)).trans hg6⟩
  have HG := Hid.in hqg
  clear hqg hg1 hg6 hc0 hc1 k2
  go_enter Tryd.func17, Tryd.ntmps17
  go_wp2
  go_loopw [13] (fun x wr => ∃ i : Nat, i ≤ n ∧ x = .int .i64 (i : Int) ∧ (∀ (j : Nat) (m : M13), j < i → L[j]? = some m → okM cs m = true) ∧ Below w.heap.size w wr) (fun x _ => 2000 - (intOf x).toNat)
  case atStart => exact ⟨0, Nat.zero_le _, rfl, fun j _ hj => absurd hj (Nat.not_lt_zero _), Below.refl _ _⟩
  case round =>
    obtain ⟨i, hi, rfl, hok, hb⟩ := hrel
    have HOK := Hid.in hok
    have HB := Hid.in hb
    clear hok hb
    by_cases hlt : i < n
    · as_aux_lemma =>
        obtain ⟨mb, mo, m, rfl, hm, hRg⟩ := (HL.out.step HB.out).msg i (by rw [HLn.out]; exact hlt)
        obtain ⟨h32, h64⟩ := HIn.out.at hm
        have HM := Hid.in hm
        have HRg := Hid.in hRg
        have hso : ∃ b, rtB m = b := ⟨_, rfl⟩
        obtain ⟨rb, hrb⟩ := hso
        have HRt : Hid (∀ y, Calls Tryd.prog 28 #[.agg (mv m)] y fun r w' => r = .returned (.bool rb) ∧ Below y.heap.size y w') := Hid.in (fun y => by rw [← hrb]; exact sRight_any m y h32 h64)
        have HRB := Hid.in hrb
        clear hm hRg h32 h64 hrb
        obtain ⟨k, c, l, t, o, e, w_, v, d0, d1, d2, d3, h⟩ := m
        simp only [mv_eq] at HRt
        have i1 : (i : Int) < (n : Int) := by omega
        go_upto_region 4 with (first | (refine wpList_load_mid rfl 32 (.tmp 16) rfl mb (mo + i * 13) rfl (mc (k, c, l, t, o, e, w_, v, d0, d1, d2, d3, h)) _ HRg.out Tryd.underlying32 rfl (by rw [mc_len]; exact Tryd.sizeMsg) ?_; simp only [mc_arr, mv_eq]) | fail)
        generalize hW : (wr.alloc (.cells #[.int .i64 k, .int .i64 c, .int .i64 l, .int .i64 t, .int .i64 o, .int .i64 e, .int .i64 w_, .int .u32 v, .int .u32 d0, .int .u32 d1, .int .u32 d2, .int .u32 d3, .bool h] 32)) = W
        have hBK : W.heap[wr.heap.size]? = some (.cells #[.int .i64 k, .int .i64 c, .int .i64 l, .int .i64 t, .int .i64 o, .int .i64 e, .int .i64 w_, .int .u32 v, .int .u32 d0, .int .u32 d1, .int .u32 d2, .int .u32 d3, .bool h] 32 (0, 0)) := by rw [← hW]; exact heap_alloc_new _ _
        have hbW : Below w.heap.size w W := by rw [← hW]; exact bstep HB.out (Nat.le_refl _) (below_alloc _ _)
        have HBW := Hid.in hbW
        clear hW
        have n0 : ∀ n : Kin (fun X => Below W.heap.size W X), n.of.cell? ⟨wr.heap.size, 0, none⟩ = some (.int .i64 k) := fun n => (n.in.cell (p := ⟨wr.heap.size, 0, none⟩) (blk_lt hBK)).trans (blk_cell hBK rfl)
        have n1 : ∀ n : Kin (fun X => Below W.heap.size W X), n.of.cell? ⟨wr.heap.size, 1, none⟩ = some (.int .i64 c) := fun n => (n.in.cell (p := ⟨wr.heap.size, 1, none⟩) (blk_lt hBK)).trans (blk_cell hBK rfl)
        have n2 : ∀ n : Kin (fun X => Below W.heap.size W X), n.of.cell? ⟨wr.heap.size, 2, none⟩ = some (.int .i64 l) := fun n => (n.in.cell (p := ⟨wr.heap.size, 2, none⟩) (blk_lt hBK)).trans (blk_cell hBK rfl)
        have n3 : ∀ n : Kin (fun X => Below W.heap.size W X), n.of.cell? ⟨wr.heap.size, 3, none⟩ = some (.int .i64 t) := fun n => (n.in.cell (p := ⟨wr.heap.size, 3, none⟩) (blk_lt hBK)).trans (blk_cell hBK rfl)
        have n4 : ∀ n : Kin (fun X => Below W.heap.size W X), n.of.cell? ⟨wr.heap.size, 4, none⟩ = some (.int .i64 o) := fun n => (n.in.cell (p := ⟨wr.heap.size, 4, none⟩) (blk_lt hBK)).trans (blk_cell hBK rfl)
        have n5 : ∀ n : Kin (fun X => Below W.heap.size W X), n.of.cell? ⟨wr.heap.size, 5, none⟩ = some (.int .i64 e) := fun n => (n.in.cell (p := ⟨wr.heap.size, 5, none⟩) (blk_lt hBK)).trans (blk_cell hBK rfl)
        have n6 : ∀ n : Kin (fun X => Below W.heap.size W X), n.of.cell? ⟨wr.heap.size, 6, none⟩ = some (.int .i64 w_) := fun n => (n.in.cell (p := ⟨wr.heap.size, 6, none⟩) (blk_lt hBK)).trans (blk_cell hBK rfl)
        have n7 : ∀ n : Kin (fun X => Below W.heap.size W X), n.of.cell? ⟨wr.heap.size, 7, none⟩ = some (.int .u32 v) := fun n => (n.in.cell (p := ⟨wr.heap.size, 7, none⟩) (blk_lt hBK)).trans (blk_cell hBK rfl)
        have n8 : ∀ n : Kin (fun X => Below W.heap.size W X), n.of.cell? ⟨wr.heap.size, 8, none⟩ = some (.int .u32 d0) := fun n => (n.in.cell (p := ⟨wr.heap.size, 8, none⟩) (blk_lt hBK)).trans (blk_cell hBK rfl)
        have n9 : ∀ n : Kin (fun X => Below W.heap.size W X), n.of.cell? ⟨wr.heap.size, 9, none⟩ = some (.int .u32 d1) := fun n => (n.in.cell (p := ⟨wr.heap.size, 9, none⟩) (blk_lt hBK)).trans (blk_cell hBK rfl)
        have n10 : ∀ n : Kin (fun X => Below W.heap.size W X), n.of.cell? ⟨wr.heap.size, 10, none⟩ = some (.int .u32 d2) := fun n => (n.in.cell (p := ⟨wr.heap.size, 10, none⟩) (blk_lt hBK)).trans (blk_cell hBK rfl)
        have n11 : ∀ n : Kin (fun X => Below W.heap.size W X), n.of.cell? ⟨wr.heap.size, 11, none⟩ = some (.int .u32 d3) := fun n => (n.in.cell (p := ⟨wr.heap.size, 11, none⟩) (blk_lt hBK)).trans (blk_cell hBK rfl)
        have n12 : ∀ n : Kin (fun X => Below W.heap.size W X), n.of.cell? ⟨wr.heap.size, 12, none⟩ = some (.bool h) := fun n => (n.in.cell (p := ⟨wr.heap.size, 12, none⟩) (blk_lt hBK)).trans (blk_cell hBK rfl)
        have nq : ∀ n : Kin (fun X => Below W.heap.size W X), n.of.cell? ⟨q, 0, none⟩ = some (.int .i64 (cs : Int)) := fun n => (HG.out _ (bstep HBW.out (Nat.le_refl _) n.in)).1
        clear hBK hbW
        cases rb with
        | false =>
          as_aux_lemma =>
            refine wp_region_kin (C := fun X => Below W.heap.size W X) (by kernel_rfl) (by kernel_rfl) (Below.refl _ _).drew (fun hne' => ?_)
            repeat (go_big_quiet_step (first | (go_at_call 28; exact Kin.below (Nat.le_refl _) _ (HRt.out _))))
            refine wpQuiet_nil ?_
            rintro w6 ⟨n, rfl⟩
            have hb6 := bstep HBW.out (Nat.le_refl _) n.in
            obtain ⟨_, _, _, hg, _⟩ := HG.out _ hb6
            have HB6 := Hid.in hb6
            clear hb6 n0 n1 n2 n3 n4 n5 n6 n7 n8 n9 n10 n11 n12 nq
            go_wp2_with fail
            refine (wrap_some _ _ _ _ _).mono ?_
            rintro r w7 ⟨rfl, rfl⟩
            go_wp2
            go_ret
            have hbad := badF_some (cs := cs) HOK.out ⟨_, HM.out, by unfold okM; rw [HRB.out]; rfl⟩
            have hcc := HC.out
            rw [fitsF_bad hbad] at hcc
            cases hcc
            exact ⟨rfl, HB6.out⟩
        | true =>
          by_cases hcc : c < (cs : Int)
          · as_aux_lemma =>
              have hge : ¬ (cs : Int) ≤ c := by omega
              have hge2 : ¬ c ≥ (cs : Int) := by omega
              refine wp_region_kin (C := fun X => Below W.heap.size W X) (by kernel_rfl) (by kernel_rfl) (Below.refl _ _).drew (fun hne' => ?_)
              repeat (go_big_quiet_step (first | (go_at_call 28; exact Kin.below (Nat.le_refl _) _ (HRt.out _))))
              refine wpQuiet_nil ?_
              rintro w6 ⟨n, rfl⟩
              have hb6 := bstep HBW.out (Nat.le_refl _) n.in
              have HB6 := Hid.in hb6
              have HCC := Hid.in hcc
              clear hb6 n0 n1 n2 n3 n4 n5 n6 n7 n8 n9 n10 n11 n12 nq hcc
              go_wp2
              go_roundw
              case rel =>
                refine ⟨i + 1, by omega, by go_num, fun j x hj hx => ?_, HB6.out⟩
                rcases Nat.lt_or_ge j i with h1 | h1
                · exact HOK.out j x h1 hx
                · obtain rfl : j = i := by omega
                  rw [HM.out] at hx
                  cases hx
                  unfold okM
                  rw [HRB.out]
                  simp [HCC.out]
              case measure => simp [intOf]; omega
          · as_aux_lemma =>
              have hge : (cs : Int) ≤ c := by omega
              refine wp_region_kin (C := fun X => Below W.heap.size W X) (by kernel_rfl) (by kernel_rfl) (Below.refl _ _).drew (fun hne' => ?_)
              repeat (go_big_quiet_step (first | (go_at_call 28; exact Kin.below (Nat.le_refl _) _ (HRt.out _))))
              refine wpQuiet_nil ?_
              rintro w6 ⟨n, rfl⟩
              have hb6 := bstep HBW.out (Nat.le_refl _) n.in
              obtain ⟨_, _, _, hg, _⟩ := HG.out _ hb6
              have HB6 := Hid.in hb6
              have HCC := Hid.in hcc
              clear hb6 n0 n1 n2 n3 n4 n5 n6 n7 n8 n9 n10 n11 n12 nq hcc hge
              go_wp2_with fail
              refine (wrap_some _ _ _ _ _).mono ?_
              rintro r w7 ⟨rfl, rfl⟩
              go_wp2
              go_ret
              have hbad := badF_some (cs := cs) HOK.out ⟨_, HM.out, by unfold okM; rw [HRB.out]; simp; have := HCC.out; omega⟩
              have hcc := HC.out
              rw [fitsF_bad hbad] at hcc
              cases hcc
              exact ⟨rfl, HB6.out⟩
    · as_aux_lemma =>
        obtain rfl : i = n := by omega
        have HA : Hid (∀ (j : Nat) (m : M13), L[j]? = some m → okM cs m = true) := Hid.in (fun j m hm => HOK.out j m (by have := (List.getElem?_eq_some_iff.1 hm).1; rw [HLn.out] at this; exact this) hm)
        clear HOK hlt hi
        obtain ⟨wo, hwo⟩ : ∃ x, x = wr := ⟨_, rfl⟩
        subst hwo
        obtain ⟨k0, k1, k2, _, _⟩ := HG.out _ HB.out
        have hN6 : N ≤ 1000000 := by omega
        go_wp2_with (first | (at_make; refine wpList_plain rfl fun K hK => wp_make (.tmp 38) 56 3 rfl 1 8 (.int .i64 0) Tryd.underlying56 Tryd.infoInt1 rfl (by decide) (by decide) (N : Int) N wo.heap.size rfl rfl hN6 (Nat.le_refl _) ?_; intro w1 HO HBl HSz; refine hK _ _ ?_; clear hK K) | fail)
        have HB1 := Hid.in (bstep HB.out (Nat.le_refl _) HBl.out)
        have HO1 : Hid (OwnA 3 1 w1 wo.heap.size (some ⟨wo.heap.size, 0, none⟩) N N (tk (List.replicate N 0))) := Hid.in (by
          have h := HO.out
          have e : tk (List.replicate N 0) = List.replicate N (Value.int .i64 0).cells.toList := by unfold tk; rw [List.map_replicate]; rfl
          rw [e]; exact h)
        clear k0 k1 k2 HO HBl HSz
        go_loopw [42] (fun x wr => ∃ (j : Nat) (T : List Nat), j ≤ i ∧ x = .int .i64 (j : Int) ∧ Cnt cs N P (L.take j) T ∧ (∀ (k : Nat) (m : M13), k < j → L[k]? = some m → lenF (putsF cs P (L.take k)) (thM cs m) < rm) ∧ OwnA 3 1 wr wo.heap.size (some ⟨wo.heap.size, 0, none⟩) N N (tk T) ∧ Below w.heap.size w wr) (fun x _ => 2000 - (intOf x).toNat)
        case atStart => exact ⟨0, _, Nat.zero_le _, rfl, Cnt.start cs N P, fun _ _ hk => absurd hk (Nat.not_lt_zero _), HO1.out, HB1.out⟩
        case round =>
          obtain ⟨j, T, hj, rfl, hT, hfit, hO, hbv⟩ := hrel
          have HT := Hid.in hT
          have HFit := Hid.in hfit
          have HO := Hid.in hO
          have HBV := Hid.in hbv
          clear hT hfit hO hbv HO1 HB1
          by_cases hlt : j < i
          · as_aux_lemma =>
              obtain ⟨mb, mo, m, rfl, hm, hRg⟩ := (HL.out.step HBV.out).msg j (by rw [HLn.out]; exact hlt)
              have HM := Hid.in hm
              have HRg := Hid.in hRg
              obtain ⟨_, hth⟩ := okM_th (HA.out j m hm)
              have HTc := Hid.in (fun (y : World) (h : Below w.heap.size w y) => through_c y q cs (HG.out y h).1 hcs1 hcs64 m (HA.out j m hm))
              obtain ⟨p, hp⟩ : ∃ p, thM cs m = p := ⟨_, rfl⟩
              rw [HN.out, hp] at hth
              rw [hp] at HTc
              have HP := Hid.in hp
              clear hm hRg hp
              obtain ⟨k, c, l, t, o, e, w_, v, d0, d1, d2, d3, h⟩ := m
              simp only [mv_eq] at HTc
              have i1 : (j : Int) < (i : Int) := by omega
              have ip : (p : Int) < (N : Int) := by omega
              go_upto_region 11 with (first | (refine wpList_load_mid rfl 32 (.tmp 45) rfl mb (mo + j * 13) rfl (mc (k, c, l, t, o, e, w_, v, d0, d1, d2, d3, h)) _ HRg.out Tryd.underlying32 rfl (by rw [mc_len]; exact Tryd.sizeMsg) ?_; simp only [mc_arr, mv_eq]) | fail)
              generalize hW : (wr.alloc (.cells #[.int .i64 k, .int .i64 c, .int .i64 l, .int .i64 t, .int .i64 o, .int .i64 e, .int .i64 w_, .int .u32 v, .int .u32 d0, .int .u32 d1, .int .u32 d2, .int .u32 d3, .bool h] 32)) = W
              have hBK : W.heap[wr.heap.size]? = some (.cells #[.int .i64 k, .int .i64 c, .int .i64 l, .int .i64 t, .int .i64 o, .int .i64 e, .int .i64 w_, .int .u32 v, .int .u32 d0, .int .u32 d1, .int .u32 d2, .int .u32 d3, .bool h] 32 (0, 0)) := by rw [← hW]; exact heap_alloc_new _ _
              have hbW : Below wr.heap.size wr W := by rw [← hW]; exact below_alloc _ _
              have HBW := Hid.in hbW
              clear hW
              have x0 : W.cell? ⟨wr.heap.size, 0, none⟩ = some (.int .i64 k) := blk_cell hBK rfl
              have x1 : W.cell? ⟨wr.heap.size, 1, none⟩ = some (.int .i64 c) := blk_cell hBK rfl
              have x2 : W.cell? ⟨wr.heap.size, 2, none⟩ = some (.int .i64 l) := blk_cell hBK rfl
              have x3 : W.cell? ⟨wr.heap.size, 3, none⟩ = some (.int .i64 t) := blk_cell hBK rfl
              have x4 : W.cell? ⟨wr.heap.size, 4, none⟩ = some (.int .i64 o) := blk_cell hBK rfl
              have x5 : W.cell? ⟨wr.heap.size, 5, none⟩ = some (.int .i64 e) := blk_cell hBK rfl
              have x6 : W.cell? ⟨wr.heap.size, 6, none⟩ = some (.int .i64 w_) := blk_cell hBK rfl
              have x7 : W.cell? ⟨wr.heap.size, 7, none⟩ = some (.int .u32 v) := blk_cell hBK rfl
              have x8 : W.cell? ⟨wr.heap.size, 8, none⟩ = some (.int .u32 d0) := blk_cell hBK rfl
              have x9 : W.cell? ⟨wr.heap.size, 9, none⟩ = some (.int .u32 d1) := blk_cell hBK rfl
              have x10 : W.cell? ⟨wr.heap.size, 10, none⟩ = some (.int .u32 d2) := blk_cell hBK rfl
              have x11 : W.cell? ⟨wr.heap.size, 11, none⟩ = some (.int .u32 d3) := blk_cell hBK rfl
              have x12 : W.cell? ⟨wr.heap.size, 12, none⟩ = some (.bool h) := blk_cell hBK rfl
              clear hBK hbW
              go_wp2_with fail
              refine (HTc.out _ (bstep HBV.out (Nat.le_refl _) HBW.out)).mono ?_
              rintro r w6 ⟨rfl, hb6⟩
              have HB6 := Hid.in (bstep HBW.out (Nat.le_refl _) hb6)
              clear hb6 x0 x1 x2 x3 x4 x5 x6 x7 x8 x9 x10 x11 x12
              have hw6 : Below w.heap.size w w6 := bstep HBV.out (Nat.le_refl _) HB6.out
              have HW6 := Hid.in hw6
              have HO6 := Hid.in (HO.out.step HB6.out)
              obtain ⟨k0, k1, k2, kg1, kg6⟩ := HG.out _ hw6
              obtain ⟨ap, cp, hs0⟩ := HR.out p hth
              have ks : w6.cell? ⟨pb, p, none⟩ = some (.slice ap (lenF P p) cp) := (hw6.cell (p := ⟨pb, p, none⟩) (lt_cell hs0)).trans hs0
              obtain ⟨tb, to_, et, kt⟩ := HO6.out.cell p (by rw [tk_len, HT.out.1]; exact hth) 0 (.int .i64 ((T.getD p 0 : Nat) : Int)) (by
                have h1 : p < (tk T).length := by rw [tk_len, HT.out.1]; exact hth
                have h2 : (tk T)[p]? = some (tk T)[p] := List.getElem?_eq_getElem h1
                rw [tk_get (by rw [HT.out.1]; exact hth)] at h2
                rw [← Option.some.inj h2]; rfl)
              cases et
              have kf : w6.frozen? ⟨wo.heap.size, p, none⟩ = false := by
                obtain ⟨g, o, cur, e, _, hh, _⟩ := HO6.out.at_ _ rfl
                cases e
                exact blk_free hh
              rw [Nat.mul_one, Nat.zero_add, Nat.add_zero] at kt
              obtain ⟨a, ha⟩ : ∃ a, lenF P p = a := ⟨_, rfl⟩
              obtain ⟨z, hz⟩ : ∃ z, T.getD p 0 = z := ⟨_, rfl⟩
              have hsum := HT.out.2 p hth
              have hal := HRO.out p
              rw [ha] at ks hsum hal
              rw [hz] at kt hsum
              have HSum := Hid.in hsum
              have HZ := Hid.in hz
              have hza : z ≤ 1000 := by
                have h1 : ∀ x, lenF (putsF cs P (L.take x)) p ≤ lenF P p + x := by
                  intro x
                  induction x with
                  | zero => exact Nat.le_refl _
                  | succ x ih =>
                    cases hx : L[x]? with
                    | none =>
                      have : L.take (x + 1) = L.take x := by rw [List.take_add_one, hx]; simp
                      rw [this]; omega
                    | some y =>
                      rw [putsF_take hx, lenF_putF (by rw [len_putsF, HPL.out, ← HN.out]; exact (okM_th (HA.out x y hx)).2)]
                      split <;> omega
                have h2 := h1 j
                rw [ha] at h2
                omega
              clear hs0 hw6 ha hz hsum
              have hwz : IntKind.i64.wrap ((a : Int) + (z : Int)) = (a : Int) + (z : Int) := wrapI (by omega) (by omega)
              by_cases hful : (rm : Int) ≤ (a : Int) + (z : Int)
              · as_aux_lemma =>
                  go_upto_region 12 with fail
                  have hq0 : ∀ n : Kin (fun X => Below w6.heap.size w6 X), n.of.cell? ⟨q, 1, none⟩ = some (.int .i64 (rm : Int)) := fun n => (n.in.cell (p := ⟨q, 1, none⟩) (lt_cell k1)).trans k1
                  have hq2 : ∀ n : Kin (fun X => Below w6.heap.size w6 X), n.of.cell? ⟨q, 2, none⟩ = some (.slice (some ⟨pb, 0, none⟩) N pcap) := fun n => (n.in.cell (p := ⟨q, 2, none⟩) (lt_cell k2)).trans k2
                  have hqs : ∀ n : Kin (fun X => Below w6.heap.size w6 X), n.of.cell? ⟨pb, p, none⟩ = some (.slice ap a cp) := fun n => (n.in.cell (p := ⟨pb, p, none⟩) (lt_cell ks)).trans ks
                  have hqt : ∀ n : Kin (fun X => Below w6.heap.size w6 X), n.of.cell? ⟨wo.heap.size, p, none⟩ = some (.int .i64 (z : Int)) := fun n => (n.in.cell (p := ⟨wo.heap.size, p, none⟩) (lt_cell kt)).trans kt
                  clear k0 k1 k2 ks kt kf kg1 kg6
                  refine wp_region_kin (C := fun X => Below w6.heap.size w6 X) (by kernel_rfl) (by kernel_rfl) (Below.refl _ _).drew (fun hne' => ?_)
                  repeat (go_big_quiet_step (fail))
                  refine wpQuiet_nil ?_
                  rintro w7 ⟨n, rfl⟩
                  have hb7 := bstep HW6.out (Nat.le_refl _) n.in
                  obtain ⟨_, _, _, _, hg⟩ := HG.out _ hb7
                  have HB7 := Hid.in hb7
                  have HFu := Hid.in hful
                  clear hb7 hq0 hq2 hqs hqt hwz hful
                  go_wp2_with fail
                  refine (wrap_some _ _ _ _ _).mono ?_
                  rintro r w8 ⟨rfl, rfl⟩
                  go_wp2
                  go_ret
                  have hcc := HC.out
                  have hbn := badF_none HA.out
                  have hfl : fullF cs rm P L = some j := fullF_some HFit.out (fun x hx => by
                    rw [HM.out] at hx
                    cases hx
                    rw [HP.out, ← HSum.out]
                    have := HFu.out
                    omega) (by rw [HLn.out]; exact hlt)
                  rw [fitsF_full hbn hfl] at hcc
                  cases hcc
                  exact ⟨rfl, HB7.out⟩
              · as_aux_lemma =>
                  have hful2 : ¬ (a : Int) + (z : Int) ≥ (rm : Int) := by omega
                  go_upto_region 12 with fail
                  have hq0 : ∀ n : Kin (fun X => Below w6.heap.size w6 X), n.of.cell? ⟨q, 1, none⟩ = some (.int .i64 (rm : Int)) := fun n => (n.in.cell (p := ⟨q, 1, none⟩) (lt_cell k1)).trans k1
                  have hq2 : ∀ n : Kin (fun X => Below w6.heap.size w6 X), n.of.cell? ⟨q, 2, none⟩ = some (.slice (some ⟨pb, 0, none⟩) N pcap) := fun n => (n.in.cell (p := ⟨q, 2, none⟩) (lt_cell k2)).trans k2
                  have hqs : ∀ n : Kin (fun X => Below w6.heap.size w6 X), n.of.cell? ⟨pb, p, none⟩ = some (.slice ap a cp) := fun n => (n.in.cell (p := ⟨pb, p, none⟩) (lt_cell ks)).trans ks
                  have hqt : ∀ n : Kin (fun X => Below w6.heap.size w6 X), n.of.cell? ⟨wo.heap.size, p, none⟩ = some (.int .i64 (z : Int)) := fun n => (n.in.cell (p := ⟨wo.heap.size, p, none⟩) (lt_cell kt)).trans kt
                  have HKT := Hid.in kt
                  have HKF := Hid.in kf
                  clear k0 k1 k2 ks kt kf kg1 kg6
                  refine wp_region_kin (C := fun X => Below w6.heap.size w6 X) (by kernel_rfl) (by kernel_rfl) (Below.refl _ _).drew (fun hne' => ?_)
                  repeat (go_big_quiet_step (fail))
                  refine wpQuiet_nil ?_
                  rintro w7 ⟨n, rfl⟩
                  have hb7 := n.in
                  generalize n.of = w7 at hb7
                  have HO7 := Hid.in (HO6.out.step hb7)
                  have HB7 := Hid.in (bstep HW6.out (Nat.le_refl _) hb7)
                  have kt7 : w7.cell? ⟨wo.heap.size, p, none⟩ = some (.int .i64 (z : Int)) := (hb7.cell (p := ⟨wo.heap.size, p, none⟩) (lt_cell HKT.out)).trans HKT.out
                  have kf7 : w7.frozen? ⟨wo.heap.size, p, none⟩ = false := by
                    obtain ⟨g, o, cur, e, _, hh, _⟩ := HO7.out.at_ _ rfl
                    cases e
                    exact blk_free hh
                  have hwz1 : IntKind.i64.wrap ((z : Int) + 1) = ((z + 1 : Nat) : Int) := by rw [wrapI (by omega) (by omega)]; omega
                  have HFu := Hid.in hful
                  obtain ⟨z1, hz1⟩ : ∃ z1, z + 1 = z1 := ⟨_, rfl⟩
                  rw [hz1] at hwz1
                  have HZ1 := Hid.in hz1
                  have hzi : (z : Int) + 1 = (z1 : Int) := by omega
                  clear hb7 hq0 hq2 hqs hqt hwz hz1
                  go_wp2
                  go_roundw
                  case rel =>
                    have hput := HO7.out.putc (by decide) p (by omega) [.int .i64 (z : Int)] (by rw [tk_get (by rw [HT.out.1]; exact hth), HZ.out]) 0 (by decide) (.int .i64 (z1 : Int))
                    rw [Nat.mul_one, Nat.zero_add, Nat.add_zero] at hput
                    have hnx := HT.out.next HPL.out HM.out (by rw [HP.out]; exact hth)
                    rw [HP.out, HZ.out, HZ1.out] at hnx
                    refine ⟨j + 1, T.set p z1, by omega, by go_num, hnx, fun k x hk hx => ?_, ?_, ?_⟩
                    · rcases Nat.lt_or_ge k j with h1 | h1
                      · exact HFit.out k x h1 hx
                      · obtain rfl : k = j := by omega
                        rw [HM.out] at hx
                        cases hx
                        rw [HP.out, ← HSum.out]
                        have := HFu.out
                        omega
                    · rw [tk_set]
                      first | exact hput | (rw [hzi]; exact hput)
                    · exact HB7.out.setCell (by exact HB.out.size) _
                  case measure => simp [intOf]; omega
          · as_aux_lemma =>
              obtain rfl : j = i := by omega
              go_wp2
              go_ret
              have hcc := HC.out
              have hbn := badF_none HA.out
              have hfl : fullF cs rm P L = none := fullF_none (fun k m hm => HFit.out k m (by have := (List.getElem?_eq_some_iff.1 hm).1; rw [HLn.out] at this; exact this) hm)
              rw [fitsF_ok hbn hfl] at hcc
              cases hcc
              exact ⟨rfl, HBV.out⟩

end Go.Proofs.YtakomlmbdienpaaDoor
