/- DERIVED of the program: the project's fabric: Send by its contract. Own work. -/
import Derived.Test.YtakomlmbdienpaaDoorFbE
import Derived.Test.YtakomlmbdienpaaDoorGenD
import Derived.Test.YtakomlmbdienpaaDoorFbS
namespace Go.Proofs.YtakomlmbdienpaaDoor
open Go.RowKit Go.Extern.Stop Go.Stop Go.Extern

theorem Rows'.fr {m : Nat} {w w' : World} {ao : Option Addr} {cap : Nat} {rs : List (List Value)} {S : List Nat} (h : Rows' m w ao cap rs) (hf : Fr S w w') (hn : ∀ k, oblk ao = some k → k ∉ S) : Rows' m w' ao cap rs := by
  refine ⟨h.le, fun k hk c v hv => ?_, h.each, h.nil0⟩
  obtain ⟨b, o, e, hc⟩ := h.cell k hk c v hv
  exact ⟨b, o, e, hf.cell hc (hn b (by rw [e]; rfl))⟩
theorem FbOk.part {cs rm : Nat} {P : List (List M13)} {L : List M13} (h : FbOk cs rm P) (hb : badF cs L = Option.none) (hf : fullF cs rm P L = Option.none) (i : Nat) : FbOk cs rm (putsF cs P (L.take i)) := by
  refine h.puts (fun m hm => badF_ok hb m (List.mem_of_mem_take hm)) (fullF_none (fun j m hj => ?_))
  have hj' : j < i := by
    have := (List.getElem?_eq_some_iff.1 hj).1
    rw [List.length_take] at this
    omega
  rw [List.getElem?_take_of_lt hj'] at hj
  have := fullF_lt hf j m hj
  rwa [List.take_take, Nat.min_eq_left (Nat.le_of_lt hj')]
theorem rangeAt_grown {w w' : World} {row : Option Nat} {b o : Nat} {cs : List Value} (h : w.rangeAt b o cs) (hg : w.grownBy w' row) (hne : some b ≠ row) : w'.rangeAt b o cs := fun j v hv => by
  have hc := h j v hv
  have hl := lt_cell hc
  simp only [World.cell?] at hc ⊢
  rw [hg.block b hl hne]
  exact hc
theorem cell_grown {w w' : World} {row : Option Nat} {b o : Nat} {v : Value} (hc : w.cell? ⟨b, o, none⟩ = some v) (hg : w.grownBy w' row) (hne : some b ≠ row) : w'.cell? ⟨b, o, none⟩ = some v := by
  have hl := lt_cell hc
  simp only [World.cell?] at hc ⊢
  rw [hg.block b hl hne]
  exact hc

set_option maxRecDepth 20000 in
set_option maxHeartbeats 3200000 in
theorem fbsend_ok (w : World) (sa : Nat → Addr) (hE : Env10 w sa) (q cs rm : Nat) (S : List Nat) (P : List (List M13)) (hF : Fab w q S cs rm P) (ao : Option Addr) (n cap : Nat) (L : List M13) (hL : Rows' 13 w ao cap (L.map mc)) (hn : L.length = n) (hIn : InB L) (hlen : n ≤ 1000) (hsep : ∀ k, oblk ao = some k → k ∉ S) (hbad : badF cs L = none) (hful : fullF cs rm P L = none) :
    Calls Tryd.prog 10 #[.pointer (some ⟨q, 0, none⟩), .slice ao n cap] w fun r w' => r = .returned .nilIface ∧ ∃ S', Turned w w' q S S' cs rm (putsF cs P L) := by
  have hFi := fbfits_c w sa hE q cs rm S P hF ao n cap L hL hn hIn hlen 0 0 (fitsF_ok hbad hful)
  have HFi := Hid.in hFi
  have HL := Hid.in hL
  have HF := Hid.in hF
  have HIn := Hid.in hIn
  have HLn := Hid.in hn
  have HSep := Hid.in hsep
  have HOk := Hid.in (fun i => hF.ok.part hbad hful i)
  have HA : Hid (∀ (j : Nat) (m : M13), L[j]? = some m → okM cs m = true) := Hid.in (fun j m hm => badF_ok hbad m (List.mem_of_getElem? hm))
  have hq := hF.mem q hF.q
  have hcs1 := hF.ok.cs1
  have hcs64 := hF.ok.cs64
  have hrm := hF.ok.rm64
  clear hFi hL hF hIn hn hsep hbad hful hE
  go_enter Tryd.func10, Tryd.ntmps10
  go_wp2_with fail
  refine HFi.out.mono ?_
  rintro r w1 ⟨rfl, hb1⟩
  rw [perr_none]
  have HB1 := Hid.in hb1
  clear hb1 HFi
  go_wp2
  go_loopw [17] (fun x wr => ∃ (i : Nat) (S1 : List Nat), i ≤ n ∧ x = .int .i64 (i : Int) ∧ Turned w wr q S S1 cs rm (putsF cs P (L.take i))) (fun x _ => 2000 - (intOf x).toNat)
  case atStart => exact ⟨0, S, Nat.zero_le _, rfl, Turned.same HF.out HB1.out⟩
  case round =>
    obtain ⟨i, S1, hi, rfl, hT⟩ := hrel
    have HT := Hid.in hT
    clear hT HB1
    by_cases hlt : i < n
    · as_aux_lemma =>
        obtain ⟨mb, mo, m, rfl, hm, hRg⟩ := (HL.out.fr HT.out.f HSep.out).msg i (by rw [HLn.out]; exact hlt)
        have hok := HA.out i m hm
        obtain ⟨_, hth⟩ := okM_th hok
        have HM := Hid.in hm
        have HRg := Hid.in hRg
        obtain ⟨hc0, _⟩ := HT.out.p.hd
        have hqr := HT.out.p.mem q HT.out.p.q
        have HTc := Hid.in (fun (y : World) (h : Below wr.heap.size wr y) => through_c y q cs ((h.cell (p := ⟨q, 0, none⟩) hqr).trans hc0) hcs1 hcs64 m hok)
        obtain ⟨p, hp⟩ : ∃ p, thM cs m = p := ⟨_, rfl⟩
        rw [hp] at hth HTc
        have HP := Hid.in hp
        have HMc : Hid (mc m = mc m) := Hid.in rfl
        clear hm hRg hp hok hc0
        obtain ⟨k, c, l, t, o, e, w_, v, d0, d1, d2, d3, h⟩ := m
        obtain ⟨cells, hcells⟩ : ∃ cells, mc (k, c, l, t, o, e, w_, v, d0, d1, d2, d3, h) = cells := ⟨_, rfl⟩
        simp only [mv_eq] at HTc
        have i1 : (i : Int) < (n : Int) := by omega
        go_upto_region 7 with (first | (refine wpList_load_mid rfl 32 (.tmp 19) rfl mb (mo + i * 13) rfl (mc (k, c, l, t, o, e, w_, v, d0, d1, d2, d3, h)) _ HRg.out Tryd.underlying32 rfl (by rw [mc_len]; exact Tryd.sizeMsg) ?_; simp only [mc_arr, mv_eq]) | fail)
        generalize hW : (wr.alloc (.cells #[.int .i64 k, .int .i64 c, .int .i64 l, .int .i64 t, .int .i64 o, .int .i64 e, .int .i64 w_, .int .u32 v, .int .u32 d0, .int .u32 d1, .int .u32 d2, .int .u32 d3, .bool h] 32)) = W
        have hBK : W.heap[wr.heap.size]? = some (.cells #[.int .i64 k, .int .i64 c, .int .i64 l, .int .i64 t, .int .i64 o, .int .i64 e, .int .i64 w_, .int .u32 v, .int .u32 d0, .int .u32 d1, .int .u32 d2, .int .u32 d3, .bool h] 32 (0, 0)) := by rw [← hW]; exact heap_alloc_new _ _
        have HBW : Hid (Below wr.heap.size wr W) := Hid.in (by rw [← hW]; exact below_alloc _ _)
        have hszW : W.heap.size = wr.heap.size + 1 := by rw [← hW]; simp
        clear hW
        have x0 : W.cell? ⟨wr.heap.size, 0, none⟩ = some (.int .i64 k) := blk_cell hBK rfl
        have x1 : W.cell? ⟨wr.heap.size, 1, none⟩ = some (.int .i64 c) := blk_cell hBK rfl
        have x2 : W.cell? ⟨wr.heap.size, 2, none⟩ = some (.int .i64 l) := blk_cell hBK rfl
        have x3 : W.cell? ⟨wr.heap.size, 3, none⟩ = some (.int .i64 t) := blk_cell hBK rfl
        have x4 : W.cell? ⟨wr.heap.size, 4, none⟩ = some (.int .i64 o) := blk_cell hBK rfl
        have x5 : W.cell? ⟨wr.heap.size, 5, none⟩ = some (.int .i64 e) := blk_cell hBK rfl
        have x6 : W.cell? ⟨wr.heap.size, 6, none⟩ = some (.int .i64 w_) := blk_cell hBK rfl
        have x7 : W.cell? ⟨wr.heap.size, 7, none⟩ = some (.int .u32 v) := blk_cell hBK rfl
        have x8 : W.cell? ⟨wr.heap.size, 8, none⟩ = some (.int .u32 d0) := blk_cell hBK rfl
        have x9 : W.cell? ⟨wr.heap.size, 9, none⟩ = some (.int .u32 d1) := blk_cell hBK rfl
        have x10 : W.cell? ⟨wr.heap.size, 10, none⟩ = some (.int .u32 d2) := blk_cell hBK rfl
        have x11 : W.cell? ⟨wr.heap.size, 11, none⟩ = some (.int .u32 d3) := blk_cell hBK rfl
        have x12 : W.cell? ⟨wr.heap.size, 12, none⟩ = some (.bool h) := blk_cell hBK rfl
        have HBK := Hid.in hBK
        clear hBK
        go_wp2_with fail
        refine (HTc.out _ HBW.out).mono ?_
        rintro r w6 ⟨rfl, hb6⟩
        have HB6 := Hid.in (bstep HBW.out (Nat.le_refl _) hb6)
        have HR6 : Hid (w6.rangeAt wr.heap.size 0 (mc (k, c, l, t, o, e, w_, v, d0, d1, d2, d3, h))) := Hid.in (fun j u hj => by
          have h1 : w6.heap[wr.heap.size]? = some (.cells #[.int .i64 k, .int .i64 c, .int .i64 l, .int .i64 t, .int .i64 o, .int .i64 e, .int .i64 w_, .int .u32 v, .int .u32 d0, .int .u32 d1, .int .u32 d2, .int .u32 d3, .bool h] 32 (0, 0)) := (hb6.block _ (blk_lt HBK.out)).trans HBK.out
          rw [Nat.zero_add]
          refine blk_cell h1 ?_
          rw [mc_eq] at hj
          simpa using hj)
        have HBl6 : Hid (wr.heap.size < w6.heap.size) := Hid.in (Nat.lt_of_lt_of_le (blk_lt HBK.out) hb6.size)
        clear hb6 x0 x1 x2 x3 x4 x5 x6 x7 x8 x9 x10 x11 x12 HTc hszW HBK
        obtain ⟨pb, pcap, ap, cp, hqb, ks, kf, hO, hap1, hap2, hqpb, hupd⟩ := HT.out.p.row hth
        have HUpd := Hid.in hupd
        have HO := Hid.in hO
        have k2 : wr.cell? ⟨q, 2, none⟩ = some (.slice (some ⟨pb, 0, none⟩) (2 + 2 * cs) pcap) := blk_cell hqb rfl
        have hapl : ∀ k, oblk ap = some k → k < wr.heap.size := fun k hk => by obtain ⟨_, cu, h1⟩ := hO.blk k hk; exact blk_lt h1
        have hlenp : lenF (putsF cs P (L.take i)) p ≤ 64 := by have := HT.out.p.ok.room p; omega
        have hrow := HT.out.p.ok.len
        obtain ⟨R, hRw⟩ : ∃ R, (putsF cs P (L.take i)).getD p [] = R := ⟨_, rfl⟩
        obtain ⟨a, ha⟩ : ∃ a, lenF (putsF cs P (L.take i)) p = a := ⟨_, rfl⟩
        rw [ha] at ks hO HO hlenp
        rw [hRw] at HO
        have HRw := Hid.in hRw
        have HAl : Hid (R.length = a) := Hid.in (by rw [← hRw, ← ha]; rfl)
        obtain ⟨N, hN⟩ : ∃ N, 2 + 2 * cs = N := ⟨_, rfl⟩
        rw [hN] at hth k2 hrow
        have ip : (p : Int) < (N : Int) := by omega
        have kept : ∀ X, wr.grownBy X (oblk ap) → X.cell? ⟨q, 2, none⟩ = some (.slice (some ⟨pb, 0, none⟩) N pcap) ∧ X.cell? ⟨pb, p, none⟩ = some (.slice ap a cp) ∧ X.frozen? ⟨pb, p, none⟩ = false := by
          intro X hX
          have e2 := hX.block pb (lt_cell ks) (fun e => hap1 e.symm)
          refine ⟨cell_grown k2 hX (fun e => hap2 e.symm), cell_grown ks hX (fun e => hap1 e.symm), ?_⟩
          rw [← kf]; simp only [World.frozen?, e2]
        have KEPT := Hid.in kept
        have hapB : some wr.heap.size ≠ oblk ap := fun e => by have := hapl _ e.symm; omega
        have HapB := Hid.in hapB
        have RNG : Hid (∀ X, w6.grownBy X (oblk ap) → X.rangeAt wr.heap.size 0 (mc (k, c, l, t, o, e, w_, v, d0, d1, d2, d3, h))) := Hid.in (fun X hX => rangeAt_grown HR6.out hX HapB.out)
        have HG6 : Hid (∀ X, w6.grownBy X (oblk ap) → wr.grownBy X (oblk ap)) := Hid.in (fun X hX => grown_trans' (grown_of_below HB6.out _) hX)
        have HOx : Hid (OwnA 32 13 (w6.drew.alloc (.cells (lits [(k, c, l, t, o, e, w_, v, d0, d1, d2, d3, h)]) 32)) 0 ap a cp (R.map mc)) := Hid.in (HO.out.step (HB6.out.drew.alloc (by have := HB6.out.size; simpa using this) _))
        have HRx : Hid (Rows' 13 (w6.drew.alloc (.cells (lits [(k, c, l, t, o, e, w_, v, d0, d1, d2, d3, h)]) 32)) (some ⟨w6.heap.size, 0, none⟩) 1 [mc (k, c, l, t, o, e, w_, v, d0, d1, d2, d3, h)]) := Hid.in (Rows'.lits w6.drew [(k, c, l, t, o, e, w_, v, d0, d1, d2, d3, h)])
        have HGa : Hid (w6.grownBy (w6.drew.alloc (.cells (lits [(k, c, l, t, o, e, w_, v, d0, d1, d2, d3, h)]) 32)) (oblk ap)) := Hid.in (grown_of_below ((Below.refl w6.heap.size w6).drew.alloc (Nat.le_refl _) _) _)
        have HGd : Hid (w6.grownBy w6.drew (oblk ap)) := Hid.in (grown_of_below (Below.refl _ _).drew _)
        have hn1 : a + 1 ≤ 1000000 := by omega
        have HQR := Hid.in hqr
        clear kept hapB hapl hO hqb k2 ks kf hap1 hap2 hqpb hupd hRw ha hrow hqr hlt hq
        go_upto_region 8 with fail
        refine wp_region_but (fun X => cellIs q 2 (.slice (some ⟨pb, 0, none⟩) N pcap) X ∧ cellIs pb p (.slice ap a cp) X ∧ X.rangeAt wr.heap.size 0 (mc (k, c, l, t, o, e, w_, v, d0, d1, d2, d3, h))) 16 (by kernel_rfl) ?_
        have HST : Hid (∀ X, w6.grownBy X (oblk ap) → cellIs q 2 (.slice (some ⟨pb, 0, none⟩) N pcap) X ∧ cellIs pb p (.slice ap a cp) X ∧ X.rangeAt wr.heap.size 0 (mc (k, c, l, t, o, e, w_, v, d0, d1, d2, d3, h))) := Hid.in (fun X hX => ⟨(KEPT.out X (HG6.out X hX)).1, (KEPT.out X (HG6.out X hX)).2.1, RNG.out X hX⟩)
        have HFc : Hid (∀ X, cellIs q 2 (.slice (some ⟨pb, 0, none⟩) N pcap) X ∧ cellIs pb p (.slice ap a cp) X ∧ X.rangeAt wr.heap.size 0 (mc (k, c, l, t, o, e, w_, v, d0, d1, d2, d3, h)) → X.cell? ⟨q, 2, none⟩ = some (.slice (some ⟨pb, 0, none⟩) N pcap) ∧ X.cell? ⟨pb, p, none⟩ = some (.slice ap a cp)) := Hid.in (fun X h => ⟨h.1, h.2.1⟩)
        have HS := Hid.in (HST.out _ HGd.out)
        refine wpBut_take (i := 0) (v := ?_) rfl (by kernel_rfl) (by kernel_rfl) (by exact fun _ _ _ h => h) HS.out (Or.inl ⟨by rfl, ?_⟩) ?_
        case refine_2 => (intro W hSw; obtain ⟨s1, s2⟩ := HFc.out W hSw; go_simp; try with_reducible rfl)
        simp only [Act.put, List.setIfInBounds_toArray, List.set_cons_zero, List.set_cons_succ]
        refine wpBut_take (i := 1) (v := ?_) rfl (by kernel_rfl) (by kernel_rfl) (by exact fun _ _ _ h => h) HS.out (Or.inl ⟨by rfl, ?_⟩) ?_
        case refine_2 => (intro W hSw; obtain ⟨s1, s2⟩ := HFc.out W hSw; go_simp; try with_reducible rfl)
        simp only [Act.put, List.setIfInBounds_toArray, List.set_cons_zero, List.set_cons_succ]
        refine wpBut_take (i := 2) (v := ?_) rfl (by kernel_rfl) (by kernel_rfl) (by exact fun _ _ _ h => h) HS.out (Or.inl ⟨by rfl, ?_⟩) ?_
        case refine_2 => (intro W hSw; obtain ⟨s1, s2⟩ := HFc.out W hSw; go_simp; try with_reducible rfl)
        simp only [Act.put, List.setIfInBounds_toArray, List.set_cons_zero, List.set_cons_succ]
        refine wpBut_take (i := 3) (v := ?_) rfl (by kernel_rfl) (by kernel_rfl) (by exact fun _ _ _ h => h) HS.out (Or.inl ⟨by rfl, ?_⟩) ?_
        case refine_2 => (intro W hSw; obtain ⟨s1, s2⟩ := HFc.out W hSw; go_simp; try with_reducible rfl)
        simp only [Act.put, List.setIfInBounds_toArray, List.set_cons_zero, List.set_cons_succ]
        refine wpBut_take (i := 4) (v := ?_) rfl (by kernel_rfl) (by kernel_rfl) (by exact fun _ _ _ h => h) HS.out (Or.inl ⟨by rfl, ?_⟩) ?_
        case refine_2 => (intro W hSw; obtain ⟨s1, s2⟩ := HFc.out W hSw; go_simp; try with_reducible rfl)
        simp only [Act.put, List.setIfInBounds_toArray, List.set_cons_zero, List.set_cons_succ]
        refine wpBut_take (i := 5) (v := ?_) rfl (by kernel_rfl) (by kernel_rfl) (by exact fun _ _ _ h => h) HS.out (Or.inl ⟨by rfl, ?_⟩) ?_
        case refine_2 => (intro W hSw; obtain ⟨s1, s2⟩ := HFc.out W hSw; go_simp; try with_reducible rfl)
        simp only [Act.put, List.setIfInBounds_toArray, List.set_cons_zero, List.set_cons_succ]
        refine wpBut_take (i := 6) (v := ?_) rfl (by kernel_rfl) (by kernel_rfl) (by exact fun _ _ _ h => h) HS.out (Or.inl ⟨by rfl, ?_⟩) ?_
        case refine_2 => (intro W hSw; obtain ⟨s1, s2⟩ := HFc.out W hSw; go_simp; try with_reducible rfl)
        simp only [Act.put, List.setIfInBounds_toArray, List.set_cons_zero, List.set_cons_succ]
        refine wpBut_take (i := 7) (v := ?_) rfl (by kernel_rfl) (by kernel_rfl) (by exact fun _ _ _ h => h) HS.out (Or.inl ⟨by rfl, ?_⟩) ?_
        case refine_2 => (intro W hSw; obtain ⟨s1, s2⟩ := HFc.out W hSw; go_simp; try with_reducible rfl)
        simp only [Act.put, List.setIfInBounds_toArray, List.set_cons_zero, List.set_cons_succ]
        refine wpBut_take (i := 8) (v := ?_) rfl (by kernel_rfl) (by kernel_rfl) (by exact fun _ _ _ h => h) HS.out (Or.inl ⟨by rfl, ?_⟩) ?_
        case refine_2 => (intro W hSw; obtain ⟨s1, s2⟩ := HFc.out W hSw; go_simp; try with_reducible rfl)
        simp only [Act.put, List.setIfInBounds_toArray, List.set_cons_zero, List.set_cons_succ]
        refine wpBut_take (i := 9) (v := ?_) rfl (by kernel_rfl) (by kernel_rfl) (by exact fun _ _ _ h => h) HS.out (Or.inl ⟨by rfl, ?_⟩) ?_
        case refine_2 => (intro W hSw; obtain ⟨s1, s2⟩ := HFc.out W hSw; go_simp; try with_reducible rfl)
        simp only [Act.put, List.setIfInBounds_toArray, List.set_cons_zero, List.set_cons_succ]
        refine wpBut_take (i := 10) (v := ?_) rfl (by kernel_rfl) (by kernel_rfl) (by exact fun _ _ _ h => h) HS.out (Or.inl ⟨by rfl, ?_⟩) ?_
        case refine_2 => (intro W hSw; obtain ⟨s1, s2⟩ := HFc.out W hSw; go_simp; try with_reducible rfl)
        simp only [Act.put, List.setIfInBounds_toArray, List.set_cons_zero, List.set_cons_succ]
        refine wpBut_take (i := 11) (v := ?_) rfl (by kernel_rfl) (by kernel_rfl) (by exact fun _ _ _ h => h) HS.out (Or.inl ⟨by rfl, ?_⟩) ?_
        case refine_2 => (intro W hSw; obtain ⟨s1, s2⟩ := HFc.out W hSw; go_simp; try with_reducible rfl)
        simp only [Act.put, List.setIfInBounds_toArray, List.set_cons_zero, List.set_cons_succ]
        refine wpBut_take (i := 12) (v := .agg (mc (k, c, l, t, o, e, w_, v, d0, d1, d2, d3, h)).toArray) rfl (by kernel_rfl) (by kernel_rfl) (by exact fun _ _ _ h => h) HS.out ?hy12 ?_
        case hy12 => exact yieldsIf_load_mid (by rfl) 32 (.tmp 7) rfl wr.heap.size 0 rfl (mc (k, c, l, t, o, e, w_, v, d0, d1, d2, d3, h)) _ (fun X h => h.2.2) Tryd.underlying32 rfl (by rw [mc_len]; exact Tryd.sizeMsg)
        simp only [Act.put, List.setIfInBounds_toArray, List.set_cons_zero, List.set_cons_succ, mc_arr, mv_eq]
        refine wpBut_one (i := 13) rfl (by kernel_rfl) (fun K HK => ?_)
        refine step_build1 rfl (.tmp 36) rfl (k, c, l, t, o, e, w_, v, d0, d1, d2, d3, h) rfl ?_
        refine HK.out _ _ (fun _ => HST.out _ HGa.out) ?_
        simp only [Act.put, List.setIfInBounds_toArray, List.set_cons_zero, List.set_cons_succ]
        clear HK K
        refine wpBut_one (i := 14) rfl (by kernel_rfl) (fun K HK => ?_)
        refine step_concatA rfl 44 32 13 80 _ (.tmp 35) (.tmp 37) rfl Tryd.underlying44 Tryd.infoMsg rfl (by decide) (by decide) 0 ap (some ⟨w6.heap.size, 0, none⟩) a cp 1 1 (R.map mc) [mc (k, c, l, t, o, e, w_, v, d0, d1, d2, d3, h)] (by rfl) HOx.out (by rfl) rfl HRx.out (Nat.zero_le _) hn1 ?_
        intro ao3 cap3 w3 HO3 HG3 HN3 _
        have HG4 : Hid (w6.grownBy w3 (oblk ap)) := Hid.in (grown_trans' HGa.out HG3.out)
        refine HK.out _ _ (fun _ => HST.out _ HG4.out) ?_
        simp only [Act.put, List.setIfInBounds_toArray, List.set_cons_zero, List.set_cons_succ]
        clear HK K HS
        have HS := Hid.in (HST.out _ HG4.out)
        refine wpBut_take (i := 15) (v := ?_) rfl (by kernel_rfl) (by kernel_rfl) (by exact fun _ _ _ h => h) HS.out (Or.inl ⟨by rfl, ?_⟩) ?_
        case refine_2 => (intro W hSw; obtain ⟨s1, s2⟩ := HFc.out W hSw; go_simp; try with_reducible rfl)
        simp only [Act.put, List.setIfInBounds_toArray, List.set_cons_zero, List.set_cons_succ]
        refine wpBut_one (i := 16) rfl (by kernel_rfl) (fun K HK => ?_)
        obtain ⟨_, hz1, hz2⟩ := KEPT.out _ (HG6.out _ HG4.out)
        go_simp
        refine HK.out _ _ (fun h => absurd rfl h) ?_
        clear HK K hz1 hz2
        refine wpBut_done (by kernel_rfl) ?_ _
        have hup := HUpd.out w3 (w3.setCell ⟨pb, p, none⟩ (.slice ao3 (a + 1) cap3)) ao3 cap3 (R ++ [(k, c, l, t, o, e, w_, v, d0, d1, d2, d3, h)]) (HG6.out _ HG4.out) (by rw [List.length_append, List.length_singleton, HAl.out, List.map_append]; exact HO3.out) (fun b hk => by
          rcases HN3.out b hk with h1 | h1
          · exact .inl h1
          · have h2 := HB6.out.size
            simp at h1
            exact .inr (by omega)) (by rw [List.length_append, List.length_singleton, HAl.out]; exact Below.refl _ _) (by
          have h1 := HOk.out (i + 1)
          rw [putsF_take HM.out] at h1
          unfold putF at h1
          rw [HP.out, HRw.out] at h1
          exact h1)
        obtain ⟨S2, hT2⟩ := hup
        have HT2 := Hid.in hT2
        clear hT2
        go_wp2
        go_roundw
        case rel =>
          refine ⟨i + 1, S2, by omega, by go_num, ?_⟩
          rw [putsF_take HM.out]
          unfold putF
          rw [HP.out, HRw.out]
          exact HT.out.trans HT2.out
        case measure => simp [intOf]; omega
    · as_aux_lemma =>
        obtain rfl : i = n := by omega
        go_wp2
        go_ret
        refine ⟨rfl, S1, ?_⟩
        have := HT.out
        rwa [List.take_of_length_le (by rw [HLn.out]; exact Nat.le_refl _)] at this

end Go.Proofs.YtakomlmbdienpaaDoor
