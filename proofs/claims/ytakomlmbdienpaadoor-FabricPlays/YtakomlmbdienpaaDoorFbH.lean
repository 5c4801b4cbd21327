/- DERIVED of the program: the project's fabric: Take by its contract. Own work. -/
import Derived.Test.YtakomlmbdienpaaDoorFbG
namespace Go.Proofs.YtakomlmbdienpaaDoor
open Go.RowKit Go.Extern.Stop Go.Stop Go.Extern

theorem there_new (w : World) (cs : Array Value) (t : TypeId) : (w.alloc (.cells cs t)).there w.heap.size 0 cs.size := fun j hj => by
  have h := heap_alloc_new w (.cells cs t)
  exact ⟨by rw [blk_cell h (by rw [Nat.zero_add]; exact Array.getElem?_eq_getElem hj)]; rfl, blk_free h⟩
theorem mv_size (m : M13) : (mv m).size = 13 := by obtain ⟨k, c, l, t, o, e, w_, v, d0, d1, d2, d3, h⟩ := m; rfl
theorem mv_one (m : M13) : (mv m).all (·.oneCell') = true := by rw [← mc_arr]; exact all_oneCell_toArray (mc_one m)
theorem Tryd.sizeMv (m : M13) : (Tryd.prog.info? 32).map (·.size) = some (mv m).size := by rw [mv_size]; exact Tryd.sizeMsg
theorem there_zero (w : World) (m : M13) : (w.alloc (.cells #[.int .i64 0, .int .i64 0, .int .i64 0, .int .i64 0, .int .i64 0, .int .i64 0, .int .i64 0, .int .u32 0, .int .u32 0, .int .u32 0, .int .u32 0, .int .u32 0, .bool false] 32)).there w.heap.size 0 (mv m).size := by rw [mv_size]; exact there_new w (mv zero13) 32
theorem there_step {w w' : World} {b o n : Nat} (h : w.there b o n) (hb : ∃ obj, w.heap[b]? = some obj ∧ w'.heap[b]? = some obj) : w'.there b o n := fun j hj => by
  obtain ⟨obj, h1, h2⟩ := hb
  obtain ⟨h3, h4⟩ := h j hj
  simp only [World.cell?, World.frozen?, h1] at h3 h4
  simp only [World.cell?, World.frozen?, h2]
  exact ⟨h3, h4⟩
theorem rangeAt_fr {S : List Nat} {w w' : World} {b o : Nat} {cs : List Value} (h : w.rangeAt b o cs) (hf : Fr S w w') (hn : b ∉ S) : w'.rangeAt b o cs := fun j v hv => hf.cell (h j v hv) hn
theorem there_fr {S : List Nat} {w w' : World} {b o n : Nat} (h : w.there b o n) (hf : Fr S w w') (hn : b ∉ S) (hl : b < w.heap.size) : w'.there b o n := fun j hj => by
  obtain ⟨h3, h4⟩ := h j hj
  simp only [World.cell?, World.frozen?, hf.block b hl hn]
  simp only [World.cell?, World.frozen?] at h3 h4
  exact ⟨h3, h4⟩
/-- A block of the caller's own, written beside the fabric. -/
theorem Turned.poke {w W w3 : World} {q cs rm : Nat} {S S' : List Nat} {P : List (List M13)} (h : Turned W w3 q S S' cs rm P) (hb : Below w.heap.size w W) (hS : ∀ k ∈ S, k < w.heap.size) {B : Nat} (hB : w.heap.size ≤ B) (hB2 : B < W.heap.size) (o : Nat) (vs : List Value) : Turned w (w3.setCells B o vs) q S S' cs rm P := by
  have hn : B ∉ S' := fun hm => by
    rcases h.s B hm with h1 | h1
    · have := hS B h1; omega
    · omega
  have hsz := hb.size
  refine ⟨h.p.fr (Fr.of_grown (S := [B]) (grown_setCells w3 B o vs) (fun k e => by cases e; exact List.mem_singleton.2 rfl)) (fun k hk he => hn (by rw [← List.mem_singleton.1 he]; exact hk)), ?_, fun k hk => (h.s k hk).imp id (fun h1 => by omega)⟩
  have hf : Fr S w w3 := (Fr.of_below hb).trans h.f
  have hg := grown_setCells w3 B o vs
  exact ⟨hg.os.trans hf.os, hg.tape.trans hf.tape, hg.output.trans hf.output, Nat.le_trans hf.size hg.size, fun k hk hks => (hg.block k (Nat.lt_of_lt_of_le hk hf.size) (fun e => by cases e; omega)).trans (hf.block k hk hks)⟩

/-- Take's last steps: the message is read out of its block and laid into the result's. -/
theorem tookF_none {cs : Nat} {P : List (List M13)} {p c k : Int} (h : plN cs p c = none) : tookF cs P p c k = P := by unfold tookF; rw [h]
theorem tookF_out {cs : Nat} {P : List (List M13)} {p c k : Int} {i : Nat} (h : plN cs p c = some i) (hk : ¬ (0 ≤ k ∧ k < (lenF P i : Int))) : tookF cs P p c k = P := by unfold tookF; rw [h]; simp only [if_neg hk]
theorem tookF_in {cs : Nat} {P : List (List M13)} {p c : Int} {i j : Nat} (h : plN cs p c = some i) (hj : j < lenF P i) : tookF cs P p c (j : Int) = P.set i ((P.getD i []).eraseIdx j) := by
  unfold tookF
  rw [h]
  simp only [if_pos (show (0 : Int) ≤ (j : Int) ∧ (j : Int) < (lenF P i : Int) by omega), Int.toNat_natCast]

set_option maxRecDepth 20000 in
set_option maxHeartbeats 1600000 in
theorem fbtake_no (w : World) (q cs rm : Nat) (S : List Nat) (P : List (List M13)) (hF : Fab w q S cs rm P) (p c k : Int) (m : M13) (hm : peekF cs P p c k = (m, false)) :
    Calls Tryd.prog 12 #[.pointer (some ⟨q, 0, none⟩), .int .i64 p, .int .i64 c, .int .i64 k] w fun r w' => r = .returned (.tuple #[.agg (mv m), .bool false]) ∧ ∃ S', Turned w w' q S S' cs rm P := by
  have hq := hF.mem
  have HPk := Hid.in (fbpeek_c (w.alloc (.cells (mv zero13) 32)) q cs rm S P (hF.step (below_alloc _ _)) p c k m false hm)
  have HF := Hid.in hF
  have HQ := Hid.in hq
  clear hF hm hq
  go_enter Tryd.func12, Tryd.ntmps12
  go_wp2_with fail
  refine HPk.out.mono ?_
  rintro r w1 ⟨rfl, hb1⟩
  clear HPk
  have hz1 : w1.heap[w.heap.size]? = some (.cells (mv zero13) 32 (0, 0)) := (hb1.block _ (by simp)).trans (heap_alloc_new _ _)
  have hbw : Below w.heap.size w w1 := bstep (below_alloc _ _) (Nat.le_refl _) hb1
  have hlt : w.heap.size < w1.heap.size := blk_lt hz1
  have HZ1 := Hid.in hz1
  have HBW := Hid.in hbw
  have HLT := Hid.in hlt
  clear hz1 hbw hb1 hlt
  go_upto_region 5 with (first | (refine wpList_store_mid rfl 32 (.tmp 10) (.tmp 19) rfl w1.heap.size 0 (mv m) rfl rfl (there_zero w1 m) (Tryd.sizeMv m) (mv_one m) ?_; generalize hW : (w1.alloc _).setCells w1.heap.size 0 (mv m).toList = W) | fail)
  have hg : w1.grownBy W (some w1.heap.size) := by rw [← hW]; exact grown_trans' (grown_of_below (below_alloc _ _) _) (grown_setCells _ _ _ _)
  have hbW : Below w1.heap.size w1 W := ⟨hg.os, hg.tape, hg.output, hg.size, fun k hk => hg.block k hk (fun e => by cases e; omega)⟩
  have HR : Hid (W.rangeAt w1.heap.size 0 (mc m)) := Hid.in (by rw [← hW]; exact World.rangeAt_setCells_same _ _ _ _ (by rw [Array.length_toList]; exact there_zero w1 m))
  have HTh : Hid (W.there w.heap.size 0 (mv m).size) := Hid.in (by
    have h1 : W.heap[w.heap.size]? = some (.cells (mv zero13) 32 (0, 0)) := (hbW.block _ HLT.out).trans HZ1.out
    rw [mv_size]
    intro j hj
    exact ⟨by rw [blk_cell h1 (by rw [Nat.zero_add]; exact Array.getElem?_eq_getElem (by rw [mv_size]; exact hj))]; rfl, blk_free h1⟩)
  have HBW2 := Hid.in (bstep HBW.out (Nat.le_refl _) hbW)
  have HLT2 : Hid (w.heap.size < W.heap.size) := Hid.in (Nat.lt_of_lt_of_le HLT.out hbW.size)
  clear hW hg hbW
  go_wp2_with (first | (refine wpList_load_mid rfl 32 (.tmp 10) rfl w1.heap.size 0 rfl (mc m) _ HR.out Tryd.underlying32 rfl (by rw [mc_len]; exact Tryd.sizeMsg) ?_; simp only [mc_arr]) | (refine wpList_store_mid rfl 32 (.tmp 8) (.tmp 43) rfl w.heap.size 0 (mv m) rfl rfl HTh.out (Tryd.sizeMv m) (mv_one m) ?_; generalize hW3 : W.setCells w.heap.size 0 (mv m).toList = W3) | fail)
  (try simp only [Exit.inBlock, Exit.then])
  subst hW3
  refine bodyPost_ret (v := .tuple #[.agg (mv m), .bool false]) ?_ rfl ⟨rfl, S, (Turned.same (HF.out.step HBW2.out) (Below.refl _ _)).poke HBW2.out HQ.out (Nat.le_refl _) HLT2.out 0 _⟩
  rw [results_cell_tmp rfl]
  have hr : (loadVar 32 ⟨w.heap.size, 0, none⟩).run Tryd.prog (W.setCells w.heap.size 0 (mv m).toList) = .ok (.agg (mv m)) (W.setCells w.heap.size 0 (mv m).toList) := by
    have h1 := World.rangeAt_setCells_same W w.heap.size 0 (mv m).toList (by rw [Array.length_toList]; exact HTh.out)
    have h2 := run_loadVar_mid (W.setCells w.heap.size 0 (mv m).toList) w.heap.size 0 32 (mv m).toList _ h1 Tryd.underlying32 rfl (by rw [Array.length_toList]; exact Tryd.sizeMv m)
    rwa [Array.toArray_toList] at h2
  simp [asAddr, hr, Result.andThen]

set_option maxRecDepth 20000 in
set_option maxHeartbeats 1600000 in
theorem fbtake_ok (w : World) (q cs rm : Nat) (S : List Nat) (P : List (List M13)) (hF : Fab w q S cs rm P) (p c : Int) (i j : Nat) (hp : plN cs p c = some i) (m : M13) (hm : (P.getD i [])[j]? = some m) :
    Calls Tryd.prog 12 #[.pointer (some ⟨q, 0, none⟩), .int .i64 p, .int .i64 c, .int .i64 (j : Int)] w fun r w' => r = .returned (.tuple #[.agg (mv m), .bool true]) ∧ ∃ S', Turned w w' q S S' cs rm (P.set i ((P.getD i []).eraseIdx j)) := by
  have hq := hF.mem
  have HPk := Hid.in (fbpeek_c (w.alloc (.cells (mv zero13) 32)) q cs rm S P (hF.step (below_alloc _ _)) p c (j : Int) m true (peekF_in hp hm))
  have HF := Hid.in hF
  have HQ := Hid.in hq
  have HPl := Hid.in (fun (y : World) (hy : Below w.heap.size w y) => place_c y q cs ((hy.cell (p := ⟨q, 0, none⟩) (hq q hF.q)).trans hF.hd.1) hF.ok.cs1 hF.ok.cs64 p c _ (plI_some hp))
  have hj : j < lenF P i := (List.getElem?_eq_some_iff.1 hm).1
  have hi := plN_lt hp
  have HOk : Hid (FbOk cs rm (P.set i ((P.getD i []).eraseIdx j))) := Hid.in (by have := hF.ok.took p c (j : Int); rwa [tookF_in hp hj] at this)
  have hroom := hF.ok.room i
  have hrm := hF.ok.rm64
  clear hF hm hq hp
  go_enter Tryd.func12, Tryd.ntmps12
  go_wp2_with fail
  refine HPk.out.mono ?_
  rintro r w1 ⟨rfl, hb1⟩
  clear HPk
  have hz1 : w1.heap[w.heap.size]? = some (.cells (mv zero13) 32 (0, 0)) := (hb1.block _ (by simp)).trans (heap_alloc_new _ _)
  have hbw : Below w.heap.size w w1 := bstep (below_alloc _ _) (Nat.le_refl _) hb1
  have hlt : w.heap.size < w1.heap.size := blk_lt hz1
  have HZ1 := Hid.in hz1
  have HBW := Hid.in hbw
  have HLT := Hid.in hlt
  clear hz1 hbw hb1 hlt
  go_upto_region 3 with (first | (refine wpList_store_mid rfl 32 (.tmp 10) (.tmp 19) rfl w1.heap.size 0 (mv m) rfl rfl (there_zero w1 m) (Tryd.sizeMv m) (mv_one m) ?_; generalize hW : (w1.alloc _).setCells w1.heap.size 0 (mv m).toList = W) | fail)
  have hg : w1.grownBy W (some w1.heap.size) := by rw [← hW]; exact grown_trans' (grown_of_below (below_alloc _ _) _) (grown_setCells _ _ _ _)
  have hbW : Below w1.heap.size w1 W := ⟨hg.os, hg.tape, hg.output, hg.size, fun k hk => hg.block k hk (fun e => by cases e; omega)⟩
  have HR : Hid (W.rangeAt w1.heap.size 0 (mc m)) := Hid.in (by rw [← hW]; exact World.rangeAt_setCells_same _ _ _ _ (by rw [Array.length_toList]; exact there_zero w1 m))
  have HTh : Hid (W.there w.heap.size 0 (mv m).size) := Hid.in (by
    have h1 : W.heap[w.heap.size]? = some (.cells (mv zero13) 32 (0, 0)) := (hbW.block _ HLT.out).trans HZ1.out
    rw [mv_size]
    intro j hj
    exact ⟨by rw [blk_cell h1 (by rw [Nat.zero_add]; exact Array.getElem?_eq_getElem (by rw [mv_size]; exact hj))]; rfl, blk_free h1⟩)
  have HBW2 := Hid.in (bstep HBW.out (Nat.le_refl _) hbW)
  have HLT2 : Hid (w.heap.size < W.heap.size) := Hid.in (Nat.lt_of_lt_of_le HLT.out hbW.size)
  clear hW hg hbW
  go_wp2_with fail
  refine (HPl.out _ HBW2.out).mono ?_
  rintro r w2 ⟨rfl, rfl⟩
  go_upto_region 4 with fail
  obtain ⟨pb, pcap, ap, cp, hqb, ks, kf, hO, hap1, hap2, hqpb, hupd⟩ := (HF.out.step HBW2.out).row hi
  have HUpd := Hid.in hupd
  have HO := Hid.in hO
  have k2 : w2.cell? ⟨q, 2, none⟩ = some (.slice (some ⟨pb, 0, none⟩) (2 + 2 * cs) pcap) := blk_cell hqb rfl
  obtain ⟨R, hRw⟩ : ∃ R, P.getD i [] = R := ⟨_, rfl⟩
  obtain ⟨a, ha⟩ : ∃ a, lenF P i = a := ⟨_, rfl⟩
  rw [ha] at ks HO hj hroom
  rw [hRw] at HO HOk
  have HRw := Hid.in hRw
  obtain ⟨bb, bo, hbo⟩ : ∃ bb bo, ap = some ⟨bb, bo, none⟩ := by
    cases hap : ap with
    | none => exact absurd (HO.out.nil0 hap) (by have := HO.out.le; omega)
    | some ad => obtain ⟨g, o, cur, e, _⟩ := HO.out.at_ ad hap; exact ⟨g, o, by rw [e]⟩
  subst hbo
  have HAl : Hid (R.length = a) := Hid.in (by rw [← hRw, ← ha]; rfl)
  obtain ⟨N, hN⟩ : ∃ N, 2 + 2 * cs = N := ⟨_, rfl⟩
  rw [hN] at k2 hi
  obtain ⟨a1, ha1⟩ : ∃ a1, a = a1 + 1 := ⟨a - 1, by omega⟩
  have HA1 := Hid.in ha1
  have ip : (i : Int) < (N : Int) := by omega
  have kept : ∀ X, w2.grownBy X (some bb) → X.cell? ⟨q, 2, none⟩ = some (.slice (some ⟨pb, 0, none⟩) N pcap) ∧ X.cell? ⟨pb, i, none⟩ = some (.slice (some ⟨bb, bo, none⟩) a cp) ∧ X.frozen? ⟨pb, i, none⟩ = false := by
    intro X hX
    have e2 := hX.block pb (lt_cell ks) (fun e => hap1 e.symm)
    refine ⟨cell_grown k2 hX (fun e => hap2 e.symm), cell_grown ks hX (fun e => hap1 e.symm), ?_⟩
    rw [← kf]; simp only [World.frozen?, e2]
  have KEPT := Hid.in kept
  have HDel := Hid.in (fun (y : World) (hy : Below w2.heap.size w2 y) => fdelete_any y 0 bb bo a j (j + 1) a1 cp R (HO.out.step hy) hj rfl ha1 (by omega) (Nat.zero_le _))
  have hjw : IntKind.i64.wrap ((j : Int) + 1) = ((j + 1 : Nat) : Int) := by rw [wrapI (by omega) (by omega)]; omega
  generalize ((j + 1 : Nat) : Int) = j1 at HDel hjw
  have HGd : Hid (w2.grownBy w2.drew (some bb)) := Hid.in (grown_of_below (Below.refl _ _).drew _)
  clear kept hO hqb k2 ks kf hap1 hap2 hqpb hupd hRw ha hN hi hroom ha1
  refine wp_region_but (fun X => cellIs q 2 (.slice (some ⟨pb, 0, none⟩) N pcap) X ∧ cellIs pb i (.slice (some ⟨bb, bo, none⟩) a cp) X) 17 (by kernel_rfl) ?_
  have HST : Hid (∀ X, w2.grownBy X (some bb) → cellIs q 2 (.slice (some ⟨pb, 0, none⟩) N pcap) X ∧ cellIs pb i (.slice (some ⟨bb, bo, none⟩) a cp) X) := Hid.in (fun X hX => ⟨(KEPT.out X hX).1, (KEPT.out X hX).2.1⟩)
  have HFc : Hid (∀ X, cellIs q 2 (.slice (some ⟨pb, 0, none⟩) N pcap) X ∧ cellIs pb i (.slice (some ⟨bb, bo, none⟩) a cp) X → X.cell? ⟨q, 2, none⟩ = some (.slice (some ⟨pb, 0, none⟩) N pcap) ∧ X.cell? ⟨pb, i, none⟩ = some (.slice (some ⟨bb, bo, none⟩) a cp)) := Hid.in (fun X h => h)
  have HS := Hid.in (HST.out _ HGd.out)
  refine wpBut_take (i := 0) (v := ?_) rfl (by kernel_rfl) (by kernel_rfl) (by exact fun _ _ _ h => h) HS.out (Or.inl ⟨by rfl, ?_⟩) ?_
  case refine_2 => (intro W hSw; obtain ⟨s1, s2⟩ := HFc.out W hSw; go_simp; try with_reducible rfl)
  simp only [Act.put, List.setIfInBounds_toArray, List.set_cons_zero, List.set_cons_succ]
  refine wpBut_take (i := 1) (v := ?_) rfl (by kernel_rfl) (by kernel_rfl) (by exact fun _ _ _ h => h) HS.out (Or.inl ⟨by rfl, ?_⟩) ?_
  case refine_2 => (intro W hSw; obtain ⟨s1, s2⟩ := HFc.out W hSw; go_simp; try with_reducible rfl)
  simp only [Act.put, List.setIfInBounds_toArray, List.set_cons_zero, List.set_cons_succ]
  refine wpBut_take (i := 2) (v := ?_) rfl (by kernel_rfl) (by kernel_rfl) (by exact fun _ _ _ h => h) HS.out (Or.inl ⟨by rfl, ?_⟩) ?_
  case refine_2 => (intro W hSw; obtain ⟨s1, s2⟩ := HFc.out W hSw; go_simp; try with_reducible rfl)
  simp only [Act.put, List.setIfInBounds_toArray, List.set_cons_zero, List.set_cons_succ]
  refine wpBut_take (i := 3) (v := ?_) rfl (by kernel_rfl) (by kernel_rfl) (by exact fun _ _ _ h => h) HS.out (Or.inl ⟨by rfl, ?_⟩) ?_
  case refine_2 => (intro W hSw; obtain ⟨s1, s2⟩ := HFc.out W hSw; go_simp; try with_reducible rfl)
  simp only [Act.put, List.setIfInBounds_toArray, List.set_cons_zero, List.set_cons_succ]
  refine wpBut_take (i := 4) (v := ?_) rfl (by kernel_rfl) (by kernel_rfl) (by exact fun _ _ _ h => h) HS.out (Or.inl ⟨by rfl, ?_⟩) ?_
  case refine_2 => (intro W hSw; obtain ⟨s1, s2⟩ := HFc.out W hSw; go_simp; try with_reducible rfl)
  simp only [Act.put, List.setIfInBounds_toArray, List.set_cons_zero, List.set_cons_succ]
  refine wpBut_take (i := 5) (v := ?_) rfl (by kernel_rfl) (by kernel_rfl) (by exact fun _ _ _ h => h) HS.out (Or.inl ⟨by rfl, ?_⟩) ?_
  case refine_2 => (intro W hSw; obtain ⟨s1, s2⟩ := HFc.out W hSw; go_simp; try with_reducible rfl)
  simp only [Act.put, List.setIfInBounds_toArray, List.set_cons_zero, List.set_cons_succ]
  refine wpBut_take (i := 6) (v := ?_) rfl (by kernel_rfl) (by kernel_rfl) (by exact fun _ _ _ h => h) HS.out (Or.inl ⟨by rfl, ?_⟩) ?_
  case refine_2 => (intro W hSw; obtain ⟨s1, s2⟩ := HFc.out W hSw; go_simp; try with_reducible rfl)
  simp only [Act.put, List.setIfInBounds_toArray, List.set_cons_zero, List.set_cons_succ]
  refine wpBut_take (i := 7) (v := ?_) rfl (by kernel_rfl) (by kernel_rfl) (by exact fun _ _ _ h => h) HS.out (Or.inl ⟨by rfl, ?_⟩) ?_
  case refine_2 => (intro W hSw; obtain ⟨s1, s2⟩ := HFc.out W hSw; go_simp; try with_reducible rfl)
  simp only [Act.put, List.setIfInBounds_toArray, List.set_cons_zero, List.set_cons_succ]
  refine wpBut_take (i := 8) (v := ?_) rfl (by kernel_rfl) (by kernel_rfl) (by exact fun _ _ _ h => h) HS.out (Or.inl ⟨by rfl, ?_⟩) ?_
  case refine_2 => (intro W hSw; obtain ⟨s1, s2⟩ := HFc.out W hSw; go_simp; try with_reducible rfl)
  simp only [Act.put, List.setIfInBounds_toArray, List.set_cons_zero, List.set_cons_succ]
  refine wpBut_take (i := 9) (v := ?_) rfl (by kernel_rfl) (by kernel_rfl) (by exact fun _ _ _ h => h) HS.out (Or.inl ⟨by rfl, ?_⟩) ?_
  case refine_2 => (intro W hSw; obtain ⟨s1, s2⟩ := HFc.out W hSw; go_simp; try with_reducible rfl)
  simp only [Act.put, List.setIfInBounds_toArray, List.set_cons_zero, List.set_cons_succ]
  refine wpBut_take (i := 10) (v := ?_) rfl (by kernel_rfl) (by kernel_rfl) (by exact fun _ _ _ h => h) HS.out (Or.inl ⟨by rfl, ?_⟩) ?_
  case refine_2 => (intro W hSw; obtain ⟨s1, s2⟩ := HFc.out W hSw; go_simp; try with_reducible rfl)
  simp only [Act.put, List.setIfInBounds_toArray, List.set_cons_zero, List.set_cons_succ]
  refine wpBut_take (i := 11) (v := ?_) rfl (by kernel_rfl) (by kernel_rfl) (by exact fun _ _ _ h => h) HS.out (Or.inl ⟨by rfl, ?_⟩) ?_
  case refine_2 => (intro W hSw; obtain ⟨s1, s2⟩ := HFc.out W hSw; go_simp; try with_reducible rfl)
  simp only [Act.put, List.setIfInBounds_toArray, List.set_cons_zero, List.set_cons_succ]
  refine wpBut_take (i := 12) (v := ?_) rfl (by kernel_rfl) (by kernel_rfl) (by exact fun _ _ _ h => h) HS.out (Or.inl ⟨by rfl, ?_⟩) ?_
  case refine_2 => (intro W hSw; obtain ⟨s1, s2⟩ := HFc.out W hSw; go_simp; try with_reducible rfl)
  simp only [Act.put, List.setIfInBounds_toArray, List.set_cons_zero, List.set_cons_succ]
  refine wpBut_take (i := 13) (v := ?_) rfl (by kernel_rfl) (by kernel_rfl) (by exact fun _ _ _ h => h) HS.out (Or.inl ⟨by rfl, ?_⟩) ?_
  case refine_2 => (intro W hSw; obtain ⟨s1, s2⟩ := HFc.out W hSw; go_simp; try with_reducible rfl)
  simp only [Act.put, List.setIfInBounds_toArray, List.set_cons_zero, List.set_cons_succ]
  refine wpBut_take (i := 14) (v := ?_) rfl (by kernel_rfl) (by kernel_rfl) (by exact fun _ _ _ h => h) HS.out (Or.inl ⟨by rfl, ?_⟩) ?_
  case refine_2 => (intro W hSw; obtain ⟨s1, s2⟩ := HFc.out W hSw; go_simp; try with_reducible rfl)
  simp only [Act.put, List.setIfInBounds_toArray, List.set_cons_zero, List.set_cons_succ]
  refine wpBut_one (i := 15) rfl (by kernel_rfl) (fun K HK => ?_)
  go_simp
  refine (HDel.out _ (Below.refl _ _).drew).mono ?_
  rintro r w3 ⟨rfl, hO3, hg3⟩
  have HO3 := Hid.in hO3
  have HG3 : Hid (w2.grownBy w3 (some bb)) := Hid.in (grown_trans' HGd.out hg3)
  refine HK.out _ _ (fun _ => HST.out _ HG3.out) ?_
  try simp only [Act.put, List.setIfInBounds_toArray, List.set_cons_zero, List.set_cons_succ]
  clear HK K HS hO3 hg3
  have HS := Hid.in (HST.out _ HG3.out)
  refine wpBut_take (i := 16) (v := ?_) rfl (by kernel_rfl) (by kernel_rfl) (by exact fun _ _ _ h => h) HS.out (Or.inl ⟨by rfl, ?_⟩) ?_
  case refine_2 => (intro W hSw; obtain ⟨s1, s2⟩ := HFc.out W hSw; go_simp; try with_reducible rfl)
  simp only [Act.put, List.setIfInBounds_toArray, List.set_cons_zero, List.set_cons_succ]
  refine wpBut_one (i := 17) rfl (by kernel_rfl) (fun K HK => ?_)
  obtain ⟨_, hz1, hz2⟩ := KEPT.out _ HG3.out
  go_simp
  refine HK.out _ _ (fun h => absurd rfl h) ?_
  clear HK K hz1 hz2 HS
  refine wpBut_done (by kernel_rfl) ?_ _
  have hup := HUpd.out w3 (w3.setCell ⟨pb, i, none⟩ (.slice (some ⟨bb, bo, none⟩) a1 cp)) (some ⟨bb, bo, none⟩) cp (R.eraseIdx j) HG3.out (by rw [List.length_eraseIdx, if_pos (by rw [HAl.out]; exact hj), HAl.out, HA1.out]; exact HO3.out) (fun b hk => .inl hk) (by rw [List.length_eraseIdx, if_pos (by rw [HAl.out]; exact hj), HAl.out, HA1.out]; exact Below.refl _ _) HOk.out
  obtain ⟨S2, hT2⟩ := hup
  have HT2 := Hid.in hT2
  have HS1 : Hid (w1.heap.size ∉ S) := Hid.in (fun hm => by have := HQ.out _ hm; have := HLT.out; omega)
  have HS0 : Hid (w.heap.size ∉ S) := Hid.in (fun hm => by have := HQ.out _ hm; omega)
  have HR3 := Hid.in (rangeAt_fr HR.out hT2.f HS1.out)
  have HTh3 := Hid.in (there_fr HTh.out hT2.f HS0.out HLT2.out)
  clear hT2
  generalize w3.setCell ⟨pb, i, none⟩ (.slice (some ⟨bb, bo, none⟩) a1 cp) = W at *
  go_wp2_with (first | (refine wpList_load_mid rfl 32 (.tmp 10) rfl w1.heap.size 0 rfl (mc m) _ HR3.out Tryd.underlying32 rfl (by rw [mc_len]; exact Tryd.sizeMsg) ?_; simp only [mc_arr]) | (refine wpList_store_mid rfl 32 (.tmp 8) (.tmp 43) rfl w.heap.size 0 (mv m) rfl rfl HTh3.out (Tryd.sizeMv m) (mv_one m) ?_; generalize hW3 : W.setCells w.heap.size 0 (mv m).toList = W3) | fail)
  (try simp only [Exit.inBlock, Exit.then])
  subst hW3
  refine bodyPost_ret (v := .tuple #[.agg (mv m), .bool true]) ?_ rfl ⟨rfl, S2, by rw [HRw.out]; exact HT2.out.poke HBW2.out HQ.out (Nat.le_refl _) HLT2.out 0 _⟩
  rw [results_cell_tmp rfl]
  have hr : (loadVar 32 ⟨w.heap.size, 0, none⟩).run Tryd.prog (W.setCells w.heap.size 0 (mv m).toList) = .ok (.agg (mv m)) (W.setCells w.heap.size 0 (mv m).toList) := by
    have h1 := World.rangeAt_setCells_same W w.heap.size 0 (mv m).toList (by rw [Array.length_toList]; exact HTh3.out)
    have h2 := run_loadVar_mid (W.setCells w.heap.size 0 (mv m).toList) w.heap.size 0 32 (mv m).toList _ h1 Tryd.underlying32 rfl (by rw [Array.length_toList]; exact Tryd.sizeMv m)
    rwa [Array.toArray_toList] at h2
  simp [asAddr, hr, Result.andThen]

theorem fbtake_c (w : World) (q cs rm : Nat) (S : List Nat) (P : List (List M13)) (hF : Fab w q S cs rm P) (p c k : Int) (m : M13) (b : Bool) (hm : peekF cs P p c k = (m, b)) (P' : List (List M13)) (hP : tookF cs P p c k = P') :
    Calls Tryd.prog 12 #[.pointer (some ⟨q, 0, none⟩), .int .i64 p, .int .i64 c, .int .i64 k] w fun r w' => r = .returned (.tuple #[.agg (mv m), .bool b]) ∧ ∃ S', Turned w w' q S S' cs rm P' := by
  subst hP
  cases hp : plN cs p c with
  | none =>
    rw [peekF_none k hp] at hm
    cases hm
    rw [tookF_none hp]
    exact fbtake_no w q cs rm S P hF p c k zero13 (peekF_none k hp)
  | some i =>
    by_cases hk : 0 ≤ k ∧ k < (lenF P i : Int)
    · obtain ⟨j, rfl⟩ : ∃ j : Nat, k = (j : Int) := ⟨k.toNat, by omega⟩
      have hj : j < (P.getD i []).length := by have h := hk.2; unfold lenF at h; omega
      have hx : (P.getD i [])[j]? = some (P.getD i [])[j] := List.getElem?_eq_getElem hj
      rw [peekF_in hp hx] at hm
      cases hm
      rw [tookF_in hp hj]
      exact fbtake_ok w q cs rm S P hF p c i j hp _ hx
    · rw [peekF_out hp hk] at hm
      cases hm
      rw [tookF_out hp hk]
      exact fbtake_no w q cs rm S P hF p c k zero13 (peekF_out hp hk)

end Go.Proofs.YtakomlmbdienpaaDoor
