/- DERIVED of the program: ev, Same of two rows of words; TsoRuns returns true. Own work. -/
import Derived.Test.YtncgjclehplfeaaDoorTsI
import Derived.Test.YtncgjclehplfeaaDoorSameA
import Derived.Test.YtncgjclehplfeaaDoorOpsA
namespace Go.Proofs.YtncgjclehplfeaaDoor
open Go.RowKit Go.Extern.Stop Go.Stop Go.Extern

theorem Tryd.infoEv : (Tryd.prog.info? 24).map (fun i => (i.zero, i.size, i.bytes)) = some (some (.agg #[.int .i64 0, .int .i64 0, .int .i64 0, .int .u32 0, .int .u32 0, .bool false]), 6, 40) := by kernel_rfl

theorem ev_c (k c a v : Int) (w : World) : Calls Tryd.prog 9 #[.int .i64 k, .int .i64 c, .int .i64 a, .int .u32 v] w fun r w' => r = .returned (evv k c a v 0 false) ∧ Below w.heap.size w w' := by
  go_enter Tryd.func9, Tryd.ntmps9
  go_wp2
  exact bodyPost_ret (v := evv k c a v 0 false) (by simp [results, Tryd.results9, go_sem]) rfl ⟨rfl, below_alloc _ _⟩

/-- A row of words that is read. -/
abbrev RowU (w : World) (ao : Option Addr) (cap : Nat) (M : List Int) : Prop := Rows' 1 w ao cap (M.map uc)
theorem Rows'.uat {w : World} {ao : Option Addr} {cap : Nat} {M : List Int} (h : RowU w ao cap M) (j : Nat) (hj : j < M.length) : ∃ b o x, ao = some ⟨b, o, none⟩ ∧ w.cell? ⟨b, o + j, none⟩ = some (.int .u32 x) ∧ M[j]? = some x := by
  obtain ⟨b, o, e, h0⟩ := h.cell j (by simpa using hj) 0 (.int .u32 M[j]) (by simp [uc])
  exact ⟨b, o, _, e, by simpa using h0, List.getElem?_eq_getElem hj⟩

set_option maxHeartbeats 1600000 in
theorem sameU_any (w : World) (a1 a2 : Option Addr) (n1 n2 c1 c2 : Nat) (M1 M2 : List Int) (hn1 : M1.length = n1) (hn2 : M2.length = n2) (h1 : RowU w a1 c1 M1) (h2 : RowU w a2 c2 M2) (hlen : n1 ≤ 1000000) (y : Bool) (hy : decide (M1 = M2) = y) :
    Calls Tryd.prog 11 #[.slice a1 n1 c1, .slice a2 n2 c2] w fun r w' => r = .returned (.bool y) ∧ Below w.heap.size w w' := by
  have H1 := Hid.in h1
  have H2 := Hid.in h2
  have HN1 := Hid.in hn1
  have HN2 := Hid.in hn2
  have HY := Hid.in hy
  clear h1 h2 hn1 hn2 hy
  by_cases hnn : n1 = n2
  · subst hnn
    go_enter Tryd.func11, Tryd.ntmps11
    go_wp2
    go_loopw [5] (fun c wr => ∃ j : Nat, j ≤ n1 ∧ c = .int .i64 (j : Int) ∧ M1.take j = M2.take j ∧ Below w.heap.size w wr) (fun c _ => n1 - (intOf c).toNat)
    case atStart => exact ⟨0, Nat.zero_le _, rfl, rfl, Below.refl _ _⟩
    case round =>
      obtain ⟨j, hj, rfl, htk, hb⟩ := hrel
      have HB := Hid.in hb
      have HTK := Hid.in htk
      clear hb htk
      by_cases hlt : j < n1
      · obtain ⟨b1, o1, x, rfl, x1, k1⟩ := (H1.out.step HB.out).uat j (by rw [HN1.out]; exact hlt)
        obtain ⟨b2, o2, z, rfl, y1, k2⟩ := (H2.out.step HB.out).uat j (by rw [HN2.out]; exact hlt)
        have K1 := Hid.in k1
        have K2 := Hid.in k2
        have i1 : (j : Int) < (n1 : Int) := by omega
        clear k1 k2
        by_cases hxz : x = z
        · subst hxz
          have HT : Hid (M1.take (j + 1) = M2.take (j + 1)) := Hid.in (by rw [List.take_add_one, List.take_add_one, HTK.out, K1.out, K2.out])
          go_wp2
          go_quiet (fail)
          go_wp2
          go_roundw
          case rel => exact ⟨j + 1, by omega, by go_num, HT.out, drewN_below HB.out _⟩
          case measure => simp [intOf]; omega
        · have hne : (x != z) = true := by simpa using hxz
          have HF : Hid (y = false) := Hid.in (by
            rw [← HY.out]
            refine decide_eq_false (fun e => hxz ?_)
            have := K1.out
            rw [e, K2.out] at this
            exact (Option.some.inj this).symm)
          clear hxz
          go_wp2
          go_quiet (fail)
          go_wp2
          go_ret
          exact ⟨by rw [HF.out]; rfl, drewN_below HB.out _⟩
      · obtain rfl : j = n1 := by omega
        have HF : Hid (y = true) := Hid.in (by
          rw [← HY.out]
          refine decide_eq_true ?_
          have h := HTK.out
          rw [List.take_of_length_le (by rw [HN1.out]; exact Nat.le_refl _), List.take_of_length_le (by rw [HN2.out]; exact Nat.le_refl _)] at h
          exact h)
        go_wp2
        go_ret
        exact ⟨by rw [HF.out]; rfl, HB.out⟩
  · have hne : ((n1 : Int) != (n2 : Int)) = true := by simp; omega
    have HF : Hid (y = false) := Hid.in (by
      rw [← HY.out]
      refine decide_eq_false (fun e => hnn ?_)
      rw [← HN1.out, ← HN2.out, e])
    clear hnn
    go_enter Tryd.func11, Tryd.ntmps11
    go_wp2
    go_ret
    exact ⟨by rw [HF.out]; rfl, Below.refl _ _⟩

theorem RowE.lits (w : World) (L : List Ev) (o : Obj) (ho : o = .cells (L.map Ev.cs).flatten.toArray 24) : RowE (w.alloc o) (some ⟨w.heap.size, 0, none⟩) L.length L := by
  subst ho
  have he : ∀ r ∈ L.map Ev.cs, r.length = 6 ∧ ∀ v ∈ r, v.oneCell' = true := fun r hr => by
    obtain ⟨x, _, rfl⟩ := List.mem_map.1 hr
    exact ⟨rfl, x.cs_one⟩
  refine ⟨by simp, fun k hk c v hv => ⟨w.heap.size, 0, rfl, ?_⟩, he, fun e => by cases e⟩
  have hc : c < 6 := by
    have := (List.getElem?_eq_some_iff.1 hv).1
    rwa [(he _ (List.getElem_mem hk)).1] at this
  refine blk_cell (heap_alloc_new _ _) ?_
  rw [Nat.zero_add, List.getElem?_toArray, flat_get (fun r hr => (he r hr).1) k c hk hc]
  exact hv
theorem OwnA.empty (t : TypeId) (m : Nat) (w : World) (B : Nat) (hB : B ≤ w.heap.size) : OwnA t m (w.alloc (.cells #[] t)) B (some ⟨w.heap.size, 0, none⟩) 0 0 [] :=
  ⟨fun _ h => absurd h List.not_mem_nil, rfl, Nat.le_refl _, Nat.zero_le _, (fun e => by cases e), fun ad e => by cases e; exact ⟨w.heap.size, 0, #[], rfl, hB, heap_alloc_new _ _, by simp, fun j u hj => by simp at hj⟩⟩
theorem Rows'.evs {t : TypeId} {w : World} {B n cap : Nat} {ao : Option Addr} {L : List Ev} (h : OwnA t 6 w B ao n cap (L.map Ev.cs)) : RowE w ao cap L :=
  h.rows (fun r hr => by obtain ⟨x, _, rfl⟩ := List.mem_map.1 hr; exact x.cs_one)
theorem Rows'.us {t : TypeId} {w : World} {B n cap : Nat} {ao : Option Addr} {M : List Int} (h : OwnA t 1 w B ao n cap (M.map uc)) : RowU w ao cap M := h.rows (uc_one M)
theorem Rows'.lits1 (w : World) (M : List Int) (o : Obj) (ho : o = .cells (M.map uc).flatten.toArray 22) : RowU (w.alloc o) (some ⟨w.heap.size, 0, none⟩) M.length M := by
  subst ho
  have he : ∀ r ∈ M.map uc, r.length = 1 := fun r hr => by obtain ⟨x, _, rfl⟩ := List.mem_map.1 hr; rfl
  refine ⟨by simp, fun k hk c v hv => ⟨w.heap.size, 0, rfl, ?_⟩, fun r hr => ⟨he r hr, uc_one M r hr⟩, fun e => by cases e⟩
  have hc : c < 1 := by
    have := (List.getElem?_eq_some_iff.1 hv).1
    rwa [he _ (List.getElem_mem hk)] at this
  refine blk_cell (heap_alloc_new _ _) ?_
  rw [Nat.zero_add, List.getElem?_toArray, flat_get (fun r hr => he r hr) k c hk hc]
  exact hv
abbrev runs4 : List Ev := [⟨2, 0, 0, 1, 0, false⟩, ⟨2, 1, 1, 1, 0, false⟩, ⟨1, 0, 1, 0, 0, false⟩, ⟨1, 1, 0, 0, 0, false⟩]

set_option maxHeartbeats 1600000 in
set_option maxRecDepth 20000 in
theorem tsoRuns_any (w : World) (sa : Nat → Addr) (hE : Env10 w sa) : Calls Tryd.prog 3 #[] w fun r w' => r = .returned (.bool true) ∧ Below w.heap.size w w' := by
  have HE := Hid.in hE
  clear hE
  go_enter Tryd.func3, Tryd.ntmps3
  go_wp2_with fail
  refine (ev_c _ _ _ _ _).mono ?_
  rintro r w1 ⟨rfl, hb1⟩
  go_wp2_with fail
  refine (ev_c _ _ _ _ _).mono ?_
  rintro r w2 ⟨rfl, hb2⟩
  go_wp2_with fail
  refine (ev_c _ _ _ _ _).mono ?_
  rintro r w3 ⟨rfl, hb3⟩
  go_wp2_with fail
  refine (ev_c _ _ _ _ _).mono ?_
  rintro r w4 ⟨rfl, hb4⟩
  have HB4 := Hid.in (bstep (bstep (bstep hb1 (Nat.le_refl _) hb2) (Nat.le_refl _) hb3) (Nat.le_refl _) hb4)
  clear hb1 hb2 hb3 hb4
  go_wp2_with fail
  generalize hwb : w4.alloc _ = wb
  have hrl : RowE wb (some ⟨w4.heap.size, 0, none⟩) 4 runs4 := by rw [← hwb]; exact RowE.lits w4 runs4 _ rfl
  have HBL : Hid (Below w.heap.size w wb) := Hid.in (by rw [← hwb]; exact bstep HB4.out (Nat.le_refl _) (below_alloc _ _))
  have HRL := Hid.in hrl
  clear hwb hrl HB4
  generalize w4.heap.size = lb at HRL ⊢
  refine (treplay_c _ sa (HE.out.below HBL.out) 2 2 (by decide) (by decide) (by decide) (by decide) _ 4 _ runs4 rfl (by decide) HRL.out none (by decide +kernel) [0, 0] (by decide +kernel)).mono ?_
  rintro r w6 ⟨⟨ao, cap, rfl, hO⟩, hb6⟩
  have HBw6 := Hid.in hb6
  have HOw6 := Hid.in (Rows'.us hO)
  clear hO hb6
  go_wp2_with (first | (at_builtin; refine wpList_concatA rfl 26 24 6 40 _ (.tmp 21) (.tmp 22) rfl Tryd.underlying26 Tryd.infoEv rfl (by decide) (by decide) w6.heap.size (some ⟨w6.heap.size, 0, none⟩) (some ⟨lb, 0, none⟩) 0 0 4 4 [] (runs4.map Ev.cs) rfl (OwnA.empty _ _ _ _ (Nat.le_refl _)) rfl rfl (HRL.out.step (bstep HBw6.out (Nat.le_refl _) (below_alloc _ _))) (below_alloc _ _).size (by decide) ?_; intro aoga capga wga HOga HGga HNga _) | fail)
  have HBga : Hid (Below w6.heap.size w6 wga) := Hid.in ((below_alloc w6 _).grown HGga.out (below_alloc _ _).size (fun k hk => by cases hk; exact Nat.le_refl _))
  have HKga : Hid (∀ k, oblk aoga = some k → w6.heap.size ≤ k) := Hid.in (fun k hk => (HOga.out.blk k hk).1)
  refine (ev_c _ _ _ _ _).mono ?_
  rintro r wgb ⟨rfl, hb⟩
  have HOgb := Hid.in ((HOga.out.step hb).step (below_alloc wgb (.cells #[.int .i64 1, .int .i64 0, .int .i64 0, .int .u32 0, .int .u32 0, .bool false] 24)))
  have HBgb : Hid (Below w6.heap.size w6 (wgb.alloc (.cells #[.int .i64 1, .int .i64 0, .int .i64 0, .int .u32 0, .int .u32 0, .bool false] 24))) := Hid.in (bstep (bstep HBga.out (Nat.le_refl _) hb) (Nat.le_refl _) (below_alloc _ _))
  have HRgb : Hid (RowE (wgb.alloc (.cells #[.int .i64 1, .int .i64 0, .int .i64 0, .int .u32 0, .int .u32 0, .bool false] 24)) (some ⟨wgb.heap.size, 0, none⟩) 1 [⟨1, 0, 0, 0, 0, false⟩]) := Hid.in (RowE.lits wgb [⟨1, 0, 0, 0, 0, false⟩] _ rfl)
  clear hb HOga HGga HNga HBga
  go_wp2_with (first | (at_builtin; refine wpList_concatA rfl 26 24 6 40 _ (.tmp 23) (.tmp 25) rfl Tryd.underlying26 Tryd.infoEv rfl (by decide) (by decide) w6.heap.size aoga (some ⟨wgb.heap.size, 0, none⟩) 4 capga 1 1 (runs4.map Ev.cs) ([⟨1, 0, 0, 0, 0, false⟩].map Ev.cs) rfl HOgb.out rfl rfl HRgb.out HBgb.out.size (by decide) ?_; intro aogc capgc wgc HOgc HGgc _ _) | fail)
  have HBgc : Hid (Below w6.heap.size w6 wgc) := Hid.in (HBgb.out.grown HGgc.out HBgb.out.size HKga.out)
  have HRgc : Hid (RowE wgc aogc capgc (runs4 ++ [⟨1, 0, 0, 0, 0, false⟩])) := Hid.in (Rows'.evs (by rw [List.map_append]; exact HOgc.out))
  clear HOgb HRgb HOgc HGgc HBgb HKga
  refine (treplay_c _ sa (HE.out.below (bstep HBL.out (Nat.le_refl _) (bstep HBw6.out (Nat.le_refl _) HBgc.out))) 2 2 (by decide) (by decide) (by decide) (by decide) _ 5 _ (runs4 ++ [⟨1, 0, 0, 0, 0, false⟩]) rfl (by decide) HRgc.out (some (4, 10, 0)) (by decide +kernel) _ rfl).mono ?_
  rintro r w7 ⟨hr, hb6⟩
  obtain rfl : r = _ := hr
  have HOw7 := Hid.in (HOw6.out.step (bstep HBgc.out (Nat.le_refl _) hb6))
  have HBw7 := Hid.in (bstep HBw6.out (Nat.le_refl _) (bstep HBgc.out (Nat.le_refl _) hb6))
  clear hb6 HRgc HBgc HBw6 HOw6
  go_wp2_with (first | (at_builtin; refine wpList_concatA rfl 26 24 6 40 _ (.tmp 31) (.tmp 32) rfl Tryd.underlying26 Tryd.infoEv rfl (by decide) (by decide) w7.heap.size (some ⟨w7.heap.size, 0, none⟩) (some ⟨lb, 0, none⟩) 0 0 4 4 [] (runs4.map Ev.cs) rfl (OwnA.empty _ _ _ _ (Nat.le_refl _)) rfl rfl (HRL.out.step (bstep HBw7.out (Nat.le_refl _) (below_alloc _ _))) (below_alloc _ _).size (by decide) ?_; intro aoha capha wha HOha HGha HNha _) | fail)
  have HBha : Hid (Below w7.heap.size w7 wha) := Hid.in ((below_alloc w7 _).grown HGha.out (below_alloc _ _).size (fun k hk => by cases hk; exact Nat.le_refl _))
  have HKha : Hid (∀ k, oblk aoha = some k → w7.heap.size ≤ k) := Hid.in (fun k hk => (HOha.out.blk k hk).1)
  refine (ev_c _ _ _ _ _).mono ?_
  rintro r whb ⟨rfl, hb⟩
  have HOhb := Hid.in ((HOha.out.step hb).step (below_alloc whb (.cells #[.int .i64 3, .int .i64 1, .int .i64 0, .int .u32 1, .int .u32 0, .bool false] 24)))
  have HBhb : Hid (Below w7.heap.size w7 (whb.alloc (.cells #[.int .i64 3, .int .i64 1, .int .i64 0, .int .u32 1, .int .u32 0, .bool false] 24))) := Hid.in (bstep (bstep HBha.out (Nat.le_refl _) hb) (Nat.le_refl _) (below_alloc _ _))
  have HRhb : Hid (RowE (whb.alloc (.cells #[.int .i64 3, .int .i64 1, .int .i64 0, .int .u32 1, .int .u32 0, .bool false] 24)) (some ⟨whb.heap.size, 0, none⟩) 1 [⟨3, 1, 0, 1, 0, false⟩]) := Hid.in (RowE.lits whb [⟨3, 1, 0, 1, 0, false⟩] _ rfl)
  clear hb HOha HGha HNha HBha
  go_wp2_with (first | (at_builtin; refine wpList_concatA rfl 26 24 6 40 _ (.tmp 33) (.tmp 35) rfl Tryd.underlying26 Tryd.infoEv rfl (by decide) (by decide) w7.heap.size aoha (some ⟨whb.heap.size, 0, none⟩) 4 capha 1 1 (runs4.map Ev.cs) ([⟨3, 1, 0, 1, 0, false⟩].map Ev.cs) rfl HOhb.out rfl rfl HRhb.out HBhb.out.size (by decide) ?_; intro aohc caphc whc HOhc HGhc _ _) | fail)
  have HBhc : Hid (Below w7.heap.size w7 whc) := Hid.in (HBhb.out.grown HGhc.out HBhb.out.size HKha.out)
  have HRhc : Hid (RowE whc aohc caphc (runs4 ++ [⟨3, 1, 0, 1, 0, false⟩])) := Hid.in (Rows'.evs (by rw [List.map_append]; exact HOhc.out))
  clear HOhb HRhb HOhc HGhc HBhb HKha
  refine (treplay_c _ sa (HE.out.below (bstep HBL.out (Nat.le_refl _) (bstep HBw7.out (Nat.le_refl _) HBhc.out))) 2 2 (by decide) (by decide) (by decide) (by decide) _ 5 _ (runs4 ++ [⟨3, 1, 0, 1, 0, false⟩]) rfl (by decide) HRhc.out (some (4, 10, 1)) (by decide +kernel) _ rfl).mono ?_
  rintro r w8 ⟨hr, hb6⟩
  obtain rfl : r = _ := hr
  have HOw8 := Hid.in (HOw7.out.step (bstep HBhc.out (Nat.le_refl _) hb6))
  have HBw8 := Hid.in (bstep HBw7.out (Nat.le_refl _) (bstep HBhc.out (Nat.le_refl _) hb6))
  clear hb6 HRhc HBhc HBw7 HOw7
  go_wp2_with (first | (at_builtin; refine wpList_concatA rfl 26 24 6 40 _ (.tmp 41) (.tmp 42) rfl Tryd.underlying26 Tryd.infoEv rfl (by decide) (by decide) w8.heap.size (some ⟨w8.heap.size, 0, none⟩) (some ⟨lb, 0, none⟩) 0 0 4 4 [] (runs4.map Ev.cs) rfl (OwnA.empty _ _ _ _ (Nat.le_refl _)) rfl rfl (HRL.out.step (bstep HBw8.out (Nat.le_refl _) (below_alloc _ _))) (below_alloc _ _).size (by decide) ?_; intro aoia capia wia HOia HGia HNia _) | fail)
  have HBia : Hid (Below w8.heap.size w8 wia) := Hid.in ((below_alloc w8 _).grown HGia.out (below_alloc _ _).size (fun k hk => by cases hk; exact Nat.le_refl _))
  have HKia : Hid (∀ k, oblk aoia = some k → w8.heap.size ≤ k) := Hid.in (fun k hk => (HOia.out.blk k hk).1)
  refine (ev_c _ _ _ _ _).mono ?_
  rintro r wib ⟨rfl, hb⟩
  have HOib := Hid.in ((HOia.out.step hb).step (below_alloc wib (.cells #[.int .i64 4, .int .i64 0, .int .i64 0, .int .u32 0, .int .u32 0, .bool false] 24)))
  have HBib : Hid (Below w8.heap.size w8 (wib.alloc (.cells #[.int .i64 4, .int .i64 0, .int .i64 0, .int .u32 0, .int .u32 0, .bool false] 24))) := Hid.in (bstep (bstep HBia.out (Nat.le_refl _) hb) (Nat.le_refl _) (below_alloc _ _))
  have HRib : Hid (RowE (wib.alloc (.cells #[.int .i64 4, .int .i64 0, .int .i64 0, .int .u32 0, .int .u32 0, .bool false] 24)) (some ⟨wib.heap.size, 0, none⟩) 1 [⟨4, 0, 0, 0, 0, false⟩]) := Hid.in (RowE.lits wib [⟨4, 0, 0, 0, 0, false⟩] _ rfl)
  clear hb HOia HGia HNia HBia
  go_wp2_with (first | (at_builtin; refine wpList_concatA rfl 26 24 6 40 _ (.tmp 43) (.tmp 45) rfl Tryd.underlying26 Tryd.infoEv rfl (by decide) (by decide) w8.heap.size aoia (some ⟨wib.heap.size, 0, none⟩) 4 capia 1 1 (runs4.map Ev.cs) ([⟨4, 0, 0, 0, 0, false⟩].map Ev.cs) rfl HOib.out rfl rfl HRib.out HBib.out.size (by decide) ?_; intro aoic capic wic HOic HGic _ _) | fail)
  have HBic : Hid (Below w8.heap.size w8 wic) := Hid.in (HBib.out.grown HGic.out HBib.out.size HKia.out)
  have HRic : Hid (RowE wic aoic capic (runs4 ++ [⟨4, 0, 0, 0, 0, false⟩])) := Hid.in (Rows'.evs (by rw [List.map_append]; exact HOic.out))
  clear HOib HRib HOic HGic HBib HKia
  refine (treplay_c _ sa (HE.out.below (bstep HBL.out (Nat.le_refl _) (bstep HBw8.out (Nat.le_refl _) HBic.out))) 2 2 (by decide) (by decide) (by decide) (by decide) _ 5 _ (runs4 ++ [⟨4, 0, 0, 0, 0, false⟩]) rfl (by decide) HRic.out (some (4, 9, 0)) (by decide +kernel) _ rfl).mono ?_
  rintro r w9 ⟨hr, hb6⟩
  obtain rfl : r = _ := hr
  have HOw9 := Hid.in (HOw8.out.step (bstep HBic.out (Nat.le_refl _) hb6))
  have HBw9 := Hid.in (bstep HBw8.out (Nat.le_refl _) (bstep HBic.out (Nat.le_refl _) hb6))
  clear hb6 HRic HBic HBw8 HOw8
  go_wp2_with fail
  refine (sameU_any _ ao (some ⟨w9.heap.size, 0, none⟩) 2 2 cap 2 [0, 0] [0, 0] rfl rfl (HOw9.out.step (below_alloc _ _)) (Rows'.lits1 w9 [0, 0] _ rfl) (by decide) true (by decide)).mono ?_
  rintro r wx ⟨rfl, hb⟩
  have HBx := Hid.in (bstep HBL.out (Nat.le_refl _) (bstep (bstep HBw9.out (Nat.le_refl _) (below_alloc _ _)) (Nat.le_refl _) hb))
  clear hb HBw9 HOw9
  go_wp2_with fail
  refine (kIs_flt opTRep 4 [(opTStep, 0)] 10 (by omega) (by omega) wx sa (HE.out.below HBx.out)).mono ?_
  rintro r wy ⟨rfl, hb⟩
  have HBy := Hid.in (bstep HBx.out (Nat.le_refl _) hb)
  clear hb HBx
  go_wp2_with fail
  refine (ops_chn [(opTRep, 4), (opTStep, 0)] (sa 10) wy (by decide)).mono ?_
  rintro r w6 ⟨v6, rfl, hO6, hb6⟩
  have HR6 : Hid (Reads w6 v6 [opTRep, opTStep]) := Hid.in (reads_of_owns [opTRep, opTStep] hO6 rfl rfl)
  have HB6 := Hid.in (bstep HBy.out (Nat.le_refl _) hb6)
  clear hO6 hb6 HBy
  go_wp2_with fail
  refine (same_reads v6 _ [opTRep, opTStep] _ (by decide) (HR6.out.alloc _) (reads_new _ _ rfl _ _ _)).mono ?_
  rintro r w7 ⟨rfl, hb7⟩
  have HB7 := Hid.in (bstep HB6.out (Nat.le_refl _) (bstep (below_alloc w6 _) (Nat.le_refl _) hb7))
  clear hb7 HB6
  go_wp2_with fail
  refine (kIs_flt opTRep 4 [(opTStep, 1)] 10 (by omega) (by omega) w7 sa (HE.out.below HB7.out)).mono ?_
  rintro r w8 ⟨rfl, hb8⟩
  have HB8 := Hid.in (bstep HB7.out (Nat.le_refl _) hb8)
  clear hb8 HB7
  go_wp2_with fail
  refine (kIs_flt opTRep 4 [(opTStep, 0)] 9 (by omega) (by omega) w8 sa (HE.out.below HB8.out)).mono ?_
  rintro r w9 ⟨rfl, hb9⟩
  have HB9 := Hid.in (bstep HB8.out (Nat.le_refl _) hb9)
  clear hb9 HB8
  go_wp2
  go_ret
  exact ⟨rfl, HB9.out⟩
end Go.Proofs.YtncgjclehplfeaaDoor
