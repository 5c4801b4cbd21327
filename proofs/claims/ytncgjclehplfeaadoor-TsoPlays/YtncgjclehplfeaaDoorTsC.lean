/- DERIVED of the program: the project's model: push and pop of a core's stores by their contracts. Own work. -/
import Derived.Test.YtncgjclehplfeaaDoorTsB
import Derived.Test.YtncgjclehplfeaaDoorBfB
namespace Go.Proofs.YtncgjclehplfeaaDoor
open Go.RowKit Go.Extern.Stop Go.Stop Go.Extern

theorem Tryd.infoStore : (Tryd.prog.info? 113).map (fun i => (i.zero, i.size, i.bytes)) = some (some (.agg #[.int .i64 0, .int .u32 0]), 2, 16) := by kernel_rfl

theorem grown_trans' {w w1 w2 : World} {row : Option Nat} (h1 : w.grownBy w1 row) (h2 : w1.grownBy w2 row) : w.grownBy w2 row :=
  ⟨h2.os.trans h1.os, h2.tape.trans h1.tape, h2.output.trans h1.output, Nat.le_trans h1.size h2.size, fun k hk hne => (h2.block k (Nat.lt_of_lt_of_le hk h1.size) hne).trans (h1.block k hk hne)⟩

/-- A core's part became another one: in its own blocks, or new ones. -/
structure Moved (w w' : World) (bb o : Nat) (c c' : Cr) : Prop where
  b : ∀ (o0 i n cap : Nat) (rs : List (List Value)), o = o0 + i * 3 → rs[i]? = some (pc c) → i < n → OwnA 88 3 w 0 (some ⟨bb, o0, none⟩) n cap rs → OwnA 88 3 w' 0 (some ⟨bb, o0, none⟩) n cap (rs.set i (pc c'))
  f : Fr (bb :: c.blks) w w'
  s : ∀ k ∈ c'.blks, k ∈ c.blks ∨ w.heap.size ≤ k
  n : c'.blks.Nodup
  r : CrAt shP w' c'

theorem nodup_blks {c : Cr} (h : c.blks.Nodup) : ∀ k, oblk c.al = some k → oblk c.ao ≠ some k := by
  intro k hk e
  exact (List.nodup_append.1 h).2.2 k (Option.mem_toList.2 e) k (Option.mem_toList.2 hk) rfl
theorem blks_nodup {c : Cr} (h : ∀ k, oblk c.al = some k → oblk c.ao ≠ some k) : c.blks.Nodup := by
  unfold Cr.blks
  refine List.nodup_append.2 ⟨by cases oblk c.ao <;> simp, by cases oblk c.al <;> simp, fun a ha b hb e => ?_⟩
  subst e
  exact h a (Option.mem_toList.1 hb) (Option.mem_toList.1 ha)

/-- Push's writes, put together. -/
theorem moved_push {w w1 w' : World} {bb o nw N lb ol : Nat} {c : Cr} (h : CoreAt w bb o c) (hk : c.ok nw N) (hbb : bb ∉ c.blks) (hnd : c.blks.Nodup) (a : Nat) (ha : a < nw) (v : Int) (el : c.al = some ⟨lb, ol, none⟩) (ao' : Option Addr) (cap' : Nat)
    (hs : OwnA 113 2 w1 0 ao' (c.L.length + 1) cap' ((c.L ++ [((a : Int), v)]).map wc)) (hg : w.grownBy w1 (oblk c.ao)) (hn : ∀ k, oblk ao' = some k → oblk c.ao = some k ∨ w.heap.size ≤ k)
    (hb : Below w1.heap.size ((w1.setCell ⟨bb, o, none⟩ (.slice ao' (c.L.length + 1) cap')).setCell ⟨lb, ol + a, none⟩ (.int .i64 ((c.g + (c.L.length + 1) : Nat) : Int))) w') :
    Moved w w' bb o c ⟨ao', cap', c.L ++ [((a : Int), v)], c.g, c.al, c.lcap, c.T.set a (c.g + (c.L.length + 1))⟩ := by
  have hlb : lb ∈ c.blks := List.mem_append_right _ (by rw [el]; simp [oblk])
  have hbl : bb ≠ lb := fun e => hbb (e ▸ hlb)
  have hbz : bb < w.heap.size := lt_cell h.c0
  have hlz : lb < w.heap.size := h.r.lt lb hlb
  have hban : oblk c.ao ≠ some bb := fun e => hbb (List.mem_append_left _ (Option.mem_toList.2 e))
  have hlan : oblk c.ao ≠ some lb := nodup_blks hnd lb (by rw [el]; rfl)
  have hnb : oblk ao' ≠ some bb := fun e => by rcases hn _ e with h1 | h1; (· exact hban h1); omega
  have hnl : oblk ao' ≠ some lb := fun e => by rcases hn _ e with h1 | h1; (· exact hlan h1); omega
  have same : ∀ k, k < w1.heap.size → k ≠ bb → k ≠ lb → w'.heap[k]? = w1.heap[k]? := fun k hk h1 h2 => by
    rw [hb.block k (by simpa [World.setCell] using hk), Below.heap_setCell _ _ _ k h2, Below.heap_setCell _ _ _ k h1]
  have hsz1 := hg.size
  have hl1 : OwnA 3 1 w1 0 (some ⟨lb, ol, none⟩) c.T.length c.lcap (c.T.map tc) := by
    rw [← el]
    exact h.r.l.keep (fun k hk => hg.block k (h.r.lt k (List.mem_append_right _ (Option.mem_toList.2 hk))) (fun e => hlan (by rw [el] at hk; cases hk; exact e.symm)))
  refine ⟨fun o0 i n cap rs ho hi hin hO => ?_, ?_, fun k hk => ?_, blks_nodup (fun k hk e => ?_), ⟨?_, ?_⟩⟩
  · have h1 := (hO.kept hg (fun k hk => by cases hk; exact fun e => hban e.symm)).putc (by decide) i hin (pc c) hi 0 (by decide) (.slice ao' (c.L.length + 1) cap')
    rw [← ho, Nat.add_zero] at h1
    have h2 := OwnA.keep (w' := w') h1 (fun k hk => by
      cases hk
      rw [hb.block bb (by omega), Below.heap_setCell _ _ _ bb hbl])
    have e2 : (pc c).set 0 (.slice ao' (c.L.length + 1) cap') = pc ⟨ao', cap', c.L ++ [((a : Int), v)], c.g, c.al, c.lcap, c.T.set a (c.g + (c.L.length + 1))⟩ := by
      simp only [pc, List.set_cons_zero, List.length_append, List.length_singleton, List.length_set]
    rw [e2] at h2
    exact h2
  · refine ⟨hb.os.trans hg.os, hb.tape.trans hg.tape, hb.output.trans hg.output, Nat.le_trans hsz1 (by simpa [World.setCell] using hb.size), fun k hk hn2 => ?_⟩
    rw [same k (by omega) (fun e => hn2 (by rw [e]; exact List.mem_cons_self)) (fun e => hn2 (by rw [e]; exact List.mem_cons_of_mem _ hlb))]
    exact hg.block k hk (fun e => hn2 (List.mem_cons_of_mem _ (List.mem_append_left _ (Option.mem_toList.2 e.symm))))
  · rcases List.mem_append.1 hk with hk | hk
    · rcases hn k (Option.mem_toList.1 hk) with h1 | h1
      · exact .inl (List.mem_append_left _ (Option.mem_toList.2 h1))
      · exact .inr h1
    · exact .inl (List.mem_append_right _ hk)
  · rw [el] at hk
    cases hk
    exact hnl e
  · change OwnA 113 2 w' 0 ao' (c.L ++ [_]).length cap' _
    rw [List.length_append, List.length_singleton]
    refine OwnA.keep hs (fun k hk => ?_)
    obtain ⟨_, cur, hc⟩ := hs.blk k hk
    exact same k (blk_lt hc) (fun e => hnb (by rw [← e]; exact hk)) (fun e => hnl (by rw [← e]; exact hk))
  · have hal : a < c.T.length := by rw [hk.len]; exact ha
    have hl2 : OwnA 3 1 (w1.setCell ⟨bb, o, none⟩ (.slice ao' (c.L.length + 1) cap')) 0 (some ⟨lb, ol, none⟩) c.T.length c.lcap (c.T.map tc) := hl1.keep (fun k hk => by cases hk; exact Below.heap_setCell _ _ _ lb (fun e => hbl e.symm))
    have h3 := hl2.putc (by decide) a hal (tc c.T[a]) (by simp [hal]) 0 (by decide) (.int .i64 ((c.g + (c.L.length + 1) : Nat) : Int))
    rw [Nat.mul_one, Nat.add_zero] at h3
    have h4 := OwnA.keep (w' := w') h3 (fun k hk => by cases hk; exact hb.block lb (by omega))
    have e5 : (c.T.map tc).set a ((tc c.T[a]).set 0 (.int .i64 ((c.g + (c.L.length + 1) : Nat) : Int))) = (c.T.set a (c.g + (c.L.length + 1))).map tc := by rw [List.map_set]; rfl
    rw [e5] at h4
    change OwnA 3 1 w' 0 c.al (c.T.set a _).length _ _
    rw [el, List.length_set]
    exact h4

set_option maxHeartbeats 3200000 in
set_option maxRecDepth 20000 in
theorem push_raw (w : World) (bb o nw N : Nat) (c : Cr) (h : CoreAt w bb o c) (hk : c.ok nw N) (hN : N < 100000) (a : Nat) (ha : a < nw) (v : Int) (hbb : bb ∉ c.blks) (hnd : c.blks.Nodup) :
    Calls Tryd.prog 50 #[.pointer (some ⟨bb, o, none⟩), .agg #[.int .i64 (a : Int), .int .u32 v]] w fun r w' => r = .returned (.tuple #[]) ∧ ∃ ao' cap', Moved w w' bb o c ⟨ao', cap', c.L ++ [((a : Int), v)], c.g, c.al, c.lcap, c.T.set a (c.g + (c.L.length + 1))⟩ := by
  obtain ⟨lb, ol, t, el, ct, cf, hT, hi, hle⟩ := h.last hk a ha
  have hmost := hk.most
  have HMV := Hid.in (fun (ao' : Option Addr) (cap' : Nat) (w1 w' : World) => moved_push (w1 := w1) (w' := w') h hk hbb hnd a ha v el ao' cap')
  have c0 := h.c0
  have c1 := h.c1
  have c2 := h.c2
  rw [hk.len] at c2
  have HO := Hid.in h.r.s
  have hf := h.f o
  have hlb : lb ∈ c.blks := List.mem_append_right _ (by rw [el]; simp [oblk])
  have HD : Hid (oblk c.ao ≠ some bb) := Hid.in (fun e => hbb (List.mem_append_left _ (Option.mem_toList.2 e)))
  have HD2 : Hid (oblk c.ao ≠ some lb ∧ lb ≠ bb) := Hid.in ⟨nodup_blks hnd lb (by rw [el]; rfl), fun e => hbb (e ▸ hlb)⟩
  have hbz : bb < w.heap.size := lt_cell c0
  have hlz : lb < w.heap.size := lt_cell ct
  clear hbb hnd hlb
  obtain ⟨ao, cap, L, g, al, lcap, T⟩ := c
  simp only [] at el c0 c1 c2 hi hle hmost HO HD HD2 HMV
  subst el
  obtain ⟨n, hn⟩ : ∃ n, L.length = n := ⟨_, rfl⟩
  rw [hn] at c0 hle hmost HO
  have HN := Hid.in hn
  have i1 : (a : Int) < (nw : Int) := by omega
  have hn1 : n + 1 ≤ 1000000 := by omega
  obtain ⟨z, hz⟩ : ∃ z : Nat, g + (n + 1) = z := ⟨_, rfl⟩
  have HZ := Hid.in hz
  have hzw : IntKind.i64.wrap ((g : Int) + ((n : Int) + 1)) = (z : Int) := by rw [show (g : Int) + ((n : Int) + 1) = (z : Int) by omega]; exact wrapI (by omega) (by omega)
  have kept : ∀ W, w.grownBy W (oblk ao) → W.cell? ⟨bb, o, none⟩ = some (.slice ao n cap) ∧ W.cell? ⟨bb, o + 1, none⟩ = some (.int .i64 (g : Int)) ∧ W.cell? ⟨bb, o + 2, none⟩ = some (.slice (some ⟨lb, ol, none⟩) nw lcap) ∧ W.frozen? ⟨bb, o, none⟩ = false ∧ W.cell? ⟨lb, ol + a, none⟩ = some (.int .i64 (t : Int)) ∧ W.frozen? ⟨lb, ol + a, none⟩ = false := by
    intro W hW
    have e1 := hW.block bb hbz (fun e => HD.out e.symm)
    have e2 := hW.block lb hlz (fun e => HD2.out.1 e.symm)
    refine ⟨?_, ?_, ?_, ?_, ?_, ?_⟩
    · rw [← c0]; simp only [World.cell?, e1]
    · rw [← c1]; simp only [World.cell?, e1]
    · rw [← c2]; simp only [World.cell?, e1]
    · rw [← hf]; simp only [World.frozen?, e1]
    · rw [← ct]; simp only [World.cell?, e2]
    · rw [← cf]; simp only [World.frozen?, e2]
  have KEPT := Hid.in kept
  clear h hk hT hi hle hmost hn hz c0 c1 c2 hf ct cf kept
  go_enter Tryd.func50, Tryd.ntmps50
  go_upto_region 1 with fail
  generalize hwx : w.alloc _ = wx
  have HX : Hid (Below w.heap.size w wx) := Hid.in (by rw [← hwx]; exact below_alloc _ _)
  have hsz : wx.heap.size = w.heap.size + 1 := by rw [← hwx]; simp
  have b0 : ∀ W, wx.grownBy W (oblk ao) → W.cell? ⟨w.heap.size, 0, none⟩ = some (.int .i64 (a : Int)) ∧ W.cell? ⟨w.heap.size, 1, none⟩ = some (.int .u32 v) := by
    intro W hW
    have hne : ∀ k, oblk ao = some k → k < w.heap.size := fun k hk => by obtain ⟨_, cur, hc⟩ := HO.out.blk k hk; exact blk_lt hc
    have e1 := hW.block w.heap.size (by omega) (fun e => absurd (hne _ e.symm) (by omega))
    have e2 : wx.heap[w.heap.size]? = some (.cells #[.int .i64 (a : Int), .int .u32 v] 113 (0, 0)) := by rw [← hwx]; exact heap_alloc_new _ _
    exact ⟨blk_cell (e1.trans e2) rfl, blk_cell (e1.trans e2) rfl⟩
  have B0 := Hid.in b0
  have hgx : ∀ W, wx.grownBy W (oblk ao) → w.grownBy W (oblk ao) := fun W h => grown_trans' (grown_of_below HX.out _) h
  have HGX := Hid.in hgx
  have HOx : Hid (OwnA 113 2 (wx.drew.alloc (.cells #[.int .i64 (a : Int), .int .u32 v] 113)) 0 ao n cap (L.map wc)) := Hid.in (HO.out.step (HX.out.drew.alloc (by simp [hsz]) _))
  have HRx : Hid (Rows' 2 (wx.drew.alloc (.cells #[.int .i64 (a : Int), .int .u32 v] 113)) (some ⟨wx.heap.size, 0, none⟩) 1 [wc ((a : Int), v)]) := Hid.in (Rows'.lit 2 wx.drew 113 (wc ((a : Int), v)) _ rfl rfl (wc_one _))
  have HGa : Hid (wx.grownBy (wx.drew.alloc (.cells #[.int .i64 (a : Int), .int .u32 v] 113)) (oblk ao)) := Hid.in (grown_of_below ((Below.refl wx.heap.size wx).drew.alloc (Nat.le_refl _) _) _)
  have HGd : Hid (wx.grownBy wx.drew (oblk ao)) := Hid.in (grown_of_below (Below.refl _ _).drew _)
  have HSZ := Hid.in hsz
  clear b0 hwx hgx hsz
  refine wp_region_but (fun W => cellIs bb o (.slice ao n cap) W ∧ cellIs w.heap.size 0 (.int .i64 (a : Int)) W ∧ cellIs w.heap.size 1 (.int .u32 v) W) 10 (by kernel_rfl) ?_
  have HS : Hid (cellIs bb o (.slice ao n cap) wx.drew ∧ cellIs w.heap.size 0 (.int .i64 (a : Int)) wx.drew ∧ cellIs w.heap.size 1 (.int .u32 v) wx.drew) := Hid.in ⟨(KEPT.out _ (HGX.out _ HGd.out)).1, B0.out _ HGd.out⟩
  refine wpBut_take (i := 0) (v := ?_) rfl (by kernel_rfl) (by kernel_rfl) (by exact fun _ _ _ h => h) HS.out (Or.inl ⟨by rfl, ?_⟩) ?_
  case refine_2 => (intro w hSw; obtain ⟨s1, s2, s3⟩ := hSw; simp only [cellIs] at s1 s2 s3; go_simp; try with_reducible rfl)
  simp only [Act.put, List.setIfInBounds_toArray, List.set_cons_zero, List.set_cons_succ]
  refine wpBut_take (i := 1) (v := ?_) rfl (by kernel_rfl) (by kernel_rfl) (by exact fun _ _ _ h => h) HS.out (Or.inl ⟨by rfl, ?_⟩) ?_
  case refine_2 => (intro w hSw; obtain ⟨s1, s2, s3⟩ := hSw; simp only [cellIs] at s1 s2 s3; go_simp; try with_reducible rfl)
  simp only [Act.put, List.setIfInBounds_toArray, List.set_cons_zero, List.set_cons_succ]
  refine wpBut_take (i := 2) (v := ?_) rfl (by kernel_rfl) (by kernel_rfl) (by exact fun _ _ _ h => h) HS.out (Or.inl ⟨by rfl, ?_⟩) ?_
  case refine_2 => (intro w hSw; obtain ⟨s1, s2, s3⟩ := hSw; simp only [cellIs] at s1 s2 s3; go_simp; try with_reducible rfl)
  simp only [Act.put, List.setIfInBounds_toArray, List.set_cons_zero, List.set_cons_succ]
  refine wpBut_take (i := 3) (v := ?_) rfl (by kernel_rfl) (by kernel_rfl) (by exact fun _ _ _ h => h) HS.out (Or.inl ⟨by rfl, ?_⟩) ?_
  case refine_2 => (intro w hSw; obtain ⟨s1, s2, s3⟩ := hSw; simp only [cellIs] at s1 s2 s3; go_simp; try with_reducible rfl)
  simp only [Act.put, List.setIfInBounds_toArray, List.set_cons_zero, List.set_cons_succ]
  refine wpBut_take (i := 4) (v := ?_) rfl (by kernel_rfl) (by kernel_rfl) (by exact fun _ _ _ h => h) HS.out (Or.inl ⟨by rfl, ?_⟩) ?_
  case refine_2 => (intro w hSw; obtain ⟨s1, s2, s3⟩ := hSw; simp only [cellIs] at s1 s2 s3; go_simp; try with_reducible rfl)
  simp only [Act.put, List.setIfInBounds_toArray, List.set_cons_zero, List.set_cons_succ]
  refine wpBut_take (i := 5) (v := ?_) rfl (by kernel_rfl) (by kernel_rfl) (by exact fun _ _ _ h => h) HS.out (Or.inl ⟨by rfl, ?_⟩) ?_
  case refine_2 => (intro w hSw; obtain ⟨s1, s2, s3⟩ := hSw; simp only [cellIs] at s1 s2 s3; go_simp; try with_reducible rfl)
  simp only [Act.put, List.setIfInBounds_toArray, List.set_cons_zero, List.set_cons_succ]
  refine wpBut_one (i := 6) rfl (by kernel_rfl) (fun K HK => ?_)
  go_simp
  refine HK.out _ _ (fun _ => ⟨(KEPT.out _ (HGX.out _ HGa.out)).1, B0.out _ HGa.out⟩) ?_
  clear HK K
  refine wpBut_one (i := 7) rfl (by kernel_rfl) (fun K HK => ?_)
  refine step_concatA rfl 86 113 2 16 _ (.tmp 8) (.tmp 10) rfl Tryd.underlying86 Tryd.infoStore rfl (by decide) (by decide) 0 ao (some ⟨wx.heap.size, 0, none⟩) n cap 1 1 (L.map wc) [wc ((a : Int), v)] (by rfl) HOx.out (by rfl) rfl HRx.out (Nat.zero_le _) hn1 ?_
  intro ao3 cap3 w3 HO3 HG3 HN3 _
  have HG4 : Hid (wx.grownBy w3 (oblk ao)) := Hid.in (grown_trans' HGa.out HG3.out)
  refine HK.out _ _ (fun _ => ⟨(KEPT.out _ (HGX.out _ HG4.out)).1, B0.out _ HG4.out⟩) ?_
  simp only [Act.put, List.setIfInBounds_toArray, List.set_cons_zero, List.set_cons_succ]
  clear HK K HS
  have HS : Hid (cellIs bb o (.slice ao n cap) w3 ∧ cellIs w.heap.size 0 (.int .i64 (a : Int)) w3 ∧ cellIs w.heap.size 1 (.int .u32 v) w3) := Hid.in ⟨(KEPT.out _ (HGX.out _ HG4.out)).1, B0.out _ HG4.out⟩
  refine wpBut_take (i := 8) (v := ?_) rfl (by kernel_rfl) (by kernel_rfl) (by exact fun _ _ _ h => h) HS.out (Or.inl ⟨by rfl, ?_⟩) ?_
  case refine_2 => (intro w hSw; obtain ⟨s1, s2, s3⟩ := hSw; simp only [cellIs] at s1 s2 s3; go_simp; try with_reducible rfl)
  simp only [Act.put, List.setIfInBounds_toArray, List.set_cons_zero, List.set_cons_succ]
  refine wpBut_take (i := 9) (v := ?_) rfl (by kernel_rfl) (by kernel_rfl) (by exact fun _ _ _ h => h) HS.out (Or.inl ⟨by rfl, ?_⟩) ?_
  case refine_2 => (intro w hSw; obtain ⟨s1, s2, s3⟩ := hSw; simp only [cellIs] at s1 s2 s3; go_simp; try with_reducible rfl)
  simp only [Act.put, List.setIfInBounds_toArray, List.set_cons_zero, List.set_cons_succ]
  refine wpBut_one (i := 10) rfl (by kernel_rfl) (fun K HK => ?_)
  have hz1 := (KEPT.out _ (HGX.out _ HG4.out)).1
  have hz2 := (KEPT.out _ (HGX.out _ HG4.out)).2.2.2.1
  go_simp
  refine HK.out _ _ (fun h => absurd rfl h) ?_
  clear HK K hz1 hz2
  refine wpBut_done (by kernel_rfl) ?_ _
  have HG5 : Hid (w.grownBy w3 (oblk ao)) := Hid.in (HGX.out _ HG4.out)
  clear HS HOx HRx HGa HGd
  obtain ⟨k0, k1, k2, kf, kt, ktf⟩ := KEPT.out _ HG5.out
  have hne := HD2.out.2
  generalize hW : w3.setCell ⟨bb, o, none⟩ (.slice ao3 (n + 1) cap3) = W
  have HW := Hid.in hW
  have d0 : W.cell? ⟨bb, o, none⟩ = some (.slice ao3 (n + 1) cap3) := by rw [← hW]; exact World.cell?_setCell_same _ _ _ k0
  have d1 : W.cell? ⟨bb, o + 1, none⟩ = some (.int .i64 (g : Int)) := by rw [← hW]; exact (World.cell?_setCell_other _ _ _ _ (by simp)).trans k1
  have d2 : W.cell? ⟨bb, o + 2, none⟩ = some (.slice (some ⟨lb, ol, none⟩) nw lcap) := by rw [← hW]; exact (World.cell?_setCell_other _ _ _ _ (by simp)).trans k2
  have ds : W.cell? ⟨w.heap.size, 0, none⟩ = some (.int .i64 (a : Int)) := by
    rw [← hW]
    exact (World.cell?_setCell_other _ _ _ _ (fun e => by have := congrArg Addr.block e; simp only [] at this; omega)).trans (B0.out _ HG4.out).1
  have dt : W.cell? ⟨lb, ol + a, none⟩ = some (.int .i64 (t : Int)) := by rw [← hW]; exact (World.cell?_setCell_other _ _ _ _ (fun e => hne (congrArg Addr.block e).symm)).trans kt
  have df : W.frozen? ⟨lb, ol + a, none⟩ = false := by rw [← hW, World.frozen?_setCell]; exact ktf
  clear k0 k1 k2 kf kt ktf hW hne
  go_upto_region 2 with fail
  refine wp_region_but (fun W => cellIs bb o (.slice ao3 (n + 1) cap3) W ∧ cellIs bb (o + 1) (.int .i64 (g : Int)) W ∧ cellIs bb (o + 2) (.slice (some ⟨lb, ol, none⟩) nw lcap) W ∧ cellIs w.heap.size 0 (.int .i64 (a : Int)) W) 17 (by kernel_rfl) ?_
  have HS : Hid (cellIs bb o (.slice ao3 (n + 1) cap3) W.drew ∧ cellIs bb (o + 1) (.int .i64 (g : Int)) W.drew ∧ cellIs bb (o + 2) (.slice (some ⟨lb, ol, none⟩) nw lcap) W.drew ∧ cellIs w.heap.size 0 (.int .i64 (a : Int)) W.drew) := Hid.in ⟨d0, d1, d2, ds⟩
  refine wpBut_take (i := 0) (v := ?_) rfl (by kernel_rfl) (by kernel_rfl) (by exact fun _ _ _ h => h) HS.out (Or.inl ⟨by rfl, ?_⟩) ?_
  case refine_2 => (intro w hSw; obtain ⟨s1, s2, s3, s4⟩ := hSw; simp only [cellIs] at s1 s2 s3 s4; go_simp; try with_reducible rfl)
  simp only [Act.put, List.setIfInBounds_toArray, List.set_cons_zero, List.set_cons_succ]
  refine wpBut_take (i := 1) (v := ?_) rfl (by kernel_rfl) (by kernel_rfl) (by exact fun _ _ _ h => h) HS.out (Or.inl ⟨by rfl, ?_⟩) ?_
  case refine_2 => (intro w hSw; obtain ⟨s1, s2, s3, s4⟩ := hSw; simp only [cellIs] at s1 s2 s3 s4; go_simp; try with_reducible rfl)
  simp only [Act.put, List.setIfInBounds_toArray, List.set_cons_zero, List.set_cons_succ]
  refine wpBut_take (i := 2) (v := ?_) rfl (by kernel_rfl) (by kernel_rfl) (by exact fun _ _ _ h => h) HS.out (Or.inl ⟨by rfl, ?_⟩) ?_
  case refine_2 => (intro w hSw; obtain ⟨s1, s2, s3, s4⟩ := hSw; simp only [cellIs] at s1 s2 s3 s4; go_simp; try with_reducible rfl)
  simp only [Act.put, List.setIfInBounds_toArray, List.set_cons_zero, List.set_cons_succ]
  refine wpBut_take (i := 3) (v := ?_) rfl (by kernel_rfl) (by kernel_rfl) (by exact fun _ _ _ h => h) HS.out (Or.inl ⟨by rfl, ?_⟩) ?_
  case refine_2 => (intro w hSw; obtain ⟨s1, s2, s3, s4⟩ := hSw; simp only [cellIs] at s1 s2 s3 s4; go_simp; try with_reducible rfl)
  simp only [Act.put, List.setIfInBounds_toArray, List.set_cons_zero, List.set_cons_succ]
  refine wpBut_take (i := 4) (v := ?_) rfl (by kernel_rfl) (by kernel_rfl) (by exact fun _ _ _ h => h) HS.out (Or.inl ⟨by rfl, ?_⟩) ?_
  case refine_2 => (intro w hSw; obtain ⟨s1, s2, s3, s4⟩ := hSw; simp only [cellIs] at s1 s2 s3 s4; go_simp; try with_reducible rfl)
  simp only [Act.put, List.setIfInBounds_toArray, List.set_cons_zero, List.set_cons_succ]
  refine wpBut_take (i := 5) (v := ?_) rfl (by kernel_rfl) (by kernel_rfl) (by exact fun _ _ _ h => h) HS.out (Or.inl ⟨by rfl, ?_⟩) ?_
  case refine_2 => (intro w hSw; obtain ⟨s1, s2, s3, s4⟩ := hSw; simp only [cellIs] at s1 s2 s3 s4; go_simp; try with_reducible rfl)
  simp only [Act.put, List.setIfInBounds_toArray, List.set_cons_zero, List.set_cons_succ]
  refine wpBut_take (i := 6) (v := ?_) rfl (by kernel_rfl) (by kernel_rfl) (by exact fun _ _ _ h => h) HS.out (Or.inl ⟨by rfl, ?_⟩) ?_
  case refine_2 => (intro w hSw; obtain ⟨s1, s2, s3, s4⟩ := hSw; simp only [cellIs] at s1 s2 s3 s4; go_simp; try with_reducible rfl)
  simp only [Act.put, List.setIfInBounds_toArray, List.set_cons_zero, List.set_cons_succ]
  refine wpBut_take (i := 7) (v := ?_) rfl (by kernel_rfl) (by kernel_rfl) (by exact fun _ _ _ h => h) HS.out (Or.inl ⟨by rfl, ?_⟩) ?_
  case refine_2 => (intro w hSw; obtain ⟨s1, s2, s3, s4⟩ := hSw; simp only [cellIs] at s1 s2 s3 s4; go_simp; try with_reducible rfl)
  simp only [Act.put, List.setIfInBounds_toArray, List.set_cons_zero, List.set_cons_succ]
  refine wpBut_take (i := 8) (v := ?_) rfl (by kernel_rfl) (by kernel_rfl) (by exact fun _ _ _ h => h) HS.out (Or.inl ⟨by rfl, ?_⟩) ?_
  case refine_2 => (intro w hSw; obtain ⟨s1, s2, s3, s4⟩ := hSw; simp only [cellIs] at s1 s2 s3 s4; go_simp; try with_reducible rfl)
  simp only [Act.put, List.setIfInBounds_toArray, List.set_cons_zero, List.set_cons_succ]
  refine wpBut_take (i := 9) (v := ?_) rfl (by kernel_rfl) (by kernel_rfl) (by exact fun _ _ _ h => h) HS.out (Or.inl ⟨by rfl, ?_⟩) ?_
  case refine_2 => (intro w hSw; obtain ⟨s1, s2, s3, s4⟩ := hSw; simp only [cellIs] at s1 s2 s3 s4; go_simp; try with_reducible rfl)
  simp only [Act.put, List.setIfInBounds_toArray, List.set_cons_zero, List.set_cons_succ]
  refine wpBut_take (i := 10) (v := ?_) rfl (by kernel_rfl) (by kernel_rfl) (by exact fun _ _ _ h => h) HS.out (Or.inl ⟨by rfl, ?_⟩) ?_
  case refine_2 => (intro w hSw; obtain ⟨s1, s2, s3, s4⟩ := hSw; simp only [cellIs] at s1 s2 s3 s4; go_simp; try with_reducible rfl)
  simp only [Act.put, List.setIfInBounds_toArray, List.set_cons_zero, List.set_cons_succ]
  refine wpBut_take (i := 11) (v := ?_) rfl (by kernel_rfl) (by kernel_rfl) (by exact fun _ _ _ h => h) HS.out (Or.inl ⟨by rfl, ?_⟩) ?_
  case refine_2 => (intro w hSw; obtain ⟨s1, s2, s3, s4⟩ := hSw; simp only [cellIs] at s1 s2 s3 s4; go_simp; try with_reducible rfl)
  simp only [Act.put, List.setIfInBounds_toArray, List.set_cons_zero, List.set_cons_succ]
  refine wpBut_take (i := 12) (v := ?_) rfl (by kernel_rfl) (by kernel_rfl) (by exact fun _ _ _ h => h) HS.out (Or.inl ⟨by rfl, ?_⟩) ?_
  case refine_2 => (intro w hSw; obtain ⟨s1, s2, s3, s4⟩ := hSw; simp only [cellIs] at s1 s2 s3 s4; go_simp; try with_reducible rfl)
  simp only [Act.put, List.setIfInBounds_toArray, List.set_cons_zero, List.set_cons_succ]
  refine wpBut_take (i := 13) (v := ?_) rfl (by kernel_rfl) (by kernel_rfl) (by exact fun _ _ _ h => h) HS.out (Or.inl ⟨by rfl, ?_⟩) ?_
  case refine_2 => (intro w hSw; obtain ⟨s1, s2, s3, s4⟩ := hSw; simp only [cellIs] at s1 s2 s3 s4; go_simp; try with_reducible rfl)
  simp only [Act.put, List.setIfInBounds_toArray, List.set_cons_zero, List.set_cons_succ]
  refine wpBut_take (i := 14) (v := ?_) rfl (by kernel_rfl) (by kernel_rfl) (by exact fun _ _ _ h => h) HS.out (Or.inl ⟨by rfl, ?_⟩) ?_
  case refine_2 => (intro w hSw; obtain ⟨s1, s2, s3, s4⟩ := hSw; simp only [cellIs] at s1 s2 s3 s4; go_simp; try with_reducible rfl)
  simp only [Act.put, List.setIfInBounds_toArray, List.set_cons_zero, List.set_cons_succ]
  refine wpBut_take (i := 15) (v := ?_) rfl (by kernel_rfl) (by kernel_rfl) (by exact fun _ _ _ h => h) HS.out (Or.inl ⟨by rfl, ?_⟩) ?_
  case refine_2 => (intro w hSw; obtain ⟨s1, s2, s3, s4⟩ := hSw; simp only [cellIs] at s1 s2 s3 s4; go_simp; try with_reducible rfl)
  simp only [Act.put, List.setIfInBounds_toArray, List.set_cons_zero, List.set_cons_succ]
  refine wpBut_take (i := 16) (v := ?_) rfl (by kernel_rfl) (by kernel_rfl) (by exact fun _ _ _ h => h) HS.out (Or.inl ⟨by rfl, ?_⟩) ?_
  case refine_2 => (intro w hSw; obtain ⟨s1, s2, s3, s4⟩ := hSw; simp only [cellIs] at s1 s2 s3 s4; go_simp; try with_reducible rfl)
  simp only [Act.put, List.setIfInBounds_toArray, List.set_cons_zero, List.set_cons_succ]
  refine wpBut_one (i := 17) rfl (by kernel_rfl) (fun K HK => ?_)
  go_simp
  refine HK.out _ _ (fun h => absurd rfl h) ?_
  clear HK K
  refine wpBut_done (by kernel_rfl) ?_ _
  go_end0
  have hs : OwnA 113 2 w3 0 ao3 (L.length + 1) cap3 ((L ++ [((a : Int), v)]).map wc) := by rw [HN.out, List.map_append]; exact HO3.out
  refine ⟨rfl, ao3, cap3, HMV.out ao3 cap3 w3 _ hs HG5.out (fun k hk => ?_) ?_⟩
  · rcases HN3.out k hk with h1 | h1
    · exact .inl h1
    · exact .inr (Nat.le_trans HX.out.size (Nat.le_trans (below_alloc wx _).size h1))
  · rw [HN.out, HZ.out, HW.out]
    exact (Below.refl _ _).drew

/-- Pop's writes, put together. -/
theorem moved_pop {w w' : World} {bb o g0 o0 : Nat} {A : Addr} {c : Cr} (h : CoreAt w bb o c) (hbb : bb ∉ c.blks) (hnd : c.blks.Nodup) (ea : c.ao = some ⟨g0, o0, none⟩) (hdr : OwnA 113 2 w 0 (some A) (c.L.length - 1) (c.cap - 1) ((c.L.drop 1).map wc)) (hA : oblk (some A) = some g0)
    (hb : Below w.heap.size ((w.setCell ⟨bb, o, none⟩ (.slice (some A) (c.L.length - 1) (c.cap - 1))).setCell ⟨bb, o + 1, none⟩ (.int .i64 ((c.g + 1 : Nat) : Int))) w') :
    Moved w w' bb o c ⟨some A, c.cap - 1, c.L.drop 1, c.g + 1, c.al, c.lcap, c.T⟩ := by
  have hg0 : g0 ∈ c.blks := List.mem_append_left _ (by rw [ea]; simp [oblk])
  have hbz : bb < w.heap.size := lt_cell h.c0
  have hl : (c.L.drop 1).length = c.L.length - 1 := List.length_drop ..
  have same : ∀ k, k < w.heap.size → k ≠ bb → w'.heap[k]? = w.heap[k]? := fun k hk h1 => by
    rw [hb.block k hk, Below.heap_setCell _ _ _ k h1, Below.heap_setCell _ _ _ k h1]
  have hother : ∀ k ∈ c.blks, w'.heap[k]? = w.heap[k]? := fun k hk => same k (h.r.lt k hk) (fun e => hbb (e ▸ hk))
  refine ⟨fun o1 i n cap rs ho hi hin hO => ?_, ?_, fun k hk => ?_, blks_nodup (fun k hk e => ?_), ⟨?_, ?_⟩⟩
  · have h1 := hO.putc (by decide) i hin (pc c) hi 0 (by decide) (.slice (some A) (c.L.length - 1) (c.cap - 1))
    have hil : i < rs.length := by rw [hO.len]; exact hin
    have h2 := h1.putc (by decide) i hin ((pc c).set 0 (.slice (some A) (c.L.length - 1) (c.cap - 1))) (by rw [List.getElem?_set_self hil]) 1 (by decide) (.int .i64 ((c.g + 1 : Nat) : Int))
    rw [← ho, Nat.add_zero, List.set_set] at h2
    have h3 := OwnA.keep (w' := w') h2 (fun k hk => by
      cases hk
      rw [hb.block bb hbz])
    have e2 : ((pc c).set 0 (.slice (some A) (c.L.length - 1) (c.cap - 1))).set 1 (.int .i64 ((c.g + 1 : Nat) : Int)) = pc ⟨some A, c.cap - 1, c.L.drop 1, c.g + 1, c.al, c.lcap, c.T⟩ := by
      simp only [pc, List.set_cons_zero, List.set_cons_succ, List.length_drop]
    rw [e2] at h3
    exact h3
  · refine ⟨hb.os, hb.tape, hb.output, by simpa [World.setCell] using hb.size, fun k hk hn2 => ?_⟩
    exact same k hk (fun e => hn2 (by rw [e]; exact List.mem_cons_self))
  · refine .inl ?_
    rcases List.mem_append.1 hk with hk | hk
    · refine List.mem_append_left _ ?_
      rw [ea]
      rw [show oblk (some A) = some g0 from hA] at hk
      exact hk
    · exact List.mem_append_right _ hk
  · refine nodup_blks hnd k hk ?_
    rw [ea]
    rw [show oblk (some A) = some g0 from hA] at e
    exact e
  · change OwnA 113 2 w' 0 (some A) (c.L.drop 1).length (c.cap - 1) ((c.L.drop 1).map wc)
    rw [hl]
    exact hdr.keep (fun k hk => hother k (by rw [hA] at hk; cases hk; exact hg0))
  · exact h.r.l.keep (fun k hk => hother k (List.mem_append_right _ (Option.mem_toList.2 hk)))

theorem pop_raw (w : World) (bb o N : Nat) (c : Cr) (h : CoreAt w bb o c) (hm : c.g + c.L.length ≤ N) (hN : N < 100000) (hbb : bb ∉ c.blks) (hnd : c.blks.Nodup) (h0 : 0 < c.L.length) :
    Calls Tryd.prog 51 #[.pointer (some ⟨bb, o, none⟩)] w fun r w' => r = .returned (.tuple #[]) ∧ ∃ ao' cap', Moved w w' bb o c ⟨ao', cap', c.L.drop 1, c.g + 1, c.al, c.lcap, c.T⟩ := by
  obtain ⟨b, o1, x, y, ea, _, _, _⟩ := h.r.s.wat 0 h0
  have hO := h.r.s
  rw [show c.ao = some ⟨b, o1, none⟩ from ea] at hO
  have hs1 := slice_from1 86 113 _ _ Tryd.underlying86 Tryd.infoStore b o1 c.L.length c.cap (by omega)
  have hTl := OwnA.tail hO (by omega)
  have hblk : oblk (some (if c.cap = 1 then (⟨b, o1, none⟩ : Addr) else ⟨b, o1 + 2, none⟩)) = some b := by split <;> rfl
  have c0 := h.c0
  have c1 := h.c1
  have hf := h.f o
  have hf1 := h.f (o + 1)
  rw [show c.ao = some ⟨b, o1, none⟩ from ea] at c0
  obtain ⟨A, hA⟩ : ∃ A, (if c.cap = 1 then (⟨b, o1, none⟩ : Addr) else ⟨b, o1 + 2, none⟩) = A := ⟨_, rfl⟩
  rw [hA] at hs1 hTl hblk
  have HMV := Hid.in (fun (w' : World) => moved_pop (w' := w') h hbb hnd ea hTl hblk)
  obtain ⟨n, hn⟩ : ∃ n, c.L.length = n := ⟨_, rfl⟩
  obtain ⟨g, hg⟩ : ∃ g, c.g = g := ⟨_, rfl⟩
  obtain ⟨cap, hcap⟩ : ∃ cap, c.cap = cap := ⟨_, rfl⟩
  rw [hn, hg] at hm
  rw [hn, hcap] at c0 hs1
  rw [hg] at c1
  rw [hn] at h0
  rw [hn, hcap, hg] at HMV
  have HGQ := Hid.in hg
  have hgw : IntKind.i64.wrap ((g : Int) + 1) = ((g + 1 : Nat) : Int) := by rw [show (g : Int) + 1 = ((g + 1 : Nat) : Int) by omega]; exact wrapI (by omega) (by omega)
  obtain ⟨z, hz⟩ : ∃ z, ((g + 1 : Nat) : Int) = z := ⟨_, rfl⟩
  rw [hz] at hgw HMV
  have i1 : (1 : Int) ≤ (n : Int) := by omega
  clear h hO hTl hblk hA hn hcap hg ea hbb hnd hz
  go_enter Tryd.func51, Tryd.ntmps51
  go_wp2
  go_end0
  refine ⟨rfl, some A, cap - 1, ?_⟩
  rw [HGQ.out]
  exact HMV.out _ (Below.refl _ _)
end Go.Proofs.YtncgjclehplfeaaDoor
