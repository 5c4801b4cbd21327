/- DERIVED of the program: do and Step of the project's model by their contracts. Own work. -/
import Derived.Test.YtncgjclehplfeaaDoorTsF
namespace Go.Proofs.YtncgjclehplfeaaDoor
open Go.RowKit Go.Extern.Stop Go.Stop Go.Extern

theorem Mdl.moved {w w' : World} {q i bb o0 : Nat} {H : Hd} {C : List Cr} {M : List Int} {c c' : Cr} (hT : Mdl shP w q H C M) (hc : C[i]? = some c) (hab : H.ab = some ⟨bb, o0, none⟩) (hm : Moved w w' bb (o0 + i * 3) c c') :
    Mdl shP w' q H (C.set i c') M ∧ (∀ k ∈ bks q H (C.set i c'), k ∈ bks q H C ∨ w.heap.size ≤ k) ∧ Fr (bks q H C) w w' := by
  obtain ⟨a1, a2, a3, _⟩ := hT.apart hc
  have hbb : oblk H.ab = some bb := by rw [hab]; rfl
  have hqb : q ≠ bb := fun e => a1 bb hbb e.symm
  have hqc : q ∉ c.blks := fun hq => (a3 q hq).1 rfl
  have hi : i < C.length := (List.getElem?_eq_some_iff.1 hc).1
  have hmem := List.mem_of_getElem? hc
  have hb := hm.b o0 i C.length H.capb (C.map shP.rf) rfl (by rw [List.getElem?_map, hc]; rfl) hi (by rw [← hab]; exact hT.own)
  rw [← hab] at hb
  obtain ⟨u1, u2⟩ := hT.upd (w2 := w') hc c' M rfl
    (hm.f.block q (blk_lt hT.blk) (fun h => by rcases List.mem_cons.1 h with h | h; (· exact hqb h); exact hqc h))
    (by rw [List.map_set]; exact hb)
    (hT.mem.keep (fun k hk => hm.f.block k (by obtain ⟨_, _, h2⟩ := hT.mem.blk k hk; exact blk_lt h2) (fun h => by
      rcases List.mem_cons.1 h with h | h
      · exact (a2 k hk).2 (by rw [h]; exact hbb)
      · exact (a3 k h).2.2 hk)))
    hm.r (fun k hk hn _ hab' _ => hm.f.block k (hT.memb k hk) (fun h => by
      rcases List.mem_cons.1 h with h | h
      · exact hab' (by rw [h]; exact hbb)
      · exact hn h)) hm.s hm.n
  refine ⟨u1, u2, ⟨hm.f.os, hm.f.tape, hm.f.output, hm.f.size, fun k hk hn => hm.f.block k hk (fun h => hn ?_)⟩⟩
  rcases List.mem_cons.1 h with h | h
  · exact mem_bks.2 (.inr (.inl (by rw [h]; exact hbb)))
  · exact mem_bks.2 (.inr (.inr (.inr ⟨c, hmem, h⟩)))

/-- A word of memory written. -/
theorem Mdl.mset {h : Sh} {w : World} {q a mb mo : Nat} {H : Hd} {C : List Cr} {M : List Int} (hT : Mdl h w q H C M) (ha : a < M.length) (hmm : H.am = some ⟨mb, mo, none⟩) (v : Int) :
    Mdl h (w.setCell ⟨mb, mo + a, none⟩ (.int .u32 v)) q H C (M.set a v) ∧ Fr (bks q H C) w (w.setCell ⟨mb, mo + a, none⟩ (.int .u32 v)) := by
  have hmb : oblk H.am = some mb := by rw [hmm]; rfl
  have n1 := (List.nodup_append.1 hT.nd).1
  have n2 := List.nodup_cons.1 n1
  have n3 := List.nodup_append.1 n2.2
  have hin : mb ∈ (oblk H.am).toList := Option.mem_toList.2 hmb
  have hq : mb ≠ q := fun e => n2.1 (by rw [← e]; exact List.mem_append_right _ hin)
  have hab : oblk H.ab ≠ some mb := fun e => n3.2.2 mb (Option.mem_toList.2 e) mb hin rfl
  have hcs : ∀ c ∈ C, mb ∉ c.blks := fun c hc hk => (List.nodup_append.1 hT.nd).2.2 mb (List.mem_cons_of_mem _ (List.mem_append_right _ hin)) mb (List.mem_flatMap.2 ⟨c, hc, hk⟩) rfl
  have other : ∀ k, k ≠ mb → (w.setCell ⟨mb, mo + a, none⟩ (.int .u32 v)).heap[k]? = w.heap[k]? := fun k hk => Below.heap_setCell _ _ _ k hk
  have hO := hT.mem
  rw [hmm] at hO
  have h1 := hO.putc (by decide) a ha (uc M[a]) (by simp [ha]) 0 (by decide) (.int .u32 v)
  rw [Nat.mul_one, Nat.add_zero] at h1
  have e5 : (M.map uc).set a ((uc M[a]).set 0 (.int .u32 v)) = (M.set a v).map uc := by rw [List.map_set]; rfl
  rw [e5, ← hmm] at h1
  refine ⟨⟨?_, hT.own.keep (fun k hk => other k (fun e => hab (by rw [← e]; exact hk))), by rw [List.length_set]; exact h1, fun c hc => (hT.each c hc).keep (fun k hk => other k (fun e => hcs c hc (by rw [← e]; exact hk))), hT.nd⟩, (Fr.refl _ w).setCell _ (mem_bks.2 (.inr (.inr (.inl hmb))))⟩
  rw [List.length_set]
  exact (other q (fun e => hq e.symm)).trans hT.blk

/-- A call made this of the model. -/
structure Turned (w w' : World) (q : Nat) (S S' : List Nat) (N : Nat) (A : List (List (Int × Int))) (M : List Int) : Prop where
  p : PM w' q S' N A M
  f : Fr S w w'
  s : ∀ k ∈ S', k ∈ S ∨ w.heap.size ≤ k
theorem Turned.same {w w' : World} {q N : Nat} {S : List Nat} {A : List (List (Int × Int))} {M : List Int} (h : PM w q S N A M) (hb : Below w.heap.size w w') : Turned w w' q S S N A M := ⟨h.step hb, Fr.of_below hb, fun _ hk => .inl hk⟩
theorem Turned.after {w w1 w' : World} {q N : Nat} {S S' : List Nat} {A : List (List (Int × Int))} {M : List Int} (hb : Below w.heap.size w w1) (h : Turned w1 w' q S S' N A M) : Turned w w' q S S' N A M :=
  ⟨h.p, (Fr.of_below hb).trans h.f, fun k hk => (h.s k hk).imp id (fun h1 => Nat.le_trans hb.size h1)⟩
theorem Turned.then {w w1 w' : World} {q N : Nat} {S S' : List Nat} {A : List (List (Int × Int))} {M : List Int} (h : Turned w w1 q S S' N A M) (hb : Below w1.heap.size w1 w') : Turned w w' q S S' N A M :=
  ⟨h.p.step hb, h.f.trans (Fr.of_below hb), h.s⟩
theorem Turned.mono {w w' : World} {q N N' : Nat} {S S' : List Nat} {A : List (List (Int × Int))} {M : List Int} (h : Turned w w' q S S' N A M) (hN : N ≤ N') : Turned w w' q S S' N' A M := ⟨h.p.mono hN, h.f, h.s⟩

theorem Turned.trans {w w1 w2 : World} {q N N' : Nat} {S S1 S2 : List Nat} {A A' : List (List (Int × Int))} {M M' : List Int} (h : Turned w w1 q S S1 N A M) (h' : Turned w1 w2 q S1 S2 N' A' M') : Turned w w2 q S S2 N' A' M' := by
  refine ⟨h'.p, ⟨h'.f.os.trans h.f.os, h'.f.tape.trans h.f.tape, h'.f.output.trans h.f.output, Nat.le_trans h.f.size h'.f.size, fun k hk hn => ?_⟩, fun k hk => ?_⟩
  · refine (h'.f.block k (Nat.lt_of_lt_of_le hk h.f.size) (fun h1 => ?_)).trans (h.f.block k hk hn)
    rcases h.s k h1 with h2 | h2
    · exact hn h2
    · omega
  · rcases h'.s k hk with h1 | h1
    · exact h.s k h1
    · exact .inr (Nat.le_trans h.f.size h1)

/-- A core's part became another one: the model behind it. -/
theorem PM.moved {w : World} {q N i : Nat} {S : List Nat} {A : List (List (Int × Int))} {M : List Int} (hT : PM w q S N A M) (hi : i < A.length) : ∃ bb o c, (∃ capb, w.cell? ⟨q, 0, none⟩ = some (.slice (some ⟨bb, o, none⟩) A.length capb)) ∧ CoreAt w bb (o + i * 3) c ∧ c.L = A.getD i [] ∧ c.ok M.length N ∧ bb ∉ c.blks ∧ c.blks.Nodup ∧
    ∀ w' c', Moved w w' bb (o + i * 3) c c' → c'.ok M.length (N + 1) → ∃ S', Turned w w' q S S' (N + 1) (A.set i c'.L) M := by
  obtain ⟨⟨H, C, h1, h2, rfl, h3⟩, h4, h5⟩ := hT
  have hC : i < C.length := by rw [← h2, List.length_map] at hi; exact hi
  have hc := List.getElem?_eq_getElem hC
  obtain ⟨bb, o, e, hco⟩ := h1.core hc
  have hb := h1.blk
  rw [e] at hb
  obtain ⟨a1, a2, a3, a4⟩ := h1.apart hc
  refine ⟨bb, o, C[i], ⟨H.capb, ?_⟩, hco, ?_, h3 _ (List.getElem_mem hC), fun hk => (a3 bb hk).2.1 (by rw [e]; rfl), a4, fun w' c' hm hok => ?_⟩
  · rw [← h2, List.length_map]; exact blk_cell hb rfl
  · rw [← h2]; simp [List.getD, hC]
  · obtain ⟨m1, m2, m3⟩ := h1.moved hc e hm
    refine ⟨_, ⟨⟨H, _, m1, by rw [List.map_set, h2], rfl, fun x hx => ?_⟩, by rw [List.length_set]; exact h4, h5⟩, m3, m2⟩
    rcases List.mem_or_eq_of_mem_set hx with hx | rfl
    · exact (h3 x hx).mono (Nat.le_succ _)
    · exact hok
theorem PM.mset {w : World} {q N a : Nat} {S : List Nat} {A : List (List (Int × Int))} {M : List Int} (hT : PM w q S N A M) (ha : a < M.length) : ∃ mb mo capm, w.cell? ⟨q, 1, none⟩ = some (.slice (some ⟨mb, mo, none⟩) M.length capm) ∧ (∃ z, w.cell? ⟨mb, mo + a, none⟩ = some (.int .u32 z)) ∧ w.frozen? ⟨mb, mo + a, none⟩ = false ∧
    ∀ v, Turned w (w.setCell ⟨mb, mo + a, none⟩ (.int .u32 v)) q S S N A (M.set a v) := by
  obtain ⟨⟨H, C, h1, h2, rfl, h3⟩, h4, h5⟩ := hT
  obtain ⟨mb, mo, em, hmc⟩ := h1.mem.cell a (by simpa using ha) 0 (.int .u32 M[a]) (by simp [uc])
  have hb := h1.blk
  rw [em] at hb
  obtain ⟨g, of, cur, e3, _, hh, _⟩ := h1.mem.at_ _ em
  cases e3
  refine ⟨mb, mo, H.capm, blk_cell hb rfl, ⟨_, by simpa using hmc⟩, blk_free hh, fun v => ?_⟩
  obtain ⟨m1, m2⟩ := h1.mset ha em v
  exact ⟨⟨⟨H, C, m1, h2, rfl, by rw [List.length_set]; exact h3⟩, h4, by rw [List.length_set]; exact h5⟩, m2, fun _ hk => .inl hk⟩

set_option maxHeartbeats 3200000 in
set_option maxRecDepth 20000 in
theorem tdo_c (w : World) (q N : Nat) (S : List Nat) (A : List (List (Int × Int))) (M : List Int) (hT : PM w q S N A M) (hN : N < 100000) (k c a v n : Int) (d : Bool) (hk : knP A.length M.length ⟨k, c, a, v, n, d⟩ = true) (h3 : k = 3 → A.getD c.toNat [] ≠ []) :
    Calls Tryd.prog 36 #[.pointer (some ⟨q, 0, none⟩), evv k c a v n d] w fun r w' => r = .returned (.tuple #[]) ∧ ∃ S', Turned w w' q S S' (N + 1) (doA A ⟨k, c, a, v, n, d⟩) (doM M ⟨k, c, a, v, n, d⟩) := by
  obtain ⟨hk15, ⟨m, rfl, hm⟩, hka⟩ := knP_of hk
  rw [Int.toNat_natCast] at h3
  have HT := Hid.in hT
  have HM := Hid.in hm
  obtain ⟨bb, o, cr, ⟨capb, k0⟩, hco, hL, hok, hbb, hnd, hmv⟩ := (hT.step (below_alloc w (.cells #[.int .i64 k, .int .i64 (m : Int), .int .i64 a, .int .u32 v, .int .u32 n, .bool d] 24))).moved hm
  have HCO := Hid.in hco
  have HLL := Hid.in hL
  have HOK := Hid.in hok
  have HBB := Hid.in hbb
  have HND := Hid.in hnd
  have HMV := Hid.in hmv
  obtain ⟨nA, hnA⟩ : ∃ n, A.length = n := ⟨_, rfl⟩
  rw [hnA] at k0 hm
  have HNA := Hid.in hnA
  have HKA := Hid.in hka
  have i1 : (m : Int) < (nA : Int) := by omega
  have hqs := Hid.in hT.q
  clear hT hk hco hL hok hbb hnd hmv hnA hka
  go_enter Tryd.func36, Tryd.ntmps36
  go_upto_region 1 with fail
  generalize hwx : w.alloc _ = wx at k0 HCO HMV
  have HB : Hid (Below w.heap.size w wx) := Hid.in (by rw [← hwx]; exact below_alloc _ _)
  have ev : ∀ i u, #[Value.int .i64 k, .int .i64 (m : Int), .int .i64 a, .int .u32 v, .int .u32 n, .bool d][i]? = some u → wx.cell? ⟨w.heap.size, i, none⟩ = some u := fun i u hi => by
    rw [← hwx]; exact blk_cell (heap_alloc_new _ _) hi
  have e0 : wx.cell? ⟨w.heap.size, 0, none⟩ = some (.int .i64 k) := ev 0 _ rfl
  have e1 : wx.cell? ⟨w.heap.size, 1, none⟩ = some (.int .i64 (m : Int)) := ev 1 _ rfl
  have e2 : wx.cell? ⟨w.heap.size, 2, none⟩ = some (.int .i64 a) := ev 2 _ rfl
  have e3 : wx.cell? ⟨w.heap.size, 3, none⟩ = some (.int .u32 v) := ev 3 _ rfl
  have e4 : wx.cell? ⟨w.heap.size, 4, none⟩ = some (.int .u32 n) := ev 4 _ rfl
  have e5 : wx.cell? ⟨w.heap.size, 5, none⟩ = some (.bool d) := ev 5 _ rfl
  have hws : w.heap.size < wx.heap.size := lt_cell e0
  clear ev hwx
  go_quiet (fail)
  rcases (show k = 1 ∨ k = 2 ∨ k = 3 ∨ k = 4 ∨ k = 5 by omega) with rfl | rfl | rfl | rfl | rfl
  · go_wp2
    go_end0
    exact ⟨rfl, _, (Turned.same HT.out (drewN_below HB.out _)).mono (Nat.le_succ _)⟩
  · obtain ⟨x, rfl, hx⟩ := HKA.out (by decide)
    clear hk15 h3
    go_wp2_with fail
    have hdr : Below wx.heap.size wx (wx.drewN nq) := drewN_below (Below.refl _ _) _
    refine (push_raw (wx.drewN nq) bb (o + m * 3) M.length N cr ⟨HCO.out.c0, HCO.out.c1, HCO.out.c2, HCO.out.f, HCO.out.r.keep (fun _ _ => rfl)⟩ HOK.out hN x hx v HBB.out HND.out).mono ?_
    rintro r w2 ⟨rfl, ao', cap', hmv⟩
    have hmv2 : Moved wx w2 bb (o + m * 3) cr _ := ⟨fun o0 i n cap rs e1 e2 e3 h => hmv.b o0 i n cap rs e1 e2 e3 (h.keep (fun _ _ => rfl)), (Fr.of_below hdr).trans hmv.f, hmv.s, hmv.n, hmv.r⟩
    obtain ⟨S', hS'⟩ := HMV.out w2 _ hmv2 (HOK.out.push x v hx ao' cap')
    have HS := Hid.in hS'
    clear hmv hmv2 hS' hdr e0 e1 e2 e3 e4 e5
    go_wp2
    go_end0
    refine ⟨rfl, S', ?_⟩
    have h := HS.out.after HB.out
    rw [HLL.out] at h
    simpa [doA, doM] using h
  · obtain ⟨x, rfl, hx⟩ := HKA.out (by decide)
    have HX := Hid.in hx
    have h30 : 0 < cr.L.length := by rw [HLL.out]; exact List.length_pos_iff.2 (h3 rfl)
    have H30 := Hid.in h30
    clear hk15 h3 hx h30
    go_wp2_with fail
    have hdr : Below wx.heap.size wx (wx.drewN nq) := drewN_below (Below.refl _ _) _
    refine (pop_raw (wx.drewN nq) bb (o + m * 3) N cr ⟨HCO.out.c0, HCO.out.c1, HCO.out.c2, HCO.out.f, HCO.out.r.keep (fun _ _ => rfl)⟩ HOK.out.most hN HBB.out HND.out H30.out).mono ?_
    rintro r w2 ⟨rfl, ao', cap', hmv⟩
    have hmv2 : Moved wx w2 bb (o + m * 3) cr _ := ⟨fun o0 i n cap rs e1 e2 e3 h => hmv.b o0 i n cap rs e1 e2 e3 (h.keep (fun _ _ => rfl)), (Fr.of_below hdr).trans hmv.f, hmv.s, hmv.n, hmv.r⟩
    obtain ⟨S', hS'⟩ := HMV.out w2 _ hmv2 ((HOK.out.pop H30.out ao' cap').mono (Nat.le_succ _))
    have f2 : w2.cell? ⟨w.heap.size, 2, none⟩ = _ := hS'.f.cell e2 (HT.out.far (Nat.le_refl _))
    have f3 : w2.cell? ⟨w.heap.size, 3, none⟩ = _ := hS'.f.cell e3 (HT.out.far (Nat.le_refl _))
    have HS := Hid.in hS'
    obtain ⟨mb, mo, capm, j1, ⟨z, jz⟩, jf, hset⟩ := hS'.p.mset HX.out
    have HSET := Hid.in (hset v)
    obtain ⟨nM, hnM⟩ : ∃ n, M.length = n := ⟨_, rfl⟩
    rw [hnM] at j1
    have i2 : (x : Int) < (nM : Int) := by have := HX.out; omega
    have hfz : w2.frozen? ⟨mb, mo + x, none⟩ = false := jf
    clear hmv hmv2 hS' hdr e0 e1 e2 e3 e4 e5 hset hnM jf
    go_upto_region 7 with fail
    refine wp_region_but (fun W => cellIs q 1 (.slice (some ⟨mb, mo, none⟩) nM capm) W ∧ cellIs w.heap.size 2 (.int .i64 (x : Int)) W ∧ cellIs w.heap.size 3 (.int .u32 v) W) 9 (by kernel_rfl) ?_
    have HS3 : Hid (cellIs q 1 (.slice (some ⟨mb, mo, none⟩) nM capm) w2.drew ∧ cellIs w.heap.size 2 (.int .i64 (x : Int)) w2.drew ∧ cellIs w.heap.size 3 (.int .u32 v) w2.drew) := Hid.in ⟨j1, f2, f3⟩
    refine wpBut_take (i := 0) (v := ?_) rfl (by kernel_rfl) (by kernel_rfl) (by exact fun _ _ _ h => h) HS3.out (Or.inl ⟨by rfl, ?_⟩) ?_
    case refine_2 => (intro w hSw; obtain ⟨s1, s2, s3⟩ := hSw; simp only [cellIs] at s1 s2 s3; go_simp; try with_reducible rfl)
    simp only [Act.put, List.setIfInBounds_toArray, List.set_cons_zero, List.set_cons_succ]
    refine wpBut_take (i := 1) (v := ?_) rfl (by kernel_rfl) (by kernel_rfl) (by exact fun _ _ _ h => h) HS3.out (Or.inl ⟨by rfl, ?_⟩) ?_
    case refine_2 => (intro w hSw; obtain ⟨s1, s2, s3⟩ := hSw; simp only [cellIs] at s1 s2 s3; go_simp; try with_reducible rfl)
    simp only [Act.put, List.setIfInBounds_toArray, List.set_cons_zero, List.set_cons_succ]
    refine wpBut_take (i := 2) (v := ?_) rfl (by kernel_rfl) (by kernel_rfl) (by exact fun _ _ _ h => h) HS3.out (Or.inl ⟨by rfl, ?_⟩) ?_
    case refine_2 => (intro w hSw; obtain ⟨s1, s2, s3⟩ := hSw; simp only [cellIs] at s1 s2 s3; go_simp; try with_reducible rfl)
    simp only [Act.put, List.setIfInBounds_toArray, List.set_cons_zero, List.set_cons_succ]
    refine wpBut_take (i := 3) (v := ?_) rfl (by kernel_rfl) (by kernel_rfl) (by exact fun _ _ _ h => h) HS3.out (Or.inl ⟨by rfl, ?_⟩) ?_
    case refine_2 => (intro w hSw; obtain ⟨s1, s2, s3⟩ := hSw; simp only [cellIs] at s1 s2 s3; go_simp; try with_reducible rfl)
    simp only [Act.put, List.setIfInBounds_toArray, List.set_cons_zero, List.set_cons_succ]
    refine wpBut_take (i := 4) (v := ?_) rfl (by kernel_rfl) (by kernel_rfl) (by exact fun _ _ _ h => h) HS3.out (Or.inl ⟨by rfl, ?_⟩) ?_
    case refine_2 => (intro w hSw; obtain ⟨s1, s2, s3⟩ := hSw; simp only [cellIs] at s1 s2 s3; go_simp; try with_reducible rfl)
    simp only [Act.put, List.setIfInBounds_toArray, List.set_cons_zero, List.set_cons_succ]
    refine wpBut_take (i := 5) (v := ?_) rfl (by kernel_rfl) (by kernel_rfl) (by exact fun _ _ _ h => h) HS3.out (Or.inl ⟨by rfl, ?_⟩) ?_
    case refine_2 => (intro w hSw; obtain ⟨s1, s2, s3⟩ := hSw; simp only [cellIs] at s1 s2 s3; go_simp; try with_reducible rfl)
    simp only [Act.put, List.setIfInBounds_toArray, List.set_cons_zero, List.set_cons_succ]
    refine wpBut_take (i := 6) (v := ?_) rfl (by kernel_rfl) (by kernel_rfl) (by exact fun _ _ _ h => h) HS3.out (Or.inl ⟨by rfl, ?_⟩) ?_
    case refine_2 => (intro w hSw; obtain ⟨s1, s2, s3⟩ := hSw; simp only [cellIs] at s1 s2 s3; go_simp; try with_reducible rfl)
    simp only [Act.put, List.setIfInBounds_toArray, List.set_cons_zero, List.set_cons_succ]
    refine wpBut_take (i := 7) (v := ?_) rfl (by kernel_rfl) (by kernel_rfl) (by exact fun _ _ _ h => h) HS3.out (Or.inl ⟨by rfl, ?_⟩) ?_
    case refine_2 => (intro w hSw; obtain ⟨s1, s2, s3⟩ := hSw; simp only [cellIs] at s1 s2 s3; go_simp; try with_reducible rfl)
    simp only [Act.put, List.setIfInBounds_toArray, List.set_cons_zero, List.set_cons_succ]
    refine wpBut_take (i := 8) (v := ?_) rfl (by kernel_rfl) (by kernel_rfl) (by exact fun _ _ _ h => h) HS3.out (Or.inl ⟨by rfl, ?_⟩) ?_
    case refine_2 => (intro w hSw; obtain ⟨s1, s2, s3⟩ := hSw; simp only [cellIs] at s1 s2 s3; go_simp; try with_reducible rfl)
    simp only [Act.put, List.setIfInBounds_toArray, List.set_cons_zero, List.set_cons_succ]
    refine wpBut_one (i := 9) rfl (by kernel_rfl) (fun K HK => ?_)
    go_simp
    refine HK.out _ _ (fun h => absurd rfl h) ?_
    clear HK K
    refine wpBut_done (by kernel_rfl) ?_ _
    go_end0
    refine ⟨rfl, S', ?_⟩
    have h := (HS.out.after HB.out).trans ((HSET.out).then (Below.refl _ _).drew)
    rw [HLL.out] at h
    simpa [doA, doM] using h
  · obtain ⟨x, rfl, hx⟩ := HKA.out (by decide)
    have HX := Hid.in hx
    clear hk15 h3 hx
    cases d with
    | false =>
      go_wp2
      go_end0
      exact ⟨rfl, _, by simpa [doA, doM] using (Turned.same HT.out (drewN_below HB.out _)).mono (Nat.le_succ _)⟩
    | true =>
      obtain ⟨mb, mo, capm, j1, ⟨z, jz⟩, jf, hset⟩ := (HT.out.step (drewN_below HB.out nq)).mset HX.out
      have HSET := Hid.in (hset n)
      obtain ⟨nM, hnM⟩ : ∃ n, M.length = n := ⟨_, rfl⟩
      rw [hnM] at j1
      have i2 : (x : Int) < (nM : Int) := by have := HX.out; omega
      have jz' : wx.cell? ⟨mb, mo + x, none⟩ = _ := jz
      have jf' : wx.frozen? ⟨mb, mo + x, none⟩ = false := jf
      have j1' : wx.cell? ⟨q, 1, none⟩ = _ := j1
      clear hset hnM
      go_upto_region 10 with fail
      refine wp_region_but (fun W => cellIs q 1 (.slice (some ⟨mb, mo, none⟩) nM capm) W ∧ cellIs w.heap.size 2 (.int .i64 (x : Int)) W ∧ cellIs w.heap.size 4 (.int .u32 n) W) 9 (by kernel_rfl) ?_
      have HS3 : Hid (cellIs q 1 (.slice (some ⟨mb, mo, none⟩) nM capm) (wx.drewN nq).drew ∧ cellIs w.heap.size 2 (.int .i64 (x : Int)) (wx.drewN nq).drew ∧ cellIs w.heap.size 4 (.int .u32 n) (wx.drewN nq).drew) := Hid.in ⟨j1, e2, e4⟩
      refine wpBut_take (i := 0) (v := ?_) rfl (by kernel_rfl) (by kernel_rfl) (by exact fun _ _ _ h => h) HS3.out (Or.inl ⟨by rfl, ?_⟩) ?_
      case refine_2 => (intro w hSw; obtain ⟨s1, s2, s3⟩ := hSw; simp only [cellIs] at s1 s2 s3; go_simp; try with_reducible rfl)
      simp only [Act.put, List.setIfInBounds_toArray, List.set_cons_zero, List.set_cons_succ]
      refine wpBut_take (i := 1) (v := ?_) rfl (by kernel_rfl) (by kernel_rfl) (by exact fun _ _ _ h => h) HS3.out (Or.inl ⟨by rfl, ?_⟩) ?_
      case refine_2 => (intro w hSw; obtain ⟨s1, s2, s3⟩ := hSw; simp only [cellIs] at s1 s2 s3; go_simp; try with_reducible rfl)
      simp only [Act.put, List.setIfInBounds_toArray, List.set_cons_zero, List.set_cons_succ]
      refine wpBut_take (i := 2) (v := ?_) rfl (by kernel_rfl) (by kernel_rfl) (by exact fun _ _ _ h => h) HS3.out (Or.inl ⟨by rfl, ?_⟩) ?_
      case refine_2 => (intro w hSw; obtain ⟨s1, s2, s3⟩ := hSw; simp only [cellIs] at s1 s2 s3; go_simp; try with_reducible rfl)
      simp only [Act.put, List.setIfInBounds_toArray, List.set_cons_zero, List.set_cons_succ]
      refine wpBut_take (i := 3) (v := ?_) rfl (by kernel_rfl) (by kernel_rfl) (by exact fun _ _ _ h => h) HS3.out (Or.inl ⟨by rfl, ?_⟩) ?_
      case refine_2 => (intro w hSw; obtain ⟨s1, s2, s3⟩ := hSw; simp only [cellIs] at s1 s2 s3; go_simp; try with_reducible rfl)
      simp only [Act.put, List.setIfInBounds_toArray, List.set_cons_zero, List.set_cons_succ]
      refine wpBut_take (i := 4) (v := ?_) rfl (by kernel_rfl) (by kernel_rfl) (by exact fun _ _ _ h => h) HS3.out (Or.inl ⟨by rfl, ?_⟩) ?_
      case refine_2 => (intro w hSw; obtain ⟨s1, s2, s3⟩ := hSw; simp only [cellIs] at s1 s2 s3; go_simp; try with_reducible rfl)
      simp only [Act.put, List.setIfInBounds_toArray, List.set_cons_zero, List.set_cons_succ]
      refine wpBut_take (i := 5) (v := ?_) rfl (by kernel_rfl) (by kernel_rfl) (by exact fun _ _ _ h => h) HS3.out (Or.inl ⟨by rfl, ?_⟩) ?_
      case refine_2 => (intro w hSw; obtain ⟨s1, s2, s3⟩ := hSw; simp only [cellIs] at s1 s2 s3; go_simp; try with_reducible rfl)
      simp only [Act.put, List.setIfInBounds_toArray, List.set_cons_zero, List.set_cons_succ]
      refine wpBut_take (i := 6) (v := ?_) rfl (by kernel_rfl) (by kernel_rfl) (by exact fun _ _ _ h => h) HS3.out (Or.inl ⟨by rfl, ?_⟩) ?_
      case refine_2 => (intro w hSw; obtain ⟨s1, s2, s3⟩ := hSw; simp only [cellIs] at s1 s2 s3; go_simp; try with_reducible rfl)
      simp only [Act.put, List.setIfInBounds_toArray, List.set_cons_zero, List.set_cons_succ]
      refine wpBut_take (i := 7) (v := ?_) rfl (by kernel_rfl) (by kernel_rfl) (by exact fun _ _ _ h => h) HS3.out (Or.inl ⟨by rfl, ?_⟩) ?_
      case refine_2 => (intro w hSw; obtain ⟨s1, s2, s3⟩ := hSw; simp only [cellIs] at s1 s2 s3; go_simp; try with_reducible rfl)
      simp only [Act.put, List.setIfInBounds_toArray, List.set_cons_zero, List.set_cons_succ]
      refine wpBut_take (i := 8) (v := ?_) rfl (by kernel_rfl) (by kernel_rfl) (by exact fun _ _ _ h => h) HS3.out (Or.inl ⟨by rfl, ?_⟩) ?_
      case refine_2 => (intro w hSw; obtain ⟨s1, s2, s3⟩ := hSw; simp only [cellIs] at s1 s2 s3; go_simp; try with_reducible rfl)
      simp only [Act.put, List.setIfInBounds_toArray, List.set_cons_zero, List.set_cons_succ]
      refine wpBut_one (i := 9) rfl (by kernel_rfl) (fun K HK => ?_)
      go_simp
      refine HK.out _ _ (fun h => absurd rfl h) ?_
      clear HK K
      refine wpBut_done (by kernel_rfl) ?_ _
      go_end0
      refine ⟨rfl, S, ?_⟩
      have h := (((Turned.same HT.out (drewN_below HB.out nq)).trans (HSET.out)).then (Below.refl _ _).drew).mono (Nat.le_succ _)
      simp [doA, doM]
      exact h
  · go_wp2
    go_end0
    exact ⟨rfl, _, (Turned.same HT.out (drewN_below HB.out _)).mono (Nat.le_succ _)⟩

/-- Step: the document's P10.3. -/
abbrev opTStep : ByteArray := ⟨#[116, 115, 111, 46, 83, 116, 101, 112]⟩
theorem refL_three {L : List (Int × Int)} {M : List Int} {c a v n : Int} {d : Bool} (h : refL L M ⟨3, c, a, v, n, d⟩ = 0) : L ≠ [] := by
  rintro rfl
  simp [refL] at h
set_option maxHeartbeats 3200000 in
theorem tstep_c (w : World) (sa : Nat → Addr) (hE : Env10 w sa) (q N : Nat) (S : List Nat) (A : List (List (Int × Int))) (M : List Int) (hT : PM w q S N A M) (hN : N < 100000) (k c a v n : Int) (d : Bool) (r0 : Nat) (h : refP A M ⟨k, c, a, v, n, d⟩ = r0) :
    Calls Tryd.prog 18 #[.pointer (some ⟨q, 0, none⟩), evv k c a v n d] w fun r w' => r = .returned (perr sa r0 opTStep c) ∧ ∃ S', Turned w w' q S S' (N + 1) (stA A M ⟨k, c, a, v, n, d⟩) (stM A M ⟨k, c, a, v, n, d⟩) := by
  have HE := Hid.in hE
  have HT := Hid.in hT
  have HH := Hid.in h
  have hbx := below_alloc w (.cells #[.int .i64 k, .int .i64 c, .int .i64 a, .int .u32 v, .int .u32 n, .bool d] 24)
  have HR := Hid.in (trefusal_c _ sa (hE.below hbx) q N S A M (hT.step hbx) (by omega) k c a v n d r0 h)
  by_cases h0 : r0 = 0
  · subst h0
    have hkn : knP A.length M.length ⟨k, c, a, v, n, d⟩ = true := by
      cases hk : knP A.length M.length ⟨k, c, a, v, n, d⟩ with
      | true => rfl
      | false => unfold refP at h; rw [if_pos hk] at h; cases h
    have h3 : k = 3 → A.getD c.toNat [] ≠ [] := by
      rintro rfl
      unfold refP at h
      rw [if_neg (by rw [hkn]; decide)] at h
      exact refL_three h
    have HKN := Hid.in hkn
    have H3 := Hid.in h3
    clear hE hT h hbx hkn h3
    go_enter Tryd.func18, Tryd.ntmps18
    go_wp2_with fail
    refine HR.out.mono ?_
    rintro r w1 ⟨rfl, hb⟩
    rw [rfv_zero]
    have hbx := below_alloc w (.cells #[.int .i64 k, .int .i64 c, .int .i64 a, .int .u32 v, .int .u32 n, .bool d] 24)
    have HB := Hid.in (bstep hbx (Nat.le_refl _) hb)
    have ev : ∀ i u, #[Value.int .i64 k, .int .i64 c, .int .i64 a, .int .u32 v, .int .u32 n, .bool d][i]? = some u → w1.cell? ⟨w.heap.size, i, none⟩ = some u := fun i u hi => by
      have h0 : (w.alloc (.cells #[.int .i64 k, .int .i64 c, .int .i64 a, .int .u32 v, .int .u32 n, .bool d] 24)).cell? ⟨w.heap.size, i, none⟩ = some u := blk_cell (heap_alloc_new _ _) hi
      exact (hb.cell (p := ⟨w.heap.size, i, none⟩) (lt_cell h0)).trans h0
    have e0 : w1.cell? ⟨w.heap.size, 0, none⟩ = some (.int .i64 k) := ev 0 _ rfl
    have e1 : w1.cell? ⟨w.heap.size, 1, none⟩ = some (.int .i64 c) := ev 1 _ rfl
    have e2 : w1.cell? ⟨w.heap.size, 2, none⟩ = some (.int .i64 a) := ev 2 _ rfl
    have e3 : w1.cell? ⟨w.heap.size, 3, none⟩ = some (.int .u32 v) := ev 3 _ rfl
    have e4 : w1.cell? ⟨w.heap.size, 4, none⟩ = some (.int .u32 n) := ev 4 _ rfl
    have e5 : w1.cell? ⟨w.heap.size, 5, none⟩ = some (.bool d) := ev 5 _ rfl
    clear ev hb hbx
    go_wp2_with fail
    refine (tdo_c w1 q N S A M (HT.out.step HB.out) hN k c a v n d HKN.out H3.out).mono ?_
    rintro r w2 ⟨rfl, S', hS⟩
    have HS := Hid.in (hS.after HB.out)
    clear hS
    go_wp2
    go_ret
    refine ⟨rfl, S', ?_⟩
    unfold stA stM
    rw [if_pos HH.out, if_pos HH.out]
    exact HS.out
  · have hr : rfv sa r0 = snt (sa r0) := rfv_pos sa h0
    rw [hr] at HR
    have HH0 := Hid.in h0
    clear hE hT h hbx h0 hr
    go_enter Tryd.func18, Tryd.ntmps18
    go_wp2_with fail
    refine HR.out.mono ?_
    rintro r w1 ⟨rfl, hb⟩
    have hbx := below_alloc w (.cells #[.int .i64 k, .int .i64 c, .int .i64 a, .int .u32 v, .int .u32 n, .bool d] 24)
    have HB := Hid.in (bstep hbx (Nat.le_refl _) hb)
    have e1 : w1.cell? ⟨w.heap.size, 1, none⟩ = some (.int .i64 c) := by
      have h0 : (w.alloc (.cells #[.int .i64 k, .int .i64 c, .int .i64 a, .int .u32 v, .int .u32 n, .bool d] 24)).cell? ⟨w.heap.size, 1, none⟩ = some (.int .i64 c) := blk_cell (heap_alloc_new _ _) rfl
      exact (hb.cell (p := ⟨w.heap.size, 1, none⟩) (lt_cell h0)).trans h0
    clear hb hbx
    go_wp2_with fail
    refine (wrap_some _ c _ _ _).mono ?_
    rintro r w2 ⟨rfl, rfl⟩
    go_wp2
    go_ret
    refine ⟨congrArg _ (perr_some sa r0 opTStep c HH0.out).symm, S, ?_⟩
    unfold stA stM
    rw [if_neg (by rw [HH.out]; exact HH0.out), if_neg (by rw [HH.out]; exact HH0.out)]
    exact (Turned.same HT.out HB.out).mono (Nat.le_succ _)
end Go.Proofs.YtncgjclehplfeaaDoor
