/- DERIVED of the program: New of the project's model by its contract. Own work. -/
import Derived.Test.YtncgjclehplfeaaDoorTsG
import Derived.Test.YtncgjclehplfeaaDoorGenY
namespace Go.Proofs.YtncgjclehplfeaaDoor
open Go.RowKit Go.Extern.Stop Go.Stop Go.Extern

abbrev opTNew : ByteArray := ⟨#[116, 115, 111, 46, 78, 101, 119]⟩
/-- New's answer: its code, and where. -/
def tnewC (c n : Int) : Nat × Int := if wB c 1 64 = false then (1, 0) else if wB n 1 128 = false then (1, 1) else (0, 0)

theorem tnew_no (w : World) (sa : Nat → Addr) (hE : Env10 w sa) (c n : Int) (i : Int) (h : tnewC c n = (1, i)) :
    Calls Tryd.prog 15 #[.int .i64 c, .int .i64 n] w fun r w' => r = .returned (.tuple #[.pointer none, perr sa 1 opTNew i]) ∧ w' = w := by
  have hg : w.cell? ⟨0, 0, none⟩ = some (snt (sa 1)) := hE.g 1 (by omega) (by omega)
  clear hE
  unfold tnewC at h
  cases h1 : wB c 1 64 with
  | false =>
    rw [if_pos h1] at h
    cases h
    have HC := Hid.in h1
    clear h1
    go_enter Tryd.func15, Tryd.ntmps15
    go_wp2_with fail
    refine (twithin_c c 1 64 false HC.out w).mono ?_
    rintro r w' ⟨rfl, rfl⟩
    go_wp2_with fail
    refine (wrap_some _ 0 _ _ w').mono ?_
    rintro r w'' ⟨rfl, rfl⟩
    go_wp2
    go_ret2
    exact ⟨rfl, rfl⟩
  | true =>
    rw [if_neg (by rw [h1]; decide)] at h
    cases h2 : wB n 1 128 with
    | true => rw [if_neg (by rw [h2]; decide)] at h; cases h
    | false =>
      rw [if_pos h2] at h
      cases h
      have HC := Hid.in h1
      have HD := Hid.in h2
      clear h1 h2
      go_enter Tryd.func15, Tryd.ntmps15
      go_wp2_with fail
      refine (twithin_c c 1 64 true HC.out w).mono ?_
      rintro r w' ⟨rfl, rfl⟩
      go_wp2_with fail
      refine (twithin_c n 1 128 false HD.out w').mono ?_
      rintro r w' ⟨rfl, rfl⟩
      go_wp2_with fail
      refine (wrap_some _ 1 _ _ w').mono ?_
      rintro r w'' ⟨rfl, rfl⟩
      go_wp2
      go_ret2
      exact ⟨rfl, rfl⟩

theorem Tryd.infoBuf : (Tryd.prog.info? 88).map (fun i => (i.zero, i.size, i.bytes)) = some (some (.agg #[.slice none 0 0, .int .i64 0, .slice none 0 0]), 3, 56) := by kernel_rfl
theorem Tryd.infoI64 : (Tryd.prog.info? 3).map (fun i => (i.zero, i.size, i.bytes)) = some (some (.int .i64 0), 1, 8) := by kernel_rfl

/-- A core's part at the beginning. -/
abbrev cr0 : Cr := ⟨none, 0, [], 0, none, 0, []⟩
theorem cr0_at (h : Sh) (w : World) : CrAt h w cr0 := ⟨OwnA.nil _ _ _ _, OwnA.nil _ _ _ _⟩
theorem rep_map {α β : Type} (f : α → β) (n : Nat) (x : α) : (List.replicate n x).map f = List.replicate n (f x) := List.map_replicate
theorem rep_flat {α β : Type} (f : α → List β) (x : α) (h : f x = []) : ∀ n : Nat, (List.replicate n x).flatMap f = []
  | 0 => rfl
  | n + 1 => by rw [List.replicate_succ, List.flatMap_cons, h, rep_flat f x h n]; rfl
/-- The model's block laid: nothing waits, memory is nought. -/
theorem Mdl.fresh {h : Sh} {w : World} {q b1 b2 nA nM : Nat} (hq : w.heap[q]? = some (.cells #[.slice (some ⟨b1, 0, none⟩) nA nA, .slice (some ⟨b2, 0, none⟩) nM nM] h.tm (0, 0)))
    (h1 : OwnA h.tb h.m w 0 (some ⟨b1, 0, none⟩) nA nA (List.replicate nA (h.rf cr0))) (h2 : OwnA h.tu 1 w 0 (some ⟨b2, 0, none⟩) nM nM (List.replicate nM (uc 0))) (d1 : b1 ≠ q) (d2 : b2 ≠ q) (d3 : b1 ≠ b2) :
    Mdl h w q ⟨some ⟨b1, 0, none⟩, nA, some ⟨b2, 0, none⟩, nM⟩ (List.replicate nA cr0) (List.replicate nM 0) := by
  refine ⟨by simpa using hq, by rw [rep_map, List.length_replicate]; exact h1, by rw [rep_map, List.length_replicate]; exact h2, fun c hc => by rw [List.eq_of_mem_replicate hc]; exact cr0_at h w, ?_⟩
  unfold bks
  rw [rep_flat _ _ rfl, List.append_nil]
  simp only [oblk, Option.map_some, Option.toList_some, List.singleton_append, List.nodup_cons, List.mem_cons, List.not_mem_nil, or_false, not_false_eq_true, List.nodup_nil, and_true]
  exact ⟨fun h => by rcases h with h | h; (· exact d1 h.symm); exact d2 h.symm, d3⟩
theorem fresh_mem {q b1 b2 nA nM lo : Nat} (hq : lo ≤ q) (h1 : lo ≤ b1) (h2 : lo ≤ b2) : ∀ k ∈ bks q ⟨some ⟨b1, 0, none⟩, nA, some ⟨b2, 0, none⟩, nM⟩ (List.replicate nA cr0), lo ≤ k := by
  intro k hk
  rcases mem_bks.1 hk with rfl | hk | hk | ⟨c, hc, hk⟩
  · exact hq
  · cases hk; exact h1
  · cases hk; exact h2
  · rw [List.eq_of_mem_replicate hc] at hk
    exact absurd hk List.not_mem_nil

/-- The row of last stores, laid. -/
theorem moved_last {w w1 w' : World} {bb o g nM : Nat} {c : Cr} (h : CoreAt w bb o c) (hb1 : Below w.heap.size w w1) (hg : w.heap.size ≤ g) (hO : OwnA 3 1 w1 0 (some ⟨g, 0, none⟩) nM nM (List.replicate nM (tc 0)))
    (hb : Below w1.heap.size (w1.setCell ⟨bb, o + 2, none⟩ (.slice (some ⟨g, 0, none⟩) nM nM)) w') (hbb : bb ∉ c.blks) :
    Moved w w' bb o c ⟨c.ao, c.cap, c.L, c.g, some ⟨g, 0, none⟩, nM, List.replicate nM 0⟩ := by
  have hbz : bb < w.heap.size := lt_cell h.c0
  have hsz := hb1.size
  have hblk : ∀ k ∈ c.blks, k < w.heap.size := h.r.lt
  have same : ∀ k, k < w.heap.size → k ≠ bb → w'.heap[k]? = w.heap[k]? := fun k hk h1 => by
    rw [hb.block k (by omega), Below.heap_setCell _ _ _ k h1, hb1.block k hk]
  refine ⟨fun o1 i n cap rs ho hi hin hO => ?_, ?_, fun k hk => ?_, blks_nodup (fun k hk e => ?_), ⟨?_, ?_⟩⟩
  · have h1 := (hO.step hb1).putc (by decide) i hin (pc c) hi 2 (by decide) (.slice (some ⟨g, 0, none⟩) nM nM)
    rw [← ho] at h1
    have h3 := OwnA.keep (w' := w') h1 (fun k hk => by
      cases hk
      rw [hb.block bb (by omega)])
    have e2 : (pc c).set 2 (.slice (some ⟨g, 0, none⟩) nM nM) = pc ⟨c.ao, c.cap, c.L, c.g, some ⟨g, 0, none⟩, nM, List.replicate nM 0⟩ := by
      simp only [pc, List.set_cons_zero, List.set_cons_succ, List.length_replicate]
    rw [e2] at h3
    exact h3
  · refine ⟨hb.os.trans hb1.os, hb.tape.trans hb1.tape, hb.output.trans hb1.output, Nat.le_trans hsz (by simpa [World.setCell] using hb.size), fun k hk hn2 => ?_⟩
    exact same k hk (fun e => hn2 (by rw [e]; exact List.mem_cons_self))
  · rcases List.mem_append.1 hk with hk | hk
    · exact .inl (List.mem_append_left _ hk)
    · refine .inr ?_
      have := Option.mem_toList.1 hk
      cases this
      exact hg
  · cases hk
    have := hblk g (List.mem_append_left _ (Option.mem_toList.2 e))
    omega
  · exact h.r.s.keep (fun k hk => same k (hblk k (List.mem_append_left _ (Option.mem_toList.2 hk))) (fun e => hbb (e ▸ List.mem_append_left _ (Option.mem_toList.2 hk))))
  · change OwnA 3 1 w' 0 (some ⟨g, 0, none⟩) (List.replicate nM 0).length nM _
    rw [List.length_replicate, rep_map]
    refine hO.keep (fun k hk => ?_)
    cases hk
    obtain ⟨_, cur, hc⟩ := hO.blk g rfl
    have := blk_lt hc
    rw [hb.block g this, Below.heap_setCell _ _ _ g (fun e => by have e' : g = bb := e; omega)]

/-- New's loop: the cores whose row of last stores is laid. -/
structure NewAt (w0 w : World) (q : Nat) (H : Hd) (C : List Cr) (nA nM j : Nat) : Prop where
  m : Mdl shP w q H C (List.replicate nM 0)
  l : C.length = nA
  b : Below w0.heap.size w0 w
  s : ∀ k ∈ bks q H C, w0.heap.size ≤ k
  d : ∀ i c, C[i]? = some c → c.L = [] ∧ c.g = 0 ∧ (i < j → c.T = List.replicate nM 0) ∧ (j ≤ i → c.al = none)
theorem NewAt.done {w0 w : World} {q nA nM : Nat} {H : Hd} {C : List Cr} (h : NewAt w0 w q H C nA nM nA) (h1 : nA ≤ 64) (h2 : nM ≤ 128) : PM w q (bks q H C) 0 (List.replicate nA []) (List.replicate nM 0) := by
  refine ⟨⟨H, C, h.m, List.ext_getElem (by simp [h.l]) (fun i hi _ => ?_), rfl, fun c hc => ?_⟩, by simpa using h1, by simpa using h2⟩
  · simp only [List.getElem_map, List.getElem_replicate]
    exact (h.d i _ (List.getElem?_eq_getElem (by simpa using hi))).1
  · obtain ⟨i, hi⟩ := List.mem_iff_getElem?.1 hc
    have hlt : i < nA := by rw [← h.l]; exact (List.getElem?_eq_some_iff.1 hi).1
    obtain ⟨d1, d2, d3, _⟩ := h.d i c hi
    obtain ⟨ao, cap, L, g, al, lcap, T⟩ := c
    simp only [] at d1 d2 d3
    subst d1
    subst d2
    rw [d3 hlt, List.length_replicate]
    exact Cr.ok.new _ _ _ _ _ _

set_option maxHeartbeats 3200000 in
set_option maxRecDepth 20000 in
theorem tnew_c (w : World) (nA nM : Nat) (h1 : 1 ≤ nA) (h2 : nA ≤ 64) (h3 : 1 ≤ nM) (h4 : nM ≤ 128) :
    Calls Tryd.prog 15 #[.int .i64 (nA : Int), .int .i64 (nM : Int)] w fun r w' => ∃ q S, r = .returned (.tuple #[.pointer (some ⟨q, 0, none⟩), .nilIface]) ∧ PM w' q S 0 (List.replicate nA []) (List.replicate nM 0) ∧ Below w.heap.size w w' ∧ ∀ k ∈ S, w.heap.size ≤ k := by
  have HC : Hid (wB (nA : Int) 1 64 = true) := Hid.in (wB_yes ⟨by omega, by omega⟩)
  have HD : Hid (wB (nM : Int) 1 128 = true) := Hid.in (wB_yes ⟨by omega, by omega⟩)
  have hA6 : nA ≤ 1000000 := by omega
  have hM6 : nM ≤ 1000000 := by omega
  go_enter Tryd.func15, Tryd.ntmps15
  go_wp2_with fail
  refine (twithin_c (nA : Int) 1 64 true HC.out w).mono ?_
  rintro r w' ⟨rfl, rfl⟩
  go_wp2_with fail
  refine (twithin_c (nM : Int) 1 128 true HD.out w').mono ?_
  rintro r w ⟨rfl, rfl⟩
  go_upto_region 5 with fail
  go_cut [6] (fun x wx => ∃ q H C, x = .pointer (some ⟨q, 0, none⟩) ∧ NewAt w wx q H C nA nM 0)
  case first =>
    refine wp_region_but (fun _ => True) 6 (by kernel_rfl) ?_
    have HS : Hid True := Hid.in trivial
    refine wpBut_take (i := 0) (v := ?_) rfl (by kernel_rfl) (by kernel_rfl) (by exact fun _ _ _ h => h) HS.out (Or.inl ⟨by rfl, ?_⟩) ?_
    case refine_2 => (intro w _; go_simp; try with_reducible rfl)
    simp only [Act.put, List.setIfInBounds_toArray, List.set_cons_zero, List.set_cons_succ]
    refine wpBut_take (i := 2) (v := ?_) rfl (by kernel_rfl) (by kernel_rfl) (by exact fun _ _ _ h => h) HS.out (Or.inl ⟨by rfl, ?_⟩) ?_
    case refine_2 => (intro w _; go_simp; try with_reducible rfl)
    simp only [Act.put, List.setIfInBounds_toArray, List.set_cons_zero, List.set_cons_succ]
    refine wpBut_two (i := 1) (j := 3) rfl rfl (by kernel_rfl) (fun K HK => ?_) (fun K HK => ?_)
    · refine step_make rfl (.tmp 18) 83 88 rfl 3 56 _ Tryd.underlying83 Tryd.infoBuf rfl (by decide) (by decide) (nA : Int) nA 0 (by rfl) rfl hA6 (Nat.zero_le _) ?_
      intro w1 hO1 hB1 hZ1
      refine HK.out _ _ (fun _ => trivial) ?_
      clear HK K
      simp only [Act.put, List.setIfInBounds_toArray, List.set_cons_zero, List.set_cons_succ]
      refine wpBut_one (i := 3) rfl (by kernel_rfl) (fun K HK => ?_)
      refine step_make rfl (.tmp 20) 27 22 rfl 1 4 _ Tryd.underlying27 Tryd.infoU32 rfl (by decide) (by decide) (nM : Int) nM 0 (by rfl) rfl hM6 (Nat.zero_le _) ?_
      intro w2 hO2 hB2 hZ2
      refine HK.out _ _ (fun _ => trivial) ?_
      clear HK K
      simp only [Act.put, List.setIfInBounds_toArray, List.set_cons_zero, List.set_cons_succ]
      refine wpBut_take (i := 4) (v := ?_) rfl (by kernel_rfl) (by kernel_rfl) (by exact fun _ _ _ h => h) HS.out (Or.inl ⟨by rfl, ?_⟩) ?_
      case refine_2 => (intro w _; go_simp; try with_reducible rfl)
      simp only [Act.put, List.setIfInBounds_toArray, List.set_cons_zero, List.set_cons_succ]
      refine wpBut_one (i := 5) rfl (by kernel_rfl) (fun K HK => ?_)
      go_simp
      refine HK.out _ _ (fun _ => trivial) ?_
      clear HK K
      refine wpBut_one (i := 6) rfl (by kernel_rfl) (fun K HK => ?_)
      go_simp
      refine HK.out _ _ (fun h => absurd rfl h) ?_
      clear HK K
      refine wpBut_done (by kernel_rfl) ?_ _
      have z1 : w1.heap.size = w.heap.size + 1 := hZ1.out
      have z2 := hZ2.out
      have hbx := below_alloc w2 (.cells #[.slice (some ⟨w.heap.size, 0, none⟩) nA nA, .slice (some ⟨w1.heap.size, 0, none⟩) nM nM] 85)
      have hb1 : Below w.heap.size w w1 := bstep (Below.refl _ _).drew (Nat.le_refl _) hB1.out
      have hb2 := bstep hb1 (Nat.le_refl _) hB2.out
      have hb3 := bstep hb2 (Nat.le_refl _) hbx
      have o1 := (hO1.out.step hB2.out).step hbx
      have o2 := hO2.out.step hbx
      have o3 : OwnA 22 1 (w2.alloc (.cells #[.slice (some ⟨w.heap.size, 0, none⟩) nA nA, .slice (some ⟨w1.heap.size, 0, none⟩) nM nM] 85)) 0 (some ⟨w1.heap.size, 0, none⟩) nM nM (List.replicate nM (uc 0)) := o2
      have hm := Mdl.fresh (h := shP) (q := w2.heap.size) (heap_alloc_new _ _) o1 o3 (by omega) (by omega) (by omega)
      have HNA : Hid (NewAt w _ w2.heap.size _ (List.replicate nA cr0) nA nM 0) := Hid.in ⟨hm, by simp, hb3, fresh_mem (by omega) (by omega) (by omega), fun i c hc => by rw [List.eq_of_mem_replicate (List.mem_of_getElem? hc)]; exact ⟨rfl, rfl, fun h => absurd h (Nat.not_lt_zero _), fun _ => rfl⟩⟩
      clear z1 z2 hbx hb1 hb2 hb3 o1 o2 o3 hm
      go_wp2_with fail
      go_meet
      case rel => exact ⟨_, _, _, rfl, HNA.out⟩
    · refine step_make rfl (.tmp 20) 27 22 rfl 1 4 _ Tryd.underlying27 Tryd.infoU32 rfl (by decide) (by decide) (nM : Int) nM 0 (by rfl) rfl hM6 (Nat.zero_le _) ?_
      intro w1 hO1 hB1 hZ1
      refine HK.out _ _ (fun _ => trivial) ?_
      clear HK K
      simp only [Act.put, List.setIfInBounds_toArray, List.set_cons_zero, List.set_cons_succ]
      refine wpBut_one (i := 1) rfl (by kernel_rfl) (fun K HK => ?_)
      refine step_make rfl (.tmp 18) 83 88 rfl 3 56 _ Tryd.underlying83 Tryd.infoBuf rfl (by decide) (by decide) (nA : Int) nA 0 (by rfl) rfl hA6 (Nat.zero_le _) ?_
      intro w2 hO2 hB2 hZ2
      refine HK.out _ _ (fun _ => trivial) ?_
      clear HK K
      simp only [Act.put, List.setIfInBounds_toArray, List.set_cons_zero, List.set_cons_succ]
      refine wpBut_take (i := 4) (v := ?_) rfl (by kernel_rfl) (by kernel_rfl) (by exact fun _ _ _ h => h) HS.out (Or.inl ⟨by rfl, ?_⟩) ?_
      case refine_2 => (intro w _; go_simp; try with_reducible rfl)
      simp only [Act.put, List.setIfInBounds_toArray, List.set_cons_zero, List.set_cons_succ]
      refine wpBut_one (i := 5) rfl (by kernel_rfl) (fun K HK => ?_)
      go_simp
      refine HK.out _ _ (fun _ => trivial) ?_
      clear HK K
      refine wpBut_one (i := 6) rfl (by kernel_rfl) (fun K HK => ?_)
      go_simp
      refine HK.out _ _ (fun h => absurd rfl h) ?_
      clear HK K
      refine wpBut_done (by kernel_rfl) ?_ _
      have z1 : w1.heap.size = w.heap.size + 1 := hZ1.out
      have z2 := hZ2.out
      have hbx := below_alloc w2 (.cells #[.slice (some ⟨w1.heap.size, 0, none⟩) nA nA, .slice (some ⟨w.heap.size, 0, none⟩) nM nM] 85)
      have hb1 : Below w.heap.size w w1 := bstep (Below.refl _ _).drew (Nat.le_refl _) hB1.out
      have hb2 := bstep hb1 (Nat.le_refl _) hB2.out
      have hb3 := bstep hb2 (Nat.le_refl _) hbx
      have o2 := (hO1.out.step hB2.out).step hbx
      have o1 := hO2.out.step hbx
      have o3 : OwnA 22 1 (w2.alloc (.cells #[.slice (some ⟨w1.heap.size, 0, none⟩) nA nA, .slice (some ⟨w.heap.size, 0, none⟩) nM nM] 85)) 0 (some ⟨w.heap.size, 0, none⟩) nM nM (List.replicate nM (uc 0)) := o2
      have hm := Mdl.fresh (h := shP) (q := w2.heap.size) (heap_alloc_new _ _) o1 o3 (by omega) (by omega) (by omega)
      have HNA : Hid (NewAt w _ w2.heap.size _ (List.replicate nA cr0) nA nM 0) := Hid.in ⟨hm, by simp, hb3, fresh_mem (by omega) (by omega) (by omega), fun i c hc => by rw [List.eq_of_mem_replicate (List.mem_of_getElem? hc)]; exact ⟨rfl, rfl, fun h => absurd h (Nat.not_lt_zero _), fun _ => rfl⟩⟩
      clear z1 z2 hbx hb1 hb2 hb3 o1 o2 o3 hm
      go_wp2_with fail
      go_meet
      case rel => exact ⟨_, _, _, rfl, HNA.out⟩
  case rest =>
    obtain ⟨q, H, C, rfl, hN⟩ := hcut
    rename World => wx
    have hb0 := hN.m.blk
    rw [hN.l] at hb0
    have k0 : wx.cell? ⟨q, 0, none⟩ = some (.slice H.ab nA H.capb) := blk_cell hb0 rfl
    clear hb0
    have HN0 := Hid.in hN
    clear hN
    go_wp2
    go_loopw [29] (fun c wr => ∃ (j : Nat) (C : List Cr), j ≤ nA ∧ c = .int .i64 (j : Int) ∧ NewAt w wr q H C nA nM j) (fun c _ => nA - (intOf c).toNat)
    case atStart => exact ⟨0, C, Nat.zero_le _, rfl, HN0.out⟩
    case round =>
      obtain ⟨j, C, hj, rfl, hN⟩ := hrel
      have HN := Hid.in hN
      clear hN HN0 k0
      rename World => wo
      by_cases hlt : j < nA
      · obtain ⟨cr, hC⟩ : ∃ cr, C[j]? = some cr := ⟨_, List.getElem?_eq_getElem (by rw [HN.out.l]; exact hlt)⟩
        obtain ⟨bb, o, e, hco⟩ := HN.out.m.core hC
        have hbk := HN.out.m.blk
        rw [e, HN.out.l] at hbk
        have k0 : wo.cell? ⟨q, 0, none⟩ = some (.slice (some ⟨bb, o, none⟩) nA H.capb) := blk_cell hbk rfl
        have c2 := hco.c2
        have hf2 := hco.f (o + j * 3 + 2)
        have HCO := Hid.in hco
        have HE := Hid.in e
        have HHC := Hid.in hC
        have i1 : (j : Int) < (nA : Int) := by omega
        have hbz := lt_cell c2
        have hqz := lt_cell k0
        clear hbk hco e hC
        go_upto_region 9 with fail
        refine wp_region_but (fun W => cellIs q 0 (.slice (some ⟨bb, o, none⟩) nA H.capb) W) 9 (by kernel_rfl) ?_
        have HS : Hid (cellIs q 0 (.slice (some ⟨bb, o, none⟩) nA H.capb) wo.drew) := Hid.in k0
        refine wpBut_take (i := 0) (v := ?_) rfl (by kernel_rfl) (by kernel_rfl) (by exact fun _ _ _ h => h) HS.out (Or.inl ⟨by rfl, ?_⟩) ?_
        case refine_2 => (intro w hSw; simp only [cellIs] at hSw; go_simp; try with_reducible rfl)
        simp only [Act.put, List.setIfInBounds_toArray, List.set_cons_zero, List.set_cons_succ]
        refine wpBut_take (i := 1) (v := ?_) rfl (by kernel_rfl) (by kernel_rfl) (by exact fun _ _ _ h => h) HS.out (Or.inl ⟨by rfl, ?_⟩) ?_
        case refine_2 => (intro w hSw; simp only [cellIs] at hSw; go_simp; try with_reducible rfl)
        simp only [Act.put, List.setIfInBounds_toArray, List.set_cons_zero, List.set_cons_succ]
        refine wpBut_take (i := 2) (v := ?_) rfl (by kernel_rfl) (by kernel_rfl) (by exact fun _ _ _ h => h) HS.out (Or.inl ⟨by rfl, ?_⟩) ?_
        case refine_2 => (intro w hSw; simp only [cellIs] at hSw; go_simp; try with_reducible rfl)
        simp only [Act.put, List.setIfInBounds_toArray, List.set_cons_zero, List.set_cons_succ]
        refine wpBut_take (i := 3) (v := ?_) rfl (by kernel_rfl) (by kernel_rfl) (by exact fun _ _ _ h => h) HS.out (Or.inl ⟨by rfl, ?_⟩) ?_
        case refine_2 => (intro w hSw; simp only [cellIs] at hSw; go_simp; try with_reducible rfl)
        simp only [Act.put, List.setIfInBounds_toArray, List.set_cons_zero, List.set_cons_succ]
        refine wpBut_take (i := 4) (v := ?_) rfl (by kernel_rfl) (by kernel_rfl) (by exact fun _ _ _ h => h) HS.out (Or.inl ⟨by rfl, ?_⟩) ?_
        case refine_2 => (intro w hSw; simp only [cellIs] at hSw; go_simp; try with_reducible rfl)
        simp only [Act.put, List.setIfInBounds_toArray, List.set_cons_zero, List.set_cons_succ]
        refine wpBut_take (i := 5) (v := ?_) rfl (by kernel_rfl) (by kernel_rfl) (by exact fun _ _ _ h => h) HS.out (Or.inl ⟨by rfl, ?_⟩) ?_
        case refine_2 => (intro w hSw; simp only [cellIs] at hSw; go_simp; try with_reducible rfl)
        simp only [Act.put, List.setIfInBounds_toArray, List.set_cons_zero, List.set_cons_succ]
        refine wpBut_one (i := 6) rfl (by kernel_rfl) (fun K HK => ?_)
        refine step_make rfl (.tmp 37) 66 3 rfl 1 8 _ Tryd.underlying66 Tryd.infoI64 rfl (by decide) (by decide) (nM : Int) nM 0 (by rfl) rfl hM6 (Nat.zero_le _) ?_
        intro w1 hO1 hB1 _
        have hB : Below wo.heap.size wo w1 := bstep (Below.refl _ _).drew (Nat.le_refl _) hB1.out
        have k1 : cellIs q 0 (.slice (some ⟨bb, o, none⟩) nA H.capb) w1 := (hB.cell (p := ⟨q, 0, none⟩) hqz).trans k0
        have c21 := (hB.cell (p := ⟨bb, o + j * 3 + 2, none⟩) hbz).trans c2
        have f21 : w1.frozen? ⟨bb, o + j * 3 + 2, none⟩ = false := by rw [← hf2]; simp only [World.frozen?, hB.block bb hbz]
        refine HK.out _ _ (fun _ => k1) ?_
        clear HK K HS k0 c2 hf2
        simp only [Act.put, List.setIfInBounds_toArray, List.set_cons_zero, List.set_cons_succ]
        have HS : Hid (cellIs q 0 (.slice (some ⟨bb, o, none⟩) nA H.capb) w1) := Hid.in k1
        refine wpBut_take (i := 7) (v := ?_) rfl (by kernel_rfl) (by kernel_rfl) (by exact fun _ _ _ h => h) HS.out (Or.inl ⟨by rfl, ?_⟩) ?_
        case refine_2 => (intro w hSw; simp only [cellIs] at hSw; go_simp; try with_reducible rfl)
        simp only [Act.put, List.setIfInBounds_toArray, List.set_cons_zero, List.set_cons_succ]
        refine wpBut_take (i := 8) (v := ?_) rfl (by kernel_rfl) (by kernel_rfl) (by exact fun _ _ _ h => h) HS.out (Or.inl ⟨by rfl, ?_⟩) ?_
        case refine_2 => (intro w hSw; simp only [cellIs] at hSw; go_simp; try with_reducible rfl)
        simp only [Act.put, List.setIfInBounds_toArray, List.set_cons_zero, List.set_cons_succ]
        refine wpBut_one (i := 9) rfl (by kernel_rfl) (fun K HK => ?_)
        go_simp
        refine HK.out _ _ (fun h => absurd rfl h) ?_
        clear HK K
        refine wpBut_done (by kernel_rfl) ?_ _
        have hmv := moved_last (w' := w1.setCell ⟨bb, o + j * 3 + 2, none⟩ (.slice (some ⟨wo.heap.size, 0, none⟩) nM nM)) HCO.out hB (Nat.le_refl _) hO1.out (Below.refl _ _) (fun hk => ((HN.out.m.apart HHC.out).2.2.1 bb hk).2.1 (by rw [HE.out]; rfl))
        obtain ⟨m1, m2, m3⟩ := HN.out.m.moved HHC.out HE.out hmv
        have HNN : Hid (NewAt w (w1.setCell ⟨bb, o + j * 3 + 2, none⟩ (.slice (some ⟨wo.heap.size, 0, none⟩) nM nM)) q H (C.set j _) nA nM (j + 1)) := Hid.in ⟨m1, by rw [List.length_set]; exact HN.out.l, m3.below HN.out.b HN.out.s HN.out.b.size, fun k hk => by
            rcases m2 k hk with h | h
            · exact HN.out.s k h
            · exact Nat.le_trans HN.out.b.size h, fun i c hc => by
            by_cases hij : i = j
            · subst hij
              rw [List.getElem?_set_self (List.getElem?_eq_some_iff.1 HHC.out).1] at hc
              cases hc
              obtain ⟨d1, d2, _, _⟩ := HN.out.d i _ HHC.out
              exact ⟨d1, d2, fun _ => rfl, fun h => absurd h (by omega)⟩
            · rw [List.getElem?_set_ne (fun e => hij e.symm)] at hc
              obtain ⟨d1, d2, d3, d4⟩ := HN.out.d i c hc
              exact ⟨d1, d2, fun h => d3 (by omega), fun h => d4 (by omega)⟩⟩
        clear hmv m1 m2 m3 hB k1 c21 f21
        go_wp2
        go_roundw
        case rel => exact ⟨j + 1, _, by omega, by go_num, HNN.out⟩
        case measure => simp [intOf]; omega
      · obtain rfl : j = nA := by omega
        go_wp2
        go_ret2
        exact ⟨q, _, rfl, HN.out.done h2 h4, HN.out.b, HN.out.s⟩
end Go.Proofs.YtncgjclehplfeaaDoor
