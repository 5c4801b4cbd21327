/- DERIVED of the program: msg.Get by its contract. Own work. -/
import Derived.Test.YtgepfbaojogccaaDoorSgF
import Derived.Test.YtgepfbaojogccaaDoorBaseKeep
import Derived.Laws.ResultCell
namespace Go.Proofs.YtgepfbaojogccaaDoor
open Go.RowKit Go.Extern.Stop Go.Stop Go.Extern

/-- "msg.Get" -/
def opSGet : ByteArray := ⟨#[109, 115, 103, 46, 71, 101, 116]⟩
/-- What Get answers beside the message. -/
def gErr (sa : Nat → Addr) (l : List (ByteArray × Int)) (c : Nat) : Value := if c = 0 then .nilIface else flt opSGet 0 (chn l (snt (sa c)))

theorem gotM_code (bs : List Nat) (hc : (getM bs).1.1 = 0 ∨ 3 ≤ (getM bs).1.1 ∧ (getM bs).1.1 ≤ 5) : (gotM bs).1 = 0 ∨ 3 ≤ (gotM bs).1 ∧ (gotM bs).1 ≤ 5 := by
  have he : endS bs (getM bs).1.2 (getM bs).1.1 = 0 ∨ 3 ≤ endS bs (getM bs).1.2 (getM bs).1.1 ∧ endS bs (getM bs).1.2 (getM bs).1.1 ≤ 5 := by
    unfold endS
    split
    · exact hc
    · split
      · exact .inr ⟨by decide, by decide⟩
      · exact .inl rfl
  unfold gotM
  split
  · exact he
  · split
    · exact .inl rfl
    · exact .inr ⟨by decide, by decide⟩

set_option maxHeartbeats 3200000 in
set_option maxRecDepth 20000 in
theorem sGet_any (ao : Option Addr) (N cap : Nat) (bs : List Nat) (w : World) (sa : Nat → Addr) (hE : Env10 w sa) (hN : N = bs.length) (hL : Lie w ao cap bs) (hby : ∀ x ∈ bs, x < 256) (hlen : bs.length ≤ 140737488355328) :
    Calls Tryd.prog 10 #[.slice ao N cap] w fun r w' => ∃ l, r = .returned (.tuple #[.agg (mv (gotM bs).2), gErr sa l (gotM bs).1]) ∧ Below w.heap.size w w' ∧ ((gotM bs).1 = 0 ∨ 3 ≤ (gotM bs).1 ∧ (gotM bs).1 ≤ 5) := by
  subst hN
  rcases hw : getM bs with ⟨⟨c, p⟩, n⟩
  have HG : Hid (∀ u, endS bs p c = u → (gotM bs) = if u ≠ 0 then (u, zero13) else if rtB n then (0, n) else (4, zero13)) := Hid.in (fun u hu => by unfold gotM; rw [hw, hu])
  have HC := Hid.in (gotM_code bs)
  rw [hw] at HC
  have HNUM := Hid.in (getM_num bs)
  rw [hw] at HNUM
  have HW := Hid.in hw
  clear hw
  obtain ⟨nk, nc, nl, nt, no, ne, nw, nv, nd0, nd1, nd2, nd3, nh⟩ := n
  have HE := Hid.in hE
  have HL := Hid.in hL
  have HBY := Hid.in hby
  clear hE hL hby
  have HR0 : Hid ((w.alloc (.cells #[.int .i64 0, .int .i64 0, .int .i64 0, .int .i64 0, .int .i64 0, .int .i64 0, .int .i64 0, .int .u32 0, .int .u32 0, .int .u32 0, .int .u32 0, .int .u32 0, .bool false] 28)).heap[w.heap.size]? = some (.cells #[.int .i64 0, .int .i64 0, .int .i64 0, .int .i64 0, .int .i64 0, .int .i64 0, .int .i64 0, .int .u32 0, .int .u32 0, .int .u32 0, .int .u32 0, .int .u32 0, .bool false] 28 (0, 0))) := Hid.in (heap_alloc_new _ _)
  have HB0 := Hid.in (below_alloc w (.cells #[.int .i64 0, .int .i64 0, .int .i64 0, .int .i64 0, .int .i64 0, .int .i64 0, .int .i64 0, .int .u32 0, .int .u32 0, .int .u32 0, .int .u32 0, .int .u32 0, .bool false] 28))
  go_enter Tryd.func10, Tryd.ntmps10
  go_wp2_with fail
  refine (read_any ao cap bs _ sa (HL.out.step HB0.out) HBY.out hlen).mono ?_
  rintro r w1 ⟨q, rfl, hR1, hb1⟩
  have hlt1 : w.heap.size < w1.heap.size := by have := hb1.size; simp at this; omega
  have HR1 := Hid.in hR1
  have HB1 := Hid.in (bstep HB0.out (Nat.le_refl _) hb1)
  have HZ1 := Hid.in (blk_step HR0.out hb1)
  clear hR1 hb1 HR0 HB0
  have hI : InvG w sa (w.heap.size + 1) w1.heap.size q w1.heap.size bs (fun _ => False) (0, 0) (w1.alloc (.cells #[.pointer (some ⟨q, 0, none⟩)] 52)) := by
    have h := HR1.out
    rw [show (w.alloc (.cells #[.int .i64 0, .int .i64 0, .int .i64 0, .int .i64 0, .int .i64 0, .int .i64 0, .int .i64 0, .int .u32 0, .int .u32 0, .int .u32 0, .int .u32 0, .int .u32 0, .bool false] 28)).heap.size = w.heap.size + 1 by simp] at h
    exact ⟨h.step (below_alloc _ _), heap_alloc_new _ _, bstep HB1.out (Nat.le_refl _) (below_alloc _ _), fun k h => h.elim, by omega, Nat.le_refl _⟩
  have HI := Hid.in hI
  have HZ2 := Hid.in (blk_step HZ1.out (below_alloc w1 (.cells #[.pointer (some ⟨q, 0, none⟩)] 52)))
  clear hI HZ1
  have hc := fun O wx hx => swalk_any (ask_get w sa HE.out (w.heap.size + 1) w1.heap.size q w1.heap.size bs) O wx (fun s n _ _ => echo_gst bs s n) (0, 0) zero13 hx (by decide) (by simp [M32, zero13]) (by simp [M64, zero13])
  rw [show walkP (gst bs) (0, 0) zero13 = getM bs from rfl, HW.out] at hc
  simp only [mv, zero13] at hc
  go_wp2_with fail
  refine (hc (fun _ => False) _ HI.out).mono ?_
  rintro r w3 ⟨rfl, hI3, hg3⟩
  have HI3 := Hid.in hI3
  have HZ3 : Hid (w3.heap[w.heap.size]? = some (.cells #[.int .i64 0, .int .i64 0, .int .i64 0, .int .i64 0, .int .i64 0, .int .i64 0, .int .i64 0, .int .u32 0, .int .u32 0, .int .u32 0, .int .u32 0, .int .u32 0, .bool false] 28 (0, 0))) := Hid.in ((hg3.block _ (blk_lt HZ2.out) (by intro e; have := Option.some.inj e; have := HI.out.rd.rng; omega)).trans HZ2.out)
  have hlt3 : w1.heap.size < w3.heap.size := blk_lt hI3.var
  clear hc hI3 hg3 HI HZ2
  have HI4 := Hid.in ((ask_get w sa HE.out (w.heap.size + 1) w1.heap.size q w1.heap.size bs).new _ _ _ (.cells #[.int .i64 nk, .int .i64 nc, .int .i64 nl, .int .i64 nt, .int .i64 no, .int .i64 ne, .int .i64 nw, .int .u32 nv, .int .u32 nd0, .int .u32 nd1, .int .u32 nd2, .int .u32 nd3, .bool nh] 28) HI3.out)
  have HN4 : Hid ((w3.alloc (.cells #[.int .i64 nk, .int .i64 nc, .int .i64 nl, .int .i64 nt, .int .i64 no, .int .i64 ne, .int .i64 nw, .int .u32 nv, .int .u32 nd0, .int .u32 nd1, .int .u32 nd2, .int .u32 nd3, .bool nh] 28)).heap[w3.heap.size]? = some (.cells #[.int .i64 nk, .int .i64 nc, .int .i64 nl, .int .i64 nt, .int .i64 no, .int .i64 ne, .int .i64 nw, .int .u32 nv, .int .u32 nd0, .int .u32 nd1, .int .u32 nd2, .int .u32 nd3, .bool nh] 28 (0, 0))) := Hid.in (heap_alloc_new _ _)
  have HZ4 := Hid.in (blk_step HZ3.out (below_alloc w3 (.cells #[.int .i64 nk, .int .i64 nc, .int .i64 nl, .int .i64 nt, .int .i64 no, .int .i64 ne, .int .i64 nw, .int .u32 nv, .int .u32 nd0, .int .u32 nd1, .int .u32 nd2, .int .u32 nd3, .bool nh] 28)))
  have q0 : (w3.alloc (.cells #[.int .i64 nk, .int .i64 nc, .int .i64 nl, .int .i64 nt, .int .i64 no, .int .i64 ne, .int .i64 nw, .int .u32 nv, .int .u32 nd0, .int .u32 nd1, .int .u32 nd2, .int .u32 nd3, .bool nh] 28)).cell? ⟨w1.heap.size, 0, none⟩ = some (.pointer (some ⟨q, 0, none⟩)) := blk_cell HI4.out.var rfl
  clear HI3 HZ3
  go_wp2_with fail
  refine (rend_any _ sa (HE.out.below HI4.out.be) (w.heap.size + 1) w1.heap.size q p c bs HI4.out.rd).mono ?_
  obtain ⟨u, hu⟩ : ∃ u, endS bs p c = u := ⟨_, rfl⟩
  have hgo := HG.out u hu
  rw [hu]
  by_cases h0 : u = 0
  · subst h0
    rw [if_neg (by decide)] at hgo
    rw [rerr_no]
    rintro r w5 ⟨rfl, hR5, hg5⟩
    have HGO := Hid.in hgo
    have HQ := Hid.in hu
    have HB5 : Hid (Below w.heap.size w w5) := Hid.in (wrote HI4.out.be hg5 (Nat.le_refl _) (by have := HI4.out.rd.rng; omega))
    have HN5 : Hid (w5.heap[w3.heap.size]? = some (.cells #[.int .i64 nk, .int .i64 nc, .int .i64 nl, .int .i64 nt, .int .i64 no, .int .i64 ne, .int .i64 nw, .int .u32 nv, .int .u32 nd0, .int .u32 nd1, .int .u32 nd2, .int .u32 nd3, .bool nh] 28 (0, 0))) := Hid.in ((hg5.block _ (blk_lt HN4.out) (by intro e; have := Option.some.inj e; have := HI4.out.rd.rng; omega)).trans HN4.out)
    have HZ5 : Hid (w5.heap[w.heap.size]? = some (.cells #[.int .i64 0, .int .i64 0, .int .i64 0, .int .i64 0, .int .i64 0, .int .i64 0, .int .i64 0, .int .u32 0, .int .u32 0, .int .u32 0, .int .u32 0, .int .u32 0, .bool false] 28 (0, 0))) := Hid.in ((hg5.block _ (blk_lt HZ4.out) (by intro e; have := Option.some.inj e; have := HI4.out.rd.rng; omega)).trans HZ4.out)
    clear hgo hu hR5 hg5 q0 HI4 HN4 HZ4
    have x0 : w5.cell? ⟨w3.heap.size, 0, none⟩ = some (.int .i64 nk) := blk_cell HN5.out rfl
    have x1 : w5.cell? ⟨w3.heap.size, 1, none⟩ = some (.int .i64 nc) := blk_cell HN5.out rfl
    have x2 : w5.cell? ⟨w3.heap.size, 2, none⟩ = some (.int .i64 nl) := blk_cell HN5.out rfl
    have x3 : w5.cell? ⟨w3.heap.size, 3, none⟩ = some (.int .i64 nt) := blk_cell HN5.out rfl
    have x4 : w5.cell? ⟨w3.heap.size, 4, none⟩ = some (.int .i64 no) := blk_cell HN5.out rfl
    have x5 : w5.cell? ⟨w3.heap.size, 5, none⟩ = some (.int .i64 ne) := blk_cell HN5.out rfl
    have x6 : w5.cell? ⟨w3.heap.size, 6, none⟩ = some (.int .i64 nw) := blk_cell HN5.out rfl
    have x7 : w5.cell? ⟨w3.heap.size, 7, none⟩ = some (.int .u32 nv) := blk_cell HN5.out rfl
    have x8 : w5.cell? ⟨w3.heap.size, 8, none⟩ = some (.int .u32 nd0) := blk_cell HN5.out rfl
    have x9 : w5.cell? ⟨w3.heap.size, 9, none⟩ = some (.int .u32 nd1) := blk_cell HN5.out rfl
    have x10 : w5.cell? ⟨w3.heap.size, 10, none⟩ = some (.int .u32 nd2) := blk_cell HN5.out rfl
    have x11 : w5.cell? ⟨w3.heap.size, 11, none⟩ = some (.int .u32 nd3) := blk_cell HN5.out rfl
    have x12 : w5.cell? ⟨w3.heap.size, 12, none⟩ = some (.bool nh) := blk_cell HN5.out rfl
    go_wp2_with fail
    have hr := sRight_any (nk, nc, nl, nt, no, ne, nw, nv, nd0, nd1, nd2, nd3, nh) w5 HNUM.out.1 HNUM.out.2
    simp only [mv] at hr
    refine hr.mono ?_
    clear hr
    rcases hrt : rtB (nk, nc, nl, nt, no, ne, nw, nv, nd0, nd1, nd2, nd3, nh) with _ | _
    · rintro r w6 ⟨rfl, hb6⟩
      have HRT := Hid.in hrt
      have HB6 := Hid.in (bstep HB5.out (Nat.le_refl _) hb6)
      have HZ6 := Hid.in (blk_step HZ5.out hb6)
      have g4 : w6.cell? ⟨0, 0, none⟩ = some (snt (sa 4)) := (HE.out.below HB6.out).g 4 (by decide) (by decide)
      clear hrt hb6 x0 x1 x2 x3 x4 x5 x6 x7 x8 x9 x10 x11 x12
      have z0 : w6.cell? ⟨w.heap.size, 0, none⟩ = some (.int .i64 0) := blk_cell HZ6.out rfl
      have y0 : w6.frozen? ⟨w.heap.size, 0, none⟩ = false := blk_free HZ6.out
      have z1 : w6.cell? ⟨w.heap.size, 1, none⟩ = some (.int .i64 0) := blk_cell HZ6.out rfl
      have y1 : w6.frozen? ⟨w.heap.size, 1, none⟩ = false := blk_free HZ6.out
      have z2 : w6.cell? ⟨w.heap.size, 2, none⟩ = some (.int .i64 0) := blk_cell HZ6.out rfl
      have y2 : w6.frozen? ⟨w.heap.size, 2, none⟩ = false := blk_free HZ6.out
      have z3 : w6.cell? ⟨w.heap.size, 3, none⟩ = some (.int .i64 0) := blk_cell HZ6.out rfl
      have y3 : w6.frozen? ⟨w.heap.size, 3, none⟩ = false := blk_free HZ6.out
      have z4 : w6.cell? ⟨w.heap.size, 4, none⟩ = some (.int .i64 0) := blk_cell HZ6.out rfl
      have y4 : w6.frozen? ⟨w.heap.size, 4, none⟩ = false := blk_free HZ6.out
      have z5 : w6.cell? ⟨w.heap.size, 5, none⟩ = some (.int .i64 0) := blk_cell HZ6.out rfl
      have y5 : w6.frozen? ⟨w.heap.size, 5, none⟩ = false := blk_free HZ6.out
      have z6 : w6.cell? ⟨w.heap.size, 6, none⟩ = some (.int .i64 0) := blk_cell HZ6.out rfl
      have y6 : w6.frozen? ⟨w.heap.size, 6, none⟩ = false := blk_free HZ6.out
      have z7 : w6.cell? ⟨w.heap.size, 7, none⟩ = some (.int .u32 0) := blk_cell HZ6.out rfl
      have y7 : w6.frozen? ⟨w.heap.size, 7, none⟩ = false := blk_free HZ6.out
      have z8 : w6.cell? ⟨w.heap.size, 8, none⟩ = some (.int .u32 0) := blk_cell HZ6.out rfl
      have y8 : w6.frozen? ⟨w.heap.size, 8, none⟩ = false := blk_free HZ6.out
      have z9 : w6.cell? ⟨w.heap.size, 9, none⟩ = some (.int .u32 0) := blk_cell HZ6.out rfl
      have y9 : w6.frozen? ⟨w.heap.size, 9, none⟩ = false := blk_free HZ6.out
      have z10 : w6.cell? ⟨w.heap.size, 10, none⟩ = some (.int .u32 0) := blk_cell HZ6.out rfl
      have y10 : w6.frozen? ⟨w.heap.size, 10, none⟩ = false := blk_free HZ6.out
      have z11 : w6.cell? ⟨w.heap.size, 11, none⟩ = some (.int .u32 0) := blk_cell HZ6.out rfl
      have y11 : w6.frozen? ⟨w.heap.size, 11, none⟩ = false := blk_free HZ6.out
      have z12 : w6.cell? ⟨w.heap.size, 12, none⟩ = some (.bool false) := blk_cell HZ6.out rfl
      have y12 : w6.frozen? ⟨w.heap.size, 12, none⟩ = false := blk_free HZ6.out
      go_wp2_with fail
      refine (wrap_some _ _ _ _ _).mono ?_
      rintro r w6 ⟨rfl, rfl⟩
      go_wp2
      have e := HGO.out
      rw [HRT.out, if_neg (by decide)] at e
      refine bodyPost_ret (v := .tuple #[.agg #[.int .i64 0, .int .i64 0, .int .i64 0, .int .i64 0, .int .i64 0, .int .i64 0, .int .i64 0, .int .u32 0, .int .u32 0, .int .u32 0, .int .u32 0, .int .u32 0, .bool false], flt opSGet 0 (snt (sa 4))]) ?_ rfl ⟨[], by rw [e]; rfl, ?_, by rw [e]; exact .inr ⟨by decide, by decide⟩⟩
      · rw [results_cell_tmp rfl]
        go_simp
        all_goals rfl
      · exact (((((((((((((HB6.out.setCell (p := ⟨w.heap.size, 0, none⟩) (Nat.le_refl _) _).setCell (p := ⟨w.heap.size, 1, none⟩) (Nat.le_refl _) _).setCell (p := ⟨w.heap.size, 2, none⟩) (Nat.le_refl _) _).setCell (p := ⟨w.heap.size, 3, none⟩) (Nat.le_refl _) _).setCell (p := ⟨w.heap.size, 4, none⟩) (Nat.le_refl _) _).setCell (p := ⟨w.heap.size, 5, none⟩) (Nat.le_refl _) _).setCell (p := ⟨w.heap.size, 6, none⟩) (Nat.le_refl _) _).setCell (p := ⟨w.heap.size, 7, none⟩) (Nat.le_refl _) _).setCell (p := ⟨w.heap.size, 8, none⟩) (Nat.le_refl _) _).setCell (p := ⟨w.heap.size, 9, none⟩) (Nat.le_refl _) _).setCell (p := ⟨w.heap.size, 10, none⟩) (Nat.le_refl _) _).setCell (p := ⟨w.heap.size, 11, none⟩) (Nat.le_refl _) _).setCell (p := ⟨w.heap.size, 12, none⟩) (Nat.le_refl _) _)
    · rintro r w6 ⟨rfl, hb6⟩
      have HRT := Hid.in hrt
      have HB6 := Hid.in (bstep HB5.out (Nat.le_refl _) hb6)
      have HZ6 := Hid.in (blk_step HZ5.out hb6)
      have HN6 := Hid.in (blk_step HN5.out hb6)
      clear hrt hb6 x0 x1 x2 x3 x4 x5 x6 x7 x8 x9 x10 x11 x12
      have z0 : w6.cell? ⟨w.heap.size, 0, none⟩ = some (.int .i64 0) := blk_cell HZ6.out rfl
      have y0 : w6.frozen? ⟨w.heap.size, 0, none⟩ = false := blk_free HZ6.out
      have z1 : w6.cell? ⟨w.heap.size, 1, none⟩ = some (.int .i64 0) := blk_cell HZ6.out rfl
      have y1 : w6.frozen? ⟨w.heap.size, 1, none⟩ = false := blk_free HZ6.out
      have z2 : w6.cell? ⟨w.heap.size, 2, none⟩ = some (.int .i64 0) := blk_cell HZ6.out rfl
      have y2 : w6.frozen? ⟨w.heap.size, 2, none⟩ = false := blk_free HZ6.out
      have z3 : w6.cell? ⟨w.heap.size, 3, none⟩ = some (.int .i64 0) := blk_cell HZ6.out rfl
      have y3 : w6.frozen? ⟨w.heap.size, 3, none⟩ = false := blk_free HZ6.out
      have z4 : w6.cell? ⟨w.heap.size, 4, none⟩ = some (.int .i64 0) := blk_cell HZ6.out rfl
      have y4 : w6.frozen? ⟨w.heap.size, 4, none⟩ = false := blk_free HZ6.out
      have z5 : w6.cell? ⟨w.heap.size, 5, none⟩ = some (.int .i64 0) := blk_cell HZ6.out rfl
      have y5 : w6.frozen? ⟨w.heap.size, 5, none⟩ = false := blk_free HZ6.out
      have z6 : w6.cell? ⟨w.heap.size, 6, none⟩ = some (.int .i64 0) := blk_cell HZ6.out rfl
      have y6 : w6.frozen? ⟨w.heap.size, 6, none⟩ = false := blk_free HZ6.out
      have z7 : w6.cell? ⟨w.heap.size, 7, none⟩ = some (.int .u32 0) := blk_cell HZ6.out rfl
      have y7 : w6.frozen? ⟨w.heap.size, 7, none⟩ = false := blk_free HZ6.out
      have z8 : w6.cell? ⟨w.heap.size, 8, none⟩ = some (.int .u32 0) := blk_cell HZ6.out rfl
      have y8 : w6.frozen? ⟨w.heap.size, 8, none⟩ = false := blk_free HZ6.out
      have z9 : w6.cell? ⟨w.heap.size, 9, none⟩ = some (.int .u32 0) := blk_cell HZ6.out rfl
      have y9 : w6.frozen? ⟨w.heap.size, 9, none⟩ = false := blk_free HZ6.out
      have z10 : w6.cell? ⟨w.heap.size, 10, none⟩ = some (.int .u32 0) := blk_cell HZ6.out rfl
      have y10 : w6.frozen? ⟨w.heap.size, 10, none⟩ = false := blk_free HZ6.out
      have z11 : w6.cell? ⟨w.heap.size, 11, none⟩ = some (.int .u32 0) := blk_cell HZ6.out rfl
      have y11 : w6.frozen? ⟨w.heap.size, 11, none⟩ = false := blk_free HZ6.out
      have z12 : w6.cell? ⟨w.heap.size, 12, none⟩ = some (.bool false) := blk_cell HZ6.out rfl
      have y12 : w6.frozen? ⟨w.heap.size, 12, none⟩ = false := blk_free HZ6.out
      have x0 : w6.cell? ⟨w3.heap.size, 0, none⟩ = some (.int .i64 nk) := blk_cell HN6.out rfl
      have x1 : w6.cell? ⟨w3.heap.size, 1, none⟩ = some (.int .i64 nc) := blk_cell HN6.out rfl
      have x2 : w6.cell? ⟨w3.heap.size, 2, none⟩ = some (.int .i64 nl) := blk_cell HN6.out rfl
      have x3 : w6.cell? ⟨w3.heap.size, 3, none⟩ = some (.int .i64 nt) := blk_cell HN6.out rfl
      have x4 : w6.cell? ⟨w3.heap.size, 4, none⟩ = some (.int .i64 no) := blk_cell HN6.out rfl
      have x5 : w6.cell? ⟨w3.heap.size, 5, none⟩ = some (.int .i64 ne) := blk_cell HN6.out rfl
      have x6 : w6.cell? ⟨w3.heap.size, 6, none⟩ = some (.int .i64 nw) := blk_cell HN6.out rfl
      have x7 : w6.cell? ⟨w3.heap.size, 7, none⟩ = some (.int .u32 nv) := blk_cell HN6.out rfl
      have x8 : w6.cell? ⟨w3.heap.size, 8, none⟩ = some (.int .u32 nd0) := blk_cell HN6.out rfl
      have x9 : w6.cell? ⟨w3.heap.size, 9, none⟩ = some (.int .u32 nd1) := blk_cell HN6.out rfl
      have x10 : w6.cell? ⟨w3.heap.size, 10, none⟩ = some (.int .u32 nd2) := blk_cell HN6.out rfl
      have x11 : w6.cell? ⟨w3.heap.size, 11, none⟩ = some (.int .u32 nd3) := blk_cell HN6.out rfl
      have x12 : w6.cell? ⟨w3.heap.size, 12, none⟩ = some (.bool nh) := blk_cell HN6.out rfl
      go_wp2
      have e := HGO.out
      rw [HRT.out, if_pos rfl] at e
      refine bodyPost_ret (v := .tuple #[.agg #[.int .i64 nk, .int .i64 nc, .int .i64 nl, .int .i64 nt, .int .i64 no, .int .i64 ne, .int .i64 nw, .int .u32 nv, .int .u32 nd0, .int .u32 nd1, .int .u32 nd2, .int .u32 nd3, .bool nh], .nilIface]) ?_ rfl ⟨[], by rw [e]; rfl, ?_, by rw [e]; exact .inl rfl⟩
      · rw [results_cell_tmp rfl]
        go_simp
        all_goals rfl
      · exact (((((((((((((HB6.out.setCell (p := ⟨w.heap.size, 0, none⟩) (Nat.le_refl _) _).setCell (p := ⟨w.heap.size, 1, none⟩) (Nat.le_refl _) _).setCell (p := ⟨w.heap.size, 2, none⟩) (Nat.le_refl _) _).setCell (p := ⟨w.heap.size, 3, none⟩) (Nat.le_refl _) _).setCell (p := ⟨w.heap.size, 4, none⟩) (Nat.le_refl _) _).setCell (p := ⟨w.heap.size, 5, none⟩) (Nat.le_refl _) _).setCell (p := ⟨w.heap.size, 6, none⟩) (Nat.le_refl _) _).setCell (p := ⟨w.heap.size, 7, none⟩) (Nat.le_refl _) _).setCell (p := ⟨w.heap.size, 8, none⟩) (Nat.le_refl _) _).setCell (p := ⟨w.heap.size, 9, none⟩) (Nat.le_refl _) _).setCell (p := ⟨w.heap.size, 10, none⟩) (Nat.le_refl _) _).setCell (p := ⟨w.heap.size, 11, none⟩) (Nat.le_refl _) _).setCell (p := ⟨w.heap.size, 12, none⟩) (Nat.le_refl _) _)
  · rw [if_pos h0] at hgo
    rw [rerr_yes _ _ _ h0]
    rintro r w5 ⟨rfl, hR5, hg5⟩
    have HGO := Hid.in hgo
    have HQ := Hid.in hu
    have HH0 := Hid.in h0
    have HCO : Hid (u = 0 ∨ 3 ≤ u ∧ u ≤ 5) := Hid.in hR5.code
    have HB5 : Hid (Below w.heap.size w w5) := Hid.in (wrote HI4.out.be hg5 (Nat.le_refl _) (by have := HI4.out.rd.rng; omega))
    have HZ5 : Hid (w5.heap[w.heap.size]? = some (.cells #[.int .i64 0, .int .i64 0, .int .i64 0, .int .i64 0, .int .i64 0, .int .i64 0, .int .i64 0, .int .u32 0, .int .u32 0, .int .u32 0, .int .u32 0, .int .u32 0, .bool false] 28 (0, 0))) := Hid.in ((hg5.block _ (blk_lt HZ4.out) (by intro e; have := Option.some.inj e; have := HI4.out.rd.rng; omega)).trans HZ4.out)
    clear hgo hu h0 hR5 hg5 q0 HI4 HN4 HZ4
    have z0 : w5.cell? ⟨w.heap.size, 0, none⟩ = some (.int .i64 0) := blk_cell HZ5.out rfl
    have y0 : w5.frozen? ⟨w.heap.size, 0, none⟩ = false := blk_free HZ5.out
    have z1 : w5.cell? ⟨w.heap.size, 1, none⟩ = some (.int .i64 0) := blk_cell HZ5.out rfl
    have y1 : w5.frozen? ⟨w.heap.size, 1, none⟩ = false := blk_free HZ5.out
    have z2 : w5.cell? ⟨w.heap.size, 2, none⟩ = some (.int .i64 0) := blk_cell HZ5.out rfl
    have y2 : w5.frozen? ⟨w.heap.size, 2, none⟩ = false := blk_free HZ5.out
    have z3 : w5.cell? ⟨w.heap.size, 3, none⟩ = some (.int .i64 0) := blk_cell HZ5.out rfl
    have y3 : w5.frozen? ⟨w.heap.size, 3, none⟩ = false := blk_free HZ5.out
    have z4 : w5.cell? ⟨w.heap.size, 4, none⟩ = some (.int .i64 0) := blk_cell HZ5.out rfl
    have y4 : w5.frozen? ⟨w.heap.size, 4, none⟩ = false := blk_free HZ5.out
    have z5 : w5.cell? ⟨w.heap.size, 5, none⟩ = some (.int .i64 0) := blk_cell HZ5.out rfl
    have y5 : w5.frozen? ⟨w.heap.size, 5, none⟩ = false := blk_free HZ5.out
    have z6 : w5.cell? ⟨w.heap.size, 6, none⟩ = some (.int .i64 0) := blk_cell HZ5.out rfl
    have y6 : w5.frozen? ⟨w.heap.size, 6, none⟩ = false := blk_free HZ5.out
    have z7 : w5.cell? ⟨w.heap.size, 7, none⟩ = some (.int .u32 0) := blk_cell HZ5.out rfl
    have y7 : w5.frozen? ⟨w.heap.size, 7, none⟩ = false := blk_free HZ5.out
    have z8 : w5.cell? ⟨w.heap.size, 8, none⟩ = some (.int .u32 0) := blk_cell HZ5.out rfl
    have y8 : w5.frozen? ⟨w.heap.size, 8, none⟩ = false := blk_free HZ5.out
    have z9 : w5.cell? ⟨w.heap.size, 9, none⟩ = some (.int .u32 0) := blk_cell HZ5.out rfl
    have y9 : w5.frozen? ⟨w.heap.size, 9, none⟩ = false := blk_free HZ5.out
    have z10 : w5.cell? ⟨w.heap.size, 10, none⟩ = some (.int .u32 0) := blk_cell HZ5.out rfl
    have y10 : w5.frozen? ⟨w.heap.size, 10, none⟩ = false := blk_free HZ5.out
    have z11 : w5.cell? ⟨w.heap.size, 11, none⟩ = some (.int .u32 0) := blk_cell HZ5.out rfl
    have y11 : w5.frozen? ⟨w.heap.size, 11, none⟩ = false := blk_free HZ5.out
    have z12 : w5.cell? ⟨w.heap.size, 12, none⟩ = some (.bool false) := blk_cell HZ5.out rfl
    have y12 : w5.frozen? ⟨w.heap.size, 12, none⟩ = false := blk_free HZ5.out
    go_wp2_with fail
    refine (wrap_some _ _ _ _ _).mono ?_
    rintro r w5 ⟨rfl, rfl⟩
    go_wp2
    have e := HGO.out
    refine bodyPost_ret (v := .tuple #[.agg #[.int .i64 0, .int .i64 0, .int .i64 0, .int .i64 0, .int .i64 0, .int .i64 0, .int .i64 0, .int .u32 0, .int .u32 0, .int .u32 0, .int .u32 0, .int .u32 0, .bool false], flt opSGet 0 (flt opP (p : Int) (snt (sa u)))]) ?_ rfl ⟨[(opP, (p : Int))], by rw [e]; simp only [gErr]; rw [if_neg HH0.out]; rfl, ?_, by rw [e]; exact HCO.out⟩
    · rw [results_cell_tmp rfl]
      go_simp
      all_goals rfl
    · exact (((((((((((((HB5.out.setCell (p := ⟨w.heap.size, 0, none⟩) (Nat.le_refl _) _).setCell (p := ⟨w.heap.size, 1, none⟩) (Nat.le_refl _) _).setCell (p := ⟨w.heap.size, 2, none⟩) (Nat.le_refl _) _).setCell (p := ⟨w.heap.size, 3, none⟩) (Nat.le_refl _) _).setCell (p := ⟨w.heap.size, 4, none⟩) (Nat.le_refl _) _).setCell (p := ⟨w.heap.size, 5, none⟩) (Nat.le_refl _) _).setCell (p := ⟨w.heap.size, 6, none⟩) (Nat.le_refl _) _).setCell (p := ⟨w.heap.size, 7, none⟩) (Nat.le_refl _) _).setCell (p := ⟨w.heap.size, 8, none⟩) (Nat.le_refl _) _).setCell (p := ⟨w.heap.size, 9, none⟩) (Nat.le_refl _) _).setCell (p := ⟨w.heap.size, 10, none⟩) (Nat.le_refl _) _).setCell (p := ⟨w.heap.size, 11, none⟩) (Nat.le_refl _) _).setCell (p := ⟨w.heap.size, 12, none⟩) (Nat.le_refl _) _)

end Go.Proofs.YtgepfbaojogccaaDoor
