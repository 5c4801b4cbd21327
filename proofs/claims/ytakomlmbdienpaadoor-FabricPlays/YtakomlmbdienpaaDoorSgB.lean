/- DERIVED of the program: msg.walk by its contract, a theorem a way that its asks go. Own work. -/
import Derived.Test.YtakomlmbdienpaaDoorSgA
namespace Go.Proofs.YtakomlmbdienpaaDoor
open Go.RowKit Go.Extern.Stop Go.Stop Go.Extern

theorem sbit_any (h : Bool) (w : World) : Calls Tryd.prog 50 #[.bool h] w fun r w' => r = .returned (.int .i64 (if h then 1 else 0)) ∧ w' = w := by
  cases h
  · go_enter Tryd.func50, Tryd.ntmps50
    go_wp2
    go_ret
    exact ⟨rfl, rfl⟩
  · go_enter Tryd.func50, Tryd.ntmps50
    go_wp2
    go_ret
    exact ⟨rfl, rfl⟩

set_option maxRecDepth 100000 in
theorem index4_0 (a b c d : Int) (w : World) : (Instr.index 30 (.agg #[.int .u32 a, .int .u32 b, .int .u32 c, .int .u32 d]) (.int .i64 0)).run Tryd.prog w = .ok (.int .u32 a) w := by
  change _ = _
  kernel_rfl

set_option maxRecDepth 100000 in
theorem index4_1 (a b c d : Int) (w : World) : (Instr.index 30 (.agg #[.int .u32 a, .int .u32 b, .int .u32 c, .int .u32 d]) (.int .i64 1)).run Tryd.prog w = .ok (.int .u32 b) w := by
  change _ = _
  kernel_rfl

set_option maxRecDepth 100000 in
theorem index4_2 (a b c d : Int) (w : World) : (Instr.index 30 (.agg #[.int .u32 a, .int .u32 b, .int .u32 c, .int .u32 d]) (.int .i64 2)).run Tryd.prog w = .ok (.int .u32 c) w := by
  change _ = _
  kernel_rfl

set_option maxRecDepth 100000 in
theorem index4_3 (a b c d : Int) (w : World) : (Instr.index 30 (.agg #[.int .u32 a, .int .u32 b, .int .u32 c, .int .u32 d]) (.int .i64 3)).run Tryd.prog w = .ok (.int .u32 d) w := by
  change _ = _
  kernel_rfl

set_option maxHeartbeats 3200000 in
set_option maxRecDepth 20000 in
theorem swalkLine_any {K q : Nat} {pv : Value} {σ : Type} {st : σ → Int → Int → Int → σ × Int} {fuel : σ → Nat} {Inv : (Nat → Prop) → σ → World → Prop} (HA : AskC K q pv st fuel Inv) (O : Nat → Prop) (w : World)
    {s s1 s2 s3 s4 : σ} {d0 d1 d2 d3 d0' d1' d2' d3' : Int} (e1 : st s d0 0 4294967295 = (s1, d0')) (e2 : st s1 d1 0 4294967295 = (s2, d1')) (e3 : st s2 d2 0 4294967295 = (s3, d2')) (e4 : st s3 d3 0 4294967295 = (s4, d3')) (hI : Inv O s w) (hf : 4 ≤ fuel s) (bd0 : 0 ≤ d0 ∧ d0 ≤ 4294967295) (bd1 : 0 ≤ d1 ∧ d1 ≤ 4294967295) (bd2 : 0 ≤ d2 ∧ d2 ≤ 4294967295) (bd3 : 0 ≤ d3 ∧ d3 ≤ 4294967295) (bd0' : 0 ≤ d0' ∧ d0' ≤ 4294967295) (bd1' : 0 ≤ d1' ∧ d1' ≤ 4294967295) (bd2' : 0 ≤ d2' ∧ d2' ≤ 4294967295) (bd3' : 0 ≤ d3' ∧ d3' ≤ 4294967295) :
    Calls Tryd.prog 51 #[.agg #[.int .u32 d0, .int .u32 d1, .int .u32 d2, .int .u32 d3], .func (.func K) #[] #[pv]] w fun r w' => r = .returned (.agg #[.int .u32 d0', .int .u32 d1', .int .u32 d2', .int .u32 d3']) ∧ Inv O s4 w' ∧ w.grownBy w' (some q) := by
  have ee := HA.enters
  have f1 := HA.next e1
  have f2 := HA.next e2
  have f3 := HA.next e3
  have f4 := HA.next e4
  have S0 := Hid.in (WS.start HA hI 30 #[.int .u32 d0, .int .u32 d1, .int .u32 d2, .int .u32 d3] #[.int .u32 0, .int .u32 0, .int .u32 0, .int .u32 0] #[.int .u32 0, .int .u32 0, .int .u32 0, .int .u32 0])
  clear hI
  have x0 : (((w.alloc (.cells #[.int .u32 d0, .int .u32 d1, .int .u32 d2, .int .u32 d3] 30)).alloc (.cells #[.int .u32 0, .int .u32 0, .int .u32 0, .int .u32 0] 30)).alloc (.cells #[.int .u32 0, .int .u32 0, .int .u32 0, .int .u32 0] 30)).cell? ⟨w.heap.size, 0, none⟩ = some (.int .u32 d0) := blk_cell S0.out.bA rfl
  obtain ⟨l0, m0⟩ := bd0
  have x1 : (((w.alloc (.cells #[.int .u32 d0, .int .u32 d1, .int .u32 d2, .int .u32 d3] 30)).alloc (.cells #[.int .u32 0, .int .u32 0, .int .u32 0, .int .u32 0] 30)).alloc (.cells #[.int .u32 0, .int .u32 0, .int .u32 0, .int .u32 0] 30)).cell? ⟨w.heap.size, 1, none⟩ = some (.int .u32 d1) := blk_cell S0.out.bA rfl
  obtain ⟨l1, m1⟩ := bd1
  have x2 : (((w.alloc (.cells #[.int .u32 d0, .int .u32 d1, .int .u32 d2, .int .u32 d3] 30)).alloc (.cells #[.int .u32 0, .int .u32 0, .int .u32 0, .int .u32 0] 30)).alloc (.cells #[.int .u32 0, .int .u32 0, .int .u32 0, .int .u32 0] 30)).cell? ⟨w.heap.size, 2, none⟩ = some (.int .u32 d2) := blk_cell S0.out.bA rfl
  obtain ⟨l2, m2⟩ := bd2
  have x3 : (((w.alloc (.cells #[.int .u32 d0, .int .u32 d1, .int .u32 d2, .int .u32 d3] 30)).alloc (.cells #[.int .u32 0, .int .u32 0, .int .u32 0, .int .u32 0] 30)).alloc (.cells #[.int .u32 0, .int .u32 0, .int .u32 0, .int .u32 0] 30)).cell? ⟨w.heap.size, 3, none⟩ = some (.int .u32 d3) := blk_cell S0.out.bA rfl
  obtain ⟨l3, m3⟩ := bd3
  have ix0 := index4_0 d0 d1 d2 d3
  have ix1 := index4_1 d0 d1 d2 d3
  have ix2 := index4_2 d0 d1 d2 d3
  have ix3 := index4_3 d0 d1 d2 d3
  go_enter Tryd.func51, Tryd.ntmps51
  go_wp2_with fail
  refine wp_loop_rounds 5 ?_
  rw [rounds_succ]
  go_wp2_with fail
  refine (HA.met e1 S0.out.inv (by omega) (by omega) (by omega)).mono ?_
  rintro r w1 ⟨rfl, hI, hg⟩
  clear x0 x1 x2 x3
  obtain ⟨p0, p1⟩ := bd0'
  have p2 : d0' < 4294967296 := by omega
  have T1 := Hid.in (S0.out.in HA hI hg)
  clear hI hg
  have z : w1.cell? ⟨w.heap.size + 1 + 1, 0, none⟩ = some (.int .u32 0) := blk_cell T1.out.bC rfl
  have y : w1.frozen? ⟨w.heap.size + 1 + 1, 0, none⟩ = false := blk_free T1.out.bC
  have S1 : Hid (WS Inv _ 30 w q w.heap.size #[.int .u32 d0, .int .u32 d1, .int .u32 d2, .int .u32 d3] #[.int .u32 0, .int .u32 0, .int .u32 0, .int .u32 0] #[.int .u32 d0', .int .u32 0, .int .u32 0, .int .u32 0] s1 (w1.setCell ⟨w.heap.size + 1 + 1, 0, none⟩ (.int .u32 d0'))) := Hid.in (T1.out.set HA 0 (.int .u32 d0'))
  go_upto_region 6 with fail
  generalize hX : w1.setCell ⟨w.heap.size + 1 + 1, 0, none⟩ (.int .u32 d0') = X1 at *
  clear z y hX T1 S0 p0 p1 p2
  go_wp2_with fail
  rw [rounds_succ]
  go_wp2_with fail
  refine (HA.met e2 S1.out.inv (by omega) (by omega) (by omega)).mono ?_
  rintro r w2 ⟨rfl, hI, hg⟩
  obtain ⟨p0, p1⟩ := bd1'
  have p2 : d1' < 4294967296 := by omega
  have T2 := Hid.in (S1.out.in HA hI hg)
  clear hI hg
  have z : w2.cell? ⟨w.heap.size + 1 + 1, 1, none⟩ = some (.int .u32 0) := blk_cell T2.out.bC rfl
  have y : w2.frozen? ⟨w.heap.size + 1 + 1, 1, none⟩ = false := blk_free T2.out.bC
  have S2 : Hid (WS Inv _ 30 w q w.heap.size #[.int .u32 d0, .int .u32 d1, .int .u32 d2, .int .u32 d3] #[.int .u32 0, .int .u32 0, .int .u32 0, .int .u32 0] #[.int .u32 d0', .int .u32 d1', .int .u32 0, .int .u32 0] s2 (w2.setCell ⟨w.heap.size + 1 + 1, 1, none⟩ (.int .u32 d1'))) := Hid.in (T2.out.set HA 1 (.int .u32 d1'))
  go_upto_region 6 with fail
  generalize hX : w2.setCell ⟨w.heap.size + 1 + 1, 1, none⟩ (.int .u32 d1') = X2 at *
  clear z y hX T2 S1 p0 p1 p2
  go_wp2_with fail
  rw [rounds_succ]
  go_wp2_with fail
  refine (HA.met e3 S2.out.inv (by omega) (by omega) (by omega)).mono ?_
  rintro r w3 ⟨rfl, hI, hg⟩
  obtain ⟨p0, p1⟩ := bd2'
  have p2 : d2' < 4294967296 := by omega
  have T3 := Hid.in (S2.out.in HA hI hg)
  clear hI hg
  have z : w3.cell? ⟨w.heap.size + 1 + 1, 2, none⟩ = some (.int .u32 0) := blk_cell T3.out.bC rfl
  have y : w3.frozen? ⟨w.heap.size + 1 + 1, 2, none⟩ = false := blk_free T3.out.bC
  have S3 : Hid (WS Inv _ 30 w q w.heap.size #[.int .u32 d0, .int .u32 d1, .int .u32 d2, .int .u32 d3] #[.int .u32 0, .int .u32 0, .int .u32 0, .int .u32 0] #[.int .u32 d0', .int .u32 d1', .int .u32 d2', .int .u32 0] s3 (w3.setCell ⟨w.heap.size + 1 + 1, 2, none⟩ (.int .u32 d2'))) := Hid.in (T3.out.set HA 2 (.int .u32 d2'))
  go_upto_region 6 with fail
  generalize hX : w3.setCell ⟨w.heap.size + 1 + 1, 2, none⟩ (.int .u32 d2') = X3 at *
  clear z y hX T3 S2 p0 p1 p2
  go_wp2_with fail
  rw [rounds_succ]
  go_wp2_with fail
  refine (HA.met e4 S3.out.inv (by omega) (by omega) (by omega)).mono ?_
  rintro r w4 ⟨rfl, hI, hg⟩
  obtain ⟨p0, p1⟩ := bd3'
  have p2 : d3' < 4294967296 := by omega
  have T4 := Hid.in (S3.out.in HA hI hg)
  clear hI hg
  have z : w4.cell? ⟨w.heap.size + 1 + 1, 3, none⟩ = some (.int .u32 0) := blk_cell T4.out.bC rfl
  have y : w4.frozen? ⟨w.heap.size + 1 + 1, 3, none⟩ = false := blk_free T4.out.bC
  have S4 : Hid (WS Inv _ 30 w q w.heap.size #[.int .u32 d0, .int .u32 d1, .int .u32 d2, .int .u32 d3] #[.int .u32 0, .int .u32 0, .int .u32 0, .int .u32 0] #[.int .u32 d0', .int .u32 d1', .int .u32 d2', .int .u32 d3'] s4 (w4.setCell ⟨w.heap.size + 1 + 1, 3, none⟩ (.int .u32 d3'))) := Hid.in (T4.out.set HA 3 (.int .u32 d3'))
  go_upto_region 6 with fail
  generalize hX : w4.setCell ⟨w.heap.size + 1 + 1, 3, none⟩ (.int .u32 d3') = X4 at *
  clear z y hX T4 S3 p0 p1 p2
  go_wp2_with fail
  have u0 : X4.cell? ⟨w.heap.size + 1 + 1, 0, none⟩ = some (.int .u32 d0') := blk_cell S4.out.bC rfl
  have t0 : X4.cell? ⟨w.heap.size + 1, 0, none⟩ = some (.int .u32 0) := blk_cell S4.out.bB rfl
  have r0 : X4.frozen? ⟨w.heap.size + 1, 0, none⟩ = false := blk_free S4.out.bB
  have u1 : X4.cell? ⟨w.heap.size + 1 + 1, 1, none⟩ = some (.int .u32 d1') := blk_cell S4.out.bC rfl
  have t1 : X4.cell? ⟨w.heap.size + 1, 1, none⟩ = some (.int .u32 0) := blk_cell S4.out.bB rfl
  have r1 : X4.frozen? ⟨w.heap.size + 1, 1, none⟩ = false := blk_free S4.out.bB
  have u2 : X4.cell? ⟨w.heap.size + 1 + 1, 2, none⟩ = some (.int .u32 d2') := blk_cell S4.out.bC rfl
  have t2 : X4.cell? ⟨w.heap.size + 1, 2, none⟩ = some (.int .u32 0) := blk_cell S4.out.bB rfl
  have r2 : X4.frozen? ⟨w.heap.size + 1, 2, none⟩ = false := blk_free S4.out.bB
  have u3 : X4.cell? ⟨w.heap.size + 1 + 1, 3, none⟩ = some (.int .u32 d3') := blk_cell S4.out.bC rfl
  have t3 : X4.cell? ⟨w.heap.size + 1, 3, none⟩ = some (.int .u32 0) := blk_cell S4.out.bB rfl
  have r3 : X4.frozen? ⟨w.heap.size + 1, 3, none⟩ = false := blk_free S4.out.bB
  have R := Hid.in ((((S4.out.setB HA 0 (.int .u32 d0')).setB HA 1 (.int .u32 d1')).setB HA 2 (.int .u32 d2')).setB HA 3 (.int .u32 d3'))
  rw [rounds_succ]
  go_wp2
  refine bodyPost_ret (v := .agg #[.int .u32 d0', .int .u32 d1', .int .u32 d2', .int .u32 d3']) ?_ rfl ⟨rfl, HA.sub _ _ _ _ R.out.inv (fun x hx => .inl (.inl (.inl hx))), R.out.gr⟩
  rw [results_cell1 rfl]
  go_simp

set_option maxHeartbeats 3200000 in
set_option maxRecDepth 20000 in
theorem swalk_B {K q : Nat} {pv : Value} {σ : Type} {st : σ → Int → Int → Int → σ × Int} {fuel : σ → Nat} {Inv : (Nat → Prop) → σ → World → Prop} (HA : AskC K q pv st fuel Inv) (O : Nat → Prop) (w : World)
    {s s1 s2 s3 : σ} {k c l t o e w_ v d0 d1 d2 d3 : Int} {h : Bool} {k' c' l' : Int} (e1 : st s k 1 15 = (s1, k')) (e2 : st s1 c 0 63 = (s2, c')) (e3 : st s2 l 0 31 = (s3, l')) (g3 : ¬ k' = 3) (g8 : ¬ k' = 8) (g14 : ¬ k' = 14) (g9 : ¬ k' = 9) (g5 : ¬ k' = 5) (g13 : ¬ k' = 13) (g11 : ¬ k' = 11)
    (hI : Inv O s w) (hf : 20 ≤ fuel s) (bk : -9223372036854775808 ≤ k ∧ k ≤ 9223372036854775807) (bc : -9223372036854775808 ≤ c ∧ c ≤ 9223372036854775807) (bl : -9223372036854775808 ≤ l ∧ l ≤ 9223372036854775807)  :
    Calls Tryd.prog 40 #[.agg #[.int .i64 k, .int .i64 c, .int .i64 l, .int .i64 t, .int .i64 o, .int .i64 e, .int .i64 w_, .int .u32 v, .int .u32 d0, .int .u32 d1, .int .u32 d2, .int .u32 d3, .bool h], .func (.func K) #[] #[pv]] w fun r w' => r = .returned (.agg #[.int .i64 k', .int .i64 c', .int .i64 l', .int .i64 0, .int .i64 0, .int .i64 0, .int .i64 0, .int .u32 0, .int .u32 0, .int .u32 0, .int .u32 0, .int .u32 0, .bool false]) ∧ Inv O s3 w' ∧ w.grownBy w' (some q) := by
  have ee := HA.enters
  have f1 := HA.next e1
  have f2 := HA.next e2
  have f3 := HA.next e3
  have S0 := Hid.in (WS.start HA hI 32 #[.int .i64 k, .int .i64 c, .int .i64 l, .int .i64 t, .int .i64 o, .int .i64 e, .int .i64 w_, .int .u32 v, .int .u32 d0, .int .u32 d1, .int .u32 d2, .int .u32 d3, .bool h] #[.int .i64 0, .int .i64 0, .int .i64 0, .int .i64 0, .int .i64 0, .int .i64 0, .int .i64 0, .int .u32 0, .int .u32 0, .int .u32 0, .int .u32 0, .int .u32 0, .bool false] #[.int .i64 0, .int .i64 0, .int .i64 0, .int .i64 0, .int .i64 0, .int .i64 0, .int .i64 0, .int .u32 0, .int .u32 0, .int .u32 0, .int .u32 0, .int .u32 0, .bool false])
  clear hI
  have x0 : (((w.alloc (.cells #[.int .i64 k, .int .i64 c, .int .i64 l, .int .i64 t, .int .i64 o, .int .i64 e, .int .i64 w_, .int .u32 v, .int .u32 d0, .int .u32 d1, .int .u32 d2, .int .u32 d3, .bool h] 32)).alloc (.cells #[.int .i64 0, .int .i64 0, .int .i64 0, .int .i64 0, .int .i64 0, .int .i64 0, .int .i64 0, .int .u32 0, .int .u32 0, .int .u32 0, .int .u32 0, .int .u32 0, .bool false] 32)).alloc (.cells #[.int .i64 0, .int .i64 0, .int .i64 0, .int .i64 0, .int .i64 0, .int .i64 0, .int .i64 0, .int .u32 0, .int .u32 0, .int .u32 0, .int .u32 0, .int .u32 0, .bool false] 32)).cell? ⟨w.heap.size, 0, none⟩ = some (.int .i64 k) := blk_cell S0.out.bA rfl
  go_enter Tryd.func40, Tryd.ntmps40
  go_wp2_with fail
  refine (HA.met e1 S0.out.inv (by omega) bk.1 bk.2).mono ?_
  rintro r w1 ⟨rfl, hI, hg⟩
  clear x0
  have T1 := Hid.in (S0.out.in HA hI hg)
  clear hI hg
  have z : w1.cell? ⟨w.heap.size + 1 + 1, 0, none⟩ = some (.int .i64 0) := blk_cell T1.out.bC rfl
  have y : w1.frozen? ⟨w.heap.size + 1 + 1, 0, none⟩ = false := blk_free T1.out.bC
  have S1 : Hid (WS Inv _ 32 w q w.heap.size #[.int .i64 k, .int .i64 c, .int .i64 l, .int .i64 t, .int .i64 o, .int .i64 e, .int .i64 w_, .int .u32 v, .int .u32 d0, .int .u32 d1, .int .u32 d2, .int .u32 d3, .bool h] #[.int .i64 0, .int .i64 0, .int .i64 0, .int .i64 0, .int .i64 0, .int .i64 0, .int .i64 0, .int .u32 0, .int .u32 0, .int .u32 0, .int .u32 0, .int .u32 0, .bool false] #[.int .i64 k', .int .i64 0, .int .i64 0, .int .i64 0, .int .i64 0, .int .i64 0, .int .i64 0, .int .u32 0, .int .u32 0, .int .u32 0, .int .u32 0, .int .u32 0, .bool false] s1 (w1.setCell ⟨w.heap.size + 1 + 1, 0, none⟩ (.int .i64 k'))) := Hid.in (T1.out.set HA 0 (.int .i64 k'))
  go_upto_region 3 with fail
  generalize hX : w1.setCell ⟨w.heap.size + 1 + 1, 0, none⟩ (.int .i64 k') = X1 at *
  clear z y hX T1 S0
  have x0 : X1.cell? ⟨w.heap.size, 1, none⟩ = some (.int .i64 c) := blk_cell S1.out.bA rfl
  go_wp2_with fail
  refine (HA.met e2 S1.out.inv (by omega) bc.1 bc.2).mono ?_
  rintro r w2 ⟨rfl, hI, hg⟩
  clear x0
  have T2 := Hid.in (S1.out.in HA hI hg)
  clear hI hg
  have z : w2.cell? ⟨w.heap.size + 1 + 1, 1, none⟩ = some (.int .i64 0) := blk_cell T2.out.bC rfl
  have y : w2.frozen? ⟨w.heap.size + 1 + 1, 1, none⟩ = false := blk_free T2.out.bC
  have S2 : Hid (WS Inv _ 32 w q w.heap.size #[.int .i64 k, .int .i64 c, .int .i64 l, .int .i64 t, .int .i64 o, .int .i64 e, .int .i64 w_, .int .u32 v, .int .u32 d0, .int .u32 d1, .int .u32 d2, .int .u32 d3, .bool h] #[.int .i64 0, .int .i64 0, .int .i64 0, .int .i64 0, .int .i64 0, .int .i64 0, .int .i64 0, .int .u32 0, .int .u32 0, .int .u32 0, .int .u32 0, .int .u32 0, .bool false] #[.int .i64 k', .int .i64 c', .int .i64 0, .int .i64 0, .int .i64 0, .int .i64 0, .int .i64 0, .int .u32 0, .int .u32 0, .int .u32 0, .int .u32 0, .int .u32 0, .bool false] s2 (w2.setCell ⟨w.heap.size + 1 + 1, 1, none⟩ (.int .i64 c'))) := Hid.in (T2.out.set HA 1 (.int .i64 c'))
  go_upto_region 4 with fail
  generalize hX : w2.setCell ⟨w.heap.size + 1 + 1, 1, none⟩ (.int .i64 c') = X2 at *
  clear z y hX T2 S1
  have x0 : X2.cell? ⟨w.heap.size, 2, none⟩ = some (.int .i64 l) := blk_cell S2.out.bA rfl
  go_wp2_with fail
  refine (HA.met e3 S2.out.inv (by omega) bl.1 bl.2).mono ?_
  rintro r w3 ⟨rfl, hI, hg⟩
  clear x0
  have T3 := Hid.in (S2.out.in HA hI hg)
  clear hI hg
  have z : w3.cell? ⟨w.heap.size + 1 + 1, 2, none⟩ = some (.int .i64 0) := blk_cell T3.out.bC rfl
  have y : w3.frozen? ⟨w.heap.size + 1 + 1, 2, none⟩ = false := blk_free T3.out.bC
  have S3 : Hid (WS Inv _ 32 w q w.heap.size #[.int .i64 k, .int .i64 c, .int .i64 l, .int .i64 t, .int .i64 o, .int .i64 e, .int .i64 w_, .int .u32 v, .int .u32 d0, .int .u32 d1, .int .u32 d2, .int .u32 d3, .bool h] #[.int .i64 0, .int .i64 0, .int .i64 0, .int .i64 0, .int .i64 0, .int .i64 0, .int .i64 0, .int .u32 0, .int .u32 0, .int .u32 0, .int .u32 0, .int .u32 0, .bool false] #[.int .i64 k', .int .i64 c', .int .i64 l', .int .i64 0, .int .i64 0, .int .i64 0, .int .i64 0, .int .u32 0, .int .u32 0, .int .u32 0, .int .u32 0, .int .u32 0, .bool false] s3 (w3.setCell ⟨w.heap.size + 1 + 1, 2, none⟩ (.int .i64 l'))) := Hid.in (T3.out.set HA 2 (.int .i64 l'))
  go_upto_region 5 with fail
  generalize hX : w3.setCell ⟨w.heap.size + 1 + 1, 2, none⟩ (.int .i64 l') = X3 at *
  clear z y hX T3 S2
  have k0 : X3.cell? ⟨w.heap.size + 1 + 1, 0, none⟩ = some (.int .i64 k') := blk_cell S3.out.bC rfl
  have u0 : X3.cell? ⟨w.heap.size + 1 + 1, 0, none⟩ = some (.int .i64 k') := blk_cell S3.out.bC rfl
  have u1 : X3.cell? ⟨w.heap.size + 1 + 1, 1, none⟩ = some (.int .i64 c') := blk_cell S3.out.bC rfl
  have u2 : X3.cell? ⟨w.heap.size + 1 + 1, 2, none⟩ = some (.int .i64 l') := blk_cell S3.out.bC rfl
  have u3 : X3.cell? ⟨w.heap.size + 1 + 1, 3, none⟩ = some (.int .i64 0) := blk_cell S3.out.bC rfl
  have u4 : X3.cell? ⟨w.heap.size + 1 + 1, 4, none⟩ = some (.int .i64 0) := blk_cell S3.out.bC rfl
  have u5 : X3.cell? ⟨w.heap.size + 1 + 1, 5, none⟩ = some (.int .i64 0) := blk_cell S3.out.bC rfl
  have u6 : X3.cell? ⟨w.heap.size + 1 + 1, 6, none⟩ = some (.int .i64 0) := blk_cell S3.out.bC rfl
  have u7 : X3.cell? ⟨w.heap.size + 1 + 1, 7, none⟩ = some (.int .u32 0) := blk_cell S3.out.bC rfl
  have u8 : X3.cell? ⟨w.heap.size + 1 + 1, 8, none⟩ = some (.int .u32 0) := blk_cell S3.out.bC rfl
  have u9 : X3.cell? ⟨w.heap.size + 1 + 1, 9, none⟩ = some (.int .u32 0) := blk_cell S3.out.bC rfl
  have u10 : X3.cell? ⟨w.heap.size + 1 + 1, 10, none⟩ = some (.int .u32 0) := blk_cell S3.out.bC rfl
  have u11 : X3.cell? ⟨w.heap.size + 1 + 1, 11, none⟩ = some (.int .u32 0) := blk_cell S3.out.bC rfl
  have u12 : X3.cell? ⟨w.heap.size + 1 + 1, 12, none⟩ = some (.bool false) := blk_cell S3.out.bC rfl
  clear k0
  have t0 : X3.cell? ⟨w.heap.size + 1, 0, none⟩ = some (.int .i64 0) := blk_cell S3.out.bB rfl
  have r0 : X3.frozen? ⟨w.heap.size + 1, 0, none⟩ = false := blk_free S3.out.bB
  have t1 : X3.cell? ⟨w.heap.size + 1, 1, none⟩ = some (.int .i64 0) := blk_cell S3.out.bB rfl
  have r1 : X3.frozen? ⟨w.heap.size + 1, 1, none⟩ = false := blk_free S3.out.bB
  have t2 : X3.cell? ⟨w.heap.size + 1, 2, none⟩ = some (.int .i64 0) := blk_cell S3.out.bB rfl
  have r2 : X3.frozen? ⟨w.heap.size + 1, 2, none⟩ = false := blk_free S3.out.bB
  have t3 : X3.cell? ⟨w.heap.size + 1, 3, none⟩ = some (.int .i64 0) := blk_cell S3.out.bB rfl
  have r3 : X3.frozen? ⟨w.heap.size + 1, 3, none⟩ = false := blk_free S3.out.bB
  have t4 : X3.cell? ⟨w.heap.size + 1, 4, none⟩ = some (.int .i64 0) := blk_cell S3.out.bB rfl
  have r4 : X3.frozen? ⟨w.heap.size + 1, 4, none⟩ = false := blk_free S3.out.bB
  have t5 : X3.cell? ⟨w.heap.size + 1, 5, none⟩ = some (.int .i64 0) := blk_cell S3.out.bB rfl
  have r5 : X3.frozen? ⟨w.heap.size + 1, 5, none⟩ = false := blk_free S3.out.bB
  have t6 : X3.cell? ⟨w.heap.size + 1, 6, none⟩ = some (.int .i64 0) := blk_cell S3.out.bB rfl
  have r6 : X3.frozen? ⟨w.heap.size + 1, 6, none⟩ = false := blk_free S3.out.bB
  have t7 : X3.cell? ⟨w.heap.size + 1, 7, none⟩ = some (.int .u32 0) := blk_cell S3.out.bB rfl
  have r7 : X3.frozen? ⟨w.heap.size + 1, 7, none⟩ = false := blk_free S3.out.bB
  have t8 : X3.cell? ⟨w.heap.size + 1, 8, none⟩ = some (.int .u32 0) := blk_cell S3.out.bB rfl
  have r8 : X3.frozen? ⟨w.heap.size + 1, 8, none⟩ = false := blk_free S3.out.bB
  have t9 : X3.cell? ⟨w.heap.size + 1, 9, none⟩ = some (.int .u32 0) := blk_cell S3.out.bB rfl
  have r9 : X3.frozen? ⟨w.heap.size + 1, 9, none⟩ = false := blk_free S3.out.bB
  have t10 : X3.cell? ⟨w.heap.size + 1, 10, none⟩ = some (.int .u32 0) := blk_cell S3.out.bB rfl
  have r10 : X3.frozen? ⟨w.heap.size + 1, 10, none⟩ = false := blk_free S3.out.bB
  have t11 : X3.cell? ⟨w.heap.size + 1, 11, none⟩ = some (.int .u32 0) := blk_cell S3.out.bB rfl
  have r11 : X3.frozen? ⟨w.heap.size + 1, 11, none⟩ = false := blk_free S3.out.bB
  have t12 : X3.cell? ⟨w.heap.size + 1, 12, none⟩ = some (.bool false) := blk_cell S3.out.bB rfl
  have r12 : X3.frozen? ⟨w.heap.size + 1, 12, none⟩ = false := blk_free S3.out.bB
  have R := Hid.in (((((((((((((S3.out.setB HA 0 (.int .i64 k')).setB HA 1 (.int .i64 c')).setB HA 2 (.int .i64 l')).setB HA 3 (.int .i64 0)).setB HA 4 (.int .i64 0)).setB HA 5 (.int .i64 0)).setB HA 6 (.int .i64 0)).setB HA 7 (.int .u32 0)).setB HA 8 (.int .u32 0)).setB HA 9 (.int .u32 0)).setB HA 10 (.int .u32 0)).setB HA 11 (.int .u32 0)).setB HA 12 (.bool false))
  go_wp2
  refine bodyPost_ret (v := .agg #[.int .i64 k', .int .i64 c', .int .i64 l', .int .i64 0, .int .i64 0, .int .i64 0, .int .i64 0, .int .u32 0, .int .u32 0, .int .u32 0, .int .u32 0, .int .u32 0, .bool false]) ?_ rfl ⟨rfl, HA.sub _ _ _ _ R.out.inv (fun x hx => .inl (.inl (.inl hx))), R.out.gr⟩
  rw [results_cell1 rfl]
  go_simp

set_option maxHeartbeats 3200000 in
set_option maxRecDepth 20000 in
theorem swalk_S {K q : Nat} {pv : Value} {σ : Type} {st : σ → Int → Int → Int → σ × Int} {fuel : σ → Nat} {Inv : (Nat → Prop) → σ → World → Prop} (HA : AskC K q pv st fuel Inv) (O : Nat → Prop) (w : World)
    {s s1 s2 s3 s4 : σ} {k c l t o e w_ v d0 d1 d2 d3 : Int} {h : Bool} {c' l' o' : Int} (e1 : st s k 1 15 = (s1, 5)) (e2 : st s1 c 0 63 = (s2, c')) (e3 : st s2 l 0 31 = (s3, l')) (e4 : st s3 o 0 3 = (s4, o')) 
    (hI : Inv O s w) (hf : 20 ≤ fuel s) (bk : -9223372036854775808 ≤ k ∧ k ≤ 9223372036854775807) (bc : -9223372036854775808 ≤ c ∧ c ≤ 9223372036854775807) (bl : -9223372036854775808 ≤ l ∧ l ≤ 9223372036854775807) (bo : -9223372036854775808 ≤ o ∧ o ≤ 9223372036854775807)  :
    Calls Tryd.prog 40 #[.agg #[.int .i64 k, .int .i64 c, .int .i64 l, .int .i64 t, .int .i64 o, .int .i64 e, .int .i64 w_, .int .u32 v, .int .u32 d0, .int .u32 d1, .int .u32 d2, .int .u32 d3, .bool h], .func (.func K) #[] #[pv]] w fun r w' => r = .returned (.agg #[.int .i64 5, .int .i64 c', .int .i64 l', .int .i64 0, .int .i64 o', .int .i64 0, .int .i64 0, .int .u32 0, .int .u32 0, .int .u32 0, .int .u32 0, .int .u32 0, .bool false]) ∧ Inv O s4 w' ∧ w.grownBy w' (some q) := by
  have ee := HA.enters
  have f1 := HA.next e1
  have f2 := HA.next e2
  have f3 := HA.next e3
  have f4 := HA.next e4
  have S0 := Hid.in (WS.start HA hI 32 #[.int .i64 k, .int .i64 c, .int .i64 l, .int .i64 t, .int .i64 o, .int .i64 e, .int .i64 w_, .int .u32 v, .int .u32 d0, .int .u32 d1, .int .u32 d2, .int .u32 d3, .bool h] #[.int .i64 0, .int .i64 0, .int .i64 0, .int .i64 0, .int .i64 0, .int .i64 0, .int .i64 0, .int .u32 0, .int .u32 0, .int .u32 0, .int .u32 0, .int .u32 0, .bool false] #[.int .i64 0, .int .i64 0, .int .i64 0, .int .i64 0, .int .i64 0, .int .i64 0, .int .i64 0, .int .u32 0, .int .u32 0, .int .u32 0, .int .u32 0, .int .u32 0, .bool false])
  clear hI
  have x0 : (((w.alloc (.cells #[.int .i64 k, .int .i64 c, .int .i64 l, .int .i64 t, .int .i64 o, .int .i64 e, .int .i64 w_, .int .u32 v, .int .u32 d0, .int .u32 d1, .int .u32 d2, .int .u32 d3, .bool h] 32)).alloc (.cells #[.int .i64 0, .int .i64 0, .int .i64 0, .int .i64 0, .int .i64 0, .int .i64 0, .int .i64 0, .int .u32 0, .int .u32 0, .int .u32 0, .int .u32 0, .int .u32 0, .bool false] 32)).alloc (.cells #[.int .i64 0, .int .i64 0, .int .i64 0, .int .i64 0, .int .i64 0, .int .i64 0, .int .i64 0, .int .u32 0, .int .u32 0, .int .u32 0, .int .u32 0, .int .u32 0, .bool false] 32)).cell? ⟨w.heap.size, 0, none⟩ = some (.int .i64 k) := blk_cell S0.out.bA rfl
  go_enter Tryd.func40, Tryd.ntmps40
  go_wp2_with fail
  refine (HA.met e1 S0.out.inv (by omega) bk.1 bk.2).mono ?_
  rintro r w1 ⟨rfl, hI, hg⟩
  clear x0
  have T1 := Hid.in (S0.out.in HA hI hg)
  clear hI hg
  have z : w1.cell? ⟨w.heap.size + 1 + 1, 0, none⟩ = some (.int .i64 0) := blk_cell T1.out.bC rfl
  have y : w1.frozen? ⟨w.heap.size + 1 + 1, 0, none⟩ = false := blk_free T1.out.bC
  have S1 : Hid (WS Inv _ 32 w q w.heap.size #[.int .i64 k, .int .i64 c, .int .i64 l, .int .i64 t, .int .i64 o, .int .i64 e, .int .i64 w_, .int .u32 v, .int .u32 d0, .int .u32 d1, .int .u32 d2, .int .u32 d3, .bool h] #[.int .i64 0, .int .i64 0, .int .i64 0, .int .i64 0, .int .i64 0, .int .i64 0, .int .i64 0, .int .u32 0, .int .u32 0, .int .u32 0, .int .u32 0, .int .u32 0, .bool false] #[.int .i64 5, .int .i64 0, .int .i64 0, .int .i64 0, .int .i64 0, .int .i64 0, .int .i64 0, .int .u32 0, .int .u32 0, .int .u32 0, .int .u32 0, .int .u32 0, .bool false] s1 (w1.setCell ⟨w.heap.size + 1 + 1, 0, none⟩ (.int .i64 5))) := Hid.in (T1.out.set HA 0 (.int .i64 5))
  go_upto_region 3 with fail
  generalize hX : w1.setCell ⟨w.heap.size + 1 + 1, 0, none⟩ (.int .i64 5) = X1 at *
  clear z y hX T1 S0
  have x0 : X1.cell? ⟨w.heap.size, 1, none⟩ = some (.int .i64 c) := blk_cell S1.out.bA rfl
  go_wp2_with fail
  refine (HA.met e2 S1.out.inv (by omega) bc.1 bc.2).mono ?_
  rintro r w2 ⟨rfl, hI, hg⟩
  clear x0
  have T2 := Hid.in (S1.out.in HA hI hg)
  clear hI hg
  have z : w2.cell? ⟨w.heap.size + 1 + 1, 1, none⟩ = some (.int .i64 0) := blk_cell T2.out.bC rfl
  have y : w2.frozen? ⟨w.heap.size + 1 + 1, 1, none⟩ = false := blk_free T2.out.bC
  have S2 : Hid (WS Inv _ 32 w q w.heap.size #[.int .i64 k, .int .i64 c, .int .i64 l, .int .i64 t, .int .i64 o, .int .i64 e, .int .i64 w_, .int .u32 v, .int .u32 d0, .int .u32 d1, .int .u32 d2, .int .u32 d3, .bool h] #[.int .i64 0, .int .i64 0, .int .i64 0, .int .i64 0, .int .i64 0, .int .i64 0, .int .i64 0, .int .u32 0, .int .u32 0, .int .u32 0, .int .u32 0, .int .u32 0, .bool false] #[.int .i64 5, .int .i64 c', .int .i64 0, .int .i64 0, .int .i64 0, .int .i64 0, .int .i64 0, .int .u32 0, .int .u32 0, .int .u32 0, .int .u32 0, .int .u32 0, .bool false] s2 (w2.setCell ⟨w.heap.size + 1 + 1, 1, none⟩ (.int .i64 c'))) := Hid.in (T2.out.set HA 1 (.int .i64 c'))
  go_upto_region 4 with fail
  generalize hX : w2.setCell ⟨w.heap.size + 1 + 1, 1, none⟩ (.int .i64 c') = X2 at *
  clear z y hX T2 S1
  have x0 : X2.cell? ⟨w.heap.size, 2, none⟩ = some (.int .i64 l) := blk_cell S2.out.bA rfl
  go_wp2_with fail
  refine (HA.met e3 S2.out.inv (by omega) bl.1 bl.2).mono ?_
  rintro r w3 ⟨rfl, hI, hg⟩
  clear x0
  have T3 := Hid.in (S2.out.in HA hI hg)
  clear hI hg
  have z : w3.cell? ⟨w.heap.size + 1 + 1, 2, none⟩ = some (.int .i64 0) := blk_cell T3.out.bC rfl
  have y : w3.frozen? ⟨w.heap.size + 1 + 1, 2, none⟩ = false := blk_free T3.out.bC
  have S3 : Hid (WS Inv _ 32 w q w.heap.size #[.int .i64 k, .int .i64 c, .int .i64 l, .int .i64 t, .int .i64 o, .int .i64 e, .int .i64 w_, .int .u32 v, .int .u32 d0, .int .u32 d1, .int .u32 d2, .int .u32 d3, .bool h] #[.int .i64 0, .int .i64 0, .int .i64 0, .int .i64 0, .int .i64 0, .int .i64 0, .int .i64 0, .int .u32 0, .int .u32 0, .int .u32 0, .int .u32 0, .int .u32 0, .bool false] #[.int .i64 5, .int .i64 c', .int .i64 l', .int .i64 0, .int .i64 0, .int .i64 0, .int .i64 0, .int .u32 0, .int .u32 0, .int .u32 0, .int .u32 0, .int .u32 0, .bool false] s3 (w3.setCell ⟨w.heap.size + 1 + 1, 2, none⟩ (.int .i64 l'))) := Hid.in (T3.out.set HA 2 (.int .i64 l'))
  go_upto_region 5 with fail
  generalize hX : w3.setCell ⟨w.heap.size + 1 + 1, 2, none⟩ (.int .i64 l') = X3 at *
  clear z y hX T3 S2
  have x0 : X3.cell? ⟨w.heap.size, 4, none⟩ = some (.int .i64 o) := blk_cell S3.out.bA rfl
  have k0 : X3.cell? ⟨w.heap.size + 1 + 1, 0, none⟩ = some (.int .i64 5) := blk_cell S3.out.bC rfl
  go_wp2_with fail
  refine (HA.met e4 S3.out.inv (by omega) bo.1 bo.2).mono ?_
  rintro r w4 ⟨rfl, hI, hg⟩
  clear x0
  clear k0
  have T4 := Hid.in (S3.out.in HA hI hg)
  clear hI hg
  have z : w4.cell? ⟨w.heap.size + 1 + 1, 4, none⟩ = some (.int .i64 0) := blk_cell T4.out.bC rfl
  have y : w4.frozen? ⟨w.heap.size + 1 + 1, 4, none⟩ = false := blk_free T4.out.bC
  have S4 : Hid (WS Inv _ 32 w q w.heap.size #[.int .i64 k, .int .i64 c, .int .i64 l, .int .i64 t, .int .i64 o, .int .i64 e, .int .i64 w_, .int .u32 v, .int .u32 d0, .int .u32 d1, .int .u32 d2, .int .u32 d3, .bool h] #[.int .i64 0, .int .i64 0, .int .i64 0, .int .i64 0, .int .i64 0, .int .i64 0, .int .i64 0, .int .u32 0, .int .u32 0, .int .u32 0, .int .u32 0, .int .u32 0, .bool false] #[.int .i64 5, .int .i64 c', .int .i64 l', .int .i64 0, .int .i64 o', .int .i64 0, .int .i64 0, .int .u32 0, .int .u32 0, .int .u32 0, .int .u32 0, .int .u32 0, .bool false] s4 (w4.setCell ⟨w.heap.size + 1 + 1, 4, none⟩ (.int .i64 o'))) := Hid.in (T4.out.set HA 4 (.int .i64 o'))
  go_upto_region 23 with fail
  generalize hX : w4.setCell ⟨w.heap.size + 1 + 1, 4, none⟩ (.int .i64 o') = X4 at *
  clear z y hX T4 S3
  have u0 : X4.cell? ⟨w.heap.size + 1 + 1, 0, none⟩ = some (.int .i64 5) := blk_cell S4.out.bC rfl
  have u1 : X4.cell? ⟨w.heap.size + 1 + 1, 1, none⟩ = some (.int .i64 c') := blk_cell S4.out.bC rfl
  have u2 : X4.cell? ⟨w.heap.size + 1 + 1, 2, none⟩ = some (.int .i64 l') := blk_cell S4.out.bC rfl
  have u3 : X4.cell? ⟨w.heap.size + 1 + 1, 3, none⟩ = some (.int .i64 0) := blk_cell S4.out.bC rfl
  have u4 : X4.cell? ⟨w.heap.size + 1 + 1, 4, none⟩ = some (.int .i64 o') := blk_cell S4.out.bC rfl
  have u5 : X4.cell? ⟨w.heap.size + 1 + 1, 5, none⟩ = some (.int .i64 0) := blk_cell S4.out.bC rfl
  have u6 : X4.cell? ⟨w.heap.size + 1 + 1, 6, none⟩ = some (.int .i64 0) := blk_cell S4.out.bC rfl
  have u7 : X4.cell? ⟨w.heap.size + 1 + 1, 7, none⟩ = some (.int .u32 0) := blk_cell S4.out.bC rfl
  have u8 : X4.cell? ⟨w.heap.size + 1 + 1, 8, none⟩ = some (.int .u32 0) := blk_cell S4.out.bC rfl
  have u9 : X4.cell? ⟨w.heap.size + 1 + 1, 9, none⟩ = some (.int .u32 0) := blk_cell S4.out.bC rfl
  have u10 : X4.cell? ⟨w.heap.size + 1 + 1, 10, none⟩ = some (.int .u32 0) := blk_cell S4.out.bC rfl
  have u11 : X4.cell? ⟨w.heap.size + 1 + 1, 11, none⟩ = some (.int .u32 0) := blk_cell S4.out.bC rfl
  have u12 : X4.cell? ⟨w.heap.size + 1 + 1, 12, none⟩ = some (.bool false) := blk_cell S4.out.bC rfl
  have t0 : X4.cell? ⟨w.heap.size + 1, 0, none⟩ = some (.int .i64 0) := blk_cell S4.out.bB rfl
  have r0 : X4.frozen? ⟨w.heap.size + 1, 0, none⟩ = false := blk_free S4.out.bB
  have t1 : X4.cell? ⟨w.heap.size + 1, 1, none⟩ = some (.int .i64 0) := blk_cell S4.out.bB rfl
  have r1 : X4.frozen? ⟨w.heap.size + 1, 1, none⟩ = false := blk_free S4.out.bB
  have t2 : X4.cell? ⟨w.heap.size + 1, 2, none⟩ = some (.int .i64 0) := blk_cell S4.out.bB rfl
  have r2 : X4.frozen? ⟨w.heap.size + 1, 2, none⟩ = false := blk_free S4.out.bB
  have t3 : X4.cell? ⟨w.heap.size + 1, 3, none⟩ = some (.int .i64 0) := blk_cell S4.out.bB rfl
  have r3 : X4.frozen? ⟨w.heap.size + 1, 3, none⟩ = false := blk_free S4.out.bB
  have t4 : X4.cell? ⟨w.heap.size + 1, 4, none⟩ = some (.int .i64 0) := blk_cell S4.out.bB rfl
  have r4 : X4.frozen? ⟨w.heap.size + 1, 4, none⟩ = false := blk_free S4.out.bB
  have t5 : X4.cell? ⟨w.heap.size + 1, 5, none⟩ = some (.int .i64 0) := blk_cell S4.out.bB rfl
  have r5 : X4.frozen? ⟨w.heap.size + 1, 5, none⟩ = false := blk_free S4.out.bB
  have t6 : X4.cell? ⟨w.heap.size + 1, 6, none⟩ = some (.int .i64 0) := blk_cell S4.out.bB rfl
  have r6 : X4.frozen? ⟨w.heap.size + 1, 6, none⟩ = false := blk_free S4.out.bB
  have t7 : X4.cell? ⟨w.heap.size + 1, 7, none⟩ = some (.int .u32 0) := blk_cell S4.out.bB rfl
  have r7 : X4.frozen? ⟨w.heap.size + 1, 7, none⟩ = false := blk_free S4.out.bB
  have t8 : X4.cell? ⟨w.heap.size + 1, 8, none⟩ = some (.int .u32 0) := blk_cell S4.out.bB rfl
  have r8 : X4.frozen? ⟨w.heap.size + 1, 8, none⟩ = false := blk_free S4.out.bB
  have t9 : X4.cell? ⟨w.heap.size + 1, 9, none⟩ = some (.int .u32 0) := blk_cell S4.out.bB rfl
  have r9 : X4.frozen? ⟨w.heap.size + 1, 9, none⟩ = false := blk_free S4.out.bB
  have t10 : X4.cell? ⟨w.heap.size + 1, 10, none⟩ = some (.int .u32 0) := blk_cell S4.out.bB rfl
  have r10 : X4.frozen? ⟨w.heap.size + 1, 10, none⟩ = false := blk_free S4.out.bB
  have t11 : X4.cell? ⟨w.heap.size + 1, 11, none⟩ = some (.int .u32 0) := blk_cell S4.out.bB rfl
  have r11 : X4.frozen? ⟨w.heap.size + 1, 11, none⟩ = false := blk_free S4.out.bB
  have t12 : X4.cell? ⟨w.heap.size + 1, 12, none⟩ = some (.bool false) := blk_cell S4.out.bB rfl
  have r12 : X4.frozen? ⟨w.heap.size + 1, 12, none⟩ = false := blk_free S4.out.bB
  have R := Hid.in (((((((((((((S4.out.setB HA 0 (.int .i64 5)).setB HA 1 (.int .i64 c')).setB HA 2 (.int .i64 l')).setB HA 3 (.int .i64 0)).setB HA 4 (.int .i64 o')).setB HA 5 (.int .i64 0)).setB HA 6 (.int .i64 0)).setB HA 7 (.int .u32 0)).setB HA 8 (.int .u32 0)).setB HA 9 (.int .u32 0)).setB HA 10 (.int .u32 0)).setB HA 11 (.int .u32 0)).setB HA 12 (.bool false))
  go_wp2
  refine bodyPost_ret (v := .agg #[.int .i64 5, .int .i64 c', .int .i64 l', .int .i64 0, .int .i64 o', .int .i64 0, .int .i64 0, .int .u32 0, .int .u32 0, .int .u32 0, .int .u32 0, .int .u32 0, .bool false]) ?_ rfl ⟨rfl, HA.sub _ _ _ _ R.out.inv (fun x hx => .inl (.inl (.inl hx))), R.out.gr⟩
  rw [results_cell1 rfl]
  go_simp

end Go.Proofs.YtakomlmbdienpaaDoor
