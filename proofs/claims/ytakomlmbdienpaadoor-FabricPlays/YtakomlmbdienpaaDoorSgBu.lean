/- DERIVED of the program: msg.walk by its contract, a theorem a way that its asks go. Own work. -/
import Derived.Test.YtakomlmbdienpaaDoorSgB
namespace Go.Proofs.YtakomlmbdienpaaDoor
open Go.RowKit Go.Extern.Stop Go.Stop Go.Extern

set_option maxHeartbeats 3200000 in
set_option maxRecDepth 20000 in
theorem swalk_U3 {K q : Nat} {pv : Value} {σ : Type} {st : σ → Int → Int → Int → σ × Int} {fuel : σ → Nat} {Inv : (Nat → Prop) → σ → World → Prop} (HA : AskC K q pv st fuel Inv) (O : Nat → Prop) (w : World)
    {s s1 s2 s3 s4 s5 : σ} {k c l t o e w_ v d0 d1 d2 d3 : Int} {h : Bool} {c' l' w_' v' : Int} (e1 : st s k 1 15 = (s1, 3)) (e2 : st s1 c 0 63 = (s2, c')) (e3 : st s2 l 0 31 = (s3, l')) (e4 : st s3 w_ 0 3 = (s4, w_')) (e5 : st s4 v 0 4294967295 = (s5, v')) 
    (hI : Inv O s w) (hf : 20 ≤ fuel s) (bk : -9223372036854775808 ≤ k ∧ k ≤ 9223372036854775807) (bc : -9223372036854775808 ≤ c ∧ c ≤ 9223372036854775807) (bl : -9223372036854775808 ≤ l ∧ l ≤ 9223372036854775807) (bw : -9223372036854775808 ≤ w_ ∧ w_ ≤ 9223372036854775807) (bv : 0 ≤ v ∧ v ≤ 4294967295) (bv' : 0 ≤ v' ∧ v' ≤ 4294967295) :
    Calls Tryd.prog 40 #[.agg #[.int .i64 k, .int .i64 c, .int .i64 l, .int .i64 t, .int .i64 o, .int .i64 e, .int .i64 w_, .int .u32 v, .int .u32 d0, .int .u32 d1, .int .u32 d2, .int .u32 d3, .bool h], .func (.func K) #[] #[pv]] w fun r w' => r = .returned (.agg #[.int .i64 3, .int .i64 c', .int .i64 l', .int .i64 0, .int .i64 0, .int .i64 0, .int .i64 w_', .int .u32 v', .int .u32 0, .int .u32 0, .int .u32 0, .int .u32 0, .bool false]) ∧ Inv O s5 w' ∧ w.grownBy w' (some q) := by
  have ee := HA.enters
  have f1 := HA.next e1
  have f2 := HA.next e2
  have f3 := HA.next e3
  have f4 := HA.next e4
  have f5 := HA.next e5
  have S0 := Hid.in (WS.start HA hI 32 #[.int .i64 k, .int .i64 c, .int .i64 l, .int .i64 t, .int .i64 o, .int .i64 e, .int .i64 w_, .int .u32 v, .int .u32 d0, .int .u32 d1, .int .u32 d2, .int .u32 d3, .bool h] #[.int .i64 0, .int .i64 0, .int .i64 0, .int .i64 0, .int .i64 0, .int .i64 0, .int .i64 0, .int .u32 0, .int .u32 0, .int .u32 0, .int .u32 0, .int .u32 0, .bool false] #[.int .i64 0, .int .i64 0, .int .i64 0, .int .i64 0, .int .i64 0, .int .i64 0, .int .i64 0, .int .u32 0, .int .u32 0, .int .u32 0, .int .u32 0, .int .u32 0, .bool false])
  clear hI
  have x0 : (((w.alloc (.cells #[.int .i64 k, .int .i64 c, .int .i64 l, .int .i64 t, .int .i64 o, .int .i64 e, .int .i64 w_, .int .u32 v, .int .u32 d0, .int .u32 d1, .int .u32 d2, .int .u32 d3, .bool h] 32)).alloc (.cells #[.int .i64 0, .int .i64 0, .int .i64 0, .int .i64 0, .int .i64 0, .int .i64 0, .int .i64 0, .int .u32 0, .int .u32 0, .int .u32 0, .int .u32 0, .int .u32 0, .bool false] 32)).alloc (.cells #[.int .i64 0, .int .i64 0, .int .i64 0, .int .i64 0, .int .i64 0, .int .i64 0, .int .i64 0, .int .u32 0, .int .u32 0, .int .u32 0, .int .u32 0, .int .u32 0, .bool false] 32)).cell? ⟨w.heap.size, 0, none⟩ = some (.int .i64 k) := blk_cell S0.out.bA rfl
  go_enter Tryd.func40, Tryd.ntmps40
  go_wp2_with fail
  refine (HA.met e1 S0.out.inv (by omega) bk.1 bk.2).mono ?_
  rintro r w1 ⟨rfl, hI, hg⟩
  clear x0
  have T1 := Hid.in (S0.out.in HA hI hg)
  clear hI hg
  have z : w1.cell? ⟨w.heap.size + 1 + 1, 0, none⟩ = some (.int .i64 0) := blk_cell T1.out.bC rfl
  have y : w1.frozen? ⟨w.heap.size + 1 + 1, 0, none⟩ = false := blk_free T1.out.bC
  have S1 : Hid (WS Inv _ 32 w q w.heap.size #[.int .i64 k, .int .i64 c, .int .i64 l, .int .i64 t, .int .i64 o, .int .i64 e, .int .i64 w_, .int .u32 v, .int .u32 d0, .int .u32 d1, .int .u32 d2, .int .u32 d3, .bool h] #[.int .i64 0, .int .i64 0, .int .i64 0, .int .i64 0, .int .i64 0, .int .i64 0, .int .i64 0, .int .u32 0, .int .u32 0, .int .u32 0, .int .u32 0, .int .u32 0, .bool false] #[.int .i64 3, .int .i64 0, .int .i64 0, .int .i64 0, .int .i64 0, .int .i64 0, .int .i64 0, .int .u32 0, .int .u32 0, .int .u32 0, .int .u32 0, .int .u32 0, .bool false] s1 (w1.setCell ⟨w.heap.size + 1 + 1, 0, none⟩ (.int .i64 3))) := Hid.in (T1.out.set HA 0 (.int .i64 3))
  go_upto_region 3 with fail
  generalize hX : w1.setCell ⟨w.heap.size + 1 + 1, 0, none⟩ (.int .i64 3) = X1 at *
  clear z y hX T1 S0
  have x0 : X1.cell? ⟨w.heap.size, 1, none⟩ = some (.int .i64 c) := blk_cell S1.out.bA rfl
  go_wp2_with fail
  refine (HA.met e2 S1.out.inv (by omega) bc.1 bc.2).mono ?_
  rintro r w2 ⟨rfl, hI, hg⟩
  clear x0
  have T2 := Hid.in (S1.out.in HA hI hg)
  clear hI hg
  have z : w2.cell? ⟨w.heap.size + 1 + 1, 1, none⟩ = some (.int .i64 0) := blk_cell T2.out.bC rfl
  have y : w2.frozen? ⟨w.heap.size + 1 + 1, 1, none⟩ = false := blk_free T2.out.bC
  have S2 : Hid (WS Inv _ 32 w q w.heap.size #[.int .i64 k, .int .i64 c, .int .i64 l, .int .i64 t, .int .i64 o, .int .i64 e, .int .i64 w_, .int .u32 v, .int .u32 d0, .int .u32 d1, .int .u32 d2, .int .u32 d3, .bool h] #[.int .i64 0, .int .i64 0, .int .i64 0, .int .i64 0, .int .i64 0, .int .i64 0, .int .i64 0, .int .u32 0, .int .u32 0, .int .u32 0, .int .u32 0, .int .u32 0, .bool false] #[.int .i64 3, .int .i64 c', .int .i64 0, .int .i64 0, .int .i64 0, .int .i64 0, .int .i64 0, .int .u32 0, .int .u32 0, .int .u32 0, .int .u32 0, .int .u32 0, .bool false] s2 (w2.setCell ⟨w.heap.size + 1 + 1, 1, none⟩ (.int .i64 c'))) := Hid.in (T2.out.set HA 1 (.int .i64 c'))
  go_upto_region 4 with fail
  generalize hX : w2.setCell ⟨w.heap.size + 1 + 1, 1, none⟩ (.int .i64 c') = X2 at *
  clear z y hX T2 S1
  have x0 : X2.cell? ⟨w.heap.size, 2, none⟩ = some (.int .i64 l) := blk_cell S2.out.bA rfl
  go_wp2_with fail
  refine (HA.met e3 S2.out.inv (by omega) bl.1 bl.2).mono ?_
  rintro r w3 ⟨rfl, hI, hg⟩
  clear x0
  have T3 := Hid.in (S2.out.in HA hI hg)
  clear hI hg
  have z : w3.cell? ⟨w.heap.size + 1 + 1, 2, none⟩ = some (.int .i64 0) := blk_cell T3.out.bC rfl
  have y : w3.frozen? ⟨w.heap.size + 1 + 1, 2, none⟩ = false := blk_free T3.out.bC
  have S3 : Hid (WS Inv _ 32 w q w.heap.size #[.int .i64 k, .int .i64 c, .int .i64 l, .int .i64 t, .int .i64 o, .int .i64 e, .int .i64 w_, .int .u32 v, .int .u32 d0, .int .u32 d1, .int .u32 d2, .int .u32 d3, .bool h] #[.int .i64 0, .int .i64 0, .int .i64 0, .int .i64 0, .int .i64 0, .int .i64 0, .int .i64 0, .int .u32 0, .int .u32 0, .int .u32 0, .int .u32 0, .int .u32 0, .bool false] #[.int .i64 3, .int .i64 c', .int .i64 l', .int .i64 0, .int .i64 0, .int .i64 0, .int .i64 0, .int .u32 0, .int .u32 0, .int .u32 0, .int .u32 0, .int .u32 0, .bool false] s3 (w3.setCell ⟨w.heap.size + 1 + 1, 2, none⟩ (.int .i64 l'))) := Hid.in (T3.out.set HA 2 (.int .i64 l'))
  go_upto_region 5 with fail
  generalize hX : w3.setCell ⟨w.heap.size + 1 + 1, 2, none⟩ (.int .i64 l') = X3 at *
  clear z y hX T3 S2
  have x0 : X3.cell? ⟨w.heap.size, 6, none⟩ = some (.int .i64 w_) := blk_cell S3.out.bA rfl
  have k0 : X3.cell? ⟨w.heap.size + 1 + 1, 0, none⟩ = some (.int .i64 3) := blk_cell S3.out.bC rfl
  go_wp2_with fail
  refine (HA.met e4 S3.out.inv (by omega) bw.1 bw.2).mono ?_
  rintro r w4 ⟨rfl, hI, hg⟩
  clear x0
  clear k0
  have T4 := Hid.in (S3.out.in HA hI hg)
  clear hI hg
  have z : w4.cell? ⟨w.heap.size + 1 + 1, 6, none⟩ = some (.int .i64 0) := blk_cell T4.out.bC rfl
  have y : w4.frozen? ⟨w.heap.size + 1 + 1, 6, none⟩ = false := blk_free T4.out.bC
  have S4 : Hid (WS Inv _ 32 w q w.heap.size #[.int .i64 k, .int .i64 c, .int .i64 l, .int .i64 t, .int .i64 o, .int .i64 e, .int .i64 w_, .int .u32 v, .int .u32 d0, .int .u32 d1, .int .u32 d2, .int .u32 d3, .bool h] #[.int .i64 0, .int .i64 0, .int .i64 0, .int .i64 0, .int .i64 0, .int .i64 0, .int .i64 0, .int .u32 0, .int .u32 0, .int .u32 0, .int .u32 0, .int .u32 0, .bool false] #[.int .i64 3, .int .i64 c', .int .i64 l', .int .i64 0, .int .i64 0, .int .i64 0, .int .i64 w_', .int .u32 0, .int .u32 0, .int .u32 0, .int .u32 0, .int .u32 0, .bool false] s4 (w4.setCell ⟨w.heap.size + 1 + 1, 6, none⟩ (.int .i64 w_'))) := Hid.in (T4.out.set HA 6 (.int .i64 w_'))
  go_upto_region 14 with fail
  generalize hX : w4.setCell ⟨w.heap.size + 1 + 1, 6, none⟩ (.int .i64 w_') = X4 at *
  clear z y hX T4 S3
  have x0 : X4.cell? ⟨w.heap.size, 7, none⟩ = some (.int .u32 v) := blk_cell S4.out.bA rfl
  obtain ⟨v0, v1⟩ := bv
  go_wp2_with fail
  refine (HA.met e5 S4.out.inv (by omega) (by omega) (by omega)).mono ?_
  rintro r w5 ⟨rfl, hI, hg⟩
  clear x0
  obtain ⟨p0, p1⟩ := bv'
  have p2 : v' < 4294967296 := by omega
  have T5 := Hid.in (S4.out.in HA hI hg)
  clear hI hg
  have z : w5.cell? ⟨w.heap.size + 1 + 1, 7, none⟩ = some (.int .u32 0) := blk_cell T5.out.bC rfl
  have y : w5.frozen? ⟨w.heap.size + 1 + 1, 7, none⟩ = false := blk_free T5.out.bC
  have S5 : Hid (WS Inv _ 32 w q w.heap.size #[.int .i64 k, .int .i64 c, .int .i64 l, .int .i64 t, .int .i64 o, .int .i64 e, .int .i64 w_, .int .u32 v, .int .u32 d0, .int .u32 d1, .int .u32 d2, .int .u32 d3, .bool h] #[.int .i64 0, .int .i64 0, .int .i64 0, .int .i64 0, .int .i64 0, .int .i64 0, .int .i64 0, .int .u32 0, .int .u32 0, .int .u32 0, .int .u32 0, .int .u32 0, .bool false] #[.int .i64 3, .int .i64 c', .int .i64 l', .int .i64 0, .int .i64 0, .int .i64 0, .int .i64 w_', .int .u32 v', .int .u32 0, .int .u32 0, .int .u32 0, .int .u32 0, .bool false] s5 (w5.setCell ⟨w.heap.size + 1 + 1, 7, none⟩ (.int .u32 v'))) := Hid.in (T5.out.set HA 7 (.int .u32 v'))
  go_upto_region 23 with fail
  generalize hX : w5.setCell ⟨w.heap.size + 1 + 1, 7, none⟩ (.int .u32 v') = X5 at *
  clear z y hX T5 S4
  have u0 : X5.cell? ⟨w.heap.size + 1 + 1, 0, none⟩ = some (.int .i64 3) := blk_cell S5.out.bC rfl
  have u1 : X5.cell? ⟨w.heap.size + 1 + 1, 1, none⟩ = some (.int .i64 c') := blk_cell S5.out.bC rfl
  have u2 : X5.cell? ⟨w.heap.size + 1 + 1, 2, none⟩ = some (.int .i64 l') := blk_cell S5.out.bC rfl
  have u3 : X5.cell? ⟨w.heap.size + 1 + 1, 3, none⟩ = some (.int .i64 0) := blk_cell S5.out.bC rfl
  have u4 : X5.cell? ⟨w.heap.size + 1 + 1, 4, none⟩ = some (.int .i64 0) := blk_cell S5.out.bC rfl
  have u5 : X5.cell? ⟨w.heap.size + 1 + 1, 5, none⟩ = some (.int .i64 0) := blk_cell S5.out.bC rfl
  have u6 : X5.cell? ⟨w.heap.size + 1 + 1, 6, none⟩ = some (.int .i64 w_') := blk_cell S5.out.bC rfl
  have u7 : X5.cell? ⟨w.heap.size + 1 + 1, 7, none⟩ = some (.int .u32 v') := blk_cell S5.out.bC rfl
  have u8 : X5.cell? ⟨w.heap.size + 1 + 1, 8, none⟩ = some (.int .u32 0) := blk_cell S5.out.bC rfl
  have u9 : X5.cell? ⟨w.heap.size + 1 + 1, 9, none⟩ = some (.int .u32 0) := blk_cell S5.out.bC rfl
  have u10 : X5.cell? ⟨w.heap.size + 1 + 1, 10, none⟩ = some (.int .u32 0) := blk_cell S5.out.bC rfl
  have u11 : X5.cell? ⟨w.heap.size + 1 + 1, 11, none⟩ = some (.int .u32 0) := blk_cell S5.out.bC rfl
  have u12 : X5.cell? ⟨w.heap.size + 1 + 1, 12, none⟩ = some (.bool false) := blk_cell S5.out.bC rfl
  have t0 : X5.cell? ⟨w.heap.size + 1, 0, none⟩ = some (.int .i64 0) := blk_cell S5.out.bB rfl
  have r0 : X5.frozen? ⟨w.heap.size + 1, 0, none⟩ = false := blk_free S5.out.bB
  have t1 : X5.cell? ⟨w.heap.size + 1, 1, none⟩ = some (.int .i64 0) := blk_cell S5.out.bB rfl
  have r1 : X5.frozen? ⟨w.heap.size + 1, 1, none⟩ = false := blk_free S5.out.bB
  have t2 : X5.cell? ⟨w.heap.size + 1, 2, none⟩ = some (.int .i64 0) := blk_cell S5.out.bB rfl
  have r2 : X5.frozen? ⟨w.heap.size + 1, 2, none⟩ = false := blk_free S5.out.bB
  have t3 : X5.cell? ⟨w.heap.size + 1, 3, none⟩ = some (.int .i64 0) := blk_cell S5.out.bB rfl
  have r3 : X5.frozen? ⟨w.heap.size + 1, 3, none⟩ = false := blk_free S5.out.bB
  have t4 : X5.cell? ⟨w.heap.size + 1, 4, none⟩ = some (.int .i64 0) := blk_cell S5.out.bB rfl
  have r4 : X5.frozen? ⟨w.heap.size + 1, 4, none⟩ = false := blk_free S5.out.bB
  have t5 : X5.cell? ⟨w.heap.size + 1, 5, none⟩ = some (.int .i64 0) := blk_cell S5.out.bB rfl
  have r5 : X5.frozen? ⟨w.heap.size + 1, 5, none⟩ = false := blk_free S5.out.bB
  have t6 : X5.cell? ⟨w.heap.size + 1, 6, none⟩ = some (.int .i64 0) := blk_cell S5.out.bB rfl
  have r6 : X5.frozen? ⟨w.heap.size + 1, 6, none⟩ = false := blk_free S5.out.bB
  have t7 : X5.cell? ⟨w.heap.size + 1, 7, none⟩ = some (.int .u32 0) := blk_cell S5.out.bB rfl
  have r7 : X5.frozen? ⟨w.heap.size + 1, 7, none⟩ = false := blk_free S5.out.bB
  have t8 : X5.cell? ⟨w.heap.size + 1, 8, none⟩ = some (.int .u32 0) := blk_cell S5.out.bB rfl
  have r8 : X5.frozen? ⟨w.heap.size + 1, 8, none⟩ = false := blk_free S5.out.bB
  have t9 : X5.cell? ⟨w.heap.size + 1, 9, none⟩ = some (.int .u32 0) := blk_cell S5.out.bB rfl
  have r9 : X5.frozen? ⟨w.heap.size + 1, 9, none⟩ = false := blk_free S5.out.bB
  have t10 : X5.cell? ⟨w.heap.size + 1, 10, none⟩ = some (.int .u32 0) := blk_cell S5.out.bB rfl
  have r10 : X5.frozen? ⟨w.heap.size + 1, 10, none⟩ = false := blk_free S5.out.bB
  have t11 : X5.cell? ⟨w.heap.size + 1, 11, none⟩ = some (.int .u32 0) := blk_cell S5.out.bB rfl
  have r11 : X5.frozen? ⟨w.heap.size + 1, 11, none⟩ = false := blk_free S5.out.bB
  have t12 : X5.cell? ⟨w.heap.size + 1, 12, none⟩ = some (.bool false) := blk_cell S5.out.bB rfl
  have r12 : X5.frozen? ⟨w.heap.size + 1, 12, none⟩ = false := blk_free S5.out.bB
  have R := Hid.in (((((((((((((S5.out.setB HA 0 (.int .i64 3)).setB HA 1 (.int .i64 c')).setB HA 2 (.int .i64 l')).setB HA 3 (.int .i64 0)).setB HA 4 (.int .i64 0)).setB HA 5 (.int .i64 0)).setB HA 6 (.int .i64 w_')).setB HA 7 (.int .u32 v')).setB HA 8 (.int .u32 0)).setB HA 9 (.int .u32 0)).setB HA 10 (.int .u32 0)).setB HA 11 (.int .u32 0)).setB HA 12 (.bool false))
  go_wp2
  refine bodyPost_ret (v := .agg #[.int .i64 3, .int .i64 c', .int .i64 l', .int .i64 0, .int .i64 0, .int .i64 0, .int .i64 w_', .int .u32 v', .int .u32 0, .int .u32 0, .int .u32 0, .int .u32 0, .bool false]) ?_ rfl ⟨rfl, HA.sub _ _ _ _ R.out.inv (fun x hx => .inl (.inl (.inl hx))), R.out.gr⟩
  rw [results_cell1 rfl]
  go_simp

set_option maxHeartbeats 3200000 in
set_option maxRecDepth 20000 in
theorem swalk_U8 {K q : Nat} {pv : Value} {σ : Type} {st : σ → Int → Int → Int → σ × Int} {fuel : σ → Nat} {Inv : (Nat → Prop) → σ → World → Prop} (HA : AskC K q pv st fuel Inv) (O : Nat → Prop) (w : World)
    {s s1 s2 s3 s4 s5 : σ} {k c l t o e w_ v d0 d1 d2 d3 : Int} {h : Bool} {c' l' w_' v' : Int} (e1 : st s k 1 15 = (s1, 8)) (e2 : st s1 c 0 63 = (s2, c')) (e3 : st s2 l 0 31 = (s3, l')) (e4 : st s3 w_ 0 3 = (s4, w_')) (e5 : st s4 v 0 4294967295 = (s5, v')) 
    (hI : Inv O s w) (hf : 20 ≤ fuel s) (bk : -9223372036854775808 ≤ k ∧ k ≤ 9223372036854775807) (bc : -9223372036854775808 ≤ c ∧ c ≤ 9223372036854775807) (bl : -9223372036854775808 ≤ l ∧ l ≤ 9223372036854775807) (bw : -9223372036854775808 ≤ w_ ∧ w_ ≤ 9223372036854775807) (bv : 0 ≤ v ∧ v ≤ 4294967295) (bv' : 0 ≤ v' ∧ v' ≤ 4294967295) :
    Calls Tryd.prog 40 #[.agg #[.int .i64 k, .int .i64 c, .int .i64 l, .int .i64 t, .int .i64 o, .int .i64 e, .int .i64 w_, .int .u32 v, .int .u32 d0, .int .u32 d1, .int .u32 d2, .int .u32 d3, .bool h], .func (.func K) #[] #[pv]] w fun r w' => r = .returned (.agg #[.int .i64 8, .int .i64 c', .int .i64 l', .int .i64 0, .int .i64 0, .int .i64 0, .int .i64 w_', .int .u32 v', .int .u32 0, .int .u32 0, .int .u32 0, .int .u32 0, .bool false]) ∧ Inv O s5 w' ∧ w.grownBy w' (some q) := by
  have ee := HA.enters
  have f1 := HA.next e1
  have f2 := HA.next e2
  have f3 := HA.next e3
  have f4 := HA.next e4
  have f5 := HA.next e5
  have S0 := Hid.in (WS.start HA hI 32 #[.int .i64 k, .int .i64 c, .int .i64 l, .int .i64 t, .int .i64 o, .int .i64 e, .int .i64 w_, .int .u32 v, .int .u32 d0, .int .u32 d1, .int .u32 d2, .int .u32 d3, .bool h] #[.int .i64 0, .int .i64 0, .int .i64 0, .int .i64 0, .int .i64 0, .int .i64 0, .int .i64 0, .int .u32 0, .int .u32 0, .int .u32 0, .int .u32 0, .int .u32 0, .bool false] #[.int .i64 0, .int .i64 0, .int .i64 0, .int .i64 0, .int .i64 0, .int .i64 0, .int .i64 0, .int .u32 0, .int .u32 0, .int .u32 0, .int .u32 0, .int .u32 0, .bool false])
  clear hI
  have x0 : (((w.alloc (.cells #[.int .i64 k, .int .i64 c, .int .i64 l, .int .i64 t, .int .i64 o, .int .i64 e, .int .i64 w_, .int .u32 v, .int .u32 d0, .int .u32 d1, .int .u32 d2, .int .u32 d3, .bool h] 32)).alloc (.cells #[.int .i64 0, .int .i64 0, .int .i64 0, .int .i64 0, .int .i64 0, .int .i64 0, .int .i64 0, .int .u32 0, .int .u32 0, .int .u32 0, .int .u32 0, .int .u32 0, .bool false] 32)).alloc (.cells #[.int .i64 0, .int .i64 0, .int .i64 0, .int .i64 0, .int .i64 0, .int .i64 0, .int .i64 0, .int .u32 0, .int .u32 0, .int .u32 0, .int .u32 0, .int .u32 0, .bool false] 32)).cell? ⟨w.heap.size, 0, none⟩ = some (.int .i64 k) := blk_cell S0.out.bA rfl
  go_enter Tryd.func40, Tryd.ntmps40
  go_wp2_with fail
  refine (HA.met e1 S0.out.inv (by omega) bk.1 bk.2).mono ?_
  rintro r w1 ⟨rfl, hI, hg⟩
  clear x0
  have T1 := Hid.in (S0.out.in HA hI hg)
  clear hI hg
  have z : w1.cell? ⟨w.heap.size + 1 + 1, 0, none⟩ = some (.int .i64 0) := blk_cell T1.out.bC rfl
  have y : w1.frozen? ⟨w.heap.size + 1 + 1, 0, none⟩ = false := blk_free T1.out.bC
  have S1 : Hid (WS Inv _ 32 w q w.heap.size #[.int .i64 k, .int .i64 c, .int .i64 l, .int .i64 t, .int .i64 o, .int .i64 e, .int .i64 w_, .int .u32 v, .int .u32 d0, .int .u32 d1, .int .u32 d2, .int .u32 d3, .bool h] #[.int .i64 0, .int .i64 0, .int .i64 0, .int .i64 0, .int .i64 0, .int .i64 0, .int .i64 0, .int .u32 0, .int .u32 0, .int .u32 0, .int .u32 0, .int .u32 0, .bool false] #[.int .i64 8, .int .i64 0, .int .i64 0, .int .i64 0, .int .i64 0, .int .i64 0, .int .i64 0, .int .u32 0, .int .u32 0, .int .u32 0, .int .u32 0, .int .u32 0, .bool false] s1 (w1.setCell ⟨w.heap.size + 1 + 1, 0, none⟩ (.int .i64 8))) := Hid.in (T1.out.set HA 0 (.int .i64 8))
  go_upto_region 3 with fail
  generalize hX : w1.setCell ⟨w.heap.size + 1 + 1, 0, none⟩ (.int .i64 8) = X1 at *
  clear z y hX T1 S0
  have x0 : X1.cell? ⟨w.heap.size, 1, none⟩ = some (.int .i64 c) := blk_cell S1.out.bA rfl
  go_wp2_with fail
  refine (HA.met e2 S1.out.inv (by omega) bc.1 bc.2).mono ?_
  rintro r w2 ⟨rfl, hI, hg⟩
  clear x0
  have T2 := Hid.in (S1.out.in HA hI hg)
  clear hI hg
  have z : w2.cell? ⟨w.heap.size + 1 + 1, 1, none⟩ = some (.int .i64 0) := blk_cell T2.out.bC rfl
  have y : w2.frozen? ⟨w.heap.size + 1 + 1, 1, none⟩ = false := blk_free T2.out.bC
  have S2 : Hid (WS Inv _ 32 w q w.heap.size #[.int .i64 k, .int .i64 c, .int .i64 l, .int .i64 t, .int .i64 o, .int .i64 e, .int .i64 w_, .int .u32 v, .int .u32 d0, .int .u32 d1, .int .u32 d2, .int .u32 d3, .bool h] #[.int .i64 0, .int .i64 0, .int .i64 0, .int .i64 0, .int .i64 0, .int .i64 0, .int .i64 0, .int .u32 0, .int .u32 0, .int .u32 0, .int .u32 0, .int .u32 0, .bool false] #[.int .i64 8, .int .i64 c', .int .i64 0, .int .i64 0, .int .i64 0, .int .i64 0, .int .i64 0, .int .u32 0, .int .u32 0, .int .u32 0, .int .u32 0, .int .u32 0, .bool false] s2 (w2.setCell ⟨w.heap.size + 1 + 1, 1, none⟩ (.int .i64 c'))) := Hid.in (T2.out.set HA 1 (.int .i64 c'))
  go_upto_region 4 with fail
  generalize hX : w2.setCell ⟨w.heap.size + 1 + 1, 1, none⟩ (.int .i64 c') = X2 at *
  clear z y hX T2 S1
  have x0 : X2.cell? ⟨w.heap.size, 2, none⟩ = some (.int .i64 l) := blk_cell S2.out.bA rfl
  go_wp2_with fail
  refine (HA.met e3 S2.out.inv (by omega) bl.1 bl.2).mono ?_
  rintro r w3 ⟨rfl, hI, hg⟩
  clear x0
  have T3 := Hid.in (S2.out.in HA hI hg)
  clear hI hg
  have z : w3.cell? ⟨w.heap.size + 1 + 1, 2, none⟩ = some (.int .i64 0) := blk_cell T3.out.bC rfl
  have y : w3.frozen? ⟨w.heap.size + 1 + 1, 2, none⟩ = false := blk_free T3.out.bC
  have S3 : Hid (WS Inv _ 32 w q w.heap.size #[.int .i64 k, .int .i64 c, .int .i64 l, .int .i64 t, .int .i64 o, .int .i64 e, .int .i64 w_, .int .u32 v, .int .u32 d0, .int .u32 d1, .int .u32 d2, .int .u32 d3, .bool h] #[.int .i64 0, .int .i64 0, .int .i64 0, .int .i64 0, .int .i64 0, .int .i64 0, .int .i64 0, .int .u32 0, .int .u32 0, .int .u32 0, .int .u32 0, .int .u32 0, .bool false] #[.int .i64 8, .int .i64 c', .int .i64 l', .int .i64 0, .int .i64 0, .int .i64 0, .int .i64 0, .int .u32 0, .int .u32 0, .int .u32 0, .int .u32 0, .int .u32 0, .bool false] s3 (w3.setCell ⟨w.heap.size + 1 + 1, 2, none⟩ (.int .i64 l'))) := Hid.in (T3.out.set HA 2 (.int .i64 l'))
  go_upto_region 5 with fail
  generalize hX : w3.setCell ⟨w.heap.size + 1 + 1, 2, none⟩ (.int .i64 l') = X3 at *
  clear z y hX T3 S2
  have x0 : X3.cell? ⟨w.heap.size, 6, none⟩ = some (.int .i64 w_) := blk_cell S3.out.bA rfl
  have k0 : X3.cell? ⟨w.heap.size + 1 + 1, 0, none⟩ = some (.int .i64 8) := blk_cell S3.out.bC rfl
  go_wp2_with fail
  refine (HA.met e4 S3.out.inv (by omega) bw.1 bw.2).mono ?_
  rintro r w4 ⟨rfl, hI, hg⟩
  clear x0
  clear k0
  have T4 := Hid.in (S3.out.in HA hI hg)
  clear hI hg
  have z : w4.cell? ⟨w.heap.size + 1 + 1, 6, none⟩ = some (.int .i64 0) := blk_cell T4.out.bC rfl
  have y : w4.frozen? ⟨w.heap.size + 1 + 1, 6, none⟩ = false := blk_free T4.out.bC
  have S4 : Hid (WS Inv _ 32 w q w.heap.size #[.int .i64 k, .int .i64 c, .int .i64 l, .int .i64 t, .int .i64 o, .int .i64 e, .int .i64 w_, .int .u32 v, .int .u32 d0, .int .u32 d1, .int .u32 d2, .int .u32 d3, .bool h] #[.int .i64 0, .int .i64 0, .int .i64 0, .int .i64 0, .int .i64 0, .int .i64 0, .int .i64 0, .int .u32 0, .int .u32 0, .int .u32 0, .int .u32 0, .int .u32 0, .bool false] #[.int .i64 8, .int .i64 c', .int .i64 l', .int .i64 0, .int .i64 0, .int .i64 0, .int .i64 w_', .int .u32 0, .int .u32 0, .int .u32 0, .int .u32 0, .int .u32 0, .bool false] s4 (w4.setCell ⟨w.heap.size + 1 + 1, 6, none⟩ (.int .i64 w_'))) := Hid.in (T4.out.set HA 6 (.int .i64 w_'))
  go_upto_region 14 with fail
  generalize hX : w4.setCell ⟨w.heap.size + 1 + 1, 6, none⟩ (.int .i64 w_') = X4 at *
  clear z y hX T4 S3
  have x0 : X4.cell? ⟨w.heap.size, 7, none⟩ = some (.int .u32 v) := blk_cell S4.out.bA rfl
  obtain ⟨v0, v1⟩ := bv
  go_wp2_with fail
  refine (HA.met e5 S4.out.inv (by omega) (by omega) (by omega)).mono ?_
  rintro r w5 ⟨rfl, hI, hg⟩
  clear x0
  obtain ⟨p0, p1⟩ := bv'
  have p2 : v' < 4294967296 := by omega
  have T5 := Hid.in (S4.out.in HA hI hg)
  clear hI hg
  have z : w5.cell? ⟨w.heap.size + 1 + 1, 7, none⟩ = some (.int .u32 0) := blk_cell T5.out.bC rfl
  have y : w5.frozen? ⟨w.heap.size + 1 + 1, 7, none⟩ = false := blk_free T5.out.bC
  have S5 : Hid (WS Inv _ 32 w q w.heap.size #[.int .i64 k, .int .i64 c, .int .i64 l, .int .i64 t, .int .i64 o, .int .i64 e, .int .i64 w_, .int .u32 v, .int .u32 d0, .int .u32 d1, .int .u32 d2, .int .u32 d3, .bool h] #[.int .i64 0, .int .i64 0, .int .i64 0, .int .i64 0, .int .i64 0, .int .i64 0, .int .i64 0, .int .u32 0, .int .u32 0, .int .u32 0, .int .u32 0, .int .u32 0, .bool false] #[.int .i64 8, .int .i64 c', .int .i64 l', .int .i64 0, .int .i64 0, .int .i64 0, .int .i64 w_', .int .u32 v', .int .u32 0, .int .u32 0, .int .u32 0, .int .u32 0, .bool false] s5 (w5.setCell ⟨w.heap.size + 1 + 1, 7, none⟩ (.int .u32 v'))) := Hid.in (T5.out.set HA 7 (.int .u32 v'))
  go_upto_region 23 with fail
  generalize hX : w5.setCell ⟨w.heap.size + 1 + 1, 7, none⟩ (.int .u32 v') = X5 at *
  clear z y hX T5 S4
  have u0 : X5.cell? ⟨w.heap.size + 1 + 1, 0, none⟩ = some (.int .i64 8) := blk_cell S5.out.bC rfl
  have u1 : X5.cell? ⟨w.heap.size + 1 + 1, 1, none⟩ = some (.int .i64 c') := blk_cell S5.out.bC rfl
  have u2 : X5.cell? ⟨w.heap.size + 1 + 1, 2, none⟩ = some (.int .i64 l') := blk_cell S5.out.bC rfl
  have u3 : X5.cell? ⟨w.heap.size + 1 + 1, 3, none⟩ = some (.int .i64 0) := blk_cell S5.out.bC rfl
  have u4 : X5.cell? ⟨w.heap.size + 1 + 1, 4, none⟩ = some (.int .i64 0) := blk_cell S5.out.bC rfl
  have u5 : X5.cell? ⟨w.heap.size + 1 + 1, 5, none⟩ = some (.int .i64 0) := blk_cell S5.out.bC rfl
  have u6 : X5.cell? ⟨w.heap.size + 1 + 1, 6, none⟩ = some (.int .i64 w_') := blk_cell S5.out.bC rfl
  have u7 : X5.cell? ⟨w.heap.size + 1 + 1, 7, none⟩ = some (.int .u32 v') := blk_cell S5.out.bC rfl
  have u8 : X5.cell? ⟨w.heap.size + 1 + 1, 8, none⟩ = some (.int .u32 0) := blk_cell S5.out.bC rfl
  have u9 : X5.cell? ⟨w.heap.size + 1 + 1, 9, none⟩ = some (.int .u32 0) := blk_cell S5.out.bC rfl
  have u10 : X5.cell? ⟨w.heap.size + 1 + 1, 10, none⟩ = some (.int .u32 0) := blk_cell S5.out.bC rfl
  have u11 : X5.cell? ⟨w.heap.size + 1 + 1, 11, none⟩ = some (.int .u32 0) := blk_cell S5.out.bC rfl
  have u12 : X5.cell? ⟨w.heap.size + 1 + 1, 12, none⟩ = some (.bool false) := blk_cell S5.out.bC rfl
  have t0 : X5.cell? ⟨w.heap.size + 1, 0, none⟩ = some (.int .i64 0) := blk_cell S5.out.bB rfl
  have r0 : X5.frozen? ⟨w.heap.size + 1, 0, none⟩ = false := blk_free S5.out.bB
  have t1 : X5.cell? ⟨w.heap.size + 1, 1, none⟩ = some (.int .i64 0) := blk_cell S5.out.bB rfl
  have r1 : X5.frozen? ⟨w.heap.size + 1, 1, none⟩ = false := blk_free S5.out.bB
  have t2 : X5.cell? ⟨w.heap.size + 1, 2, none⟩ = some (.int .i64 0) := blk_cell S5.out.bB rfl
  have r2 : X5.frozen? ⟨w.heap.size + 1, 2, none⟩ = false := blk_free S5.out.bB
  have t3 : X5.cell? ⟨w.heap.size + 1, 3, none⟩ = some (.int .i64 0) := blk_cell S5.out.bB rfl
  have r3 : X5.frozen? ⟨w.heap.size + 1, 3, none⟩ = false := blk_free S5.out.bB
  have t4 : X5.cell? ⟨w.heap.size + 1, 4, none⟩ = some (.int .i64 0) := blk_cell S5.out.bB rfl
  have r4 : X5.frozen? ⟨w.heap.size + 1, 4, none⟩ = false := blk_free S5.out.bB
  have t5 : X5.cell? ⟨w.heap.size + 1, 5, none⟩ = some (.int .i64 0) := blk_cell S5.out.bB rfl
  have r5 : X5.frozen? ⟨w.heap.size + 1, 5, none⟩ = false := blk_free S5.out.bB
  have t6 : X5.cell? ⟨w.heap.size + 1, 6, none⟩ = some (.int .i64 0) := blk_cell S5.out.bB rfl
  have r6 : X5.frozen? ⟨w.heap.size + 1, 6, none⟩ = false := blk_free S5.out.bB
  have t7 : X5.cell? ⟨w.heap.size + 1, 7, none⟩ = some (.int .u32 0) := blk_cell S5.out.bB rfl
  have r7 : X5.frozen? ⟨w.heap.size + 1, 7, none⟩ = false := blk_free S5.out.bB
  have t8 : X5.cell? ⟨w.heap.size + 1, 8, none⟩ = some (.int .u32 0) := blk_cell S5.out.bB rfl
  have r8 : X5.frozen? ⟨w.heap.size + 1, 8, none⟩ = false := blk_free S5.out.bB
  have t9 : X5.cell? ⟨w.heap.size + 1, 9, none⟩ = some (.int .u32 0) := blk_cell S5.out.bB rfl
  have r9 : X5.frozen? ⟨w.heap.size + 1, 9, none⟩ = false := blk_free S5.out.bB
  have t10 : X5.cell? ⟨w.heap.size + 1, 10, none⟩ = some (.int .u32 0) := blk_cell S5.out.bB rfl
  have r10 : X5.frozen? ⟨w.heap.size + 1, 10, none⟩ = false := blk_free S5.out.bB
  have t11 : X5.cell? ⟨w.heap.size + 1, 11, none⟩ = some (.int .u32 0) := blk_cell S5.out.bB rfl
  have r11 : X5.frozen? ⟨w.heap.size + 1, 11, none⟩ = false := blk_free S5.out.bB
  have t12 : X5.cell? ⟨w.heap.size + 1, 12, none⟩ = some (.bool false) := blk_cell S5.out.bB rfl
  have r12 : X5.frozen? ⟨w.heap.size + 1, 12, none⟩ = false := blk_free S5.out.bB
  have R := Hid.in (((((((((((((S5.out.setB HA 0 (.int .i64 8)).setB HA 1 (.int .i64 c')).setB HA 2 (.int .i64 l')).setB HA 3 (.int .i64 0)).setB HA 4 (.int .i64 0)).setB HA 5 (.int .i64 0)).setB HA 6 (.int .i64 w_')).setB HA 7 (.int .u32 v')).setB HA 8 (.int .u32 0)).setB HA 9 (.int .u32 0)).setB HA 10 (.int .u32 0)).setB HA 11 (.int .u32 0)).setB HA 12 (.bool false))
  go_wp2
  refine bodyPost_ret (v := .agg #[.int .i64 8, .int .i64 c', .int .i64 l', .int .i64 0, .int .i64 0, .int .i64 0, .int .i64 w_', .int .u32 v', .int .u32 0, .int .u32 0, .int .u32 0, .int .u32 0, .bool false]) ?_ rfl ⟨rfl, HA.sub _ _ _ _ R.out.inv (fun x hx => .inl (.inl (.inl hx))), R.out.gr⟩
  rw [results_cell1 rfl]
  go_simp

set_option maxHeartbeats 3200000 in
set_option maxRecDepth 20000 in
theorem swalk_U14 {K q : Nat} {pv : Value} {σ : Type} {st : σ → Int → Int → Int → σ × Int} {fuel : σ → Nat} {Inv : (Nat → Prop) → σ → World → Prop} (HA : AskC K q pv st fuel Inv) (O : Nat → Prop) (w : World)
    {s s1 s2 s3 s4 s5 : σ} {k c l t o e w_ v d0 d1 d2 d3 : Int} {h : Bool} {c' l' w_' v' : Int} (e1 : st s k 1 15 = (s1, 14)) (e2 : st s1 c 0 63 = (s2, c')) (e3 : st s2 l 0 31 = (s3, l')) (e4 : st s3 w_ 0 3 = (s4, w_')) (e5 : st s4 v 0 4294967295 = (s5, v')) 
    (hI : Inv O s w) (hf : 20 ≤ fuel s) (bk : -9223372036854775808 ≤ k ∧ k ≤ 9223372036854775807) (bc : -9223372036854775808 ≤ c ∧ c ≤ 9223372036854775807) (bl : -9223372036854775808 ≤ l ∧ l ≤ 9223372036854775807) (bw : -9223372036854775808 ≤ w_ ∧ w_ ≤ 9223372036854775807) (bv : 0 ≤ v ∧ v ≤ 4294967295) (bv' : 0 ≤ v' ∧ v' ≤ 4294967295) :
    Calls Tryd.prog 40 #[.agg #[.int .i64 k, .int .i64 c, .int .i64 l, .int .i64 t, .int .i64 o, .int .i64 e, .int .i64 w_, .int .u32 v, .int .u32 d0, .int .u32 d1, .int .u32 d2, .int .u32 d3, .bool h], .func (.func K) #[] #[pv]] w fun r w' => r = .returned (.agg #[.int .i64 14, .int .i64 c', .int .i64 l', .int .i64 0, .int .i64 0, .int .i64 0, .int .i64 w_', .int .u32 v', .int .u32 0, .int .u32 0, .int .u32 0, .int .u32 0, .bool false]) ∧ Inv O s5 w' ∧ w.grownBy w' (some q) := by
  have ee := HA.enters
  have f1 := HA.next e1
  have f2 := HA.next e2
  have f3 := HA.next e3
  have f4 := HA.next e4
  have f5 := HA.next e5
  have S0 := Hid.in (WS.start HA hI 32 #[.int .i64 k, .int .i64 c, .int .i64 l, .int .i64 t, .int .i64 o, .int .i64 e, .int .i64 w_, .int .u32 v, .int .u32 d0, .int .u32 d1, .int .u32 d2, .int .u32 d3, .bool h] #[.int .i64 0, .int .i64 0, .int .i64 0, .int .i64 0, .int .i64 0, .int .i64 0, .int .i64 0, .int .u32 0, .int .u32 0, .int .u32 0, .int .u32 0, .int .u32 0, .bool false] #[.int .i64 0, .int .i64 0, .int .i64 0, .int .i64 0, .int .i64 0, .int .i64 0, .int .i64 0, .int .u32 0, .int .u32 0, .int .u32 0, .int .u32 0, .int .u32 0, .bool false])
  clear hI
  have x0 : (((w.alloc (.cells #[.int .i64 k, .int .i64 c, .int .i64 l, .int .i64 t, .int .i64 o, .int .i64 e, .int .i64 w_, .int .u32 v, .int .u32 d0, .int .u32 d1, .int .u32 d2, .int .u32 d3, .bool h] 32)).alloc (.cells #[.int .i64 0, .int .i64 0, .int .i64 0, .int .i64 0, .int .i64 0, .int .i64 0, .int .i64 0, .int .u32 0, .int .u32 0, .int .u32 0, .int .u32 0, .int .u32 0, .bool false] 32)).alloc (.cells #[.int .i64 0, .int .i64 0, .int .i64 0, .int .i64 0, .int .i64 0, .int .i64 0, .int .i64 0, .int .u32 0, .int .u32 0, .int .u32 0, .int .u32 0, .int .u32 0, .bool false] 32)).cell? ⟨w.heap.size, 0, none⟩ = some (.int .i64 k) := blk_cell S0.out.bA rfl
  go_enter Tryd.func40, Tryd.ntmps40
  go_wp2_with fail
  refine (HA.met e1 S0.out.inv (by omega) bk.1 bk.2).mono ?_
  rintro r w1 ⟨rfl, hI, hg⟩
  clear x0
  have T1 := Hid.in (S0.out.in HA hI hg)
  clear hI hg
  have z : w1.cell? ⟨w.heap.size + 1 + 1, 0, none⟩ = some (.int .i64 0) := blk_cell T1.out.bC rfl
  have y : w1.frozen? ⟨w.heap.size + 1 + 1, 0, none⟩ = false := blk_free T1.out.bC
  have S1 : Hid (WS Inv _ 32 w q w.heap.size #[.int .i64 k, .int .i64 c, .int .i64 l, .int .i64 t, .int .i64 o, .int .i64 e, .int .i64 w_, .int .u32 v, .int .u32 d0, .int .u32 d1, .int .u32 d2, .int .u32 d3, .bool h] #[.int .i64 0, .int .i64 0, .int .i64 0, .int .i64 0, .int .i64 0, .int .i64 0, .int .i64 0, .int .u32 0, .int .u32 0, .int .u32 0, .int .u32 0, .int .u32 0, .bool false] #[.int .i64 14, .int .i64 0, .int .i64 0, .int .i64 0, .int .i64 0, .int .i64 0, .int .i64 0, .int .u32 0, .int .u32 0, .int .u32 0, .int .u32 0, .int .u32 0, .bool false] s1 (w1.setCell ⟨w.heap.size + 1 + 1, 0, none⟩ (.int .i64 14))) := Hid.in (T1.out.set HA 0 (.int .i64 14))
  go_upto_region 3 with fail
  generalize hX : w1.setCell ⟨w.heap.size + 1 + 1, 0, none⟩ (.int .i64 14) = X1 at *
  clear z y hX T1 S0
  have x0 : X1.cell? ⟨w.heap.size, 1, none⟩ = some (.int .i64 c) := blk_cell S1.out.bA rfl
  go_wp2_with fail
  refine (HA.met e2 S1.out.inv (by omega) bc.1 bc.2).mono ?_
  rintro r w2 ⟨rfl, hI, hg⟩
  clear x0
  have T2 := Hid.in (S1.out.in HA hI hg)
  clear hI hg
  have z : w2.cell? ⟨w.heap.size + 1 + 1, 1, none⟩ = some (.int .i64 0) := blk_cell T2.out.bC rfl
  have y : w2.frozen? ⟨w.heap.size + 1 + 1, 1, none⟩ = false := blk_free T2.out.bC
  have S2 : Hid (WS Inv _ 32 w q w.heap.size #[.int .i64 k, .int .i64 c, .int .i64 l, .int .i64 t, .int .i64 o, .int .i64 e, .int .i64 w_, .int .u32 v, .int .u32 d0, .int .u32 d1, .int .u32 d2, .int .u32 d3, .bool h] #[.int .i64 0, .int .i64 0, .int .i64 0, .int .i64 0, .int .i64 0, .int .i64 0, .int .i64 0, .int .u32 0, .int .u32 0, .int .u32 0, .int .u32 0, .int .u32 0, .bool false] #[.int .i64 14, .int .i64 c', .int .i64 0, .int .i64 0, .int .i64 0, .int .i64 0, .int .i64 0, .int .u32 0, .int .u32 0, .int .u32 0, .int .u32 0, .int .u32 0, .bool false] s2 (w2.setCell ⟨w.heap.size + 1 + 1, 1, none⟩ (.int .i64 c'))) := Hid.in (T2.out.set HA 1 (.int .i64 c'))
  go_upto_region 4 with fail
  generalize hX : w2.setCell ⟨w.heap.size + 1 + 1, 1, none⟩ (.int .i64 c') = X2 at *
  clear z y hX T2 S1
  have x0 : X2.cell? ⟨w.heap.size, 2, none⟩ = some (.int .i64 l) := blk_cell S2.out.bA rfl
  go_wp2_with fail
  refine (HA.met e3 S2.out.inv (by omega) bl.1 bl.2).mono ?_
  rintro r w3 ⟨rfl, hI, hg⟩
  clear x0
  have T3 := Hid.in (S2.out.in HA hI hg)
  clear hI hg
  have z : w3.cell? ⟨w.heap.size + 1 + 1, 2, none⟩ = some (.int .i64 0) := blk_cell T3.out.bC rfl
  have y : w3.frozen? ⟨w.heap.size + 1 + 1, 2, none⟩ = false := blk_free T3.out.bC
  have S3 : Hid (WS Inv _ 32 w q w.heap.size #[.int .i64 k, .int .i64 c, .int .i64 l, .int .i64 t, .int .i64 o, .int .i64 e, .int .i64 w_, .int .u32 v, .int .u32 d0, .int .u32 d1, .int .u32 d2, .int .u32 d3, .bool h] #[.int .i64 0, .int .i64 0, .int .i64 0, .int .i64 0, .int .i64 0, .int .i64 0, .int .i64 0, .int .u32 0, .int .u32 0, .int .u32 0, .int .u32 0, .int .u32 0, .bool false] #[.int .i64 14, .int .i64 c', .int .i64 l', .int .i64 0, .int .i64 0, .int .i64 0, .int .i64 0, .int .u32 0, .int .u32 0, .int .u32 0, .int .u32 0, .int .u32 0, .bool false] s3 (w3.setCell ⟨w.heap.size + 1 + 1, 2, none⟩ (.int .i64 l'))) := Hid.in (T3.out.set HA 2 (.int .i64 l'))
  go_upto_region 5 with fail
  generalize hX : w3.setCell ⟨w.heap.size + 1 + 1, 2, none⟩ (.int .i64 l') = X3 at *
  clear z y hX T3 S2
  have x0 : X3.cell? ⟨w.heap.size, 6, none⟩ = some (.int .i64 w_) := blk_cell S3.out.bA rfl
  have k0 : X3.cell? ⟨w.heap.size + 1 + 1, 0, none⟩ = some (.int .i64 14) := blk_cell S3.out.bC rfl
  go_wp2_with fail
  refine (HA.met e4 S3.out.inv (by omega) bw.1 bw.2).mono ?_
  rintro r w4 ⟨rfl, hI, hg⟩
  clear x0
  clear k0
  have T4 := Hid.in (S3.out.in HA hI hg)
  clear hI hg
  have z : w4.cell? ⟨w.heap.size + 1 + 1, 6, none⟩ = some (.int .i64 0) := blk_cell T4.out.bC rfl
  have y : w4.frozen? ⟨w.heap.size + 1 + 1, 6, none⟩ = false := blk_free T4.out.bC
  have S4 : Hid (WS Inv _ 32 w q w.heap.size #[.int .i64 k, .int .i64 c, .int .i64 l, .int .i64 t, .int .i64 o, .int .i64 e, .int .i64 w_, .int .u32 v, .int .u32 d0, .int .u32 d1, .int .u32 d2, .int .u32 d3, .bool h] #[.int .i64 0, .int .i64 0, .int .i64 0, .int .i64 0, .int .i64 0, .int .i64 0, .int .i64 0, .int .u32 0, .int .u32 0, .int .u32 0, .int .u32 0, .int .u32 0, .bool false] #[.int .i64 14, .int .i64 c', .int .i64 l', .int .i64 0, .int .i64 0, .int .i64 0, .int .i64 w_', .int .u32 0, .int .u32 0, .int .u32 0, .int .u32 0, .int .u32 0, .bool false] s4 (w4.setCell ⟨w.heap.size + 1 + 1, 6, none⟩ (.int .i64 w_'))) := Hid.in (T4.out.set HA 6 (.int .i64 w_'))
  go_upto_region 14 with fail
  generalize hX : w4.setCell ⟨w.heap.size + 1 + 1, 6, none⟩ (.int .i64 w_') = X4 at *
  clear z y hX T4 S3
  have x0 : X4.cell? ⟨w.heap.size, 7, none⟩ = some (.int .u32 v) := blk_cell S4.out.bA rfl
  obtain ⟨v0, v1⟩ := bv
  go_wp2_with fail
  refine (HA.met e5 S4.out.inv (by omega) (by omega) (by omega)).mono ?_
  rintro r w5 ⟨rfl, hI, hg⟩
  clear x0
  obtain ⟨p0, p1⟩ := bv'
  have p2 : v' < 4294967296 := by omega
  have T5 := Hid.in (S4.out.in HA hI hg)
  clear hI hg
  have z : w5.cell? ⟨w.heap.size + 1 + 1, 7, none⟩ = some (.int .u32 0) := blk_cell T5.out.bC rfl
  have y : w5.frozen? ⟨w.heap.size + 1 + 1, 7, none⟩ = false := blk_free T5.out.bC
  have S5 : Hid (WS Inv _ 32 w q w.heap.size #[.int .i64 k, .int .i64 c, .int .i64 l, .int .i64 t, .int .i64 o, .int .i64 e, .int .i64 w_, .int .u32 v, .int .u32 d0, .int .u32 d1, .int .u32 d2, .int .u32 d3, .bool h] #[.int .i64 0, .int .i64 0, .int .i64 0, .int .i64 0, .int .i64 0, .int .i64 0, .int .i64 0, .int .u32 0, .int .u32 0, .int .u32 0, .int .u32 0, .int .u32 0, .bool false] #[.int .i64 14, .int .i64 c', .int .i64 l', .int .i64 0, .int .i64 0, .int .i64 0, .int .i64 w_', .int .u32 v', .int .u32 0, .int .u32 0, .int .u32 0, .int .u32 0, .bool false] s5 (w5.setCell ⟨w.heap.size + 1 + 1, 7, none⟩ (.int .u32 v'))) := Hid.in (T5.out.set HA 7 (.int .u32 v'))
  go_upto_region 23 with fail
  generalize hX : w5.setCell ⟨w.heap.size + 1 + 1, 7, none⟩ (.int .u32 v') = X5 at *
  clear z y hX T5 S4
  have u0 : X5.cell? ⟨w.heap.size + 1 + 1, 0, none⟩ = some (.int .i64 14) := blk_cell S5.out.bC rfl
  have u1 : X5.cell? ⟨w.heap.size + 1 + 1, 1, none⟩ = some (.int .i64 c') := blk_cell S5.out.bC rfl
  have u2 : X5.cell? ⟨w.heap.size + 1 + 1, 2, none⟩ = some (.int .i64 l') := blk_cell S5.out.bC rfl
  have u3 : X5.cell? ⟨w.heap.size + 1 + 1, 3, none⟩ = some (.int .i64 0) := blk_cell S5.out.bC rfl
  have u4 : X5.cell? ⟨w.heap.size + 1 + 1, 4, none⟩ = some (.int .i64 0) := blk_cell S5.out.bC rfl
  have u5 : X5.cell? ⟨w.heap.size + 1 + 1, 5, none⟩ = some (.int .i64 0) := blk_cell S5.out.bC rfl
  have u6 : X5.cell? ⟨w.heap.size + 1 + 1, 6, none⟩ = some (.int .i64 w_') := blk_cell S5.out.bC rfl
  have u7 : X5.cell? ⟨w.heap.size + 1 + 1, 7, none⟩ = some (.int .u32 v') := blk_cell S5.out.bC rfl
  have u8 : X5.cell? ⟨w.heap.size + 1 + 1, 8, none⟩ = some (.int .u32 0) := blk_cell S5.out.bC rfl
  have u9 : X5.cell? ⟨w.heap.size + 1 + 1, 9, none⟩ = some (.int .u32 0) := blk_cell S5.out.bC rfl
  have u10 : X5.cell? ⟨w.heap.size + 1 + 1, 10, none⟩ = some (.int .u32 0) := blk_cell S5.out.bC rfl
  have u11 : X5.cell? ⟨w.heap.size + 1 + 1, 11, none⟩ = some (.int .u32 0) := blk_cell S5.out.bC rfl
  have u12 : X5.cell? ⟨w.heap.size + 1 + 1, 12, none⟩ = some (.bool false) := blk_cell S5.out.bC rfl
  have t0 : X5.cell? ⟨w.heap.size + 1, 0, none⟩ = some (.int .i64 0) := blk_cell S5.out.bB rfl
  have r0 : X5.frozen? ⟨w.heap.size + 1, 0, none⟩ = false := blk_free S5.out.bB
  have t1 : X5.cell? ⟨w.heap.size + 1, 1, none⟩ = some (.int .i64 0) := blk_cell S5.out.bB rfl
  have r1 : X5.frozen? ⟨w.heap.size + 1, 1, none⟩ = false := blk_free S5.out.bB
  have t2 : X5.cell? ⟨w.heap.size + 1, 2, none⟩ = some (.int .i64 0) := blk_cell S5.out.bB rfl
  have r2 : X5.frozen? ⟨w.heap.size + 1, 2, none⟩ = false := blk_free S5.out.bB
  have t3 : X5.cell? ⟨w.heap.size + 1, 3, none⟩ = some (.int .i64 0) := blk_cell S5.out.bB rfl
  have r3 : X5.frozen? ⟨w.heap.size + 1, 3, none⟩ = false := blk_free S5.out.bB
  have t4 : X5.cell? ⟨w.heap.size + 1, 4, none⟩ = some (.int .i64 0) := blk_cell S5.out.bB rfl
  have r4 : X5.frozen? ⟨w.heap.size + 1, 4, none⟩ = false := blk_free S5.out.bB
  have t5 : X5.cell? ⟨w.heap.size + 1, 5, none⟩ = some (.int .i64 0) := blk_cell S5.out.bB rfl
  have r5 : X5.frozen? ⟨w.heap.size + 1, 5, none⟩ = false := blk_free S5.out.bB
  have t6 : X5.cell? ⟨w.heap.size + 1, 6, none⟩ = some (.int .i64 0) := blk_cell S5.out.bB rfl
  have r6 : X5.frozen? ⟨w.heap.size + 1, 6, none⟩ = false := blk_free S5.out.bB
  have t7 : X5.cell? ⟨w.heap.size + 1, 7, none⟩ = some (.int .u32 0) := blk_cell S5.out.bB rfl
  have r7 : X5.frozen? ⟨w.heap.size + 1, 7, none⟩ = false := blk_free S5.out.bB
  have t8 : X5.cell? ⟨w.heap.size + 1, 8, none⟩ = some (.int .u32 0) := blk_cell S5.out.bB rfl
  have r8 : X5.frozen? ⟨w.heap.size + 1, 8, none⟩ = false := blk_free S5.out.bB
  have t9 : X5.cell? ⟨w.heap.size + 1, 9, none⟩ = some (.int .u32 0) := blk_cell S5.out.bB rfl
  have r9 : X5.frozen? ⟨w.heap.size + 1, 9, none⟩ = false := blk_free S5.out.bB
  have t10 : X5.cell? ⟨w.heap.size + 1, 10, none⟩ = some (.int .u32 0) := blk_cell S5.out.bB rfl
  have r10 : X5.frozen? ⟨w.heap.size + 1, 10, none⟩ = false := blk_free S5.out.bB
  have t11 : X5.cell? ⟨w.heap.size + 1, 11, none⟩ = some (.int .u32 0) := blk_cell S5.out.bB rfl
  have r11 : X5.frozen? ⟨w.heap.size + 1, 11, none⟩ = false := blk_free S5.out.bB
  have t12 : X5.cell? ⟨w.heap.size + 1, 12, none⟩ = some (.bool false) := blk_cell S5.out.bB rfl
  have r12 : X5.frozen? ⟨w.heap.size + 1, 12, none⟩ = false := blk_free S5.out.bB
  have R := Hid.in (((((((((((((S5.out.setB HA 0 (.int .i64 14)).setB HA 1 (.int .i64 c')).setB HA 2 (.int .i64 l')).setB HA 3 (.int .i64 0)).setB HA 4 (.int .i64 0)).setB HA 5 (.int .i64 0)).setB HA 6 (.int .i64 w_')).setB HA 7 (.int .u32 v')).setB HA 8 (.int .u32 0)).setB HA 9 (.int .u32 0)).setB HA 10 (.int .u32 0)).setB HA 11 (.int .u32 0)).setB HA 12 (.bool false))
  go_wp2
  refine bodyPost_ret (v := .agg #[.int .i64 14, .int .i64 c', .int .i64 l', .int .i64 0, .int .i64 0, .int .i64 0, .int .i64 w_', .int .u32 v', .int .u32 0, .int .u32 0, .int .u32 0, .int .u32 0, .bool false]) ?_ rfl ⟨rfl, HA.sub _ _ _ _ R.out.inv (fun x hx => .inl (.inl (.inl hx))), R.out.gr⟩
  rw [results_cell1 rfl]
  go_simp

set_option maxHeartbeats 3200000 in
set_option maxRecDepth 20000 in
theorem swalk_C {K q : Nat} {pv : Value} {σ : Type} {st : σ → Int → Int → Int → σ × Int} {fuel : σ → Nat} {Inv : (Nat → Prop) → σ → World → Prop} (HA : AskC K q pv st fuel Inv) (O : Nat → Prop) (w : World)
    {s s1 s2 s3 s4 s5 : σ} {k c l t o e w_ v d0 d1 d2 d3 : Int} {h : Bool} {c' l' e' o' : Int} (e1 : st s k 1 15 = (s1, 9)) (e2 : st s1 c 0 63 = (s2, c')) (e3 : st s2 l 0 31 = (s3, l')) (e4 : st s3 e 0 255 = (s4, e')) (e5 : st s4 o 0 3 = (s5, o')) 
    (hI : Inv O s w) (hf : 20 ≤ fuel s) (bk : -9223372036854775808 ≤ k ∧ k ≤ 9223372036854775807) (bc : -9223372036854775808 ≤ c ∧ c ≤ 9223372036854775807) (bl : -9223372036854775808 ≤ l ∧ l ≤ 9223372036854775807) (be : -9223372036854775808 ≤ e ∧ e ≤ 9223372036854775807) (bo : -9223372036854775808 ≤ o ∧ o ≤ 9223372036854775807)  :
    Calls Tryd.prog 40 #[.agg #[.int .i64 k, .int .i64 c, .int .i64 l, .int .i64 t, .int .i64 o, .int .i64 e, .int .i64 w_, .int .u32 v, .int .u32 d0, .int .u32 d1, .int .u32 d2, .int .u32 d3, .bool h], .func (.func K) #[] #[pv]] w fun r w' => r = .returned (.agg #[.int .i64 9, .int .i64 c', .int .i64 l', .int .i64 0, .int .i64 o', .int .i64 e', .int .i64 0, .int .u32 0, .int .u32 0, .int .u32 0, .int .u32 0, .int .u32 0, .bool false]) ∧ Inv O s5 w' ∧ w.grownBy w' (some q) := by
  have ee := HA.enters
  have f1 := HA.next e1
  have f2 := HA.next e2
  have f3 := HA.next e3
  have f4 := HA.next e4
  have f5 := HA.next e5
  have S0 := Hid.in (WS.start HA hI 32 #[.int .i64 k, .int .i64 c, .int .i64 l, .int .i64 t, .int .i64 o, .int .i64 e, .int .i64 w_, .int .u32 v, .int .u32 d0, .int .u32 d1, .int .u32 d2, .int .u32 d3, .bool h] #[.int .i64 0, .int .i64 0, .int .i64 0, .int .i64 0, .int .i64 0, .int .i64 0, .int .i64 0, .int .u32 0, .int .u32 0, .int .u32 0, .int .u32 0, .int .u32 0, .bool false] #[.int .i64 0, .int .i64 0, .int .i64 0, .int .i64 0, .int .i64 0, .int .i64 0, .int .i64 0, .int .u32 0, .int .u32 0, .int .u32 0, .int .u32 0, .int .u32 0, .bool false])
  clear hI
  have x0 : (((w.alloc (.cells #[.int .i64 k, .int .i64 c, .int .i64 l, .int .i64 t, .int .i64 o, .int .i64 e, .int .i64 w_, .int .u32 v, .int .u32 d0, .int .u32 d1, .int .u32 d2, .int .u32 d3, .bool h] 32)).alloc (.cells #[.int .i64 0, .int .i64 0, .int .i64 0, .int .i64 0, .int .i64 0, .int .i64 0, .int .i64 0, .int .u32 0, .int .u32 0, .int .u32 0, .int .u32 0, .int .u32 0, .bool false] 32)).alloc (.cells #[.int .i64 0, .int .i64 0, .int .i64 0, .int .i64 0, .int .i64 0, .int .i64 0, .int .i64 0, .int .u32 0, .int .u32 0, .int .u32 0, .int .u32 0, .int .u32 0, .bool false] 32)).cell? ⟨w.heap.size, 0, none⟩ = some (.int .i64 k) := blk_cell S0.out.bA rfl
  go_enter Tryd.func40, Tryd.ntmps40
  go_wp2_with fail
  refine (HA.met e1 S0.out.inv (by omega) bk.1 bk.2).mono ?_
  rintro r w1 ⟨rfl, hI, hg⟩
  clear x0
  have T1 := Hid.in (S0.out.in HA hI hg)
  clear hI hg
  have z : w1.cell? ⟨w.heap.size + 1 + 1, 0, none⟩ = some (.int .i64 0) := blk_cell T1.out.bC rfl
  have y : w1.frozen? ⟨w.heap.size + 1 + 1, 0, none⟩ = false := blk_free T1.out.bC
  have S1 : Hid (WS Inv _ 32 w q w.heap.size #[.int .i64 k, .int .i64 c, .int .i64 l, .int .i64 t, .int .i64 o, .int .i64 e, .int .i64 w_, .int .u32 v, .int .u32 d0, .int .u32 d1, .int .u32 d2, .int .u32 d3, .bool h] #[.int .i64 0, .int .i64 0, .int .i64 0, .int .i64 0, .int .i64 0, .int .i64 0, .int .i64 0, .int .u32 0, .int .u32 0, .int .u32 0, .int .u32 0, .int .u32 0, .bool false] #[.int .i64 9, .int .i64 0, .int .i64 0, .int .i64 0, .int .i64 0, .int .i64 0, .int .i64 0, .int .u32 0, .int .u32 0, .int .u32 0, .int .u32 0, .int .u32 0, .bool false] s1 (w1.setCell ⟨w.heap.size + 1 + 1, 0, none⟩ (.int .i64 9))) := Hid.in (T1.out.set HA 0 (.int .i64 9))
  go_upto_region 3 with fail
  generalize hX : w1.setCell ⟨w.heap.size + 1 + 1, 0, none⟩ (.int .i64 9) = X1 at *
  clear z y hX T1 S0
  have x0 : X1.cell? ⟨w.heap.size, 1, none⟩ = some (.int .i64 c) := blk_cell S1.out.bA rfl
  go_wp2_with fail
  refine (HA.met e2 S1.out.inv (by omega) bc.1 bc.2).mono ?_
  rintro r w2 ⟨rfl, hI, hg⟩
  clear x0
  have T2 := Hid.in (S1.out.in HA hI hg)
  clear hI hg
  have z : w2.cell? ⟨w.heap.size + 1 + 1, 1, none⟩ = some (.int .i64 0) := blk_cell T2.out.bC rfl
  have y : w2.frozen? ⟨w.heap.size + 1 + 1, 1, none⟩ = false := blk_free T2.out.bC
  have S2 : Hid (WS Inv _ 32 w q w.heap.size #[.int .i64 k, .int .i64 c, .int .i64 l, .int .i64 t, .int .i64 o, .int .i64 e, .int .i64 w_, .int .u32 v, .int .u32 d0, .int .u32 d1, .int .u32 d2, .int .u32 d3, .bool h] #[.int .i64 0, .int .i64 0, .int .i64 0, .int .i64 0, .int .i64 0, .int .i64 0, .int .i64 0, .int .u32 0, .int .u32 0, .int .u32 0, .int .u32 0, .int .u32 0, .bool false] #[.int .i64 9, .int .i64 c', .int .i64 0, .int .i64 0, .int .i64 0, .int .i64 0, .int .i64 0, .int .u32 0, .int .u32 0, .int .u32 0, .int .u32 0, .int .u32 0, .bool false] s2 (w2.setCell ⟨w.heap.size + 1 + 1, 1, none⟩ (.int .i64 c'))) := Hid.in (T2.out.set HA 1 (.int .i64 c'))
  go_upto_region 4 with fail
  generalize hX : w2.setCell ⟨w.heap.size + 1 + 1, 1, none⟩ (.int .i64 c') = X2 at *
  clear z y hX T2 S1
  have x0 : X2.cell? ⟨w.heap.size, 2, none⟩ = some (.int .i64 l) := blk_cell S2.out.bA rfl
  go_wp2_with fail
  refine (HA.met e3 S2.out.inv (by omega) bl.1 bl.2).mono ?_
  rintro r w3 ⟨rfl, hI, hg⟩
  clear x0
  have T3 := Hid.in (S2.out.in HA hI hg)
  clear hI hg
  have z : w3.cell? ⟨w.heap.size + 1 + 1, 2, none⟩ = some (.int .i64 0) := blk_cell T3.out.bC rfl
  have y : w3.frozen? ⟨w.heap.size + 1 + 1, 2, none⟩ = false := blk_free T3.out.bC
  have S3 : Hid (WS Inv _ 32 w q w.heap.size #[.int .i64 k, .int .i64 c, .int .i64 l, .int .i64 t, .int .i64 o, .int .i64 e, .int .i64 w_, .int .u32 v, .int .u32 d0, .int .u32 d1, .int .u32 d2, .int .u32 d3, .bool h] #[.int .i64 0, .int .i64 0, .int .i64 0, .int .i64 0, .int .i64 0, .int .i64 0, .int .i64 0, .int .u32 0, .int .u32 0, .int .u32 0, .int .u32 0, .int .u32 0, .bool false] #[.int .i64 9, .int .i64 c', .int .i64 l', .int .i64 0, .int .i64 0, .int .i64 0, .int .i64 0, .int .u32 0, .int .u32 0, .int .u32 0, .int .u32 0, .int .u32 0, .bool false] s3 (w3.setCell ⟨w.heap.size + 1 + 1, 2, none⟩ (.int .i64 l'))) := Hid.in (T3.out.set HA 2 (.int .i64 l'))
  go_upto_region 5 with fail
  generalize hX : w3.setCell ⟨w.heap.size + 1 + 1, 2, none⟩ (.int .i64 l') = X3 at *
  clear z y hX T3 S2
  have x0 : X3.cell? ⟨w.heap.size, 5, none⟩ = some (.int .i64 e) := blk_cell S3.out.bA rfl
  have k0 : X3.cell? ⟨w.heap.size + 1 + 1, 0, none⟩ = some (.int .i64 9) := blk_cell S3.out.bC rfl
  go_wp2_with fail
  refine (HA.met e4 S3.out.inv (by omega) be.1 be.2).mono ?_
  rintro r w4 ⟨rfl, hI, hg⟩
  clear x0
  clear k0
  have T4 := Hid.in (S3.out.in HA hI hg)
  clear hI hg
  have z : w4.cell? ⟨w.heap.size + 1 + 1, 5, none⟩ = some (.int .i64 0) := blk_cell T4.out.bC rfl
  have y : w4.frozen? ⟨w.heap.size + 1 + 1, 5, none⟩ = false := blk_free T4.out.bC
  have S4 : Hid (WS Inv _ 32 w q w.heap.size #[.int .i64 k, .int .i64 c, .int .i64 l, .int .i64 t, .int .i64 o, .int .i64 e, .int .i64 w_, .int .u32 v, .int .u32 d0, .int .u32 d1, .int .u32 d2, .int .u32 d3, .bool h] #[.int .i64 0, .int .i64 0, .int .i64 0, .int .i64 0, .int .i64 0, .int .i64 0, .int .i64 0, .int .u32 0, .int .u32 0, .int .u32 0, .int .u32 0, .int .u32 0, .bool false] #[.int .i64 9, .int .i64 c', .int .i64 l', .int .i64 0, .int .i64 0, .int .i64 e', .int .i64 0, .int .u32 0, .int .u32 0, .int .u32 0, .int .u32 0, .int .u32 0, .bool false] s4 (w4.setCell ⟨w.heap.size + 1 + 1, 5, none⟩ (.int .i64 e'))) := Hid.in (T4.out.set HA 5 (.int .i64 e'))
  go_upto_region 16 with fail
  generalize hX : w4.setCell ⟨w.heap.size + 1 + 1, 5, none⟩ (.int .i64 e') = X4 at *
  clear z y hX T4 S3
  have x0 : X4.cell? ⟨w.heap.size, 4, none⟩ = some (.int .i64 o) := blk_cell S4.out.bA rfl
  go_wp2_with fail
  refine (HA.met e5 S4.out.inv (by omega) bo.1 bo.2).mono ?_
  rintro r w5 ⟨rfl, hI, hg⟩
  clear x0
  have T5 := Hid.in (S4.out.in HA hI hg)
  clear hI hg
  have z : w5.cell? ⟨w.heap.size + 1 + 1, 4, none⟩ = some (.int .i64 0) := blk_cell T5.out.bC rfl
  have y : w5.frozen? ⟨w.heap.size + 1 + 1, 4, none⟩ = false := blk_free T5.out.bC
  have S5 : Hid (WS Inv _ 32 w q w.heap.size #[.int .i64 k, .int .i64 c, .int .i64 l, .int .i64 t, .int .i64 o, .int .i64 e, .int .i64 w_, .int .u32 v, .int .u32 d0, .int .u32 d1, .int .u32 d2, .int .u32 d3, .bool h] #[.int .i64 0, .int .i64 0, .int .i64 0, .int .i64 0, .int .i64 0, .int .i64 0, .int .i64 0, .int .u32 0, .int .u32 0, .int .u32 0, .int .u32 0, .int .u32 0, .bool false] #[.int .i64 9, .int .i64 c', .int .i64 l', .int .i64 0, .int .i64 o', .int .i64 e', .int .i64 0, .int .u32 0, .int .u32 0, .int .u32 0, .int .u32 0, .int .u32 0, .bool false] s5 (w5.setCell ⟨w.heap.size + 1 + 1, 4, none⟩ (.int .i64 o'))) := Hid.in (T5.out.set HA 4 (.int .i64 o'))
  go_upto_region 23 with fail
  generalize hX : w5.setCell ⟨w.heap.size + 1 + 1, 4, none⟩ (.int .i64 o') = X5 at *
  clear z y hX T5 S4
  have u0 : X5.cell? ⟨w.heap.size + 1 + 1, 0, none⟩ = some (.int .i64 9) := blk_cell S5.out.bC rfl
  have u1 : X5.cell? ⟨w.heap.size + 1 + 1, 1, none⟩ = some (.int .i64 c') := blk_cell S5.out.bC rfl
  have u2 : X5.cell? ⟨w.heap.size + 1 + 1, 2, none⟩ = some (.int .i64 l') := blk_cell S5.out.bC rfl
  have u3 : X5.cell? ⟨w.heap.size + 1 + 1, 3, none⟩ = some (.int .i64 0) := blk_cell S5.out.bC rfl
  have u4 : X5.cell? ⟨w.heap.size + 1 + 1, 4, none⟩ = some (.int .i64 o') := blk_cell S5.out.bC rfl
  have u5 : X5.cell? ⟨w.heap.size + 1 + 1, 5, none⟩ = some (.int .i64 e') := blk_cell S5.out.bC rfl
  have u6 : X5.cell? ⟨w.heap.size + 1 + 1, 6, none⟩ = some (.int .i64 0) := blk_cell S5.out.bC rfl
  have u7 : X5.cell? ⟨w.heap.size + 1 + 1, 7, none⟩ = some (.int .u32 0) := blk_cell S5.out.bC rfl
  have u8 : X5.cell? ⟨w.heap.size + 1 + 1, 8, none⟩ = some (.int .u32 0) := blk_cell S5.out.bC rfl
  have u9 : X5.cell? ⟨w.heap.size + 1 + 1, 9, none⟩ = some (.int .u32 0) := blk_cell S5.out.bC rfl
  have u10 : X5.cell? ⟨w.heap.size + 1 + 1, 10, none⟩ = some (.int .u32 0) := blk_cell S5.out.bC rfl
  have u11 : X5.cell? ⟨w.heap.size + 1 + 1, 11, none⟩ = some (.int .u32 0) := blk_cell S5.out.bC rfl
  have u12 : X5.cell? ⟨w.heap.size + 1 + 1, 12, none⟩ = some (.bool false) := blk_cell S5.out.bC rfl
  have t0 : X5.cell? ⟨w.heap.size + 1, 0, none⟩ = some (.int .i64 0) := blk_cell S5.out.bB rfl
  have r0 : X5.frozen? ⟨w.heap.size + 1, 0, none⟩ = false := blk_free S5.out.bB
  have t1 : X5.cell? ⟨w.heap.size + 1, 1, none⟩ = some (.int .i64 0) := blk_cell S5.out.bB rfl
  have r1 : X5.frozen? ⟨w.heap.size + 1, 1, none⟩ = false := blk_free S5.out.bB
  have t2 : X5.cell? ⟨w.heap.size + 1, 2, none⟩ = some (.int .i64 0) := blk_cell S5.out.bB rfl
  have r2 : X5.frozen? ⟨w.heap.size + 1, 2, none⟩ = false := blk_free S5.out.bB
  have t3 : X5.cell? ⟨w.heap.size + 1, 3, none⟩ = some (.int .i64 0) := blk_cell S5.out.bB rfl
  have r3 : X5.frozen? ⟨w.heap.size + 1, 3, none⟩ = false := blk_free S5.out.bB
  have t4 : X5.cell? ⟨w.heap.size + 1, 4, none⟩ = some (.int .i64 0) := blk_cell S5.out.bB rfl
  have r4 : X5.frozen? ⟨w.heap.size + 1, 4, none⟩ = false := blk_free S5.out.bB
  have t5 : X5.cell? ⟨w.heap.size + 1, 5, none⟩ = some (.int .i64 0) := blk_cell S5.out.bB rfl
  have r5 : X5.frozen? ⟨w.heap.size + 1, 5, none⟩ = false := blk_free S5.out.bB
  have t6 : X5.cell? ⟨w.heap.size + 1, 6, none⟩ = some (.int .i64 0) := blk_cell S5.out.bB rfl
  have r6 : X5.frozen? ⟨w.heap.size + 1, 6, none⟩ = false := blk_free S5.out.bB
  have t7 : X5.cell? ⟨w.heap.size + 1, 7, none⟩ = some (.int .u32 0) := blk_cell S5.out.bB rfl
  have r7 : X5.frozen? ⟨w.heap.size + 1, 7, none⟩ = false := blk_free S5.out.bB
  have t8 : X5.cell? ⟨w.heap.size + 1, 8, none⟩ = some (.int .u32 0) := blk_cell S5.out.bB rfl
  have r8 : X5.frozen? ⟨w.heap.size + 1, 8, none⟩ = false := blk_free S5.out.bB
  have t9 : X5.cell? ⟨w.heap.size + 1, 9, none⟩ = some (.int .u32 0) := blk_cell S5.out.bB rfl
  have r9 : X5.frozen? ⟨w.heap.size + 1, 9, none⟩ = false := blk_free S5.out.bB
  have t10 : X5.cell? ⟨w.heap.size + 1, 10, none⟩ = some (.int .u32 0) := blk_cell S5.out.bB rfl
  have r10 : X5.frozen? ⟨w.heap.size + 1, 10, none⟩ = false := blk_free S5.out.bB
  have t11 : X5.cell? ⟨w.heap.size + 1, 11, none⟩ = some (.int .u32 0) := blk_cell S5.out.bB rfl
  have r11 : X5.frozen? ⟨w.heap.size + 1, 11, none⟩ = false := blk_free S5.out.bB
  have t12 : X5.cell? ⟨w.heap.size + 1, 12, none⟩ = some (.bool false) := blk_cell S5.out.bB rfl
  have r12 : X5.frozen? ⟨w.heap.size + 1, 12, none⟩ = false := blk_free S5.out.bB
  have R := Hid.in (((((((((((((S5.out.setB HA 0 (.int .i64 9)).setB HA 1 (.int .i64 c')).setB HA 2 (.int .i64 l')).setB HA 3 (.int .i64 0)).setB HA 4 (.int .i64 o')).setB HA 5 (.int .i64 e')).setB HA 6 (.int .i64 0)).setB HA 7 (.int .u32 0)).setB HA 8 (.int .u32 0)).setB HA 9 (.int .u32 0)).setB HA 10 (.int .u32 0)).setB HA 11 (.int .u32 0)).setB HA 12 (.bool false))
  go_wp2
  refine bodyPost_ret (v := .agg #[.int .i64 9, .int .i64 c', .int .i64 l', .int .i64 0, .int .i64 o', .int .i64 e', .int .i64 0, .int .u32 0, .int .u32 0, .int .u32 0, .int .u32 0, .int .u32 0, .bool false]) ?_ rfl ⟨rfl, HA.sub _ _ _ _ R.out.inv (fun x hx => .inl (.inl (.inl hx))), R.out.gr⟩
  rw [results_cell1 rfl]
  go_simp

end Go.Proofs.YtakomlmbdienpaaDoor
