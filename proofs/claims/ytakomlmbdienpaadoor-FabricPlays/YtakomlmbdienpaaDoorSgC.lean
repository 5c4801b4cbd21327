/- DERIVED of the program: msg.walk by its contract, a theorem a way that its asks go. Own work. -/
import Derived.Test.YtakomlmbdienpaaDoorSgB
namespace Go.Proofs.YtakomlmbdienpaaDoor
open Go.RowKit Go.Extern.Stop Go.Stop Go.Extern

set_option maxHeartbeats 3200000 in
set_option maxRecDepth 20000 in
theorem swalk_A0 {K q : Nat} {pv : Value} {σ : Type} {st : σ → Int → Int → Int → σ × Int} {fuel : σ → Nat} {Inv : (Nat → Prop) → σ → World → Prop} (HA : AskC K q pv st fuel Inv) (O : Nat → Prop) (w : World)
    {s s1 s2 s3 s4 s5 : σ} {k c l t o e w_ v d0 d1 d2 d3 : Int} {h : Bool} {c' l' t' h' : Int} (e1 : st s k 1 15 = (s1, 11)) (e2 : st s1 c 0 63 = (s2, c')) (e3 : st s2 l 0 31 = (s3, l')) (e4 : st s3 t 0 4 = (s4, t')) (e5 : st s4 (if h then 1 else 0) 0 1 = (s5, h')) (gh : ¬ h' = 1)
    (hI : Inv O s w) (hf : 20 ≤ fuel s) (bk : -9223372036854775808 ≤ k ∧ k ≤ 9223372036854775807) (bc : -9223372036854775808 ≤ c ∧ c ≤ 9223372036854775807) (bl : -9223372036854775808 ≤ l ∧ l ≤ 9223372036854775807) (bt : -9223372036854775808 ≤ t ∧ t ≤ 9223372036854775807)  :
    Calls Tryd.prog 40 #[.agg #[.int .i64 k, .int .i64 c, .int .i64 l, .int .i64 t, .int .i64 o, .int .i64 e, .int .i64 w_, .int .u32 v, .int .u32 d0, .int .u32 d1, .int .u32 d2, .int .u32 d3, .bool h], .func (.func K) #[] #[pv]] w fun r w' => r = .returned (.agg #[.int .i64 11, .int .i64 c', .int .i64 l', .int .i64 t', .int .i64 0, .int .i64 0, .int .i64 0, .int .u32 0, .int .u32 0, .int .u32 0, .int .u32 0, .int .u32 0, .bool false]) ∧ Inv O s5 w' ∧ w.grownBy w' (some q) := by
  have ee := HA.enters
  have f1 := HA.next e1
  have f2 := HA.next e2
  have f3 := HA.next e3
  have f4 := HA.next e4
  have f5 := HA.next e5
  have S0 := Hid.in (WS.start HA hI 32 #[.int .i64 k, .int .i64 c, .int .i64 l, .int .i64 t, .int .i64 o, .int .i64 e, .int .i64 w_, .int .u32 v, .int .u32 d0, .int .u32 d1, .int .u32 d2, .int .u32 d3, .bool h] #[.int .i64 0, .int .i64 0, .int .i64 0, .int .i64 0, .int .i64 0, .int .i64 0, .int .i64 0, .int .u32 0, .int .u32 0, .int .u32 0, .int .u32 0, .int .u32 0, .bool false] #[.int .i64 0, .int .i64 0, .int .i64 0, .int .i64 0, .int .i64 0, .int .i64 0, .int .i64 0, .int .u32 0, .int .u32 0, .int .u32 0, .int .u32 0, .int .u32 0, .bool false])
  clear hI
  obtain ⟨H, hH, H0, H1⟩ : ∃ H : Int, (if h then (1 : Int) else 0) = H ∧ 0 ≤ H ∧ H ≤ 1 := ⟨_, rfl, by cases h <;> decide, by cases h <;> decide⟩
  have hb : Hid (∀ w, Calls Tryd.prog 50 #[.bool h] w fun r w' => r = .returned (.int .i64 H) ∧ w' = w) := Hid.in (fun w => hH ▸ sbit_any h w)
  rw [hH] at e5
  clear hH
  have gb : (h' == (1 : Int)) = false := by simpa using gh
  clear gh
  have x0 : (((w.alloc (.cells #[.int .i64 k, .int .i64 c, .int .i64 l, .int .i64 t, .int .i64 o, .int .i64 e, .int .i64 w_, .int .u32 v, .int .u32 d0, .int .u32 d1, .int .u32 d2, .int .u32 d3, .bool h] 32)).alloc (.cells #[.int .i64 0, .int .i64 0, .int .i64 0, .int .i64 0, .int .i64 0, .int .i64 0, .int .i64 0, .int .u32 0, .int .u32 0, .int .u32 0, .int .u32 0, .int .u32 0, .bool false] 32)).alloc (.cells #[.int .i64 0, .int .i64 0, .int .i64 0, .int .i64 0, .int .i64 0, .int .i64 0, .int .i64 0, .int .u32 0, .int .u32 0, .int .u32 0, .int .u32 0, .int .u32 0, .bool false] 32)).cell? ⟨w.heap.size, 0, none⟩ = some (.int .i64 k) := blk_cell S0.out.bA rfl
  go_enter Tryd.func40, Tryd.ntmps40
  go_wp2_with fail
  refine (HA.met e1 S0.out.inv (by omega) bk.1 bk.2).mono ?_
  rintro r w1 ⟨rfl, hI, hg⟩
  clear x0
  have T1 := Hid.in (S0.out.in HA hI hg)
  clear hI hg
  have z : w1.cell? ⟨w.heap.size + 1 + 1, 0, none⟩ = some (.int .i64 0) := blk_cell T1.out.bC rfl
  have y : w1.frozen? ⟨w.heap.size + 1 + 1, 0, none⟩ = false := blk_free T1.out.bC
  have S1 : Hid (WS Inv _ 32 w q w.heap.size #[.int .i64 k, .int .i64 c, .int .i64 l, .int .i64 t, .int .i64 o, .int .i64 e, .int .i64 w_, .int .u32 v, .int .u32 d0, .int .u32 d1, .int .u32 d2, .int .u32 d3, .bool h] #[.int .i64 0, .int .i64 0, .int .i64 0, .int .i64 0, .int .i64 0, .int .i64 0, .int .i64 0, .int .u32 0, .int .u32 0, .int .u32 0, .int .u32 0, .int .u32 0, .bool false] #[.int .i64 11, .int .i64 0, .int .i64 0, .int .i64 0, .int .i64 0, .int .i64 0, .int .i64 0, .int .u32 0, .int .u32 0, .int .u32 0, .int .u32 0, .int .u32 0, .bool false] s1 (w1.setCell ⟨w.heap.size + 1 + 1, 0, none⟩ (.int .i64 11))) := Hid.in (T1.out.set HA 0 (.int .i64 11))
  go_upto_region 3 with fail
  generalize hX : w1.setCell ⟨w.heap.size + 1 + 1, 0, none⟩ (.int .i64 11) = X1 at *
  clear z y hX T1 S0
  have x0 : X1.cell? ⟨w.heap.size, 1, none⟩ = some (.int .i64 c) := blk_cell S1.out.bA rfl
  go_wp2_with fail
  refine (HA.met e2 S1.out.inv (by omega) bc.1 bc.2).mono ?_
  rintro r w2 ⟨rfl, hI, hg⟩
  clear x0
  have T2 := Hid.in (S1.out.in HA hI hg)
  clear hI hg
  have z : w2.cell? ⟨w.heap.size + 1 + 1, 1, none⟩ = some (.int .i64 0) := blk_cell T2.out.bC rfl
  have y : w2.frozen? ⟨w.heap.size + 1 + 1, 1, none⟩ = false := blk_free T2.out.bC
  have S2 : Hid (WS Inv _ 32 w q w.heap.size #[.int .i64 k, .int .i64 c, .int .i64 l, .int .i64 t, .int .i64 o, .int .i64 e, .int .i64 w_, .int .u32 v, .int .u32 d0, .int .u32 d1, .int .u32 d2, .int .u32 d3, .bool h] #[.int .i64 0, .int .i64 0, .int .i64 0, .int .i64 0, .int .i64 0, .int .i64 0, .int .i64 0, .int .u32 0, .int .u32 0, .int .u32 0, .int .u32 0, .int .u32 0, .bool false] #[.int .i64 11, .int .i64 c', .int .i64 0, .int .i64 0, .int .i64 0, .int .i64 0, .int .i64 0, .int .u32 0, .int .u32 0, .int .u32 0, .int .u32 0, .int .u32 0, .bool false] s2 (w2.setCell ⟨w.heap.size + 1 + 1, 1, none⟩ (.int .i64 c'))) := Hid.in (T2.out.set HA 1 (.int .i64 c'))
  go_upto_region 4 with fail
  generalize hX : w2.setCell ⟨w.heap.size + 1 + 1, 1, none⟩ (.int .i64 c') = X2 at *
  clear z y hX T2 S1
  have x0 : X2.cell? ⟨w.heap.size, 2, none⟩ = some (.int .i64 l) := blk_cell S2.out.bA rfl
  go_wp2_with fail
  refine (HA.met e3 S2.out.inv (by omega) bl.1 bl.2).mono ?_
  rintro r w3 ⟨rfl, hI, hg⟩
  clear x0
  have T3 := Hid.in (S2.out.in HA hI hg)
  clear hI hg
  have z : w3.cell? ⟨w.heap.size + 1 + 1, 2, none⟩ = some (.int .i64 0) := blk_cell T3.out.bC rfl
  have y : w3.frozen? ⟨w.heap.size + 1 + 1, 2, none⟩ = false := blk_free T3.out.bC
  have S3 : Hid (WS Inv _ 32 w q w.heap.size #[.int .i64 k, .int .i64 c, .int .i64 l, .int .i64 t, .int .i64 o, .int .i64 e, .int .i64 w_, .int .u32 v, .int .u32 d0, .int .u32 d1, .int .u32 d2, .int .u32 d3, .bool h] #[.int .i64 0, .int .i64 0, .int .i64 0, .int .i64 0, .int .i64 0, .int .i64 0, .int .i64 0, .int .u32 0, .int .u32 0, .int .u32 0, .int .u32 0, .int .u32 0, .bool false] #[.int .i64 11, .int .i64 c', .int .i64 l', .int .i64 0, .int .i64 0, .int .i64 0, .int .i64 0, .int .u32 0, .int .u32 0, .int .u32 0, .int .u32 0, .int .u32 0, .bool false] s3 (w3.setCell ⟨w.heap.size + 1 + 1, 2, none⟩ (.int .i64 l'))) := Hid.in (T3.out.set HA 2 (.int .i64 l'))
  go_upto_region 5 with fail
  generalize hX : w3.setCell ⟨w.heap.size + 1 + 1, 2, none⟩ (.int .i64 l') = X3 at *
  clear z y hX T3 S2
  have x0 : X3.cell? ⟨w.heap.size, 3, none⟩ = some (.int .i64 t) := blk_cell S3.out.bA rfl
  have k0 : X3.cell? ⟨w.heap.size + 1 + 1, 0, none⟩ = some (.int .i64 11) := blk_cell S3.out.bC rfl
  go_wp2_with fail
  refine (HA.met e4 S3.out.inv (by omega) bt.1 bt.2).mono ?_
  rintro r w4 ⟨rfl, hI, hg⟩
  clear x0
  clear k0
  have T4 := Hid.in (S3.out.in HA hI hg)
  clear hI hg
  have z : w4.cell? ⟨w.heap.size + 1 + 1, 3, none⟩ = some (.int .i64 0) := blk_cell T4.out.bC rfl
  have y : w4.frozen? ⟨w.heap.size + 1 + 1, 3, none⟩ = false := blk_free T4.out.bC
  have S4 : Hid (WS Inv _ 32 w q w.heap.size #[.int .i64 k, .int .i64 c, .int .i64 l, .int .i64 t, .int .i64 o, .int .i64 e, .int .i64 w_, .int .u32 v, .int .u32 d0, .int .u32 d1, .int .u32 d2, .int .u32 d3, .bool h] #[.int .i64 0, .int .i64 0, .int .i64 0, .int .i64 0, .int .i64 0, .int .i64 0, .int .i64 0, .int .u32 0, .int .u32 0, .int .u32 0, .int .u32 0, .int .u32 0, .bool false] #[.int .i64 11, .int .i64 c', .int .i64 l', .int .i64 t', .int .i64 0, .int .i64 0, .int .i64 0, .int .u32 0, .int .u32 0, .int .u32 0, .int .u32 0, .int .u32 0, .bool false] s4 (w4.setCell ⟨w.heap.size + 1 + 1, 3, none⟩ (.int .i64 t'))) := Hid.in (T4.out.set HA 3 (.int .i64 t'))
  go_upto_region 20 with fail
  generalize hX : w4.setCell ⟨w.heap.size + 1 + 1, 3, none⟩ (.int .i64 t') = X4 at *
  clear z y hX T4 S3
  have x0 : X4.cell? ⟨w.heap.size, 12, none⟩ = some (.bool h) := blk_cell S4.out.bA rfl
  go_wp2_with fail
  refine (hb.out _).mono ?_
  rintro r w0 ⟨rfl, rfl⟩
  clear x0
  go_wp2_with fail
  refine (HA.met e5 S4.out.inv (by omega) (by omega) (by omega)).mono ?_
  rintro r w5 ⟨rfl, hI, hg⟩
  have T5 := Hid.in (S4.out.in HA hI hg)
  clear hI hg
  have z : w5.cell? ⟨w.heap.size + 1 + 1, 12, none⟩ = some (.bool false) := blk_cell T5.out.bC rfl
  have y : w5.frozen? ⟨w.heap.size + 1 + 1, 12, none⟩ = false := blk_free T5.out.bC
  have S5 : Hid (WS Inv _ 32 w q w.heap.size #[.int .i64 k, .int .i64 c, .int .i64 l, .int .i64 t, .int .i64 o, .int .i64 e, .int .i64 w_, .int .u32 v, .int .u32 d0, .int .u32 d1, .int .u32 d2, .int .u32 d3, .bool h] #[.int .i64 0, .int .i64 0, .int .i64 0, .int .i64 0, .int .i64 0, .int .i64 0, .int .i64 0, .int .u32 0, .int .u32 0, .int .u32 0, .int .u32 0, .int .u32 0, .bool false] #[.int .i64 11, .int .i64 c', .int .i64 l', .int .i64 t', .int .i64 0, .int .i64 0, .int .i64 0, .int .u32 0, .int .u32 0, .int .u32 0, .int .u32 0, .int .u32 0, .bool false] s5 (w5.setCell ⟨w.heap.size + 1 + 1, 12, none⟩ (.bool false))) := Hid.in (T5.out.set HA 12 (.bool false))
  go_upto_region 21 with fail
  generalize hX : w5.setCell ⟨w.heap.size + 1 + 1, 12, none⟩ (.bool false) = X5 at *
  clear z y hX T5 S4
  have x0 : X5.cell? ⟨w.heap.size + 1 + 1, 12, none⟩ = some (.bool false) := blk_cell S5.out.bC rfl
  have u0 : X5.cell? ⟨w.heap.size + 1 + 1, 0, none⟩ = some (.int .i64 11) := blk_cell S5.out.bC rfl
  have u1 : X5.cell? ⟨w.heap.size + 1 + 1, 1, none⟩ = some (.int .i64 c') := blk_cell S5.out.bC rfl
  have u2 : X5.cell? ⟨w.heap.size + 1 + 1, 2, none⟩ = some (.int .i64 l') := blk_cell S5.out.bC rfl
  have u3 : X5.cell? ⟨w.heap.size + 1 + 1, 3, none⟩ = some (.int .i64 t') := blk_cell S5.out.bC rfl
  have u4 : X5.cell? ⟨w.heap.size + 1 + 1, 4, none⟩ = some (.int .i64 0) := blk_cell S5.out.bC rfl
  have u5 : X5.cell? ⟨w.heap.size + 1 + 1, 5, none⟩ = some (.int .i64 0) := blk_cell S5.out.bC rfl
  have u6 : X5.cell? ⟨w.heap.size + 1 + 1, 6, none⟩ = some (.int .i64 0) := blk_cell S5.out.bC rfl
  have u7 : X5.cell? ⟨w.heap.size + 1 + 1, 7, none⟩ = some (.int .u32 0) := blk_cell S5.out.bC rfl
  have u8 : X5.cell? ⟨w.heap.size + 1 + 1, 8, none⟩ = some (.int .u32 0) := blk_cell S5.out.bC rfl
  have u9 : X5.cell? ⟨w.heap.size + 1 + 1, 9, none⟩ = some (.int .u32 0) := blk_cell S5.out.bC rfl
  have u10 : X5.cell? ⟨w.heap.size + 1 + 1, 10, none⟩ = some (.int .u32 0) := blk_cell S5.out.bC rfl
  have u11 : X5.cell? ⟨w.heap.size + 1 + 1, 11, none⟩ = some (.int .u32 0) := blk_cell S5.out.bC rfl
  have u12 : X5.cell? ⟨w.heap.size + 1 + 1, 12, none⟩ = some (.bool false) := blk_cell S5.out.bC rfl
  clear x0
  have t0 : X5.cell? ⟨w.heap.size + 1, 0, none⟩ = some (.int .i64 0) := blk_cell S5.out.bB rfl
  have r0 : X5.frozen? ⟨w.heap.size + 1, 0, none⟩ = false := blk_free S5.out.bB
  have t1 : X5.cell? ⟨w.heap.size + 1, 1, none⟩ = some (.int .i64 0) := blk_cell S5.out.bB rfl
  have r1 : X5.frozen? ⟨w.heap.size + 1, 1, none⟩ = false := blk_free S5.out.bB
  have t2 : X5.cell? ⟨w.heap.size + 1, 2, none⟩ = some (.int .i64 0) := blk_cell S5.out.bB rfl
  have r2 : X5.frozen? ⟨w.heap.size + 1, 2, none⟩ = false := blk_free S5.out.bB
  have t3 : X5.cell? ⟨w.heap.size + 1, 3, none⟩ = some (.int .i64 0) := blk_cell S5.out.bB rfl
  have r3 : X5.frozen? ⟨w.heap.size + 1, 3, none⟩ = false := blk_free S5.out.bB
  have t4 : X5.cell? ⟨w.heap.size + 1, 4, none⟩ = some (.int .i64 0) := blk_cell S5.out.bB rfl
  have r4 : X5.frozen? ⟨w.heap.size + 1, 4, none⟩ = false := blk_free S5.out.bB
  have t5 : X5.cell? ⟨w.heap.size + 1, 5, none⟩ = some (.int .i64 0) := blk_cell S5.out.bB rfl
  have r5 : X5.frozen? ⟨w.heap.size + 1, 5, none⟩ = false := blk_free S5.out.bB
  have t6 : X5.cell? ⟨w.heap.size + 1, 6, none⟩ = some (.int .i64 0) := blk_cell S5.out.bB rfl
  have r6 : X5.frozen? ⟨w.heap.size + 1, 6, none⟩ = false := blk_free S5.out.bB
  have t7 : X5.cell? ⟨w.heap.size + 1, 7, none⟩ = some (.int .u32 0) := blk_cell S5.out.bB rfl
  have r7 : X5.frozen? ⟨w.heap.size + 1, 7, none⟩ = false := blk_free S5.out.bB
  have t8 : X5.cell? ⟨w.heap.size + 1, 8, none⟩ = some (.int .u32 0) := blk_cell S5.out.bB rfl
  have r8 : X5.frozen? ⟨w.heap.size + 1, 8, none⟩ = false := blk_free S5.out.bB
  have t9 : X5.cell? ⟨w.heap.size + 1, 9, none⟩ = some (.int .u32 0) := blk_cell S5.out.bB rfl
  have r9 : X5.frozen? ⟨w.heap.size + 1, 9, none⟩ = false := blk_free S5.out.bB
  have t10 : X5.cell? ⟨w.heap.size + 1, 10, none⟩ = some (.int .u32 0) := blk_cell S5.out.bB rfl
  have r10 : X5.frozen? ⟨w.heap.size + 1, 10, none⟩ = false := blk_free S5.out.bB
  have t11 : X5.cell? ⟨w.heap.size + 1, 11, none⟩ = some (.int .u32 0) := blk_cell S5.out.bB rfl
  have r11 : X5.frozen? ⟨w.heap.size + 1, 11, none⟩ = false := blk_free S5.out.bB
  have t12 : X5.cell? ⟨w.heap.size + 1, 12, none⟩ = some (.bool false) := blk_cell S5.out.bB rfl
  have r12 : X5.frozen? ⟨w.heap.size + 1, 12, none⟩ = false := blk_free S5.out.bB
  have R := Hid.in (((((((((((((S5.out.setB HA 0 (.int .i64 11)).setB HA 1 (.int .i64 c')).setB HA 2 (.int .i64 l')).setB HA 3 (.int .i64 t')).setB HA 4 (.int .i64 0)).setB HA 5 (.int .i64 0)).setB HA 6 (.int .i64 0)).setB HA 7 (.int .u32 0)).setB HA 8 (.int .u32 0)).setB HA 9 (.int .u32 0)).setB HA 10 (.int .u32 0)).setB HA 11 (.int .u32 0)).setB HA 12 (.bool false))
  go_wp2
  refine bodyPost_ret (v := .agg #[.int .i64 11, .int .i64 c', .int .i64 l', .int .i64 t', .int .i64 0, .int .i64 0, .int .i64 0, .int .u32 0, .int .u32 0, .int .u32 0, .int .u32 0, .int .u32 0, .bool false]) ?_ rfl ⟨rfl, HA.sub _ _ _ _ R.out.inv (fun x hx => .inl (.inl (.inl hx))), R.out.gr⟩
  rw [results_cell1 rfl]
  go_simp

set_option maxHeartbeats 3200000 in
set_option maxRecDepth 20000 in
theorem swalk_A1 {K q : Nat} {pv : Value} {σ : Type} {st : σ → Int → Int → Int → σ × Int} {fuel : σ → Nat} {Inv : (Nat → Prop) → σ → World → Prop} (HA : AskC K q pv st fuel Inv) (O : Nat → Prop) (w : World)
    {s s1 s2 s3 s4 s5 s6 s7 s8 s9 : σ} {k c l t o e w_ v d0 d1 d2 d3 : Int} {h : Bool} {c' l' t' d0' d1' d2' d3' : Int} (e1 : st s k 1 15 = (s1, 11)) (e2 : st s1 c 0 63 = (s2, c')) (e3 : st s2 l 0 31 = (s3, l')) (e4 : st s3 t 0 4 = (s4, t')) (e5 : st s4 (if h then 1 else 0) 0 1 = (s5, 1)) (e6 : st s5 d0 0 4294967295 = (s6, d0')) (e7 : st s6 d1 0 4294967295 = (s7, d1')) (e8 : st s7 d2 0 4294967295 = (s8, d2')) (e9 : st s8 d3 0 4294967295 = (s9, d3')) 
    (hI : Inv O s w) (hf : 20 ≤ fuel s) (bk : -9223372036854775808 ≤ k ∧ k ≤ 9223372036854775807) (bc : -9223372036854775808 ≤ c ∧ c ≤ 9223372036854775807) (bl : -9223372036854775808 ≤ l ∧ l ≤ 9223372036854775807) (bt : -9223372036854775808 ≤ t ∧ t ≤ 9223372036854775807) (bd0 : 0 ≤ d0 ∧ d0 ≤ 4294967295) (bd1 : 0 ≤ d1 ∧ d1 ≤ 4294967295) (bd2 : 0 ≤ d2 ∧ d2 ≤ 4294967295) (bd3 : 0 ≤ d3 ∧ d3 ≤ 4294967295) (bd0' : 0 ≤ d0' ∧ d0' ≤ 4294967295) (bd1' : 0 ≤ d1' ∧ d1' ≤ 4294967295) (bd2' : 0 ≤ d2' ∧ d2' ≤ 4294967295) (bd3' : 0 ≤ d3' ∧ d3' ≤ 4294967295) :
    Calls Tryd.prog 40 #[.agg #[.int .i64 k, .int .i64 c, .int .i64 l, .int .i64 t, .int .i64 o, .int .i64 e, .int .i64 w_, .int .u32 v, .int .u32 d0, .int .u32 d1, .int .u32 d2, .int .u32 d3, .bool h], .func (.func K) #[] #[pv]] w fun r w' => r = .returned (.agg #[.int .i64 11, .int .i64 c', .int .i64 l', .int .i64 t', .int .i64 0, .int .i64 0, .int .i64 0, .int .u32 0, .int .u32 d0', .int .u32 d1', .int .u32 d2', .int .u32 d3', .bool true]) ∧ Inv O s9 w' ∧ w.grownBy w' (some q) := by
  have ee := HA.enters
  have f1 := HA.next e1
  have f2 := HA.next e2
  have f3 := HA.next e3
  have f4 := HA.next e4
  have f5 := HA.next e5
  have f6 := HA.next e6
  have f7 := HA.next e7
  have f8 := HA.next e8
  have f9 := HA.next e9
  have S0 := Hid.in (WS.start HA hI 32 #[.int .i64 k, .int .i64 c, .int .i64 l, .int .i64 t, .int .i64 o, .int .i64 e, .int .i64 w_, .int .u32 v, .int .u32 d0, .int .u32 d1, .int .u32 d2, .int .u32 d3, .bool h] #[.int .i64 0, .int .i64 0, .int .i64 0, .int .i64 0, .int .i64 0, .int .i64 0, .int .i64 0, .int .u32 0, .int .u32 0, .int .u32 0, .int .u32 0, .int .u32 0, .bool false] #[.int .i64 0, .int .i64 0, .int .i64 0, .int .i64 0, .int .i64 0, .int .i64 0, .int .i64 0, .int .u32 0, .int .u32 0, .int .u32 0, .int .u32 0, .int .u32 0, .bool false])
  clear hI
  obtain ⟨H, hH, H0, H1⟩ : ∃ H : Int, (if h then (1 : Int) else 0) = H ∧ 0 ≤ H ∧ H ≤ 1 := ⟨_, rfl, by cases h <;> decide, by cases h <;> decide⟩
  have hb : Hid (∀ w, Calls Tryd.prog 50 #[.bool h] w fun r w' => r = .returned (.int .i64 H) ∧ w' = w) := Hid.in (fun w => hH ▸ sbit_any h w)
  rw [hH] at e5
  clear hH
  have x0 : (((w.alloc (.cells #[.int .i64 k, .int .i64 c, .int .i64 l, .int .i64 t, .int .i64 o, .int .i64 e, .int .i64 w_, .int .u32 v, .int .u32 d0, .int .u32 d1, .int .u32 d2, .int .u32 d3, .bool h] 32)).alloc (.cells #[.int .i64 0, .int .i64 0, .int .i64 0, .int .i64 0, .int .i64 0, .int .i64 0, .int .i64 0, .int .u32 0, .int .u32 0, .int .u32 0, .int .u32 0, .int .u32 0, .bool false] 32)).alloc (.cells #[.int .i64 0, .int .i64 0, .int .i64 0, .int .i64 0, .int .i64 0, .int .i64 0, .int .i64 0, .int .u32 0, .int .u32 0, .int .u32 0, .int .u32 0, .int .u32 0, .bool false] 32)).cell? ⟨w.heap.size, 0, none⟩ = some (.int .i64 k) := blk_cell S0.out.bA rfl
  go_enter Tryd.func40, Tryd.ntmps40
  go_wp2_with fail
  refine (HA.met e1 S0.out.inv (by omega) bk.1 bk.2).mono ?_
  rintro r w1 ⟨rfl, hI, hg⟩
  clear x0
  have T1 := Hid.in (S0.out.in HA hI hg)
  clear hI hg
  have z : w1.cell? ⟨w.heap.size + 1 + 1, 0, none⟩ = some (.int .i64 0) := blk_cell T1.out.bC rfl
  have y : w1.frozen? ⟨w.heap.size + 1 + 1, 0, none⟩ = false := blk_free T1.out.bC
  have S1 : Hid (WS Inv _ 32 w q w.heap.size #[.int .i64 k, .int .i64 c, .int .i64 l, .int .i64 t, .int .i64 o, .int .i64 e, .int .i64 w_, .int .u32 v, .int .u32 d0, .int .u32 d1, .int .u32 d2, .int .u32 d3, .bool h] #[.int .i64 0, .int .i64 0, .int .i64 0, .int .i64 0, .int .i64 0, .int .i64 0, .int .i64 0, .int .u32 0, .int .u32 0, .int .u32 0, .int .u32 0, .int .u32 0, .bool false] #[.int .i64 11, .int .i64 0, .int .i64 0, .int .i64 0, .int .i64 0, .int .i64 0, .int .i64 0, .int .u32 0, .int .u32 0, .int .u32 0, .int .u32 0, .int .u32 0, .bool false] s1 (w1.setCell ⟨w.heap.size + 1 + 1, 0, none⟩ (.int .i64 11))) := Hid.in (T1.out.set HA 0 (.int .i64 11))
  go_upto_region 3 with fail
  generalize hX : w1.setCell ⟨w.heap.size + 1 + 1, 0, none⟩ (.int .i64 11) = X1 at *
  clear z y hX T1 S0
  have x0 : X1.cell? ⟨w.heap.size, 1, none⟩ = some (.int .i64 c) := blk_cell S1.out.bA rfl
  go_wp2_with fail
  refine (HA.met e2 S1.out.inv (by omega) bc.1 bc.2).mono ?_
  rintro r w2 ⟨rfl, hI, hg⟩
  clear x0
  have T2 := Hid.in (S1.out.in HA hI hg)
  clear hI hg
  have z : w2.cell? ⟨w.heap.size + 1 + 1, 1, none⟩ = some (.int .i64 0) := blk_cell T2.out.bC rfl
  have y : w2.frozen? ⟨w.heap.size + 1 + 1, 1, none⟩ = false := blk_free T2.out.bC
  have S2 : Hid (WS Inv _ 32 w q w.heap.size #[.int .i64 k, .int .i64 c, .int .i64 l, .int .i64 t, .int .i64 o, .int .i64 e, .int .i64 w_, .int .u32 v, .int .u32 d0, .int .u32 d1, .int .u32 d2, .int .u32 d3, .bool h] #[.int .i64 0, .int .i64 0, .int .i64 0, .int .i64 0, .int .i64 0, .int .i64 0, .int .i64 0, .int .u32 0, .int .u32 0, .int .u32 0, .int .u32 0, .int .u32 0, .bool false] #[.int .i64 11, .int .i64 c', .int .i64 0, .int .i64 0, .int .i64 0, .int .i64 0, .int .i64 0, .int .u32 0, .int .u32 0, .int .u32 0, .int .u32 0, .int .u32 0, .bool false] s2 (w2.setCell ⟨w.heap.size + 1 + 1, 1, none⟩ (.int .i64 c'))) := Hid.in (T2.out.set HA 1 (.int .i64 c'))
  go_upto_region 4 with fail
  generalize hX : w2.setCell ⟨w.heap.size + 1 + 1, 1, none⟩ (.int .i64 c') = X2 at *
  clear z y hX T2 S1
  have x0 : X2.cell? ⟨w.heap.size, 2, none⟩ = some (.int .i64 l) := blk_cell S2.out.bA rfl
  go_wp2_with fail
  refine (HA.met e3 S2.out.inv (by omega) bl.1 bl.2).mono ?_
  rintro r w3 ⟨rfl, hI, hg⟩
  clear x0
  have T3 := Hid.in (S2.out.in HA hI hg)
  clear hI hg
  have z : w3.cell? ⟨w.heap.size + 1 + 1, 2, none⟩ = some (.int .i64 0) := blk_cell T3.out.bC rfl
  have y : w3.frozen? ⟨w.heap.size + 1 + 1, 2, none⟩ = false := blk_free T3.out.bC
  have S3 : Hid (WS Inv _ 32 w q w.heap.size #[.int .i64 k, .int .i64 c, .int .i64 l, .int .i64 t, .int .i64 o, .int .i64 e, .int .i64 w_, .int .u32 v, .int .u32 d0, .int .u32 d1, .int .u32 d2, .int .u32 d3, .bool h] #[.int .i64 0, .int .i64 0, .int .i64 0, .int .i64 0, .int .i64 0, .int .i64 0, .int .i64 0, .int .u32 0, .int .u32 0, .int .u32 0, .int .u32 0, .int .u32 0, .bool false] #[.int .i64 11, .int .i64 c', .int .i64 l', .int .i64 0, .int .i64 0, .int .i64 0, .int .i64 0, .int .u32 0, .int .u32 0, .int .u32 0, .int .u32 0, .int .u32 0, .bool false] s3 (w3.setCell ⟨w.heap.size + 1 + 1, 2, none⟩ (.int .i64 l'))) := Hid.in (T3.out.set HA 2 (.int .i64 l'))
  go_upto_region 5 with fail
  generalize hX : w3.setCell ⟨w.heap.size + 1 + 1, 2, none⟩ (.int .i64 l') = X3 at *
  clear z y hX T3 S2
  have x0 : X3.cell? ⟨w.heap.size, 3, none⟩ = some (.int .i64 t) := blk_cell S3.out.bA rfl
  have k0 : X3.cell? ⟨w.heap.size + 1 + 1, 0, none⟩ = some (.int .i64 11) := blk_cell S3.out.bC rfl
  go_wp2_with fail
  refine (HA.met e4 S3.out.inv (by omega) bt.1 bt.2).mono ?_
  rintro r w4 ⟨rfl, hI, hg⟩
  clear x0
  clear k0
  have T4 := Hid.in (S3.out.in HA hI hg)
  clear hI hg
  have z : w4.cell? ⟨w.heap.size + 1 + 1, 3, none⟩ = some (.int .i64 0) := blk_cell T4.out.bC rfl
  have y : w4.frozen? ⟨w.heap.size + 1 + 1, 3, none⟩ = false := blk_free T4.out.bC
  have S4 : Hid (WS Inv _ 32 w q w.heap.size #[.int .i64 k, .int .i64 c, .int .i64 l, .int .i64 t, .int .i64 o, .int .i64 e, .int .i64 w_, .int .u32 v, .int .u32 d0, .int .u32 d1, .int .u32 d2, .int .u32 d3, .bool h] #[.int .i64 0, .int .i64 0, .int .i64 0, .int .i64 0, .int .i64 0, .int .i64 0, .int .i64 0, .int .u32 0, .int .u32 0, .int .u32 0, .int .u32 0, .int .u32 0, .bool false] #[.int .i64 11, .int .i64 c', .int .i64 l', .int .i64 t', .int .i64 0, .int .i64 0, .int .i64 0, .int .u32 0, .int .u32 0, .int .u32 0, .int .u32 0, .int .u32 0, .bool false] s4 (w4.setCell ⟨w.heap.size + 1 + 1, 3, none⟩ (.int .i64 t'))) := Hid.in (T4.out.set HA 3 (.int .i64 t'))
  go_upto_region 20 with fail
  generalize hX : w4.setCell ⟨w.heap.size + 1 + 1, 3, none⟩ (.int .i64 t') = X4 at *
  clear z y hX T4 S3
  have x0 : X4.cell? ⟨w.heap.size, 12, none⟩ = some (.bool h) := blk_cell S4.out.bA rfl
  go_wp2_with fail
  refine (hb.out _).mono ?_
  rintro r w0 ⟨rfl, rfl⟩
  clear x0
  go_wp2_with fail
  refine (HA.met e5 S4.out.inv (by omega) (by omega) (by omega)).mono ?_
  rintro r w5 ⟨rfl, hI, hg⟩
  have T5 := Hid.in (S4.out.in HA hI hg)
  clear hI hg
  have z : w5.cell? ⟨w.heap.size + 1 + 1, 12, none⟩ = some (.bool false) := blk_cell T5.out.bC rfl
  have y : w5.frozen? ⟨w.heap.size + 1 + 1, 12, none⟩ = false := blk_free T5.out.bC
  have S5 : Hid (WS Inv _ 32 w q w.heap.size #[.int .i64 k, .int .i64 c, .int .i64 l, .int .i64 t, .int .i64 o, .int .i64 e, .int .i64 w_, .int .u32 v, .int .u32 d0, .int .u32 d1, .int .u32 d2, .int .u32 d3, .bool h] #[.int .i64 0, .int .i64 0, .int .i64 0, .int .i64 0, .int .i64 0, .int .i64 0, .int .i64 0, .int .u32 0, .int .u32 0, .int .u32 0, .int .u32 0, .int .u32 0, .bool false] #[.int .i64 11, .int .i64 c', .int .i64 l', .int .i64 t', .int .i64 0, .int .i64 0, .int .i64 0, .int .u32 0, .int .u32 0, .int .u32 0, .int .u32 0, .int .u32 0, .bool true] s5 (w5.setCell ⟨w.heap.size + 1 + 1, 12, none⟩ (.bool true))) := Hid.in (T5.out.set HA 12 (.bool true))
  go_upto_region 21 with fail
  generalize hX : w5.setCell ⟨w.heap.size + 1 + 1, 12, none⟩ (.bool true) = X5 at *
  clear z y hX T5 S4
  have x0 : X5.cell? ⟨w.heap.size + 1 + 1, 12, none⟩ = some (.bool true) := blk_cell S5.out.bC rfl
  have q0 : X5.cell? ⟨w.heap.size, 8, none⟩ = some (.int .u32 d0) := blk_cell S5.out.bA rfl
  have q1 : X5.cell? ⟨w.heap.size, 9, none⟩ = some (.int .u32 d1) := blk_cell S5.out.bA rfl
  have q2 : X5.cell? ⟨w.heap.size, 10, none⟩ = some (.int .u32 d2) := blk_cell S5.out.bA rfl
  have q3 : X5.cell? ⟨w.heap.size, 11, none⟩ = some (.int .u32 d3) := blk_cell S5.out.bA rfl
  go_wp2_with fail
  refine (swalkLine_any HA _ _ e6 e7 e8 e9 S5.out.inv (by omega) bd0 bd1 bd2 bd3 bd0' bd1' bd2' bd3').mono ?_
  rintro r w9 ⟨rfl, hI, hg⟩
  clear x0 q0 q1 q2 q3
  have T9 := Hid.in (S5.out.in HA hI hg)
  clear hI hg
  have z0 : w9.cell? ⟨w.heap.size + 1 + 1, 8, none⟩ = some (.int .u32 0) := blk_cell T9.out.bC rfl
  have y0 : w9.frozen? ⟨w.heap.size + 1 + 1, 8, none⟩ = false := blk_free T9.out.bC
  have z1 : w9.cell? ⟨w.heap.size + 1 + 1, 9, none⟩ = some (.int .u32 0) := blk_cell T9.out.bC rfl
  have y1 : w9.frozen? ⟨w.heap.size + 1 + 1, 9, none⟩ = false := blk_free T9.out.bC
  have z2 : w9.cell? ⟨w.heap.size + 1 + 1, 10, none⟩ = some (.int .u32 0) := blk_cell T9.out.bC rfl
  have y2 : w9.frozen? ⟨w.heap.size + 1 + 1, 10, none⟩ = false := blk_free T9.out.bC
  have z3 : w9.cell? ⟨w.heap.size + 1 + 1, 11, none⟩ = some (.int .u32 0) := blk_cell T9.out.bC rfl
  have y3 : w9.frozen? ⟨w.heap.size + 1 + 1, 11, none⟩ = false := blk_free T9.out.bC
  have V0 : Hid (WS Inv _ 32 w q w.heap.size #[.int .i64 k, .int .i64 c, .int .i64 l, .int .i64 t, .int .i64 o, .int .i64 e, .int .i64 w_, .int .u32 v, .int .u32 d0, .int .u32 d1, .int .u32 d2, .int .u32 d3, .bool h] #[.int .i64 0, .int .i64 0, .int .i64 0, .int .i64 0, .int .i64 0, .int .i64 0, .int .i64 0, .int .u32 0, .int .u32 0, .int .u32 0, .int .u32 0, .int .u32 0, .bool false] #[.int .i64 11, .int .i64 c', .int .i64 l', .int .i64 t', .int .i64 0, .int .i64 0, .int .i64 0, .int .u32 0, .int .u32 d0', .int .u32 0, .int .u32 0, .int .u32 0, .bool true] s9 (w9.setCell ⟨w.heap.size + 1 + 1, 8, none⟩ (.int .u32 d0'))) := Hid.in (T9.out.set HA 8 (.int .u32 d0'))
  have V1 : Hid (WS Inv _ 32 w q w.heap.size #[.int .i64 k, .int .i64 c, .int .i64 l, .int .i64 t, .int .i64 o, .int .i64 e, .int .i64 w_, .int .u32 v, .int .u32 d0, .int .u32 d1, .int .u32 d2, .int .u32 d3, .bool h] #[.int .i64 0, .int .i64 0, .int .i64 0, .int .i64 0, .int .i64 0, .int .i64 0, .int .i64 0, .int .u32 0, .int .u32 0, .int .u32 0, .int .u32 0, .int .u32 0, .bool false] #[.int .i64 11, .int .i64 c', .int .i64 l', .int .i64 t', .int .i64 0, .int .i64 0, .int .i64 0, .int .u32 0, .int .u32 d0', .int .u32 d1', .int .u32 0, .int .u32 0, .bool true] s9 ((w9.setCell ⟨w.heap.size + 1 + 1, 8, none⟩ (.int .u32 d0')).setCell ⟨w.heap.size + 1 + 1, 9, none⟩ (.int .u32 d1'))) := Hid.in (V0.out.set HA 9 (.int .u32 d1'))
  clear V0
  have V2 : Hid (WS Inv _ 32 w q w.heap.size #[.int .i64 k, .int .i64 c, .int .i64 l, .int .i64 t, .int .i64 o, .int .i64 e, .int .i64 w_, .int .u32 v, .int .u32 d0, .int .u32 d1, .int .u32 d2, .int .u32 d3, .bool h] #[.int .i64 0, .int .i64 0, .int .i64 0, .int .i64 0, .int .i64 0, .int .i64 0, .int .i64 0, .int .u32 0, .int .u32 0, .int .u32 0, .int .u32 0, .int .u32 0, .bool false] #[.int .i64 11, .int .i64 c', .int .i64 l', .int .i64 t', .int .i64 0, .int .i64 0, .int .i64 0, .int .u32 0, .int .u32 d0', .int .u32 d1', .int .u32 d2', .int .u32 0, .bool true] s9 (((w9.setCell ⟨w.heap.size + 1 + 1, 8, none⟩ (.int .u32 d0')).setCell ⟨w.heap.size + 1 + 1, 9, none⟩ (.int .u32 d1')).setCell ⟨w.heap.size + 1 + 1, 10, none⟩ (.int .u32 d2'))) := Hid.in (V1.out.set HA 10 (.int .u32 d2'))
  clear V1
  have S9 : Hid (WS Inv _ 32 w q w.heap.size #[.int .i64 k, .int .i64 c, .int .i64 l, .int .i64 t, .int .i64 o, .int .i64 e, .int .i64 w_, .int .u32 v, .int .u32 d0, .int .u32 d1, .int .u32 d2, .int .u32 d3, .bool h] #[.int .i64 0, .int .i64 0, .int .i64 0, .int .i64 0, .int .i64 0, .int .i64 0, .int .i64 0, .int .u32 0, .int .u32 0, .int .u32 0, .int .u32 0, .int .u32 0, .bool false] #[.int .i64 11, .int .i64 c', .int .i64 l', .int .i64 t', .int .i64 0, .int .i64 0, .int .i64 0, .int .u32 0, .int .u32 d0', .int .u32 d1', .int .u32 d2', .int .u32 d3', .bool true] s9 ((((w9.setCell ⟨w.heap.size + 1 + 1, 8, none⟩ (.int .u32 d0')).setCell ⟨w.heap.size + 1 + 1, 9, none⟩ (.int .u32 d1')).setCell ⟨w.heap.size + 1 + 1, 10, none⟩ (.int .u32 d2')).setCell ⟨w.heap.size + 1 + 1, 11, none⟩ (.int .u32 d3'))) := Hid.in (V2.out.set HA 11 (.int .u32 d3'))
  clear V2
  go_upto_region 23 with fail
  generalize hX : ((((w9.setCell ⟨w.heap.size + 1 + 1, 8, none⟩ (.int .u32 d0')).setCell ⟨w.heap.size + 1 + 1, 9, none⟩ (.int .u32 d1')).setCell ⟨w.heap.size + 1 + 1, 10, none⟩ (.int .u32 d2')).setCell ⟨w.heap.size + 1 + 1, 11, none⟩ (.int .u32 d3')) = X9 at *
  clear z0 z1 z2 z3 y0 y1 y2 y3 hX T9 S5
  have u0 : X9.cell? ⟨w.heap.size + 1 + 1, 0, none⟩ = some (.int .i64 11) := blk_cell S9.out.bC rfl
  have u1 : X9.cell? ⟨w.heap.size + 1 + 1, 1, none⟩ = some (.int .i64 c') := blk_cell S9.out.bC rfl
  have u2 : X9.cell? ⟨w.heap.size + 1 + 1, 2, none⟩ = some (.int .i64 l') := blk_cell S9.out.bC rfl
  have u3 : X9.cell? ⟨w.heap.size + 1 + 1, 3, none⟩ = some (.int .i64 t') := blk_cell S9.out.bC rfl
  have u4 : X9.cell? ⟨w.heap.size + 1 + 1, 4, none⟩ = some (.int .i64 0) := blk_cell S9.out.bC rfl
  have u5 : X9.cell? ⟨w.heap.size + 1 + 1, 5, none⟩ = some (.int .i64 0) := blk_cell S9.out.bC rfl
  have u6 : X9.cell? ⟨w.heap.size + 1 + 1, 6, none⟩ = some (.int .i64 0) := blk_cell S9.out.bC rfl
  have u7 : X9.cell? ⟨w.heap.size + 1 + 1, 7, none⟩ = some (.int .u32 0) := blk_cell S9.out.bC rfl
  have u8 : X9.cell? ⟨w.heap.size + 1 + 1, 8, none⟩ = some (.int .u32 d0') := blk_cell S9.out.bC rfl
  have u9 : X9.cell? ⟨w.heap.size + 1 + 1, 9, none⟩ = some (.int .u32 d1') := blk_cell S9.out.bC rfl
  have u10 : X9.cell? ⟨w.heap.size + 1 + 1, 10, none⟩ = some (.int .u32 d2') := blk_cell S9.out.bC rfl
  have u11 : X9.cell? ⟨w.heap.size + 1 + 1, 11, none⟩ = some (.int .u32 d3') := blk_cell S9.out.bC rfl
  have u12 : X9.cell? ⟨w.heap.size + 1 + 1, 12, none⟩ = some (.bool true) := blk_cell S9.out.bC rfl
  have t0 : X9.cell? ⟨w.heap.size + 1, 0, none⟩ = some (.int .i64 0) := blk_cell S9.out.bB rfl
  have r0 : X9.frozen? ⟨w.heap.size + 1, 0, none⟩ = false := blk_free S9.out.bB
  have t1 : X9.cell? ⟨w.heap.size + 1, 1, none⟩ = some (.int .i64 0) := blk_cell S9.out.bB rfl
  have r1 : X9.frozen? ⟨w.heap.size + 1, 1, none⟩ = false := blk_free S9.out.bB
  have t2 : X9.cell? ⟨w.heap.size + 1, 2, none⟩ = some (.int .i64 0) := blk_cell S9.out.bB rfl
  have r2 : X9.frozen? ⟨w.heap.size + 1, 2, none⟩ = false := blk_free S9.out.bB
  have t3 : X9.cell? ⟨w.heap.size + 1, 3, none⟩ = some (.int .i64 0) := blk_cell S9.out.bB rfl
  have r3 : X9.frozen? ⟨w.heap.size + 1, 3, none⟩ = false := blk_free S9.out.bB
  have t4 : X9.cell? ⟨w.heap.size + 1, 4, none⟩ = some (.int .i64 0) := blk_cell S9.out.bB rfl
  have r4 : X9.frozen? ⟨w.heap.size + 1, 4, none⟩ = false := blk_free S9.out.bB
  have t5 : X9.cell? ⟨w.heap.size + 1, 5, none⟩ = some (.int .i64 0) := blk_cell S9.out.bB rfl
  have r5 : X9.frozen? ⟨w.heap.size + 1, 5, none⟩ = false := blk_free S9.out.bB
  have t6 : X9.cell? ⟨w.heap.size + 1, 6, none⟩ = some (.int .i64 0) := blk_cell S9.out.bB rfl
  have r6 : X9.frozen? ⟨w.heap.size + 1, 6, none⟩ = false := blk_free S9.out.bB
  have t7 : X9.cell? ⟨w.heap.size + 1, 7, none⟩ = some (.int .u32 0) := blk_cell S9.out.bB rfl
  have r7 : X9.frozen? ⟨w.heap.size + 1, 7, none⟩ = false := blk_free S9.out.bB
  have t8 : X9.cell? ⟨w.heap.size + 1, 8, none⟩ = some (.int .u32 0) := blk_cell S9.out.bB rfl
  have r8 : X9.frozen? ⟨w.heap.size + 1, 8, none⟩ = false := blk_free S9.out.bB
  have t9 : X9.cell? ⟨w.heap.size + 1, 9, none⟩ = some (.int .u32 0) := blk_cell S9.out.bB rfl
  have r9 : X9.frozen? ⟨w.heap.size + 1, 9, none⟩ = false := blk_free S9.out.bB
  have t10 : X9.cell? ⟨w.heap.size + 1, 10, none⟩ = some (.int .u32 0) := blk_cell S9.out.bB rfl
  have r10 : X9.frozen? ⟨w.heap.size + 1, 10, none⟩ = false := blk_free S9.out.bB
  have t11 : X9.cell? ⟨w.heap.size + 1, 11, none⟩ = some (.int .u32 0) := blk_cell S9.out.bB rfl
  have r11 : X9.frozen? ⟨w.heap.size + 1, 11, none⟩ = false := blk_free S9.out.bB
  have t12 : X9.cell? ⟨w.heap.size + 1, 12, none⟩ = some (.bool false) := blk_cell S9.out.bB rfl
  have r12 : X9.frozen? ⟨w.heap.size + 1, 12, none⟩ = false := blk_free S9.out.bB
  have R := Hid.in (((((((((((((S9.out.setB HA 0 (.int .i64 11)).setB HA 1 (.int .i64 c')).setB HA 2 (.int .i64 l')).setB HA 3 (.int .i64 t')).setB HA 4 (.int .i64 0)).setB HA 5 (.int .i64 0)).setB HA 6 (.int .i64 0)).setB HA 7 (.int .u32 0)).setB HA 8 (.int .u32 d0')).setB HA 9 (.int .u32 d1')).setB HA 10 (.int .u32 d2')).setB HA 11 (.int .u32 d3')).setB HA 12 (.bool true))
  go_wp2
  refine bodyPost_ret (v := .agg #[.int .i64 11, .int .i64 c', .int .i64 l', .int .i64 t', .int .i64 0, .int .i64 0, .int .i64 0, .int .u32 0, .int .u32 d0', .int .u32 d1', .int .u32 d2', .int .u32 d3', .bool true]) ?_ rfl ⟨rfl, HA.sub _ _ _ _ R.out.inv (fun x hx => .inl (.inl (.inl hx))), R.out.gr⟩
  rw [results_cell1 rfl]
  go_simp

end Go.Proofs.YtakomlmbdienpaaDoor
