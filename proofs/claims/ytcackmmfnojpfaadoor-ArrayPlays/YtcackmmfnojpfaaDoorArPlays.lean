/- DERIVED of the program: ArrayPlays' walk. Own work. -/
import Derived.Test.YtcackmmfnojpfaaDoorArPlE
import Derived.Test.YtcackmmfnojpfaaDoorArPin
import Derived.Test.YtcackmmfnojpfaaDoorGenR
import Derived.Test.YtcackmmfnojpfaaDoorArEq
import Derived.BigQuiet
import Derived.Deep.Light
import Derived.Deep.CutBlock
namespace Go.Proofs.YtcackmmfnojpfaaDoor
open Go.RowKit Go.Extern.Stop Go.Stop Go.Extern

/-- Both arrays in one world. -/
structure Both (w0 w : World) (lo hi k s : Nat) (A : List St) : Prop where
  a : Arr w w0.heap.size k A
  r : RArr w lo hi lo k A
  n : A.length = s
  b : Below w0.heap.size w0 w
  h : hi ≤ w.heap.size
  d : w0.heap.size + 2 + s ≤ lo

theorem Both.step {w0 w w' : World} {lo hi k s : Nat} {A : List St} (h : Both w0 w lo hi k s A) (hb : Below w.heap.size w w') : Both w0 w' lo hi k s A :=
  ⟨h.a.step hb, h.r.step hb, h.n, bstep h.b (Nat.le_refl _) hb, Nat.le_trans h.h hb.size, h.d⟩

theorem Ints.cut {w : World} {ao : Option Addr} {cap : Nat} {zs : List Int} (h : Ints w ao cap zs) (m : Nat) : Ints w ao cap (zs.take m) := by
  refine ⟨Nat.le_trans (by simp; omega) h.le, fun j hj => ?_, fun z hz => h.rng z (List.mem_of_mem_take hz), h.nil0⟩
  have hj2 : j < zs.length := by simp at hj; omega
  obtain ⟨b, o, e1, e2⟩ := h.cell j hj2
  exact ⟨b, o, e1, by rw [e2]; simp⟩

def askObj (kd ln : Int) (e : En) (v : Value) : Obj := .cells #[.int .i64 kd, .int .i64 ln, .int .i64 e.line, .int .i64 e.state, .int .i64 e.mode, .int .i64 e.epoch, .int .u32 e.d0, .int .u32 e.d1, .int .u32 e.d2, .int .u32 e.d3, .bool e.held, .bool e.fresh, v] 44

theorem askC_blk {w : World} {b : Nat} {kd ln : Int} {e : En} {pa : Option Addr} {pc : Nat} {ps : List Int} (hb : w.heap[b]? = some (askObj kd ln e (.slice pa ps.length pc))) (h : Ints w pa pc ps) : AskC w b 0 kd ln e pa pc ps :=
  ⟨blk_cell hb rfl, blk_cell hb rfl, ⟨blk_cell hb rfl, blk_cell hb rfl, blk_cell hb rfl, blk_cell hb rfl, blk_cell hb rfl, blk_cell hb rfl, blk_cell hb rfl, blk_cell hb rfl, blk_cell hb rfl, blk_cell hb rfl⟩, blk_cell hb rfl, h⟩

theorem askC_new (w : World) {b o : Nat} {kd ln : Int} {e : En} {pa : Option Addr} {pc : Nat} {ps : List Int} (h : AskC w b o kd ln e pa pc ps) : AskC (w.alloc (askObj kd ln e (.slice pa ps.length pc))) w.heap.size 0 kd ln e pa pc ps :=
  askC_blk (heap_alloc_new _ _) (h.ps.step (below_alloc _ _))

theorem askC_cut (w : World) {b o : Nat} {kd ln : Int} {e : En} {pa : Option Addr} {pc : Nat} {ps : List Int} (h : AskC w b o kd ln e pa pc ps) (hp : 20 < ps.length) : AskC (w.alloc (askObj kd ln e (.slice pa 20 pc))) w.heap.size 0 kd ln e pa pc (ps.take 20) := by
  have hl : (ps.take 20).length = 20 := by simp; omega
  refine askC_blk ?_ ((h.ps.step (below_alloc _ _)).cut 20)
  rw [hl]
  exact heap_alloc_new _ _

theorem apart_cell {lo hi : Nat} {w w' : World} (h : Apart lo hi w w') {p : Addr} (hp : p.block < w.heap.size) (ho : ¬ (lo ≤ p.block ∧ p.block < hi)) : w'.cell? p = w.cell? p := by
  simp only [World.cell?, h.block _ hp ho]

theorem Both.ra {w0 w w5 : World} {lo hi k s : Nat} {A : List St} (h : Both w0 w lo hi k s A) (p5 : Apart w0.heap.size (w0.heap.size + 2 + A.length) w w5) : RArr w5 lo hi lo k A :=
  h.r.kept p5 (.inl (by rw [h.n]; exact h.d))
theorem Both.two {w0 w w5 w6 : World} {lo hi k s : Nat} {A A4 : List St} (h : Both w0 w lo hi k s A) (h5 : Arr w5 w0.heap.size k A4) (p5 : Apart w0.heap.size (w0.heap.size + 2 + A.length) w w5) (h6 : RArr w6 lo hi lo k A4) (p6 : Apart lo hi w5 w6) (hl : A4.length = A.length) : Both w0 w6 lo hi k s A4 := by
  have hn : A4.length = s := hl.trans h.n
  have hd := h.d
  have b5 := p5.below h.b (Nat.le_refl _) h.b.size
  exact ⟨h5.kept p6 (.inr (by rw [hn]; exact hd)), h6, hn, p6.below b5 (by omega) b5.size, Nat.le_trans h.h (Nat.le_trans p5.size p6.size), hd⟩
/-- A block behind both arrays. -/
theorem Both.far5 {w0 w w5 : World} {lo hi k s : Nat} {A : List St} (h : Both w0 w lo hi k s A) (p5 : Apart w0.heap.size (w0.heap.size + 2 + A.length) w w5) {q o : Nat} {v : Value} (hq : hi ≤ q) (hc : w.cell? ⟨q, o, none⟩ = some v) : w5.cell? ⟨q, o, none⟩ = some v := by
  obtain ⟨_, _, _, hr⟩ := h.r
  have := hr.oth
  have := h.d
  have := h.n
  exact (apart_cell p5 (p := ⟨q, o, none⟩) (lt_cell hc) (fun x => by have := x.2; simp only [] at this; omega)).trans hc
theorem far6 {lo hi : Nat} {w w6 : World} (p : Apart lo hi w w6) {q o : Nat} {v : Value} (hq : hi ≤ q) (hc : w.cell? ⟨q, o, none⟩ = some v) : w6.cell? ⟨q, o, none⟩ = some v :=
  (apart_cell p (p := ⟨q, o, none⟩) (lt_cell hc) (fun x => by have := x.2; simp only [] at this; omega)).trans hc

theorem rget_c (w : World) (lo hi R k : Nat) (A : List St) (hA : RArr w lo hi R k A) (l : Int) (e : En) (c : Bool) (h : getA A l = (e, c)) :
    Calls Tryd.prog 21 #[.pointer (some ⟨R + 1, 0, none⟩), .int .i64 l] w fun r w' => r = .returned (.tuple #[e.val, .bool c]) ∧ Below w.heap.size w w' := by
  have := rget_any w lo hi R k A hA l
  rw [h] at this
  exact this

theorem rroom_c (w : World) (lo hi R k : Nat) (A : List St) (hA : RArr w lo hi R k A) (l : Int) (c : Bool) (h : roomA A l = c) :
    Calls Tryd.prog 24 #[.pointer (some ⟨R + 1, 0, none⟩), .int .i64 l] w fun r w' => r = .returned (.bool c) ∧ Below w.heap.size w w' := by
  rw [← h]; exact rroom_any w lo hi R k A hA l
theorem rvictim_c (w : World) (lo hi R k : Nat) (A : List St) (hA : RArr w lo hi R k A) (l : Int) (ao : Option Addr) (cap : Nat) (zs : List Int) (hZ : Ints w ao cap zs) (hlen : zs.length ≤ 35184372088832) (c : Int) (h : vicA A l zs = c) :
    Calls Tryd.prog 25 #[.pointer (some ⟨R + 1, 0, none⟩), .int .i64 l, .slice ao zs.length cap] w fun r w' => r = .returned (.int .i64 c) ∧ Below w.heap.size w w' := by
  rw [← h]; exact rvictim_any w lo hi R k A hA l ao cap zs hZ hlen
theorem put_code (A : List St) (e : En) : (putA A e).1 ≤ 10 := by
  unfold putA
  repeat' split
  all_goals simp

theorem rdrop_c (w : World) (lo hi R k : Nat) (A : List St) (hA : RArr w lo hi R k A) (l : Int) (c : Bool) (A' : List St) (h : dropA A l = (c, A')) :
    Calls Tryd.prog 22 #[.pointer (some ⟨R + 1, 0, none⟩), .int .i64 l] w fun r w' => r = .returned (.bool c) ∧ RArr w' lo hi R k A' ∧ Apart lo hi w w' := by
  have := rdrop_any w lo hi R k A hA l
  rw [h] at this
  exact this
theorem rtouch_c (w : World) (lo hi R k : Nat) (A : List St) (hA : RArr w lo hi R k A) (l : Int) (c : Bool) (A' : List St) (h : touchA A l = (c, A')) :
    Calls Tryd.prog 23 #[.pointer (some ⟨R + 1, 0, none⟩), .int .i64 l] w fun r w' => r = .returned (.bool c) ∧ RArr w' lo hi R k A' ∧ Apart lo hi w w' := by
  have := rtouch_any w lo hi R k A hA l
  rw [h] at this
  exact this
theorem rput_c (w : World) (lo hi R k : Nat) (A : List St) (hA : RArr w lo hi R k A) (e : En) (c : Nat) (A' : List St) (h : putA A e = (c, A')) :
    Calls Tryd.prog 18 #[.pointer (some ⟨R + 1, 0, none⟩), e.val] w fun r w' => r = .returned (.int .i64 (c : Nat)) ∧ RArr w' lo hi R k A' ∧ Apart lo hi w w' := by
  have := rput_any w lo hi R k A hA e
  rw [h] at this
  exact this

theorem AskC.cells {w : World} {b o : Nat} {kd ln : Int} {e : En} {pa : Option Addr} {pc : Nat} {ps : List Int} (h : AskC w b o kd ln e pa pc ps) : w.cell? ⟨b, o, none⟩ = some (.int .i64 kd) ∧ w.cell? ⟨b, o + 1, none⟩ = some (.int .i64 ln) ∧ w.cell? ⟨b, o + 2, none⟩ = some (.int .i64 e.line) ∧ w.cell? ⟨b, o + 3, none⟩ = some (.int .i64 e.state) ∧ w.cell? ⟨b, o + 4, none⟩ = some (.int .i64 e.mode) ∧ w.cell? ⟨b, o + 5, none⟩ = some (.int .i64 e.epoch) ∧ w.cell? ⟨b, o + 6, none⟩ = some (.int .u32 e.d0) ∧ w.cell? ⟨b, o + 7, none⟩ = some (.int .u32 e.d1) ∧ w.cell? ⟨b, o + 8, none⟩ = some (.int .u32 e.d2) ∧ w.cell? ⟨b, o + 9, none⟩ = some (.int .u32 e.d3) ∧ w.cell? ⟨b, o + 10, none⟩ = some (.bool e.held) ∧ w.cell? ⟨b, o + 11, none⟩ = some (.bool e.fresh) ∧ w.cell? ⟨b, o + 12, none⟩ = some (.slice pa ps.length pc) :=
  ⟨h.kd, h.ln, h.en.c0, h.en.c1, h.en.c2, h.en.c3, h.en.c4, h.en.c5, h.en.c6, h.en.c7, h.en.c8, h.en.c9, h.pn⟩

/-- Both arrays, and one entry in two blocks. -/
structure KC (w0 : World) (lo hi k s : Nat) (A : List St) (bx bb : Nat) (e : En) (W : World) : Prop where
  x : ECells W bx 0 e
  y : ECells W bb 0 e
  z : Both w0 W lo hi k s A
theorem KC.step {w0 : World} {lo hi k s : Nat} {A : List St} {bx bb : Nat} {e : En} {W W' : World} (h : KC w0 lo hi k s A bx bb e W) (hb : Below W.heap.size W W') : KC w0 lo hi k s A bx bb e W' :=
  ⟨h.x.step hb, h.y.step hb, h.z.step hb⟩

set_option maxHeartbeats 25600000 in
set_option maxRecDepth 20000 in
theorem arrayPlays_ok (w : World) (sa : Nat → Addr) (hE : Env10 w sa) (s k : Nat) (hn : s = 1 ∨ s = 2 ∨ s = 4 ∨ s = 8) (hk : k = 1 ∨ k = 2 ∨ k = 4 ∨ k = 8) (al : Option Addr) (n capl : Nat) (hQ : Asks6 w al n) :
    Calls Tryd.prog 4 #[.int .i64 (s : Int), .int .i64 (k : Int), .slice al n capl] w fun r w' => r = .returned (.bool true) ∧ Below w.heap.size w w' := by
  have HE := Hid.in hE
  have HQ := Hid.in hQ
  have hs8 : s ≤ 8 := by omega
  have hk8 : k ≤ 8 := by omega
  have hs1 : 1 ≤ s := by omega
  have hk1 : 1 ≤ k := by omega
  have HN := Hid.in hn
  have HK := Hid.in hk
  clear hE hQ hn hk
  go_enter Tryd.func4, Tryd.ntmps4
  go_wp2_with fail
  refine (new_ok w s k HN.out HK.out).mono ?_
  rintro r w1 ⟨rfl, hA1, hb1⟩
  have HA1 := Hid.in hA1
  have HB1 := Hid.in hb1
  clear hA1 hb1
  go_wp2_with fail
  refine (rnew_ok w1 s k HN.out HK.out).mono ?_
  rintro r w2 ⟨rfl, hR2, hb2⟩
  have HBO : Hid (Both w w2 w1.heap.size w2.heap.size k s (newA s k)) := Hid.in ⟨HA1.out.step hb2, hR2, by simp [newA], bstep HB1.out (Nat.le_refl _) hb2, Nat.le_refl _, by have := HA1.out.lt.2 (s - 1) (by simp [newA]; omega); omega⟩
  clear hR2 hb2 HA1 HB1
  go_wp2_with fail
  refine (kIs_nil opNew 0 _).mono ?_
  rintro r w3 ⟨rfl, hb3⟩
  have HB3 := Hid.in (HBO.out.step hb3)
  clear hb3 HBO
  obtain ⟨lo, hlo⟩ : ∃ lo, w1.heap.size = lo := ⟨_, rfl⟩
  obtain ⟨hi, hhi⟩ : ∃ hi, w2.heap.size = hi := ⟨_, rfl⟩
  rw [hlo, hhi] at HB3
  rw [hlo]
  clear hlo hhi
  go_wp2
  go_loopw [12] (fun c wr => ∃ (i : Nat) (A : List St), i ≤ n ∧ i ≤ 60 ∧ c = .int .i64 (i : Int) ∧ Both w wr lo hi k s A) (fun c _ => 60 - (intOf c).toNat)
  case atStart => exact ⟨0, newA s k, Nat.zero_le _, Nat.zero_le _, rfl, HB3.out⟩
  case round =>
    obtain ⟨i, A, hi', hi60, rfl, hB⟩ := hrel
    have HB := Hid.in hB
    clear hB HB3
    by_cases hlt : i < n ∧ i < 60
    · obtain ⟨hin, hi6⟩ := hlt
      obtain ⟨lb, lq, rfl, kd, ln, e, pa, pc, ps, hq0⟩ := HQ.out i hin
      have hq := hq0.step HB.out.b
      have HQ1 := Hid.in hq
      have i1 : (i : Int) < (n : Int) := by omega
      have i2 : (i : Int) < 60 := by omega
      obtain ⟨e0, e1, e2, e3, e4, e5, e6, e7, e8, e9⟩ := e
      obtain ⟨q0, q1, c0, c1, c2, c3, c4, c5, c6, c7, c8, c9, q12⟩ := hq.cells
      simp only [] at c0 c1 c2 c3 c4 c5 c6 c7 c8 c9
      clear hq
      clear hq0
      rename World => wo
      go_upto_if 73 with fail
      go_cut [] (fun wx => ∃ pa' pc' ps', AskC wx wo.heap.size 0 kd ln (En.mk e0 e1 e2 e3 e4 e5 e6 e7 e8 e9) pa' pc' ps' ∧ ps'.length ≤ 20 ∧ Both w wx lo hi k s A)
      case first =>
        have HQ2 := Hid.in (askC_new wo HQ1.out)
        by_cases hp : 20 < ps.length
        · obtain ⟨pb, po, rfl, _⟩ := HQ1.out.ps.cell 0 (by omega)
          have hpc := HQ1.out.ps.le
          have p1 : (20 : Int) < (ps.length : Int) := by omega
          have p2 : (20 : Int) ≤ (pc : Int) := by omega
          clear q0 q1 c0 c1 c2 c3 c4 c5 c6 c7 c8 c9 q12
          go_wp2
          go_meet
          case rel => exact ⟨_, pc, ps.take 20, askC_cut wo HQ1.out hp, by simp; omega, HB.out.step (below_alloc _ _)⟩
        · have p1 : ¬ (20 : Int) < (ps.length : Int) := by omega
          clear q0 q1 c0 c1 c2 c3 c4 c5 c6 c7 c8 c9 q12
          go_wp2
          go_meet
          case rel => exact ⟨pa, pc, ps, HQ2.out, by omega, HB.out.step (below_alloc _ _)⟩
      case rest =>
        obtain ⟨pa', pc', ps', hq, hps, hB⟩ := hcut
        rename World => wx
        have HQX := Hid.in hq
        have HBX := Hid.in hB
        obtain ⟨x0, x1, d0, d1, d2, d3, d4, d5, d6, d7, d8, d9, x12⟩ := hq.cells
        simp only [Nat.zero_add] at x0 x1 d0 d1 d2 d3 d4 d5 d6 d7 d8 d9 x12
        have HHQ : Hid (hi ≤ wo.heap.size) := Hid.in HB.out.h
        clear hq hB q0 q1 c0 c1 c2 c3 c4 c5 c6 c7 c8 c9 q12 HQ1 HB
        go_upto_block 2 with fail
        go_cut [14] (fun ok wy => ok = .bool true ∧ ∃ A', Both w wy lo hi k s A')
        case first =>
          by_cases k1 : kd = 1
          · as_aux_lemma =>
              subst k1
              obtain ⟨cd, A4, h4⟩ : ∃ cd A4, putA A (En.mk e0 e1 e2 e3 e4 e5 e6 e7 e8 e9) = (cd, A4) := ⟨_, _, rfl⟩
              have HD := Hid.in h4
              have HL : Hid (A4.length = A.length) := Hid.in (by have := putA_len A (En.mk e0 e1 e2 e3 e4 e5 e6 e7 e8 e9); rwa [h4] at this)
              have HC : Hid (cd ≤ 10) := Hid.in (by have := put_code A (En.mk e0 e1 e2 e3 e4 e5 e6 e7 e8 e9); rwa [h4] at this)
              clear h4
              go_upto_region 14 with fail
              go_region_held3 (fun W => W.cell? ⟨wo.heap.size, 2, none⟩ = some (.int .i64 e0) ∧ W.cell? ⟨wo.heap.size, 3, none⟩ = some (.int .i64 e1) ∧ W.cell? ⟨wo.heap.size, 4, none⟩ = some (.int .i64 e2) ∧ W.cell? ⟨wo.heap.size, 5, none⟩ = some (.int .i64 e3) ∧ W.cell? ⟨wo.heap.size, 6, none⟩ = some (.int .u32 e4) ∧ W.cell? ⟨wo.heap.size, 7, none⟩ = some (.int .u32 e5) ∧ W.cell? ⟨wo.heap.size, 8, none⟩ = some (.int .u32 e6) ∧ W.cell? ⟨wo.heap.size, 9, none⟩ = some (.int .u32 e7) ∧ W.cell? ⟨wo.heap.size, 10, none⟩ = some (.bool e8) ∧ W.cell? ⟨wo.heap.size, 11, none⟩ = some (.bool e9)) (first | go_keep | (simp [*]; done))
                (first
                  | (go_at_call 10; refine (put_c _ sa (HE.out.below (HBX.out.step ((Below.refl _ _).drew)).b) _ k A (HBX.out.step ((Below.refl _ _).drew)).a (En.mk e0 e1 e2 e3 e4 e5 e6 e7 e8 e9) cd A4 HD.out).mono ?_; rintro r w5 ⟨rfl, hA5, hp5⟩; have HA5 := Hid.in hA5; have HP5 := Hid.in hp5; have f0 : w5.cell? ⟨wo.heap.size, 2, none⟩ = some (.int .i64 e0) := (HBX.out.step ((Below.refl _ _).drew)).far5 hp5 HHQ.out d0; have f1 : w5.cell? ⟨wo.heap.size, 3, none⟩ = some (.int .i64 e1) := (HBX.out.step ((Below.refl _ _).drew)).far5 hp5 HHQ.out d1; have f2 : w5.cell? ⟨wo.heap.size, 4, none⟩ = some (.int .i64 e2) := (HBX.out.step ((Below.refl _ _).drew)).far5 hp5 HHQ.out d2; have f3 : w5.cell? ⟨wo.heap.size, 5, none⟩ = some (.int .i64 e3) := (HBX.out.step ((Below.refl _ _).drew)).far5 hp5 HHQ.out d3; have f4 : w5.cell? ⟨wo.heap.size, 6, none⟩ = some (.int .u32 e4) := (HBX.out.step ((Below.refl _ _).drew)).far5 hp5 HHQ.out d4; have f5 : w5.cell? ⟨wo.heap.size, 7, none⟩ = some (.int .u32 e5) := (HBX.out.step ((Below.refl _ _).drew)).far5 hp5 HHQ.out d5; have f6 : w5.cell? ⟨wo.heap.size, 8, none⟩ = some (.int .u32 e6) := (HBX.out.step ((Below.refl _ _).drew)).far5 hp5 HHQ.out d6; have f7 : w5.cell? ⟨wo.heap.size, 9, none⟩ = some (.int .u32 e7) := (HBX.out.step ((Below.refl _ _).drew)).far5 hp5 HHQ.out d7; have f8 : w5.cell? ⟨wo.heap.size, 10, none⟩ = some (.bool e8) := (HBX.out.step ((Below.refl _ _).drew)).far5 hp5 HHQ.out d8; have f9 : w5.cell? ⟨wo.heap.size, 11, none⟩ = some (.bool e9) := (HBX.out.step ((Below.refl _ _).drew)).far5 hp5 HHQ.out d9; clear hA5 hp5)
                  | (go_at_call 19; refine (plain_any (En.mk e0 e1 e2 e3 e4 e5 e6 e7 e8 e9) w5).mono ?_; rintro r w6 ⟨rfl, hb⟩; have HB6 := Hid.in hb; have g0 : w6.cell? ⟨wo.heap.size, 2, none⟩ = some (.int .i64 e0) := (hb.cell (p := ⟨wo.heap.size, 2, none⟩) (lt_cell f0)).trans f0; have g1 : w6.cell? ⟨wo.heap.size, 3, none⟩ = some (.int .i64 e1) := (hb.cell (p := ⟨wo.heap.size, 3, none⟩) (lt_cell f1)).trans f1; have g2 : w6.cell? ⟨wo.heap.size, 4, none⟩ = some (.int .i64 e2) := (hb.cell (p := ⟨wo.heap.size, 4, none⟩) (lt_cell f2)).trans f2; have g3 : w6.cell? ⟨wo.heap.size, 5, none⟩ = some (.int .i64 e3) := (hb.cell (p := ⟨wo.heap.size, 5, none⟩) (lt_cell f3)).trans f3; have g4 : w6.cell? ⟨wo.heap.size, 6, none⟩ = some (.int .u32 e4) := (hb.cell (p := ⟨wo.heap.size, 6, none⟩) (lt_cell f4)).trans f4; have g5 : w6.cell? ⟨wo.heap.size, 7, none⟩ = some (.int .u32 e5) := (hb.cell (p := ⟨wo.heap.size, 7, none⟩) (lt_cell f5)).trans f5; have g6 : w6.cell? ⟨wo.heap.size, 8, none⟩ = some (.int .u32 e6) := (hb.cell (p := ⟨wo.heap.size, 8, none⟩) (lt_cell f6)).trans f6; have g7 : w6.cell? ⟨wo.heap.size, 9, none⟩ = some (.int .u32 e7) := (hb.cell (p := ⟨wo.heap.size, 9, none⟩) (lt_cell f7)).trans f7; have g8 : w6.cell? ⟨wo.heap.size, 10, none⟩ = some (.bool e8) := (hb.cell (p := ⟨wo.heap.size, 10, none⟩) (lt_cell f8)).trans f8; have g9 : w6.cell? ⟨wo.heap.size, 11, none⟩ = some (.bool e9) := (hb.cell (p := ⟨wo.heap.size, 11, none⟩) (lt_cell f9)).trans f9; clear hb)
                  | (go_at_call 18; refine (rput_c w6 lo hi lo k A (((HBX.out.step ((Below.refl _ _).drew)).ra HP5.out).step HB6.out) (En.mk e0 e1 e2 e3 e4 e5 e6 e7 e8 e9) cd A4 HD.out).mono ?_; rintro r w7 ⟨rfl, hA7, hp7⟩; have HBY := Hid.in ((HBX.out.step ((Below.refl _ _).drew)).two HA5.out HP5.out hA7 ((Apart.of_below HB6.out).trans hp7) HL.out); have h0 : w7.cell? ⟨wo.heap.size, 2, none⟩ = some (.int .i64 e0) := far6 hp7 HHQ.out g0; have h1 : w7.cell? ⟨wo.heap.size, 3, none⟩ = some (.int .i64 e1) := far6 hp7 HHQ.out g1; have h2 : w7.cell? ⟨wo.heap.size, 4, none⟩ = some (.int .i64 e2) := far6 hp7 HHQ.out g2; have h3 : w7.cell? ⟨wo.heap.size, 5, none⟩ = some (.int .i64 e3) := far6 hp7 HHQ.out g3; have h4 : w7.cell? ⟨wo.heap.size, 6, none⟩ = some (.int .u32 e4) := far6 hp7 HHQ.out g4; have h5 : w7.cell? ⟨wo.heap.size, 7, none⟩ = some (.int .u32 e5) := far6 hp7 HHQ.out g5; have h6 : w7.cell? ⟨wo.heap.size, 8, none⟩ = some (.int .u32 e6) := far6 hp7 HHQ.out g6; have h7 : w7.cell? ⟨wo.heap.size, 9, none⟩ = some (.int .u32 e7) := far6 hp7 HHQ.out g7; have h8 : w7.cell? ⟨wo.heap.size, 10, none⟩ = some (.bool e8) := far6 hp7 HHQ.out g8; have h9 : w7.cell? ⟨wo.heap.size, 11, none⟩ = some (.bool e9) := far6 hp7 HHQ.out g9; clear hA7 hp7)
                  | (go_at_call 15; refine (kIs_perr opPut e0 cd HC.out w7 sa (HE.out.below HBY.out.b)).mono ?_; rintro r w8 ⟨rfl, hb⟩; have HBZ := Hid.in (HBY.out.step hb); have i0 : w8.cell? ⟨wo.heap.size, 2, none⟩ = some (.int .i64 e0) := (hb.cell (p := ⟨wo.heap.size, 2, none⟩) (lt_cell h0)).trans h0; have i1 : w8.cell? ⟨wo.heap.size, 3, none⟩ = some (.int .i64 e1) := (hb.cell (p := ⟨wo.heap.size, 3, none⟩) (lt_cell h1)).trans h1; have i2 : w8.cell? ⟨wo.heap.size, 4, none⟩ = some (.int .i64 e2) := (hb.cell (p := ⟨wo.heap.size, 4, none⟩) (lt_cell h2)).trans h2; have i3 : w8.cell? ⟨wo.heap.size, 5, none⟩ = some (.int .i64 e3) := (hb.cell (p := ⟨wo.heap.size, 5, none⟩) (lt_cell h3)).trans h3; have i4 : w8.cell? ⟨wo.heap.size, 6, none⟩ = some (.int .u32 e4) := (hb.cell (p := ⟨wo.heap.size, 6, none⟩) (lt_cell h4)).trans h4; have i5 : w8.cell? ⟨wo.heap.size, 7, none⟩ = some (.int .u32 e5) := (hb.cell (p := ⟨wo.heap.size, 7, none⟩) (lt_cell h5)).trans h5; have i6 : w8.cell? ⟨wo.heap.size, 8, none⟩ = some (.int .u32 e6) := (hb.cell (p := ⟨wo.heap.size, 8, none⟩) (lt_cell h6)).trans h6; have i7 : w8.cell? ⟨wo.heap.size, 9, none⟩ = some (.int .u32 e7) := (hb.cell (p := ⟨wo.heap.size, 9, none⟩) (lt_cell h7)).trans h7; have i8 : w8.cell? ⟨wo.heap.size, 10, none⟩ = some (.bool e8) := (hb.cell (p := ⟨wo.heap.size, 10, none⟩) (lt_cell h8)).trans h8; have i9 : w8.cell? ⟨wo.heap.size, 11, none⟩ = some (.bool e9) := (hb.cell (p := ⟨wo.heap.size, 11, none⟩) (lt_cell h9)).trans h9; clear hb))
              go_wp2
              go_meet
              case rel => exact ⟨by simp, A4, HBZ.out⟩
          by_cases k2 : kd = 2
          · as_aux_lemma =>
              subst k2
              obtain ⟨eg, cg, hg⟩ : ∃ eg cg, getA A ln = (eg, cg) := ⟨_, _, rfl⟩
              have HG := Hid.in hg
              have HZ : Hid (cg = false → eg = En.zero) := Hid.in (fun h => by
                have h1 : (getA A ln).1 = eg := by rw [hg]
                have h2 : (getA A ln).2 = false := by rw [hg]; exact h
                rw [← h1]
                revert h2
                unfold getA
                repeat' split
                all_goals simp)
              clear hg
              obtain ⟨z0, z1, z2, z3, z4, z5, z6, z7, z8, z9⟩ := eg
              go_wp2_with fail
              refine (get_c wx _ k A HBX.out.a ln _ cg HG.out).mono ?_
              rintro r y1 ⟨rfl, hb⟩
              have HY1 := Hid.in (HBX.out.step hb)
              have m1 : y1.cell? ⟨wo.heap.size, 1, none⟩ = some (.int .i64 ln) := (hb.cell (p := ⟨wo.heap.size, 1, none⟩) (lt_cell x1)).trans x1
              clear hb
              have hl1 : wo.heap.size < y1.heap.size := lt_cell m1
              go_wp2_with fail
              refine (rget_c _ lo hi lo k A (HY1.out.step (below_alloc _ _)).r ln _ cg HG.out).mono ?_
              rintro r y2 ⟨rfl, hb⟩
              have HY2 := Hid.in ((HY1.out.step (below_alloc _ _)).step hb)
              have HXE : Hid (ECells y2 y1.heap.size 0 (En.mk z0 z1 z2 z3 z4 z5 z6 z7 z8 z9)) := Hid.in ((ECells.lit y1 32 (En.mk z0 z1 z2 z3 z4 z5 z6 z7 z8 z9) _ rfl).step hb)
              have hl2 : y1.heap.size < y2.heap.size := lt_cell HXE.out.c0
              clear hb
              have HY3 := Hid.in (HY2.out.step (below_alloc y2 (.cells (En.mk z0 z1 z2 z3 z4 z5 z6 z7 z8 z9).ec.toArray 46)))
              have HXE3 := Hid.in (HXE.out.step (below_alloc y2 (.cells (En.mk z0 z1 z2 z3 z4 z5 z6 z7 z8 z9).ec.toArray 46)))
              have HYE3 := Hid.in (ECells.lit y2 46 (En.mk z0 z1 z2 z3 z4 z5 z6 z7 z8 z9) _ rfl)
              clear HXE m1 HY1 HY2 HBX HQX x0 x1 d0 d1 d2 d3 d4 d5 d6 d7 d8 d9 x12 hps
              go_upto_region 18 with fail
              cases cg with
              | false =>
                have hz := HZ.out rfl
                simp only [En.zero, En.mk.injEq] at hz
                obtain ⟨rfl, rfl, rfl, rfl, rfl, rfl, rfl, rfl, rfl, rfl⟩ := hz
                have hne : ∀ w', (binOp .eql 32 (.agg #[.int .i64 0, .int .i64 0, .int .i64 0, .int .i64 0, .int .u32 0, .int .u32 0, .int .u32 0, .int .u32 0, .bool false, .bool false]) (.agg #[.int .i64 0, .int .i64 0, .int .i64 0, .int .i64 0, .int .u32 0, .int .u32 0, .int .u32 0, .int .u32 0, .bool false, .bool false])).run Tryd.prog w' = .ok (.bool true) w' := fun w' => eq_entry' En.zero w'
                have a0 : ∀ n : Kin (KC w lo hi k s A y1.heap.size y2.heap.size (En.mk 0 0 0 0 0 0 0 0 false false)), n.of.cell? ⟨y1.heap.size, 0, none⟩ = some (.int .i64 0) := fun n => n.in.x.c0
                have a1 : ∀ n : Kin (KC w lo hi k s A y1.heap.size y2.heap.size (En.mk 0 0 0 0 0 0 0 0 false false)), n.of.cell? ⟨y1.heap.size, 1, none⟩ = some (.int .i64 0) := fun n => n.in.x.c1
                have a2 : ∀ n : Kin (KC w lo hi k s A y1.heap.size y2.heap.size (En.mk 0 0 0 0 0 0 0 0 false false)), n.of.cell? ⟨y1.heap.size, 2, none⟩ = some (.int .i64 0) := fun n => n.in.x.c2
                have a3 : ∀ n : Kin (KC w lo hi k s A y1.heap.size y2.heap.size (En.mk 0 0 0 0 0 0 0 0 false false)), n.of.cell? ⟨y1.heap.size, 3, none⟩ = some (.int .i64 0) := fun n => n.in.x.c3
                have a4 : ∀ n : Kin (KC w lo hi k s A y1.heap.size y2.heap.size (En.mk 0 0 0 0 0 0 0 0 false false)), n.of.cell? ⟨y1.heap.size, 4, none⟩ = some (.int .u32 0) := fun n => n.in.x.c4
                have a5 : ∀ n : Kin (KC w lo hi k s A y1.heap.size y2.heap.size (En.mk 0 0 0 0 0 0 0 0 false false)), n.of.cell? ⟨y1.heap.size, 5, none⟩ = some (.int .u32 0) := fun n => n.in.x.c5
                have a6 : ∀ n : Kin (KC w lo hi k s A y1.heap.size y2.heap.size (En.mk 0 0 0 0 0 0 0 0 false false)), n.of.cell? ⟨y1.heap.size, 6, none⟩ = some (.int .u32 0) := fun n => n.in.x.c6
                have a7 : ∀ n : Kin (KC w lo hi k s A y1.heap.size y2.heap.size (En.mk 0 0 0 0 0 0 0 0 false false)), n.of.cell? ⟨y1.heap.size, 7, none⟩ = some (.int .u32 0) := fun n => n.in.x.c7
                have a8 : ∀ n : Kin (KC w lo hi k s A y1.heap.size y2.heap.size (En.mk 0 0 0 0 0 0 0 0 false false)), n.of.cell? ⟨y1.heap.size, 8, none⟩ = some (.bool false) := fun n => n.in.x.c8
                have a9 : ∀ n : Kin (KC w lo hi k s A y1.heap.size y2.heap.size (En.mk 0 0 0 0 0 0 0 0 false false)), n.of.cell? ⟨y1.heap.size, 9, none⟩ = some (.bool false) := fun n => n.in.x.c9
                refine wp_region_kin (C := KC w lo hi k s A y1.heap.size y2.heap.size (En.mk 0 0 0 0 0 0 0 0 false false)) (by kernel_rfl) (by kernel_rfl) ⟨HXE3.out.step ((Below.refl _ _).drew), HYE3.out.step ((Below.refl _ _).drew), HY3.out.step ((Below.refl _ _).drew)⟩ (fun hne' => ?_)
                repeat (go_big_quiet_step (fail))
                refine wpQuiet_nil ?_
                rintro w6 ⟨n, rfl⟩
                have HT := Hid.in n.in.z
                clear a0 a1 a2 a3 a4 a5 a6 a7 a8 a9 hne
                go_wp2
                go_meet
                case rel => exact ⟨rfl, A, HT.out⟩
              | true =>
                have hne : ∀ w', (binOp .eql 46 (.agg #[.int .i64 z0, .int .i64 z1, .int .i64 z2, .int .i64 z3, .int .u32 z4, .int .u32 z5, .int .u32 z6, .int .u32 z7, .bool z8, .bool z9]) (.agg #[.int .i64 z0, .int .i64 z1, .int .i64 z2, .int .i64 z3, .int .u32 z4, .int .u32 z5, .int .u32 z6, .int .u32 z7, .bool z8, .bool z9])).run Tryd.prog w' = .ok (.bool true) w' := fun w' => eq_rentry' (En.mk z0 z1 z2 z3 z4 z5 z6 z7 z8 z9) w'
                have a0 : ∀ n : Kin (KC w lo hi k s A y1.heap.size y2.heap.size (En.mk z0 z1 z2 z3 z4 z5 z6 z7 z8 z9)), n.of.cell? ⟨y1.heap.size, 0, none⟩ = some (.int .i64 z0) := fun n => n.in.x.c0
                have a1 : ∀ n : Kin (KC w lo hi k s A y1.heap.size y2.heap.size (En.mk z0 z1 z2 z3 z4 z5 z6 z7 z8 z9)), n.of.cell? ⟨y1.heap.size, 1, none⟩ = some (.int .i64 z1) := fun n => n.in.x.c1
                have a2 : ∀ n : Kin (KC w lo hi k s A y1.heap.size y2.heap.size (En.mk z0 z1 z2 z3 z4 z5 z6 z7 z8 z9)), n.of.cell? ⟨y1.heap.size, 2, none⟩ = some (.int .i64 z2) := fun n => n.in.x.c2
                have a3 : ∀ n : Kin (KC w lo hi k s A y1.heap.size y2.heap.size (En.mk z0 z1 z2 z3 z4 z5 z6 z7 z8 z9)), n.of.cell? ⟨y1.heap.size, 3, none⟩ = some (.int .i64 z3) := fun n => n.in.x.c3
                have a4 : ∀ n : Kin (KC w lo hi k s A y1.heap.size y2.heap.size (En.mk z0 z1 z2 z3 z4 z5 z6 z7 z8 z9)), n.of.cell? ⟨y1.heap.size, 4, none⟩ = some (.int .u32 z4) := fun n => n.in.x.c4
                have a5 : ∀ n : Kin (KC w lo hi k s A y1.heap.size y2.heap.size (En.mk z0 z1 z2 z3 z4 z5 z6 z7 z8 z9)), n.of.cell? ⟨y1.heap.size, 5, none⟩ = some (.int .u32 z5) := fun n => n.in.x.c5
                have a6 : ∀ n : Kin (KC w lo hi k s A y1.heap.size y2.heap.size (En.mk z0 z1 z2 z3 z4 z5 z6 z7 z8 z9)), n.of.cell? ⟨y1.heap.size, 6, none⟩ = some (.int .u32 z6) := fun n => n.in.x.c6
                have a7 : ∀ n : Kin (KC w lo hi k s A y1.heap.size y2.heap.size (En.mk z0 z1 z2 z3 z4 z5 z6 z7 z8 z9)), n.of.cell? ⟨y1.heap.size, 7, none⟩ = some (.int .u32 z7) := fun n => n.in.x.c7
                have a8 : ∀ n : Kin (KC w lo hi k s A y1.heap.size y2.heap.size (En.mk z0 z1 z2 z3 z4 z5 z6 z7 z8 z9)), n.of.cell? ⟨y1.heap.size, 8, none⟩ = some (.bool z8) := fun n => n.in.x.c8
                have a9 : ∀ n : Kin (KC w lo hi k s A y1.heap.size y2.heap.size (En.mk z0 z1 z2 z3 z4 z5 z6 z7 z8 z9)), n.of.cell? ⟨y1.heap.size, 9, none⟩ = some (.bool z9) := fun n => n.in.x.c9
                have b0 : ∀ n : Kin (KC w lo hi k s A y1.heap.size y2.heap.size (En.mk z0 z1 z2 z3 z4 z5 z6 z7 z8 z9)), n.of.cell? ⟨y2.heap.size, 0, none⟩ = some (.int .i64 z0) := fun n => n.in.y.c0
                have b1 : ∀ n : Kin (KC w lo hi k s A y1.heap.size y2.heap.size (En.mk z0 z1 z2 z3 z4 z5 z6 z7 z8 z9)), n.of.cell? ⟨y2.heap.size, 1, none⟩ = some (.int .i64 z1) := fun n => n.in.y.c1
                have b2 : ∀ n : Kin (KC w lo hi k s A y1.heap.size y2.heap.size (En.mk z0 z1 z2 z3 z4 z5 z6 z7 z8 z9)), n.of.cell? ⟨y2.heap.size, 2, none⟩ = some (.int .i64 z2) := fun n => n.in.y.c2
                have b3 : ∀ n : Kin (KC w lo hi k s A y1.heap.size y2.heap.size (En.mk z0 z1 z2 z3 z4 z5 z6 z7 z8 z9)), n.of.cell? ⟨y2.heap.size, 3, none⟩ = some (.int .i64 z3) := fun n => n.in.y.c3
                have b4 : ∀ n : Kin (KC w lo hi k s A y1.heap.size y2.heap.size (En.mk z0 z1 z2 z3 z4 z5 z6 z7 z8 z9)), n.of.cell? ⟨y2.heap.size, 4, none⟩ = some (.int .u32 z4) := fun n => n.in.y.c4
                have b5 : ∀ n : Kin (KC w lo hi k s A y1.heap.size y2.heap.size (En.mk z0 z1 z2 z3 z4 z5 z6 z7 z8 z9)), n.of.cell? ⟨y2.heap.size, 5, none⟩ = some (.int .u32 z5) := fun n => n.in.y.c5
                have b6 : ∀ n : Kin (KC w lo hi k s A y1.heap.size y2.heap.size (En.mk z0 z1 z2 z3 z4 z5 z6 z7 z8 z9)), n.of.cell? ⟨y2.heap.size, 6, none⟩ = some (.int .u32 z6) := fun n => n.in.y.c6
                have b7 : ∀ n : Kin (KC w lo hi k s A y1.heap.size y2.heap.size (En.mk z0 z1 z2 z3 z4 z5 z6 z7 z8 z9)), n.of.cell? ⟨y2.heap.size, 7, none⟩ = some (.int .u32 z7) := fun n => n.in.y.c7
                have b8 : ∀ n : Kin (KC w lo hi k s A y1.heap.size y2.heap.size (En.mk z0 z1 z2 z3 z4 z5 z6 z7 z8 z9)), n.of.cell? ⟨y2.heap.size, 8, none⟩ = some (.bool z8) := fun n => n.in.y.c8
                have b9 : ∀ n : Kin (KC w lo hi k s A y1.heap.size y2.heap.size (En.mk z0 z1 z2 z3 z4 z5 z6 z7 z8 z9)), n.of.cell? ⟨y2.heap.size, 9, none⟩ = some (.bool z9) := fun n => n.in.y.c9
                refine wp_region_kin (C := KC w lo hi k s A y1.heap.size y2.heap.size (En.mk z0 z1 z2 z3 z4 z5 z6 z7 z8 z9)) (by kernel_rfl) (by kernel_rfl) ⟨HXE3.out.step ((Below.refl _ _).drew), HYE3.out.step ((Below.refl _ _).drew), HY3.out.step ((Below.refl _ _).drew)⟩ (fun hne' => ?_)
                repeat (go_big_quiet_step (first | (go_at_call 19; exact Kin.call _ (fun hc => (plain_any (En.mk z0 z1 z2 z3 z4 z5 z6 z7 z8 z9) _).mono (fun _ _ hr => ⟨hr.1, hc.step hr.2⟩)))))
                refine wpQuiet_nil ?_
                rintro w6 ⟨n, rfl⟩
                have HT := Hid.in n.in.z
                clear a0 a1 a2 a3 a4 a5 a6 a7 a8 a9 b0 b1 b2 b3 b4 b5 b6 b7 b8 b9 hne
                go_wp2
                go_meet
                case rel => exact ⟨rfl, A, HT.out⟩
          by_cases k3 : kd = 3
          · as_aux_lemma =>
              subst k3
              obtain ⟨cd, A4, h4⟩ : ∃ cd A4, dropA A ln = (cd, A4) := ⟨_, _, rfl⟩
              have HD := Hid.in h4
              have HL : Hid (A4.length = A.length) := Hid.in (by have := dropA_len A ln; rwa [h4] at this)
              clear h4
              go_upto_region 20 with fail
              go_region_held3 (fun W => W.cell? ⟨wo.heap.size, 1, none⟩ = some (.int .i64 ln)) (first | go_keep | (simp [*]; done))
                (first
                  | (go_at_call 14; refine (drop_c _ _ k A (HBX.out.step ((Below.refl _ _).drew)).a ln cd A4 HD.out).mono ?_; rintro r w5 ⟨rfl, hA5, hp5⟩; have HA5 := Hid.in hA5; have HP5 := Hid.in hp5; have hk5 : w5.cell? ⟨wo.heap.size, 1, none⟩ = some (.int .i64 ln) := (HBX.out.step ((Below.refl _ _).drew)).far5 hp5 HHQ.out x1; clear hA5 hp5)
                  | (go_at_call 22; refine (rdrop_c w5 lo hi lo k A ((HBX.out.step ((Below.refl _ _).drew)).ra HP5.out) ln cd A4 HD.out).mono ?_; rintro r w6 ⟨rfl, hA6, hp6⟩; have HA6 := Hid.in hA6; have HP6 := Hid.in hp6; have hk6 : w6.cell? ⟨wo.heap.size, 1, none⟩ = some (.int .i64 ln) := far6 hp6 HHQ.out hk5; clear hA6 hp6))
              have HBY := Hid.in ((HBX.out.step ((Below.refl _ _).drew)).two HA5.out HP5.out HA6.out HP6.out HL.out)
              go_wp2
              go_meet
              case rel => exact ⟨by simp, A4, HBY.out⟩
          by_cases k4 : kd = 4
          · as_aux_lemma =>
              subst k4
              obtain ⟨cd, A4, h4⟩ : ∃ cd A4, touchA A ln = (cd, A4) := ⟨_, _, rfl⟩
              have HD := Hid.in h4
              have HL : Hid (A4.length = A.length) := Hid.in (by have := touchA_len A ln; rwa [h4] at this)
              clear h4
              go_upto_region 22 with fail
              go_region_held3 (fun W => W.cell? ⟨wo.heap.size, 1, none⟩ = some (.int .i64 ln)) (first | go_keep | (simp [*]; done))
                (first
                  | (go_at_call 12; refine (atouch_c _ _ k A (HBX.out.step ((Below.refl _ _).drew)).a ln cd A4 HD.out).mono ?_; rintro r w5 ⟨rfl, hA5, hp5⟩; have HA5 := Hid.in hA5; have HP5 := Hid.in hp5; have hk5 : w5.cell? ⟨wo.heap.size, 1, none⟩ = some (.int .i64 ln) := (HBX.out.step ((Below.refl _ _).drew)).far5 hp5 HHQ.out x1; clear hA5 hp5)
                  | (go_at_call 23; refine (rtouch_c w5 lo hi lo k A ((HBX.out.step ((Below.refl _ _).drew)).ra HP5.out) ln cd A4 HD.out).mono ?_; rintro r w6 ⟨rfl, hA6, hp6⟩; have HA6 := Hid.in hA6; have HP6 := Hid.in hp6; have hk6 : w6.cell? ⟨wo.heap.size, 1, none⟩ = some (.int .i64 ln) := far6 hp6 HHQ.out hk5; clear hA6 hp6))
              have HBY := Hid.in ((HBX.out.step ((Below.refl _ _).drew)).two HA5.out HP5.out HA6.out HP6.out HL.out)
              go_wp2
              go_meet
              case rel => exact ⟨by simp, A4, HBY.out⟩
          by_cases k5 : kd = 5
          · as_aux_lemma =>
              subst k5
              obtain ⟨rm, hrm⟩ : ∃ b, roomA A ln = b := ⟨_, rfl⟩
              obtain ⟨vi, hvi⟩ : ∃ v, vicA A ln ps' = v := ⟨_, rfl⟩
              have HRM := Hid.in hrm
              have HVI := Hid.in hvi
              clear hrm hvi
              go_upto_region 24 with fail
              go_region_held3 (fun W => W.cell? ⟨wo.heap.size, 1, none⟩ = some (.int .i64 ln) ∧ W.cell? ⟨wo.heap.size, 12, none⟩ = some (.slice pa' ps'.length pc')) (first | go_keep | (simp [*]; done))
                (first
                  | (go_at_call 16; refine (room_c _ _ k A (HBX.out.step ((Below.refl _ _).drew)).a ln rm HRM.out).mono ?_; rintro r y1 ⟨rfl, hb⟩; have HY1 := Hid.in ((HBX.out.step ((Below.refl _ _).drew)).step hb); have hm1 : y1.cell? ⟨wo.heap.size, 1, none⟩ = some (.int .i64 ln) := (hb.cell (p := ⟨wo.heap.size, 1, none⟩) (lt_cell x1)).trans x1; have hn1 : y1.cell? ⟨wo.heap.size, 12, none⟩ = some (.slice pa' ps'.length pc') := (hb.cell (p := ⟨wo.heap.size, 12, none⟩) (lt_cell x12)).trans x12; have HI1 := Hid.in ((HQX.out.ps.step ((Below.refl _ _).drew)).step hb); clear hb)
                  | (go_at_call 24; refine (rroom_c y1 lo hi lo k A HY1.out.r ln rm HRM.out).mono ?_; rintro r y2 ⟨rfl, hb⟩; have HY2 := Hid.in (HY1.out.step hb); have hm2 : y2.cell? ⟨wo.heap.size, 1, none⟩ = some (.int .i64 ln) := (hb.cell (p := ⟨wo.heap.size, 1, none⟩) (lt_cell hm1)).trans hm1; have hn2 : y2.cell? ⟨wo.heap.size, 12, none⟩ = some (.slice pa' ps'.length pc') := (hb.cell (p := ⟨wo.heap.size, 12, none⟩) (lt_cell hn1)).trans hn1; have HI2 := Hid.in (HI1.out.step hb); clear hb)
                  | (go_at_call 13; refine (avictim_c y2 _ k A HY2.out.a ln pa' ps'.length pc' ps' rfl HI2.out (by omega) vi HVI.out).mono ?_; rintro r y3 ⟨rfl, hb⟩; have HY3 := Hid.in (HY2.out.step hb); have hm3 : y3.cell? ⟨wo.heap.size, 1, none⟩ = some (.int .i64 ln) := (hb.cell (p := ⟨wo.heap.size, 1, none⟩) (lt_cell hm2)).trans hm2; have hn3 : y3.cell? ⟨wo.heap.size, 12, none⟩ = some (.slice pa' ps'.length pc') := (hb.cell (p := ⟨wo.heap.size, 12, none⟩) (lt_cell hn2)).trans hn2; have HI3 := Hid.in (HI2.out.step hb); clear hb)
                  | (go_at_call 25; refine (rvictim_c y3 lo hi lo k A HY3.out.r ln pa' pc' ps' HI3.out (by omega) vi HVI.out).mono ?_; rintro r y4 ⟨rfl, hb⟩; have HY4 := Hid.in (HY3.out.step hb); have hm4 : y4.cell? ⟨wo.heap.size, 1, none⟩ = some (.int .i64 ln) := (hb.cell (p := ⟨wo.heap.size, 1, none⟩) (lt_cell hm3)).trans hm3; have hn4 : y4.cell? ⟨wo.heap.size, 12, none⟩ = some (.slice pa' ps'.length pc') := (hb.cell (p := ⟨wo.heap.size, 12, none⟩) (lt_cell hn3)).trans hn3; clear hb))
              go_wp2
              go_meet
              case rel => exact ⟨by simp, A, HY4.out⟩
          · as_aux_lemma =>
              have j1 : (kd == 1) = false := by simpa using k1
              have j2 : (kd == 2) = false := by simpa using k2
              have j3 : (kd == 3) = false := by simpa using k3
              have j4 : (kd == 4) = false := by simpa using k4
              have j5 : (kd == 5) = false := by simpa using k5
              go_wp2
              go_meet
              case rel => exact ⟨rfl, A, HBX.out⟩
        case rest =>
            obtain ⟨rfl, A', hB⟩ := hcut
            rename World => wy
            clear HBX HQX x0 x1 d0 d1 d2 d3 d4 d5 d6 d7 d8 d9 x12 hps
            have HBY := Hid.in hB
            obtain ⟨eb, ecap, g, hR⟩ := hB.r
            have HR := Hid.in hR
            have kq : wy.cell? ⟨lo + 1, 2, none⟩ = some (.slice (some ⟨eb, 0, none⟩) A'.length ecap) := blk_cell hR.q rfl
            obtain ⟨p1, p2, p3, p4⟩ := hR.npos
            have HLE := Hid.in (listA_le (fun i hi => (hR.ok i hi).2))
            clear hB hR
            go_wp2
            go_loopw [19, 185] (fun sl c wr => ∃ (x : Nat) (ao : Option Addr) (m cap : Nat), x ≤ A'.length ∧ c = .int .i64 (x : Int) ∧ sl = .slice ao m cap ∧ OwnE 46 wr wy.heap.size ao m cap (listA (A'.take x)) ∧ Below wy.heap.size wy wr) (fun _ c _ => 8 - (intOf c).toNat)
            case atStart => exact ⟨0, none, 0, 0, Nat.zero_le _, rfl, rfl, OwnE.nil _ _ _, Below.refl _ _⟩
            case round =>
              obtain ⟨x, ao, m, cap, hx, rfl, rfl, hO, hb⟩ := hrel
              have HO := Hid.in hO
              have HBW := Hid.in hb
              clear hO hb
              by_cases hlx : x < A'.length
              · obtain ⟨b, es, hg⟩ : ∃ b es, A'[x]? = some (b, es) := ⟨_, _, List.getElem?_eq_getElem hlx⟩
                obtain ⟨ce, r1, r2⟩ := (HR.out.step HBW.out).e
                have k1 := blk_cell r1 (r2 x hlx)
                have HG := Hid.in hg
                have HK2 : Hid (es.length = k) := Hid.in (by obtain ⟨_, _, h3, _⟩ := HR.out.hdr hg; exact h3)
                have HPS : Hid (∀ j (hj : j < es.length), (es[j]).state ≠ 0 → 0 ≤ (es[j]).line) := Hid.in (by
                  obtain ⟨hl, he⟩ := List.getElem?_eq_some_iff.1 hg
                  have := HR.out.pos x hl
                  rw [he] at this
                  exact this)
                have x1 : (x : Int) < (A'.length : Int) := by omega
                rename World => wv
                clear hg r1 r2 kq
                go_wp2
                go_loopw [19, 191] (fun sl c wu => ∃ (j : Nat) (ao : Option Addr) (m cap : Nat), j ≤ k ∧ c = .int .i64 (j : Int) ∧ sl = .slice ao m cap ∧ OwnE 46 wu wy.heap.size ao m cap (listA (A'.take x) ++ (es.take j).filter (fun e => !e.free)) ∧ Below wy.heap.size wy wu) (fun _ c _ => 8 - (intOf c).toNat)
                case atStart => exact ⟨0, ao, m, cap, Nat.zero_le _, rfl, rfl, by simpa using HO.out, HBW.out⟩
                case round =>
                  obtain ⟨j, ao2, n2, cap2, hj, rfl, rfl, hO2, hb2⟩ := hrel
                  have HO2 := Hid.in hO2
                  have HB2 := Hid.in hb2
                  clear hO2 hb2 k1
                  by_cases hjk : j < k
                  · have hje : j < es.length := by rw [HK2.out]; exact hjk
                    have hce := (HR.out.ent HG.out j hje).step HB2.out
                    have HPJ := Hid.in (HPS.out j hje)
                    obtain ⟨e, he⟩ : ∃ e, es[j] = e := ⟨_, rfl⟩
                    rw [he] at hce HPJ
                    have HEQ := Hid.in he
                    clear he
                    have j1 : (j : Int) < (k : Int) := by omega
                    have hn2 : n2 ≤ 1000 := by
                      have h1 := HO2.out.len
                      have h2 := HLE.out x hx
                      have h3 := List.length_filter_le (fun e : En => !e.free) (es.take j)
                      rw [List.length_append] at h1
                      have h4 : (es.take j).length ≤ 8 := by rw [List.length_take]; omega
                      have h5 : x * k ≤ 8 * 8 := Nat.mul_le_mul (by omega) p4
                      omega
                    rename World => wp
                    by_cases hz : e.state = 0
                    · have HN : Hid ((es.take (j + 1)).filter (fun e => !e.free) = (es.take j).filter (fun e => !e.free)) := Hid.in (by rw [filt_take hje, HEQ.out]; simp [En.free, hz])
                      rw [ref_free hz] at hce
                      obtain ⟨c0, c1, c2, c3, c4, c5, c6, c7, c8, c9⟩ := hce
                      simp only [] at c0 c1 c2 c3 c4 c5 c6 c7 c8 c9
                      go_wp2
                      go_roundw
                      case rel => exact ⟨j + 1, ao2, n2, cap2, by omega, by go_num, rfl, by rw [HN.out]; exact HO2.out.step (below_alloc _ _), HB2.out.alloc HB2.out.size _⟩
                      case measure => simp [intOf]; omega
                    · rw [ref_full hz] at hce
                      have hl0 := HPJ.out hz
                      obtain ⟨z0, z1, z2, z3, z4, z5, z6, z7, z8, z9⟩ := e
                      obtain ⟨c0, c1, c2, c3, c4, c5, c6, c7, c8, c9⟩ := hce
                      simp only [] at c0 c1 c2 c3 c4 c5 c6 c7 c8 c9 hl0
                      have HN : Hid ((es.take (j + 1)).filter (fun e => !e.free) = (es.take j).filter (fun e => !e.free) ++ [En.mk z0 z1 z2 z3 z4 z5 z6 z7 z8 z9]) := Hid.in (by rw [filt_take hje, HEQ.out]; simp only [] at hz; simp [En.free, hz])
                      have HP1 : Hid (Below wy.heap.size wy (wp.alloc (.cells (En.mk z0 z1 z2 z3 z4 z5 z6 z7 z8 z9).ec.toArray 46))) := Hid.in (HB2.out.alloc HB2.out.size _)
                      have HP2 : Hid (Below wy.heap.size wy ((wp.alloc (.cells (En.mk z0 z1 z2 z3 z4 z5 z6 z7 z8 z9).ec.toArray 46)).alloc (.cells (En.mk z0 z1 z2 z3 z4 z5 z6 z7 z8 z9).ec.toArray 46))) := Hid.in (HP1.out.alloc HP1.out.size _)
                      have HLT : Hid (ECells ((wp.alloc (.cells (En.mk z0 z1 z2 z3 z4 z5 z6 z7 z8 z9).ec.toArray 46)).alloc (.cells (En.mk z0 z1 z2 z3 z4 z5 z6 z7 z8 z9).ec.toArray 46)) (wp.heap.size + 1) 0 (En.mk z0 z1 z2 z3 z4 z5 z6 z7 z8 z9)) := Hid.in (by
                        have h := ECells.lit (wp.alloc (.cells (En.mk z0 z1 z2 z3 z4 z5 z6 z7 z8 z9).ec.toArray 46)) 46 (En.mk z0 z1 z2 z3 z4 z5 z6 z7 z8 z9) _ rfl
                        rw [World.size_alloc] at h
                        exact h)
                      clear hz
                      go_wp2_with (first
                        | (at_builtin; refine wpList_pushE 53 46 rfl (.tmp 198) (.tmp 200) rfl Tryd.underlying53 Tryd.infoREntry wy.heap.size wy ao2 (wp.heap.size + 1) n2 cap2 _ (En.mk z0 z1 z2 z3 z4 z5 z6 z7 z8 z9) rfl ((HO2.out.step (below_alloc _ _)).step (below_alloc _ _)) rfl HLT.out HP2.out HP2.out.size hn2 ?_; intro ao3 cap3 w3 HO3 HB3 _)
                        | fail)
                      go_roundw
                      case rel => exact ⟨j + 1, ao3, n2 + 1, cap3, by omega, by go_num, rfl, by rw [HN.out, ← List.append_assoc]; exact HO3.out, HB3.out⟩
                      case measure => simp [intOf]; omega
                  · have HN : Hid (listA (A'.take (x + 1)) = listA (A'.take x) ++ (es.take j).filter (fun e => !e.free)) := Hid.in (by rw [listA_take HG.out, List.take_of_length_le (l := es) (by rw [HK2.out]; omega)])
                    go_wp2
                    go_roundw
                    case rel => exact ⟨x + 1, ao2, n2, cap2, by omega, by go_num, rfl, by rw [HN.out]; exact HO2.out, HB2.out⟩
                    case measure => simp [intOf]; omega
              · have hm := HO.out.len
                have hOW := HO.out
                rw [List.take_of_length_le (by omega)] at hm hOW
                have HBV := Hid.in (HBY.out.step HBW.out)
                have HW1 := Hid.in hOW
                have hL64 : (listA A').length ≤ 64 := by
                  have h1 := HLE.out A'.length (Nat.le_refl _)
                  rw [List.take_length] at h1
                  have h2 : A'.length * k ≤ 8 * 8 := Nat.mul_le_mul p2 p4
                  omega
                have x1 : ¬ (x : Int) < (A'.length : Int) := by omega
                clear hOW HO HLE kq
                rename World => wv
                go_wp2_with fail
                refine (list_any wv _ k A' HBV.out.a).mono ?_
                rintro r w4 ⟨la, lc, rfl, hOL, hb4⟩
                have HOL := Hid.in hOL
                have HBU := Hid.in (HBV.out.step hb4)
                have HW4 := Hid.in (HW1.out.step hb4)
                clear hOL hb4 HW1
                obtain ⟨L, hL⟩ : ∃ L, listA A' = L := ⟨_, rfl⟩
                rw [hL] at HOL HW4 hL64 hm ⊢
                clear hL
                subst hm
                go_wp2
                go_loopw [20, 207] (fun sl c wu => ∃ (j : Nat) (ao5 : Option Addr) (cap5 : Nat), j ≤ L.length ∧ c = .int .i64 (j : Int) ∧ sl = .slice ao5 j cap5 ∧ OwnE 46 wu w4.heap.size ao5 j cap5 (L.take j) ∧ Below w4.heap.size w4 wu) (fun _ c _ => L.length - (intOf c).toNat)
                case atStart => exact ⟨0, none, 0, Nat.zero_le _, rfl, rfl, OwnE.nil _ _ _, Below.refl _ _⟩
                case round =>
                  obtain ⟨j, ao5, cap5, hj, rfl, rfl, hO5, hb5⟩ := hrel
                  have HO5 := Hid.in hO5
                  have HB5 := Hid.in hb5
                  clear hO5 hb5
                  rename World => wu
                  by_cases hjl : j < L.length
                  · obtain ⟨eb', rfl, hec⟩ := (HOL.out.step HB5.out).ent j hjl
                    obtain ⟨e, he⟩ : ∃ e, L[j] = e := ⟨_, rfl⟩
                    rw [he] at hec
                    have HT : Hid (L.take (j + 1) = L.take j ++ [e]) := Hid.in (by rw [List.take_succ_eq_append_getElem hjl, he])
                    clear he
                    obtain ⟨z0, z1, z2, z3, z4, z5, z6, z7, z8, z9⟩ := e
                    obtain ⟨c0, c1, c2, c3, c4, c5, c6, c7, c8, c9⟩ := hec
                    simp only [] at c0 c1 c2 c3 c4 c5 c6 c7 c8 c9
                    have j1 : (j : Int) < (L.length : Int) := by omega
                    go_wp2_with fail
                    refine (plain_any (En.mk z0 z1 z2 z3 z4 z5 z6 z7 z8 z9) _).mono ?_
                    rintro r w6 ⟨rfl, hb6⟩
                    have HO6 := Hid.in ((HO5.out.step (below_alloc _ _)).step hb6)
                    have HB6 := Hid.in (bstep (HB5.out.alloc HB5.out.size _) (Nat.le_refl _) hb6)
                    have HP6 : Hid (Below w4.heap.size w4 (w6.alloc (.cells (En.mk z0 z1 z2 z3 z4 z5 z6 z7 z8 z9).ec.toArray 46))) := Hid.in (HB6.out.alloc HB6.out.size _)
                    clear hb6 c0 c1 c2 c3 c4 c5 c6 c7 c8 c9
                    go_wp2_with (first
                      | (at_builtin; refine wpList_pushE 53 46 rfl (.tmp 211) (.tmp 214) rfl Tryd.underlying53 Tryd.infoREntry w4.heap.size w4 ao5 w6.heap.size j cap5 _ (En.mk z0 z1 z2 z3 z4 z5 z6 z7 z8 z9) rfl (HO6.out.step (below_alloc _ _)) rfl (ECells.lit w6 46 (En.mk z0 z1 z2 z3 z4 z5 z6 z7 z8 z9) _ rfl) HP6.out HP6.out.size (by omega) ?_; intro ao7 cap7 w7 HO7 HB7 _)
                      | fail)
                    go_roundw
                    case rel => exact ⟨j + 1, ao7, cap7, by omega, by go_num, rfl, by rw [HT.out]; exact HO7.out, HB7.out⟩
                    case measure => simp [intOf]; omega
                  · obtain rfl : j = L.length := by omega
                    have HGO : Hid (OwnE 46 wu w4.heap.size ao5 L.length cap5 L) := Hid.in (by have := HO5.out; rwa [List.take_length] at this)
                    go_wp2_with fail
                    refine (same_entries wu _ _ ao5 ao L.length cap5 cap L HGO.out (HW4.out.step HB5.out) (by omega)).mono ?_
                    rintro r w8 ⟨rfl, hb8⟩
                    have HB8 := Hid.in ((HBU.out.step HB5.out).step hb8)
                    clear hb8
                    go_wp2
                    go_roundw
                    case rel => exact ⟨i + 1, A', by omega, by omega, by go_num, HB8.out⟩
                    case measure => simp [intOf]; omega
    · by_cases hin : i < n
      · have i1 : (i : Int) < (n : Int) := by omega
        have i2 : ¬ (i : Int) < 60 := by omega
        go_wp2_with fail
        refine (arrayRuns_any _ sa (HE.out.below HB.out.b)).mono ?_
        rintro r w4 ⟨rfl, hb⟩
        have HB4 := Hid.in (bstep HB.out.b (Nat.le_refl _) hb)
        clear hb
        go_wp2
        go_ret
        exact ⟨rfl, HB4.out⟩
      · have i1 : ¬ (i : Int) < (n : Int) := by omega
        go_wp2_with fail
        refine (arrayRuns_any _ sa (HE.out.below HB.out.b)).mono ?_
        rintro r w4 ⟨rfl, hb⟩
        have HB4 := Hid.in (bstep HB.out.b (Nat.le_refl _) hb)
        clear hb
        go_wp2
        go_ret
        exact ⟨rfl, HB4.out⟩

end Go.Proofs.YtcackmmfnojpfaaDoor
