/- DERIVED of the program: msg.walk over whatever message, by its contract; the function values that Right, Put and Get hand to it. Own work. -/
import Derived.Test.YtgepfbaojogccaaDoorSgBu
import Derived.Test.YtgepfbaojogccaaDoorSgC
import Derived.Test.YtgepfbaojogccaaDoorSgD
namespace Go.Proofs.YtgepfbaojogccaaDoor
open Go.RowKit Go.Extern.Stop Go.Stop Go.Extern

/-- A message's cells. -/
def mv : M13 → Array Value
  | (k, c, l, t, o, e, w_, v, d0, d1, d2, d3, h) => #[.int .i64 k, .int .i64 c, .int .i64 l, .int .i64 t, .int .i64 o, .int .i64 e, .int .i64 w_, .int .u32 v, .int .u32 d0, .int .u32 d1, .int .u32 d2, .int .u32 d3, .bool h]
theorem mv_eq (k c l t o e w_ v d0 d1 d2 d3 : Int) (h : Bool) : mv (k, c, l, t, o, e, w_, v, d0, d1, d2, d3, h) = #[.int .i64 k, .int .i64 c, .int .i64 l, .int .i64 t, .int .i64 o, .int .i64 e, .int .i64 w_, .int .u32 v, .int .u32 d0, .int .u32 d1, .int .u32 d2, .int .u32 d3, .bool h] := rfl

theorem swalk_any {K q : Nat} {pv : Value} {σ : Type} {st : σ → Int → Int → Int → σ × Int} {fuel : σ → Nat} {Inv : (Nat → Prop) → σ → World → Prop} (HA : AskC K q pv st fuel Inv) (O : Nat → Prop) (w : World) (hq : ∀ s n, 0 ≤ n → n ≤ 4294967295 → 0 ≤ (st s n 0 4294967295).2 ∧ (st s n 0 4294967295).2 ≤ 4294967295)
    (s : σ) (m : M13) (hI : Inv O s w) (hf : 20 ≤ fuel s) (h32 : M32 m) (h64 : M64 m) :
    Calls Tryd.prog 23 #[.agg (mv m), .func (.func K) #[] #[pv]] w fun r w' => r = .returned (.agg (mv (walkP st s m).2)) ∧ Inv O (walkP st s m).1 w' ∧ w.grownBy w' (some q) := by
  obtain ⟨k, c, l, t, o, e, w_, v, d0, d1, d2, d3, h⟩ := m
  simp only [M32, M64] at h32 h64
  obtain ⟨bv, bd0, bd1, bd2, bd3⟩ := h32
  obtain ⟨bk, bc, bl, bt, bo, be, bw⟩ := h64
  have hq2 : ∀ (s s2 : σ) (n z : Int), 0 ≤ n ∧ n ≤ 4294967295 → st s n 0 4294967295 = (s2, z) → 0 ≤ z ∧ z ≤ 4294967295 := fun s s2 n z b e => by
    have := hq s n b.1 b.2
    rwa [e] at this
  refine walkP_split st s k c l t o e w_ v d0 d1 d2 d3 h (fun p => Calls Tryd.prog 23 #[.agg (mv (k, c, l, t, o, e, w_, v, d0, d1, d2, d3, h)), .func (.func K) #[] #[pv]] w fun r w' => r = .returned (.agg (mv p.2)) ∧ Inv O p.1 w' ∧ w.grownBy w' (some q)) ?_ ?_ ?_ ?_ ?_ ?_ ?_ ?_
  · intro s1 s2 s3 s4 s5 k' c' l' w_' v' e1 e2 e3 e4 e5 hk
    rcases hk with rfl | rfl | rfl
    · exact swalk_U3 HA O w e1 e2 e3 e4 e5 hI hf bk bc bl bw bv (hq2 _ _ _ _ bv e5)
    · exact swalk_U8 HA O w e1 e2 e3 e4 e5 hI hf bk bc bl bw bv (hq2 _ _ _ _ bv e5)
    · exact swalk_U14 HA O w e1 e2 e3 e4 e5 hI hf bk bc bl bw bv (hq2 _ _ _ _ bv e5)
  · intro s1 s2 s3 s4 s5 k' c' l' e' o' e1 e2 e3 e4 e5 hk
    subst hk
    exact swalk_C HA O w e1 e2 e3 e4 e5 hI hf bk bc bl be bo 
  · intro s1 s2 s3 s4 k' c' l' o' e1 e2 e3 e4 hk
    subst hk
    exact swalk_S HA O w e1 e2 e3 e4 hI hf bk bc bl bo 
  · intro s1 s2 s3 s4 s5 s6 s7 k' c' l' o' e' t' h' e1 e2 e3 e4 e5 e6 e7 hk hh
    subst hk
    exact swalk_D0 HA O w e1 e2 e3 e4 e5 e6 e7 hh hI hf bk bc bl bo be bt 
  · intro s1 s2 s3 s4 s5 s6 s7 s8 s9 s10 s11 k' c' l' o' e' t' d0' d1' d2' d3' e1 e2 e3 e4 e5 e6 e7 e8 e9 e10 e11 hk
    subst hk
    exact swalk_D1 HA O w e1 e2 e3 e4 e5 e6 e7 e8 e9 e10 e11 hI hf bk bc bl bo be bt bd0 bd1 bd2 bd3 (hq2 _ _ _ _ bd0 e8) (hq2 _ _ _ _ bd1 e9) (hq2 _ _ _ _ bd2 e10) (hq2 _ _ _ _ bd3 e11)
  · intro s1 s2 s3 s4 s5 k' c' l' t' h' e1 e2 e3 e4 e5 hk hh
    subst hk
    exact swalk_A0 HA O w e1 e2 e3 e4 e5 hh hI hf bk bc bl bt 
  · intro s1 s2 s3 s4 s5 s6 s7 s8 s9 k' c' l' t' d0' d1' d2' d3' e1 e2 e3 e4 e5 e6 e7 e8 e9 hk
    subst hk
    exact swalk_A1 HA O w e1 e2 e3 e4 e5 e6 e7 e8 e9 hI hf bk bc bl bt bd0 bd1 bd2 bd3 (hq2 _ _ _ _ bd0 e6) (hq2 _ _ _ _ bd1 e7) (hq2 _ _ _ _ bd2 e8) (hq2 _ _ _ _ bd3 e9)
  · intro s1 s2 s3 k' c' l' e1 e2 e3 hk
    exact swalk_B HA O w e1 e2 e3 (fun e => hk.1 (.inl e)) (fun e => hk.1 (.inr (.inl e))) (fun e => hk.1 (.inr (.inr e))) hk.2.1 hk.2.2.1 hk.2.2.2.1 hk.2.2.2.2 hI hf bk bc bl 

/- What Right hands to walk. -/
def InvR (q : Nat) (O : Nat → Prop) (b : Bool) (w : World) : Prop := w.heap[q]? = some (.cells #[.bool b] 4 (0, 0)) ∧ ¬ O q

theorem sRight1_any (q : Nat) (b : Bool) (w : World) (hb : w.heap[q]? = some (.cells #[.bool b] 4 (0, 0))) (n lo hi : Int) :
    Calls Tryd.prog 37 #[.int .i64 n, .int .i64 lo, .int .i64 hi, .pointer (some ⟨q, 0, none⟩)] w fun r w' => r = .returned (.int .i64 n) ∧ w' = w.setCell ⟨q, 0, none⟩ (.bool (rst b n lo hi).1) := by
  have x0 : w.cell? ⟨q, 0, none⟩ = some (.bool b) := blk_cell hb rfl
  have y0 : w.frozen? ⟨q, 0, none⟩ = false := blk_free hb
  have hr : (rst b n lo hi).1 = (b && decide (lo ≤ n) && decide (n ≤ hi)) := rfl
  rw [hr]
  clear hb hr
  cases b
  · rw [show (false && decide (lo ≤ n) && decide (n ≤ hi)) = false from rfl]
    go_enter Tryd.func37, Tryd.ntmps37
    go_wp2
    go_ret
    exact ⟨rfl, rfl⟩
  · by_cases h1 : lo ≤ n
    · by_cases h2 : n ≤ hi
      · rw [show (true && decide (lo ≤ n) && decide (n ≤ hi)) = true from by simp [h1, h2]]
        go_enter Tryd.func37, Tryd.ntmps37
        go_wp2
        go_ret
        exact ⟨rfl, rfl⟩
      · rw [show (true && decide (lo ≤ n) && decide (n ≤ hi)) = false from by simp [h2]]
        go_enter Tryd.func37, Tryd.ntmps37
        go_wp2
        go_ret
        exact ⟨rfl, rfl⟩
    · rw [show (true && decide (lo ≤ n) && decide (n ≤ hi)) = false from by simp [h1]]
      go_enter Tryd.func37, Tryd.ntmps37
      go_wp2
      go_ret
      exact ⟨rfl, rfl⟩

theorem ask_right (q : Nat) : AskC 37 q (.pointer (some ⟨q, 0, none⟩)) rst (fun _ => 20) (InvR q) where
  enters := enters_of Tryd.func37 (by kernel_rfl) rfl
  call O s w n lo hi hI _ _ _ := by
    refine (sRight1_any q s w hI.1 n lo hi).mono ?_
    rintro r w' ⟨rfl, rfl⟩
    exact ⟨rfl, ⟨blk_set _ hI.1, hI.2⟩, grown_set _ _ _ _⟩
  less := fun _ _ _ _ => by omega
  set O s w x i v hI hx := ⟨(Below.heap_setCell _ _ _ q (by show q ≠ x; intro e; exact hI.2 (e ▸ hx))).trans hI.1, hI.2⟩
  new O s w o hI := ⟨blk_step hI.1 (below_alloc _ _), fun h => h.elim hI.2 (fun e => by have := blk_lt hI.1; omega)⟩
  sub O O' s w hI hs := ⟨hI.1, fun h => hI.2 (hs q h)⟩
  own O s w hI := ⟨hI.2, blk_lt hI.1⟩

/- What Put hands to walk. -/
def InvP (q : Nat) (O : Nat → Prop) (s : List Nat × Nat) (w : World) : Prop :=
  ∃ ao N cap, w.heap[q]? = some (.cells #[.slice ao N cap] 22 (0, 0)) ∧ N = s.1.length ∧ Lie w ao cap s.1 ∧ ¬ O q ∧ (∀ b, oblk ao = some b → ¬ O b ∧ b ≠ q ∧ b < w.heap.size) ∧ (∀ k, O k → k < w.heap.size) ∧ s.1.length + 10 * s.2 ≤ 1000

theorem sPut1_any (q : Nat) (O : Nat → Prop) (s : List Nat × Nat) (w : World) (n lo hi : Int) (hI : InvP q O s w) (hf : 0 < s.2) (h0 : -9223372036854775808 ≤ n) (h1 : n ≤ 9223372036854775807) :
    Calls Tryd.prog 24 #[.int .i64 n, .int .i64 lo, .int .i64 hi, .pointer (some ⟨q, 0, none⟩)] w fun r w' => r = .returned (.int .i64 (pst s n lo hi).2) ∧ InvP q O (pst s n lo hi).1 w' ∧ w.grownBy w' (some q) := by
  obtain ⟨bs, f⟩ := s
  obtain ⟨ao, N, cap, hq, hN, hL, hO, hb, hk, hl⟩ := hI
  simp only at hN hL hl hf
  subst hN
  have x0 : w.cell? ⟨q, 0, none⟩ = some (.slice ao bs.length cap) := blk_cell hq rfl
  have HQ := Hid.in hq
  have HK := Hid.in hk
  have HL := Hid.in hL
  clear hq hb hk hL
  go_enter Tryd.func24, Tryd.ntmps24
  go_wp2_with fail
  refine (num_any ao cap bs n w HL.out (by omega) h0 h1).mono ?_
  rintro r w1 ⟨ao1, c1, rfl, hO1, hb1⟩
  have hq1 := blk_step HQ.out hb1
  have z0 : w1.cell? ⟨q, 0, none⟩ = some (.slice ao bs.length cap) := blk_cell hq1 rfl
  have y0 : w1.frozen? ⟨q, 0, none⟩ = false := blk_free hq1
  have HQ1 := Hid.in hq1
  have HO1 := Hid.in hO1
  have HB1 := Hid.in hb1
  clear hq1 hO1 hb1 x0
  go_wp2
  go_ret
  have hlt := blk_lt HQ.out
  have hn := num_len n h0 h1
  refine ⟨rfl, ⟨ao1, _, c1, blk_set _ HQ1.out, ?_, ?_, hO, ?_, ?_, ?_⟩, ?_⟩
  · simp [pst]
  · refine HO1.out.lie.kept (row := some q) (grown_set w1 q 0 _) ?_
    cases ho : oblk ao1 with
    | none => exact .inl rfl
    | some b =>
      refine .inr (fun e => ?_)
      cases e
      have := HO1.out.blk q ho
      omega
  · intro b e
    have h3 := HO1.out.blk b e
    refine ⟨fun h => by have := HK.out b h; omega, by omega, by simpa [World.setCell] using h3.2⟩
  · intro k h
    have := HK.out k h
    have := HB1.out.size
    simp [World.setCell]
    omega
  · simp only [pst, List.length_append]
    omega
  · exact grown_trans (grown_of_below HB1.out _) (grown_set w1 q 0 _)

theorem InvP.kept {q : Nat} {O O' : Nat → Prop} {s : List Nat × Nat} {w w' : World} (hI : InvP q O s w) {row : Option Nat} (hg : w.grownBy w' row) (hr : ∀ k, row = some k → O k) (h1 : ∀ k, O' k → k < w'.heap.size) (h2 : ∀ k, k < w.heap.size → O' k → O k) : InvP q O' s w' := by
  obtain ⟨ao, N, cap, hq, hN, hL, hO, hb, hk, hl⟩ := hI
  have hs := hg.size
  refine ⟨ao, N, cap, (hg.block q (blk_lt hq) (fun e => hO (hr q e.symm))).trans hq, hN, hL.kept hg ?_, fun h => hO (h2 q (blk_lt hq) h), fun b e => ?_, h1, hl⟩
  · cases ho : oblk ao with
    | none => exact .inl rfl
    | some b => exact .inr (fun e => (hb b ho).1 (hr b e.symm))
  · obtain ⟨b1, b2, b3⟩ := hb b e
    exact ⟨fun h => b1 (h2 b b3 h), b2, by omega⟩

theorem ask_put (q : Nat) : AskC 24 q (.pointer (some ⟨q, 0, none⟩)) pst (fun s => s.2) (InvP q) where
  enters := enters_of Tryd.func24 (by kernel_rfl) rfl
  call O s w n lo hi hI hf h0 h1 := sPut1_any q O s w n lo hi hI hf h0 h1
  less := fun s n lo hi => by simp only [pst]; omega
  set O s w x i v hI hx := hI.kept (grown_set w x i v) (fun k e => by cases e; exact hx) (fun k h => by obtain ⟨_, _, _, _, _, _, _, _, hk, _⟩ := hI; simpa [World.setCell] using hk k h) (fun _ _ h => h)
  new O s w o hI := hI.kept (grown_of_below (below_alloc w o) none) (fun k e => by cases e) (fun k h => by
    obtain ⟨_, _, _, _, _, _, _, _, hk, _⟩ := hI
    rcases h with h | rfl
    · have := hk k h; simp; omega
    · simp) (fun k hk h => h.elim id (fun e => by omega))
  sub O O' s w hI hs := hI.kept (grown_of_below (Below.refl _ _) none) (fun k e => by cases e) (fun k h => by obtain ⟨_, _, _, _, _, _, _, _, hk, _⟩ := hI; exact hk k (hs k h)) (fun k _ h => hs k h)
  own O s w hI := by
    obtain ⟨_, _, _, hq, _, _, hO, _⟩ := hI
    exact ⟨hO, blk_lt hq⟩

/- What Get hands to walk. -/
structure InvG (w0 : World) (sa : Nat → Addr) (ra rz q p : Nat) (bs : List Nat) (O : Nat → Prop) (s : Nat × Nat) (w : World) : Prop where
  rd : Rd w sa ra rz q bs s.2 s.1
  var : w.heap[p]? = some (.cells #[.pointer (some ⟨q, 0, none⟩)] 52 (0, 0))
  be : Below w0.heap.size w0 w
  out : ∀ k, O k → rz ≤ k ∧ k ≠ p
  od : w0.heap.size ≤ ra ∧ rz ≤ p

theorem InvG.kept {w0 w w' : World} {sa : Nat → Addr} {ra rz q p : Nat} {bs : List Nat} {O O' : Nat → Prop} {s : Nat × Nat} (h : InvG w0 sa ra rz q p bs O s w) {row : Option Nat} (hg : w.grownBy w' row) (hr : ∀ k, row = some k → O k) (h1 : ∀ k, O' k → rz ≤ k ∧ k ≠ p) : InvG w0 sa ra rz q p bs O' s w' := by
  have hq := h.rd.rng
  have h0 := h.od
  refine ⟨h.rd.kept hg (fun k e => by have := h.out k (hr k e); omega), (hg.block p (blk_lt h.var) (fun e => (h.out p (hr p e.symm)).2 rfl)).trans h.var, ?_, h1, h.od⟩
  refine ⟨hg.os.trans h.be.os, hg.tape.trans h.be.tape, hg.output.trans h.be.output, Nat.le_trans h.be.size hg.size, fun k hk => (hg.block k (Nat.lt_of_lt_of_le hk h.be.size) (fun e => ?_)).trans (h.be.block k hk)⟩
  have := h.out k (hr k e.symm)
  omega

theorem sGet1_any (w0 : World) (sa : Nat → Addr) (hE : Env10 w0 sa) (ra rz q p : Nat) (bs : List Nat) (O : Nat → Prop) (s : Nat × Nat) (w : World) (n lo hi : Int) (h : InvG w0 sa ra rz q p bs O s w) :
    Calls Tryd.prog 27 #[.int .i64 n, .int .i64 lo, .int .i64 hi, .pointer (some ⟨p, 0, none⟩)] w fun r w' => r = .returned (.int .i64 (gst bs s n lo hi).2) ∧ InvG w0 sa ra rz q p bs O (gst bs s n lo hi).1 w' ∧ w.grownBy w' (some q) := by
  have x0 : w.cell? ⟨p, 0, none⟩ = some (.pointer (some ⟨q, 0, none⟩)) := blk_cell h.var rfl
  have HH := Hid.in h
  have HE := Hid.in (hE.below h.be)
  clear h hE
  go_enter Tryd.func27, Tryd.ntmps27
  go_wp2_with fail
  refine (in_any w sa HE.out ra rz q s.2 s.1 bs HH.out.rd lo hi).mono ?_
  rintro r w1 ⟨rfl, hR, hg⟩
  have HR := Hid.in hR
  have HG := Hid.in hg
  clear hR hg x0
  go_wp2
  go_ret
  have hq := HH.out.rd.rng
  have h0 := HH.out.od
  exact ⟨rfl, ⟨HR.out, (HG.out.block p (blk_lt HH.out.var) (by intro e; cases e; omega)).trans HH.out.var, wrote HH.out.be HG.out (Nat.le_refl _) (by omega), HH.out.out, HH.out.od⟩, HG.out⟩

theorem ask_get (w0 : World) (sa : Nat → Addr) (hE : Env10 w0 sa) (ra rz q p : Nat) (bs : List Nat) : AskC 27 q (.pointer (some ⟨p, 0, none⟩)) (gst bs) (fun _ => 20) (InvG w0 sa ra rz q p bs) where
  enters := enters_of Tryd.func27 (by kernel_rfl) rfl
  call O s w n lo hi hI _ _ _ := sGet1_any w0 sa hE ra rz q p bs O s w n lo hi hI
  less := fun _ _ _ _ => by omega
  set O s w x i v hI hx := hI.kept (grown_set w x i v) (fun k e => by cases e; exact hx) hI.out
  new O s w o hI := hI.kept (grown_of_below (below_alloc w o) none) (fun k e => by cases e) (fun k h => by
    have := blk_lt hI.var
    have := hI.od
    rcases h with h | rfl
    · exact hI.out k h
    · omega)
  sub O O' s w hI hs := hI.kept (grown_of_below (Below.refl _ _) none) (fun k e => by cases e) (fun k h => hI.out k (hs k h))
  own O s w hI := ⟨fun h => by have := hI.out q h; have := hI.rd.rng; omega, hI.rd.lt⟩

end Go.Proofs.YtgepfbaojogccaaDoor
