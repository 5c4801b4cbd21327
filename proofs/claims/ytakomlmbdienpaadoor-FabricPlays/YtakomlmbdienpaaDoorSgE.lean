/- DERIVED of the program: msg.walk over whatever message, by its contract; the function values that Right, Put and Get hand to it. Own work. -/
import Derived.Test.YtakomlmbdienpaaDoorSgBu
import Derived.Test.YtakomlmbdienpaaDoorSgC
import Derived.Test.YtakomlmbdienpaaDoorSgD
namespace Go.Proofs.YtakomlmbdienpaaDoor
open Go.RowKit Go.Extern.Stop Go.Stop Go.Extern

/-- A message's cells. -/
def mv : M13 → Array Value
  | (k, c, l, t, o, e, w_, v, d0, d1, d2, d3, h) => #[.int .i64 k, .int .i64 c, .int .i64 l, .int .i64 t, .int .i64 o, .int .i64 e, .int .i64 w_, .int .u32 v, .int .u32 d0, .int .u32 d1, .int .u32 d2, .int .u32 d3, .bool h]
theorem mv_eq (k c l t o e w_ v d0 d1 d2 d3 : Int) (h : Bool) : mv (k, c, l, t, o, e, w_, v, d0, d1, d2, d3, h) = #[.int .i64 k, .int .i64 c, .int .i64 l, .int .i64 t, .int .i64 o, .int .i64 e, .int .i64 w_, .int .u32 v, .int .u32 d0, .int .u32 d1, .int .u32 d2, .int .u32 d3, .bool h] := rfl

theorem swalk_any {K q : Nat} {pv : Value} {σ : Type} {st : σ → Int → Int → Int → σ × Int} {fuel : σ → Nat} {Inv : (Nat → Prop) → σ → World → Prop} (HA : AskC K q pv st fuel Inv) (O : Nat → Prop) (w : World) (hq : ∀ s n, 0 ≤ n → n ≤ 4294967295 → 0 ≤ (st s n 0 4294967295).2 ∧ (st s n 0 4294967295).2 ≤ 4294967295)
    (s : σ) (m : M13) (hI : Inv O s w) (hf : 20 ≤ fuel s) (h32 : M32 m) (h64 : M64 m) :
    Calls Tryd.prog 40 #[.agg (mv m), .func (.func K) #[] #[pv]] w fun r w' => r = .returned (.agg (mv (walkP st s m).2)) ∧ Inv O (walkP st s m).1 w' ∧ w.grownBy w' (some q) := by
  obtain ⟨k, c, l, t, o, e, w_, v, d0, d1, d2, d3, h⟩ := m
  simp only [M32, M64] at h32 h64
  obtain ⟨bv, bd0, bd1, bd2, bd3⟩ := h32
  obtain ⟨bk, bc, bl, bt, bo, be, bw⟩ := h64
  have hq2 : ∀ (s s2 : σ) (n z : Int), 0 ≤ n ∧ n ≤ 4294967295 → st s n 0 4294967295 = (s2, z) → 0 ≤ z ∧ z ≤ 4294967295 := fun s s2 n z b e => by
    have := hq s n b.1 b.2
    rwa [e] at this
  refine walkP_split st s k c l t o e w_ v d0 d1 d2 d3 h (fun p => Calls Tryd.prog 40 #[.agg (mv (k, c, l, t, o, e, w_, v, d0, d1, d2, d3, h)), .func (.func K) #[] #[pv]] w fun r w' => r = .returned (.agg (mv p.2)) ∧ Inv O p.1 w' ∧ w.grownBy w' (some q)) ?_ ?_ ?_ ?_ ?_ ?_ ?_ ?_
  · intro s1 s2 s3 s4 s5 k' c' l' w_' v' e1 e2 e3 e4 e5 hk
    rcases hk with rfl | rfl | rfl
    · exact swalk_U3 HA O w e1 e2 e3 e4 e5 hI hf bk bc bl bw bv (hq2 _ _ _ _ bv e5)
    · exact swalk_U8 HA O w e1 e2 e3 e4 e5 hI hf bk bc bl bw bv (hq2 _ _ _ _ bv e5)
    · exact swalk_U14 HA O w e1 e2 e3 e4 e5 hI hf bk bc bl bw bv (hq2 _ _ _ _ bv e5)
  · intro s1 s2 s3 s4 s5 k' c' l' e' o' e1 e2 e3 e4 e5 hk
    subst hk
    exact swalk_C HA O w e1 e2 e3 e4 e5 hI hf bk bc bl be bo 
  · intro s1 s2 s3 s4 k' c' l' o' e1 e2 e3 e4 hk
    subst hk
    exact swalk_S HA O w e1 e2 e3 e4 hI hf bk bc bl bo 
  · intro s1 s2 s3 s4 s5 s6 s7 k' c' l' o' e' t' h' e1 e2 e3 e4 e5 e6 e7 hk hh
    subst hk
    exact swalk_D0 HA O w e1 e2 e3 e4 e5 e6 e7 hh hI hf bk bc bl bo be bt 
  · intro s1 s2 s3 s4 s5 s6 s7 s8 s9 s10 s11 k' c' l' o' e' t' d0' d1' d2' d3' e1 e2 e3 e4 e5 e6 e7 e8 e9 e10 e11 hk
    subst hk
    exact swalk_D1 HA O w e1 e2 e3 e4 e5 e6 e7 e8 e9 e10 e11 hI hf bk bc bl bo be bt bd0 bd1 bd2 bd3 (hq2 _ _ _ _ bd0 e8) (hq2 _ _ _ _ bd1 e9) (hq2 _ _ _ _ bd2 e10) (hq2 _ _ _ _ bd3 e11)
  · intro s1 s2 s3 s4 s5 k' c' l' t' h' e1 e2 e3 e4 e5 hk hh
    subst hk
    exact swalk_A0 HA O w e1 e2 e3 e4 e5 hh hI hf bk bc bl bt 
  · intro s1 s2 s3 s4 s5 s6 s7 s8 s9 k' c' l' t' d0' d1' d2' d3' e1 e2 e3 e4 e5 e6 e7 e8 e9 hk
    subst hk
    exact swalk_A1 HA O w e1 e2 e3 e4 e5 e6 e7 e8 e9 hI hf bk bc bl bt bd0 bd1 bd2 bd3 (hq2 _ _ _ _ bd0 e6) (hq2 _ _ _ _ bd1 e7) (hq2 _ _ _ _ bd2 e8) (hq2 _ _ _ _ bd3 e9)
  · intro s1 s2 s3 k' c' l' e1 e2 e3 hk
    exact swalk_B HA O w e1 e2 e3 (fun e => hk.1 (.inl e)) (fun e => hk.1 (.inr (.inl e))) (fun e => hk.1 (.inr (.inr e))) hk.2.1 hk.2.2.1 hk.2.2.2.1 hk.2.2.2.2 hI hf bk bc bl 

/- What Right hands to walk. -/
def InvR (q : Nat) (O : Nat → Prop) (b : Bool) (w : World) : Prop := w.heap[q]? = some (.cells #[.bool b] 4 (0, 0)) ∧ ¬ O q

theorem sRight1_any (q : Nat) (b : Bool) (w : World) (hb : w.heap[q]? = some (.cells #[.bool b] 4 (0, 0))) (n lo hi : Int) :
    Calls Tryd.prog 41 #[.int .i64 n, .int .i64 lo, .int .i64 hi, .pointer (some ⟨q, 0, none⟩)] w fun r w' => r = .returned (.int .i64 n) ∧ w' = w.setCell ⟨q, 0, none⟩ (.bool (rst b n lo hi).1) := by
  have x0 : w.cell? ⟨q, 0, none⟩ = some (.bool b) := blk_cell hb rfl
  have y0 : w.frozen? ⟨q, 0, none⟩ = false := blk_free hb
  have hr : (rst b n lo hi).1 = (b && decide (lo ≤ n) && decide (n ≤ hi)) := rfl
  rw [hr]
  clear hb hr
  cases b
  · rw [show (false && decide (lo ≤ n) && decide (n ≤ hi)) = false from rfl]
    go_enter Tryd.func41, Tryd.ntmps41
    go_wp2
    go_ret
    exact ⟨rfl, rfl⟩
  · by_cases h1 : lo ≤ n
    · by_cases h2 : n ≤ hi
      · rw [show (true && decide (lo ≤ n) && decide (n ≤ hi)) = true from by simp [h1, h2]]
        go_enter Tryd.func41, Tryd.ntmps41
        go_wp2
        go_ret
        exact ⟨rfl, rfl⟩
      · rw [show (true && decide (lo ≤ n) && decide (n ≤ hi)) = false from by simp [h2]]
        go_enter Tryd.func41, Tryd.ntmps41
        go_wp2
        go_ret
        exact ⟨rfl, rfl⟩
    · rw [show (true && decide (lo ≤ n) && decide (n ≤ hi)) = false from by simp [h1]]
      go_enter Tryd.func41, Tryd.ntmps41
      go_wp2
      go_ret
      exact ⟨rfl, rfl⟩

theorem ask_right (q : Nat) : AskC 41 q (.pointer (some ⟨q, 0, none⟩)) rst (fun _ => 20) (InvR q) where
  enters := enters_of Tryd.func41 (by kernel_rfl) rfl
  call O s w n lo hi hI _ _ _ := by
    refine (sRight1_any q s w hI.1 n lo hi).mono ?_
    rintro r w' ⟨rfl, rfl⟩
    exact ⟨rfl, ⟨blk_set _ hI.1, hI.2⟩, grown_set _ _ _ _⟩
  less := fun _ _ _ _ => by omega
  set O s w x i v hI hx := ⟨(Below.heap_setCell _ _ _ q (by show q ≠ x; intro e; exact hI.2 (e ▸ hx))).trans hI.1, hI.2⟩
  new O s w o hI := ⟨blk_step hI.1 (below_alloc _ _), fun h => h.elim hI.2 (fun e => by have := blk_lt hI.1; omega)⟩
  sub O O' s w hI hs := ⟨hI.1, fun h => hI.2 (hs q h)⟩
  own O s w hI := ⟨hI.2, blk_lt hI.1⟩

/- What Put hands to walk. -/
/- What Get hands to walk. -/
end Go.Proofs.YtakomlmbdienpaaDoor
