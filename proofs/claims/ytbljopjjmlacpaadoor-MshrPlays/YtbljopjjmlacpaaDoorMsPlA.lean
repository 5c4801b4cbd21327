/- DERIVED of the program: MshrPlays returns true. Own work. -/
import Derived.Test.YtbljopjjmlacpaaDoorMsR3
import Derived.Test.YtbljopjjmlacpaaDoorMsFull
import Derived.Test.YtbljopjjmlacpaaDoorGenAsk
import Derived.Deep.CutBlock
import Derived.Deep.Light
namespace Go.Proofs.YtbljopjjmlacpaaDoor
open Go.RowKit Go.Extern.Stop Go.Stop Go.Extern

theorem rmadd_c (w : World) (q m : Nat) (K : List Int) (hK : K.length = 32) (hT : RT w q m (allK K)) (hm8 : m ≤ 8) (l k : Int) (c : Nat) (K' : List Int) (h : addK m K l k = (c, K')) :
    Calls Tryd.prog 16 #[.pointer (some ⟨q, 0, none⟩), .int .i64 l, .int .i64 k] w fun r w' => r = .returned (.int .i64 c) ∧ RT w' q m (allK K') ∧ Apart q (q + 1) w w' := by
  by_cases hlk : 0 ≤ l ∧ l ≤ 31 ∧ 1 ≤ k ∧ k ≤ 4
  · have hl : isL l = true := wB_yes ⟨hlk.1, hlk.2.1⟩
    have hk : wB k 1 4 = true := wB_yes ⟨hlk.2.2.1, hlk.2.2.2⟩
    obtain ⟨n, rfl, hn⟩ := isL_of hl
    rw [addK_at m K n hn k hk] at h
    refine rmadd_any w q m (allK K) hT hm8 n k hlk c (allK K') (fun j y hj => ?_) (fun hno hm => ?_) (fun hno hm => ?_)
    · obtain ⟨h1, h2, h3⟩ := allK_some hj
      rw [Int.toNat_natCast] at h2
      rw [if_pos (by rw [h2]; exact h3)] at h
      cases h
      exact ⟨rfl, rfl⟩
    · have h0 := allK_none hno hl
      rw [Int.toNat_natCast] at h0
      rw [if_neg (fun x => x h0), if_pos hm] at h
      cases h
      exact ⟨rfl, rfl⟩
    · have h0 := allK_none hno hl
      rw [Int.toNat_natCast] at h0
      rw [if_neg (fun x => x h0), if_neg (by omega)] at h
      cases h
      obtain ⟨lo, hi, e1, e2, e3, e4⟩ := allK_add hK hn h0 k (by omega)
      exact ⟨rfl, lo, hi, e1, e2, e3, e4⟩
  · have h1 : isL l = false ∨ wB k 1 4 = false := by
      by_cases hl : 0 ≤ l ∧ l ≤ 31
      · exact .inr (wB_no (fun x => hlk ⟨hl.1, hl.2, x.1, x.2⟩))
      · exact .inl (wB_no hl)
    rw [addK_arg m K l k h1] at h
    cases h
    refine (rmadd_bad w q l k hlk).mono ?_
    rintro r w' ⟨rfl, rfl⟩
    exact ⟨rfl, hT, Apart.of_below (Below.refl _ _)⟩

theorem kOnly_nil (w : World) (sa : Nat → Addr) (hE : Env10 w sa) : Calls Tryd.prog 17 #[.nilIface, .int .i64 0] w fun r w' => r = .returned (.bool true) ∧ Below w.heap.size w w' := by
  have HE := Hid.in hE
  clear hE
  go_enter Tryd.func17, Tryd.ntmps17
  go_wp2
  go_loopw [5] (fun i wr => ∃ k : Nat, 1 ≤ k ∧ k ≤ 11 ∧ i = .int .i64 k ∧ Below w.heap.size w wr) (fun i _ => 11 - (intOf i).toNat)
  case atStart => exact ⟨1, Nat.le_refl _, by omega, rfl, Below.refl _ _⟩
  case round =>
    obtain ⟨k, hk1, hk, rfl, hb⟩ := hrel
    have HB := Hid.in hb
    clear hb
    by_cases hlt : k ≤ 10
    · have hq : ((k : Int) == 0) = false := by simp; omega
      go_wp2_with fail
      refine (error_code _ sa (HE.out.below HB.out) k hk1 hlt).mono ?_
      rintro r w' ⟨rfl, rfl⟩
      go_wp2_with fail
      refine (Is_nil (sa k) _).mono ?_
      rintro r w' ⟨rfl, rfl⟩
      go_wp2
      go_roundw
      case rel => exact ⟨k + 1, by omega, by omega, by go_num, HB.out⟩
      case measure => simp [intOf]; omega
    · go_wp2
      go_ret
      exact ⟨rfl, HB.out⟩
theorem kOnly_perr (op : ByteArray) (n : Int) (c : Nat) (h2 : c ≤ 10) (w : World) (sa : Nat → Addr) (hE : Env10 w sa) :
    Calls Tryd.prog 17 #[perr sa c op n, .int .i64 c] w fun r w' => r = .returned (.bool true) ∧ Below w.heap.size w w' := by
  unfold perr
  split
  · rename_i h
    subst h
    exact kOnly_nil w sa hE
  · exact kOnly_flt op n c (by omega) h2 w sa hE

/-- Both tables in one world. -/
structure Two (w0 w : World) (lo m : Nat) (K : List Int) : Prop where
  a : Tbl w w0.heap.size m K
  r : RT w lo m (allK K)
  le : (allK K).length ≤ m
  b : Below w0.heap.size w0 w
  d : w0.heap.size + 1 ≤ lo
theorem Two.step {w0 w w' : World} {lo m : Nat} {K : List Int} (h : Two w0 w lo m K) (hb : Below w.heap.size w w') : Two w0 w' lo m K :=
  ⟨h.a.step hb, h.r.step hb, h.le, bstep h.b (Nat.le_refl _) hb, h.d⟩
theorem Two.both {w0 w w5 w6 : World} {lo m : Nat} {K K' : List Int} (h : Two w0 w lo m K) (h5 : Tbl w5 w0.heap.size m K') (p5 : Apart w0.heap.size (w0.heap.size + 1) w w5) (h6 : RT w6 lo m (allK K')) (p6 : Apart lo (lo + 1) w5 w6) (hle : (allK K').length ≤ m) : Two w0 w6 lo m K' := by
  have hd := h.d
  have b5 := p5.below h.b (Nat.le_refl _) h.b.size
  exact ⟨h5.kept p6 (by omega), h6, hle, p6.below b5 (by omega) b5.size, hd⟩
theorem Two.far5 {w0 w w5 : World} {lo m : Nat} {K : List Int} (h : Two w0 w lo m K) (p5 : Apart w0.heap.size (w0.heap.size + 1) w w5) {q o : Nat} {v : Value} (hq : lo < q) (hc : w.cell? ⟨q, o, none⟩ = some v) : w5.cell? ⟨q, o, none⟩ = some v := by
  have := h.d
  exact (apart_cell p5 (p := ⟨q, o, none⟩) (lt_cell hc) (fun x => by have := x.2; simp only [] at this; omega)).trans hc
theorem far6 {lo hi : Nat} {w w6 : World} (p : Apart lo hi w w6) {q o : Nat} {v : Value} (hq : hi ≤ q) (hc : w.cell? ⟨q, o, none⟩ = some v) : w6.cell? ⟨q, o, none⟩ = some v :=
  (apart_cell p (p := ⟨q, o, none⟩) (lt_cell hc) (fun x => by have := x.2; simp only [] at this; omega)).trans hc

theorem addK_le {m : Nat} {K K' : List Int} {l k : Int} {c : Nat} (hK : K.length = 32) (h : addK m K l k = (c, K')) (hle : (allK K).length ≤ m) : (allK K').length ≤ m := by
  rcases addK_grow hK h with ⟨_, h1, h2⟩ | ⟨_, rfl⟩
  · omega
  · exact hle
theorem dropK_le {K K' : List Int} {l : Int} {c : Bool} {m : Nat} (hK : K.length = 32) (h : dropK K l = (c, K')) (hle : (allK K).length ≤ m) : (allK K').length ≤ m := by
  unfold dropK at h
  split at h
  · rename_i hc
    cases h
    obtain ⟨n, rfl, hn⟩ := isL_of hc.1
    rw [Int.toNat_natCast] at hc ⊢
    obtain ⟨lo, hi, e1, e2, _⟩ := allK_drop hK hn hc.2
    rw [e1] at hle
    rw [e2]
    simp only [List.length_append, List.length_singleton] at hle ⊢
    omega
  · cases h
    exact hle

set_option maxRecDepth 20000 in
theorem mshrPlays_nil (w : World) (sa : Nat → Addr) (hE : Env10 w sa) (n0 : Int) (h : wB n0 1 8 = false) (al : Option Addr) (n capl : Nat) :
    Calls Tryd.prog 4 #[.int .i64 n0, .slice al n capl] w fun r w' => r = .returned (.bool true) ∧ Below w.heap.size w w' := by
  have HE := Hid.in hE
  have HC := Hid.in h
  clear hE h
  go_enter Tryd.func4, Tryd.ntmps4
  go_wp2_with fail
  refine (mnew_arg w sa HE.out n0 HC.out).mono ?_
  rintro r w' ⟨rfl, rfl⟩
  go_wp2_with fail
  refine (rmnew_arg _ n0 HC.out).mono ?_
  rintro r w' ⟨rfl, rfl⟩
  go_wp2_with fail
  refine (kIs_perr opMNew n0 1 (by omega) w' sa HE.out).mono ?_
  rintro r w2 ⟨rfl, hb⟩
  have HB := Hid.in hb
  clear hb
  by_cases hn : 0 < n
  · have i1 : (0 : Int) < (n : Int) := by omega
    go_wp2
    go_loopw [9] (fun c wr => c = .int .i64 0 ∧ wr = w2) (fun _ _ => 0)
    case atStart => exact ⟨rfl, rfl⟩
    case round =>
      obtain ⟨rfl, rfl⟩ := hrel
      go_wp2_with fail
      refine (mshrRuns_any _ sa (HE.out.below HB.out)).mono ?_
      rintro r w3 ⟨rfl, hb⟩
      have HB3 := Hid.in (bstep HB.out (Nat.le_refl _) hb)
      clear hb
      go_wp2
      go_ret
      exact ⟨rfl, HB3.out⟩
  · obtain rfl : n = 0 := by omega
    go_wp2
    go_loopw [9] (fun c wr => c = .int .i64 0 ∧ wr = w2) (fun _ _ => 0)
    case atStart => exact ⟨rfl, rfl⟩
    case round =>
      obtain ⟨rfl, rfl⟩ := hrel
      go_wp2_with fail
      refine (mshrRuns_any _ sa (HE.out.below HB.out)).mono ?_
      rintro r w3 ⟨rfl, hb⟩
      have HB3 := Hid.in (bstep HB.out (Nat.le_refl _) hb)
      clear hb
      go_wp2
      go_ret
      exact ⟨rfl, HB3.out⟩

end Go.Proofs.YtbljopjjmlacpaaDoor
