/- DERIVED of the program: the project's model: forward, push, pop of a core's stores by their contracts. Own work. -/
import Derived.Test.YtncgjclehplfeaaDoorTsA
import Derived.Test.YtncgjclehplfeaaDoorGenD
namespace Go.Proofs.YtncgjclehplfeaaDoor
open Go.RowKit Go.Extern.Stop Go.Stop Go.Extern

theorem wrapI {z : Int} (h1 : -9223372036854775808 ≤ z) (h2 : z ≤ 9223372036854775807) : IntKind.i64.wrap z = z := by rw [IntKind.wrap_i64]; omega
/-- Of each word its last store is known. -/
structure Cr.ok (c : Cr) (nw N : Nat) : Prop where
  len : c.T.length = nw
  most : c.g + c.L.length ≤ N
  last : ∀ a : Nat, a < nw → ∃ t, c.T[a]? = some t ∧ t - c.g = idx (a : Int) c.L ∧ t ≤ c.g + c.L.length
theorem Cr.ok.mono {c : Cr} {nw N N' : Nat} (h : c.ok nw N) (hN : N ≤ N') : c.ok nw N' := ⟨h.len, Nat.le_trans h.most hN, h.last⟩
theorem Cr.ok.push {c : Cr} {nw N : Nat} (h : c.ok nw N) (a : Nat) (v : Int) (ha : a < nw) (ao' : Option Addr) (cap' : Nat) : Cr.ok ⟨ao', cap', c.L ++ [((a : Int), v)], c.g, c.al, c.lcap, c.T.set a (c.g + (c.L.length + 1))⟩ nw (N + 1) := by
  refine ⟨by simp only [List.length_set]; exact h.len, by have := h.most; simp only [List.length_append, List.length_singleton]; omega, fun b hb => ?_⟩
  by_cases hab : b = a
  · subst hab
    refine ⟨c.g + (c.L.length + 1), ?_, ?_, ?_⟩
    · simp only []
      rw [List.getElem?_set_self (by rw [h.len]; exact ha)]
    · simp only []
      rw [idx_snoc, if_pos rfl]
      omega
    · simp only [List.length_append, List.length_singleton]
      omega
  · obtain ⟨t, h1, h2, h3⟩ := h.last b hb
    refine ⟨t, ?_, ?_, ?_⟩
    · simp only []
      rw [List.getElem?_set_ne (fun e => hab e.symm), h1]
    · simp only []
      rw [idx_snoc, if_neg (by simp only []; omega), h2]
    · simp only [List.length_append, List.length_singleton]
      omega
theorem Cr.ok.pop {c : Cr} {nw N : Nat} (h : c.ok nw N) (h0 : 0 < c.L.length) (ao' : Option Addr) (cap' : Nat) : Cr.ok ⟨ao', cap', c.L.drop 1, c.g + 1, c.al, c.lcap, c.T⟩ nw N := by
  refine ⟨h.len, by have := h.most; simp only [List.length_drop]; omega, fun b hb => ?_⟩
  obtain ⟨t, h1, h2, h3⟩ := h.last b hb
  refine ⟨t, h1, ?_, ?_⟩
  · simp only []
    rw [idx_tail, ← h2]
    omega
  · simp only [List.length_drop]
    omega
theorem idx_nil (a : Int) : idx a [] = 0 := rfl
theorem Cr.ok.new (ao al : Option Addr) (cap lcap nw N : Nat) : Cr.ok ⟨ao, cap, [], 0, al, lcap, List.replicate nw 0⟩ nw N :=
  ⟨by simp, Nat.zero_le _, fun a ha => ⟨0, by simp [ha], rfl, Nat.le_refl _⟩⟩
abbrev shP : Sh := ⟨85, 88, 113, 3, 22, pc, 3⟩

/-- A core's part, as its pointer finds it. -/
structure CoreAt (w : World) (bb o : Nat) (c : Cr) : Prop where
  c0 : w.cell? ⟨bb, o, none⟩ = some (.slice c.ao c.L.length c.cap)
  c1 : w.cell? ⟨bb, o + 1, none⟩ = some (.int .i64 (c.g : Int))
  c2 : w.cell? ⟨bb, o + 2, none⟩ = some (.slice c.al c.T.length c.lcap)
  f : ∀ k, w.frozen? ⟨bb, k, none⟩ = false
  r : CrAt shP w c
theorem CoreAt.last {w : World} {bb o nw N : Nat} {c : Cr} (h : CoreAt w bb o c) (hk : c.ok nw N) (a : Nat) (ha : a < nw) : ∃ (lb ol t : Nat), c.al = some ⟨lb, ol, none⟩ ∧ w.cell? ⟨lb, ol + a, none⟩ = some (.int .i64 (t : Int)) ∧ w.frozen? ⟨lb, ol + a, none⟩ = false ∧ c.T[a]? = some t ∧ t - c.g = idx (a : Int) c.L ∧ t ≤ c.g + c.L.length := by
  obtain ⟨t, h1, h2, h3⟩ := hk.last a ha
  have hl : a < c.T.length := by rw [hk.len]; exact ha
  obtain ⟨b, o', e, hc⟩ := h.r.l.cell a (by simpa using hl) 0 (.int .i64 (t : Int)) (by rw [List.getElem?_eq_getElem hl] at h1; cases h1; simp [tc])
  obtain ⟨g, of, cur, e2, _, hh, _⟩ := h.r.l.at_ _ e
  cases e2
  refine ⟨b, o', t, e, by simpa using hc, blk_free hh, h1, h2, h3⟩
/-- The core's part in a model. -/
theorem Mdl.core {w : World} {q i : Nat} {H : Hd} {C : List Cr} {M : List Int} {c : Cr} (hT : Mdl shP w q H C M) (hc : C[i]? = some c) : ∃ bb o, H.ab = some ⟨bb, o, none⟩ ∧ CoreAt w bb (o + i * 3) c := by
  obtain ⟨hi, he⟩ := List.getElem?_eq_some_iff.1 hc
  have hi' : i < (C.map shP.rf).length := by simpa using hi
  have hr : (C.map shP.rf)[i] = pc c := by simp [he]
  obtain ⟨b, o, e, h0⟩ := hT.own.cell i hi' 0 (.slice c.ao c.L.length c.cap) (by rw [hr]; rfl)
  obtain ⟨b1, o1, e1, h1⟩ := hT.own.cell i hi' 1 (.int .i64 (c.g : Int)) (by rw [hr]; rfl)
  obtain ⟨b2, o2, e2, h2⟩ := hT.own.cell i hi' 2 (.slice c.al c.T.length c.lcap) (by rw [hr]; rfl)
  rw [e] at e1 e2
  cases e1
  cases e2
  obtain ⟨g, of, cur, e3, _, hh, _⟩ := hT.own.at_ _ e
  cases e3
  exact ⟨b, o, e, by simpa using h0, h1, h2, fun k => blk_free hh, hT.each c (List.mem_of_getElem? hc)⟩

set_option maxRecDepth 20000 in
theorem fwd_raw (w : World) (bb o nw N : Nat) (c : Cr) (h : CoreAt w bb o c) (hk : c.ok nw N) (hN : N ≤ 100000) (a : Nat) (ha : a < nw) (v : Int) (y : Bool) (hr : fwdL c.L (a : Int) = (v, y)) :
    Calls Tryd.prog 39 #[.pointer (some ⟨bb, o, none⟩), .int .i64 (a : Int)] w fun r w' => r = .returned (.tuple #[.int .u32 v, .bool y]) ∧ Below w.heap.size w w' := by
  obtain ⟨lb, ol, t, el, ct, _, hT, hi, hle⟩ := h.last hk a ha
  have hmost := hk.most
  have c0 := h.c0
  have c1 := h.c1
  have c2 := h.c2
  rw [hk.len] at c2
  have HO := Hid.in h.r.s
  obtain ⟨ao, cap, L, g, al, lcap, T⟩ := c
  simp only [] at el c0 c1 c2 hi hle hmost hr HO
  subst el
  obtain ⟨n, hn⟩ : ∃ n, L.length = n := ⟨_, rfl⟩
  rw [hn] at c0 hle hmost HO
  obtain ⟨z, hz⟩ : ∃ z : Int, (t : Int) - (g : Int) = z := ⟨_, rfl⟩
  have hzw : IntKind.i64.wrap ((t : Int) - (g : Int)) = z := by rw [hz]; exact wrapI (by omega) (by omega)
  have i1 : (a : Int) < (nw : Int) := by omega
  have HR := Hid.in hr
  have HZ := Hid.in hz
  have HN := Hid.in hn
  clear h hk hT hr hz hn
  by_cases h0 : idx (a : Int) L = 0
  · have i2 : z < 1 := by have := HZ.out; omega
    have HE := Hid.in (fwd_idx0 _ _ h0)
    clear hi h0 hle hmost hN
    go_enter Tryd.func39, Tryd.ntmps39
    go_wp2
    go_quiet (fail)
    go_wp2
    go_ret2
    have := HE.out.symm.trans HR.out
    cases this
    exact ⟨rfl, drewN_below (Below.refl _ _) _⟩
  · obtain ⟨p, hp⟩ : ∃ p, idx (a : Int) L = p + 1 := ⟨idx (a : Int) L - 1, by omega⟩
    obtain ⟨y', hy1, hy2⟩ := fwd_idx _ _ p hp
    have hpn : p < n := by have := idx_le (a : Int) L; have := HN.out; omega
    obtain ⟨b, o', x1, x2, rfl, k0, k1, hx⟩ := HO.out.wat p (by omega)
    rw [hy1] at hx
    cases hx
    have i2 : ¬ z < 1 := by have := HZ.out; omega
    have hzp : IntKind.i64.wrap (z - 1) = (p : Int) := by rw [show z - 1 = (p : Int) by have := HZ.out; omega]; exact wrapI (by omega) (by omega)
    have HE := Hid.in hy2
    have i3 : (p : Int) < (n : Int) := by omega
    clear hi h0 hle hmost hp hy1 hy2 hN
    go_enter Tryd.func39, Tryd.ntmps39
    go_wp2
    go_quiet (fail)
    go_wp2
    go_ret2
    have := HE.out.symm.trans HR.out
    cases this
    exact ⟨rfl, drewN_below (Below.refl _ _) _⟩
end Go.Proofs.YtncgjclehplfeaaDoor
