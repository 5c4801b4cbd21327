/- DERIVED of the program: an operation by value, and a row of operations, as arguments. Own work. -/
import Derived.Test.YtbanihjjeicdaaaDoorPgE
import Derived.Test.YtbanihjjeicdaaaDoorGenK
import Derived.ProofKit
import Derived.OpenShut
namespace Go.Proofs.YtbanihjjeicdaaaDoor
open Go.RowKit Go.Extern.Stop Go.Stop Go.Extern Go.ChangeShapes Go.WideShapes Go.ChangeAt Go.ChangeMaps

/-- A struct of numbers by value: its fields, each of its kind. -/
theorem open_numsV {H : Type} {enc : TypeId × Value → H} {P : Program} {w : World} {base : Nat} {spare : Nat → Bool} {held : Bool} {r : Reach} {b0 : Nat} {t : TypeId} {fs : Array Field} {ks : List IntKind} {v : Value} {d : DataW H} {p : List MemPlace}
    (hs : P.underlying t = some (.struct fs)) (hk : numFlds P fs ks = true) (hC : P.cellsOf t = fs.size) (hv : Value.okWide P w r b0 t v) (h : DataW.Trod enc P w base spare held t v d p) :
    ∃ cs : Array Value, v = .agg cs ∧ cs.size = fs.size ∧ ∀ i kd, i < fs.size → ks[i]? = some kd → ∃ z : Int, cs[i]? = some (.int kd z) ∧ (Lit.int kd z).wf = true := by
  obtain ⟨cs, rfl, hsz⟩ := okWide_struct hs hv
  obtain ⟨fuel, hf⟩ := h
  obtain ⟨xs, n, _, hx, hl, hlen, hall⟩ := DataW.trod_struct hs hf
  refine ⟨cs, rfl, by omega, fun i kd hi' hkd => ?_⟩
  have hi : i < cs.size := by omega
  obtain ⟨o, k, kk, e1, u⟩ := numFlds_at hk i fs[i] (Array.getElem?_eq_getElem hi')
  rw [hkd] at e1
  cases e1
  have h1 := hall i fs[i] (Array.getElem?_eq_getElem hi')
  rw [List.getElem?_eq_getElem (by omega)] at h1
  obtain ⟨z, hz, _, hw⟩ := DataW.trod_int u h1
  rw [o, k] at hz
  have : (Value.cells (.agg cs)).toList.drop i = cs[i] :: cs.toList.drop (i + 1) := by
    simp only [Value.cells]
    rw [List.drop_eq_getElem_cons (by simpa using hi)]
    simp
  rw [this] at hz
  simp at hz
  exact ⟨z, by rw [Array.getElem?_eq_getElem hi, hz], hw⟩

theorem bounds_u32' {n : Int} (h : (Lit.int .u32 n).wf = true) : 0 ≤ n ∧ n < 4294967296 := by
  have := bounds_u32 h
  omega

theorem Tryd.cellsOp : Tryd.prog.cellsOf 29 = 4 := by kernel_rfl
set_option maxRecDepth 100000 in
theorem open_op {H : Type} {enc : TypeId × Value → H} {w : World} {base : Nat} {spare : Nat → Bool} {held : Bool} {r : Reach} {b0 : Nat} {v : Value} {d : DataW H} {p : List MemPlace}
    (hv : Value.okWide Tryd.prog w r b0 29 v) (h : DataW.Trod enc Tryd.prog w base spare held 29 v d p) : ∃ k a v1 o : Int, v = .agg #[.int .i64 k, .int .i64 a, .int .u32 v1, .int .u32 o] ∧ O32 (k, a, v1, o) := by
  obtain ⟨cs, rfl, hsz, hc⟩ := open_numsV (ks := [.i64, .i64, .u32, .u32]) Tryd.underlying29 (by kernel_rfl) Tryd.cellsOp hv h
  obtain ⟨k, h0, _⟩ := hc 0 .i64 (by decide) rfl
  obtain ⟨a, h1, _⟩ := hc 1 .i64 (by decide) rfl
  obtain ⟨v1, h2, w2⟩ := hc 2 .u32 (by decide) rfl
  obtain ⟨o, h3, w3⟩ := hc 3 .u32 (by decide) rfl
  have b2 := bounds_u32' w2
  have b3 := bounds_u32' w3
  refine ⟨k, a, v1, o, ?_, b2.1, b2.2, b3.1, b3.2⟩
  congr 1
  have hsz' : cs.size = 4 := hsz
  apply Array.ext_getElem?
  intro i
  match i with
  | 0 => exact h0
  | 1 => exact h1
  | 2 => exact h2
  | 3 => exact h3
  | i + 4 => rw [Array.getElem?_eq_none (by omega), Array.getElem?_eq_none (by simp)]

/-- What each place has, as a list. -/
theorem list_of {α : Type} {Q : Nat → α → Prop} : ∀ (n : Nat), (∀ k, k < n → ∃ x, Q k x) → ∃ L : List α, L.length = n ∧ ∀ (k : Nat) (h : k < L.length), Q k L[k]
  | 0, _ => ⟨[], rfl, fun _ h => absurd h (Nat.not_lt_zero _)⟩
  | n + 1, h => by
    obtain ⟨L, h1, h2⟩ := list_of n (fun k hk => h k (by omega))
    obtain ⟨x, hx⟩ := h n (by omega)
    refine ⟨L ++ [x], by simp [h1], fun k hk => ?_⟩
    rw [List.length_append, List.length_singleton] at hk
    rcases Nat.lt_or_ge k L.length with hl | hl
    · rw [List.getElem_append_left hl]; exact h2 k hl
    · have : k = n := by omega
      subst this
      rw [List.getElem_append_right (by omega)]
      simpa using hx

theorem open_structsKW {H : Type} {enc : TypeId × Value → H} {P : Program} {r : Reach} {b0 base : Nat} {spare : Nat → Bool} {held : Bool} {W : World} {v : Value} {d : DataW H} {ps : List MemPlace} {t e : TypeId} {fs : Array Field} {ks : List IntKind}
    (ht : P.underlying t = some (.slice e)) (he : P.underlying e = some (.struct fs)) (hk : numFlds P fs ks = true) (hC : P.cellsOf e = fs.size) (h0 : 0 < fs.size) (hks : ks.length = fs.size)
    (hval : Value.okWide P W r b0 t v) (h : DataW.Trod enc P W base spare held t v d ps) : ∃ ao n cap, v = .slice ao n cap ∧ n ≤ cap ∧ (ao = none → cap = 0) ∧ cap ≤ maxLen ∧
      ∀ (k : Nat), k < n → ∃ b o, ao = some ⟨b, o, none⟩ ∧ ∀ i kd, ks[i]? = some kd → ∃ z : Int, W.cell? ⟨b, o + k * ks.length + i, none⟩ = some (.int kd z) ∧ (Lit.int kd z).wf = true := by
  obtain ⟨a0, len, cap, rfl⟩ := okWide_slice ht hval
  obtain ⟨fuel, hf⟩ := h
  refine ⟨a0, len, cap, rfl, ?_⟩
  rcases Go.Deep.open_slice ht hf with ⟨hcs, _⟩ | ⟨a, len', cap', m, n, D, Pl, hcs, hb, hl, hm, hmm, hx, hel⟩
  · simp [Value.cells] at hcs
    obtain ⟨rfl, rfl, rfl⟩ := hcs
    exact ⟨Nat.le_refl _, fun _ => rfl, Nat.zero_le _, fun k hk => absurd hk (Nat.not_lt_zero _)⟩
  · simp [Value.cells] at hcs
    obtain ⟨rfl, rfl, rfl⟩ := hcs
    refine ⟨hl, (fun e => by cases e), hm, fun k hkl => ?_⟩
    have hlm : len ≤ m := by rw [hmm]; split <;> omega
    obtain ⟨cs', h1, h2⟩ := hel k (by omega)
    rw [hC] at h1
    obtain ⟨_, hlen, hcell⟩ := World.cells?_some h1
    obtain ⟨xs, q, _, _, _, hxl, hfd⟩ := DataW.trod_struct he h2
    obtain ⟨b, o, spot⟩ := a
    have hspot : spot = none := by
      obtain ⟨cs0, g1, _⟩ := hel 0 (by omega)
      rw [hC] at g1
      obtain ⟨_, gl, gc⟩ := World.cells?_some g1
      have h3 := World.cell?_spot ((gc 0 (by omega)).trans (List.getElem?_eq_getElem (by omega)))
      simpa [Addr.add] using h3
    subst hspot
    refine ⟨b, o, rfl, fun i kd hi' => ?_⟩
    have hi : i < fs.size := by have := (List.getElem?_eq_some_iff.1 hi').1; omega
    obtain ⟨o1, o2, kk, e1, u⟩ := numFlds_at hk i fs[i] (Array.getElem?_eq_getElem hi)
    rw [hi'] at e1
    cases e1
    have g := hfd i fs[i] (Array.getElem?_eq_getElem hi)
    rw [List.getElem?_eq_getElem (by omega)] at g
    obtain ⟨z, hz, _, hw⟩ := DataW.trod_int u g
    rw [o1, o2, List.drop_eq_getElem_cons (by omega)] at hz
    have hz' : cs'[i]'(by omega) = .int kd z := by
      simp only [List.take_succ_cons, List.take_zero, List.cons.injEq] at hz
      exact hz.1
    have h3 := hcell i (by omega)
    rw [addr_plain, addr_plain] at h3
    refine ⟨z, ?_, hw⟩
    rw [hks]
    refine h3.trans ?_
    rw [List.getElem?_eq_getElem (by omega), hz']

set_option maxRecDepth 100000 in
theorem open_ops {H : Type} {enc : TypeId × Value → H} {r : Reach} {b0 base : Nat} {spare : Nat → Bool} {held : Bool} {W : World} {v : Value} {d : DataW H} {ps : List MemPlace}
    (hval : Value.okWide Tryd.prog W r b0 30 v) (h : DataW.Trod enc Tryd.prog W base spare held 30 v d ps) : ∃ ao N cap L, v = .slice ao N cap ∧ N = L.length ∧ RowO W ao cap L ∧ (∀ x ∈ L, O32 x) ∧ cap ≤ maxLen := by
  obtain ⟨ao, n, cap, rfl, hle, hn0, hmx, hel⟩ := open_structsKW (ks := [.i64, .i64, .u32, .u32]) Tryd.underlying30 Tryd.underlying29 (by kernel_rfl) Tryd.cellsOp (by decide) (by decide) hval h
  have key : ∀ k, k < n → ∃ x : O4, O32 x ∧ ∀ (c : Nat) (v : Value), (oc x)[c]? = some v → ∃ b o, ao = some ⟨b, o, none⟩ ∧ W.cell? ⟨b, o + k * 4 + c, none⟩ = some v := by
    intro k hkn
    obtain ⟨b, o, e, hc⟩ := hel k hkn
    obtain ⟨z0, h0, _⟩ := hc 0 .i64 rfl
    obtain ⟨z1, h1, _⟩ := hc 1 .i64 rfl
    obtain ⟨z2, h2, w2⟩ := hc 2 .u32 rfl
    obtain ⟨z3, h3, w3⟩ := hc 3 .u32 rfl
    have b2 := bounds_u32' w2
    have b3 := bounds_u32' w3
    refine ⟨(z0, z1, z2, z3), ⟨b2.1, b2.2, b3.1, b3.2⟩, fun c v hv => ⟨b, o, e, ?_⟩⟩
    match c, hv with
    | 0, hv => simp [oc] at hv; rw [← hv]; exact h0
    | 1, hv => simp [oc] at hv; rw [← hv]; exact h1
    | 2, hv => simp [oc] at hv; rw [← hv]; exact h2
    | 3, hv => simp [oc] at hv; rw [← hv]; exact h3
    | c + 4, hv => simp [oc] at hv
  obtain ⟨L, hL, hQ⟩ := list_of n key
  refine ⟨ao, n, cap, L, rfl, hL.symm, ⟨by rw [List.length_map]; omega, fun k hk c v hv => ?_, fun r hr => ⟨ocs_each L r hr, ocs_one L r hr⟩, hn0⟩, fun x hx => ?_, hmx⟩
  · rw [List.length_map] at hk
    rw [List.getElem_map] at hv
    exact (hQ k hk).2 c v hv
  · obtain ⟨k, hk, rfl⟩ := List.getElem_of_mem hx
    exact (hQ k hk).1

end Go.Proofs.YtbanihjjeicdaaaDoor
