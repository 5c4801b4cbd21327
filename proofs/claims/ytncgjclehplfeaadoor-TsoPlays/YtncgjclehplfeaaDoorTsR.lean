/- DERIVED of the program: the document's own model in memory; New, Read by their contracts. Own work. -/
import Derived.Test.YtncgjclehplfeaaDoorTsT2
namespace Go.Proofs.YtncgjclehplfeaaDoor
open Go.RowKit Go.Extern.Stop Go.Stop Go.Extern

abbrev shR : Sh := ⟨56, 59, 90, 3, 22, rc, 1⟩
/-- The document's model: its blocks, what waits, memory. -/
structure RM (w : World) (q : Nat) (S : List Nat) (N : Nat) (A : List (List (Int × Int))) (M : List Int) : Prop where
  ex : ∃ H C, Mdl shR w q H C M ∧ C.map Cr.L = A ∧ S = bks q H C
  n : ∀ l ∈ A, l.length ≤ N
  a64 : A.length ≤ 64
  m128 : M.length ≤ 128
theorem RM.mem {w : World} {q N : Nat} {S : List Nat} {A : List (List (Int × Int))} {M : List Int} (h : RM w q S N A M) : ∀ k ∈ S, k < w.heap.size := by
  obtain ⟨⟨H, C, h1, _, rfl⟩, _⟩ := h
  exact h1.memb
theorem RM.fr {w w' : World} {q N : Nat} {S T : List Nat} {A : List (List (Int × Int))} {M : List Int} (h : RM w q S N A M) (hf : Fr T w w') (hd : ∀ k ∈ S, k ∉ T) : RM w' q S N A M := by
  obtain ⟨⟨H, C, h1, h2, rfl⟩, h3, h4, h5⟩ := h
  exact ⟨⟨H, C, h1.fr hf hd, h2, rfl⟩, h3, h4, h5⟩
theorem RM.step {w w' : World} {q N : Nat} {S : List Nat} {A : List (List (Int × Int))} {M : List Int} (h : RM w q S N A M) (hb : Below w.heap.size w w') : RM w' q S N A M :=
  h.fr (Fr.of_below (S := []) hb) (fun _ _ hn => absurd hn List.not_mem_nil)
theorem RM.mono {w : World} {q N N' : Nat} {S : List Nat} {A : List (List (Int × Int))} {M : List Int} (h : RM w q S N A M) (hN : N ≤ N') : RM w q S N' A M :=
  ⟨h.ex, fun l hl => Nat.le_trans (h.n l hl) hN, h.a64, h.m128⟩
theorem RM.far {w : World} {q N k : Nat} {S : List Nat} {A : List (List (Int × Int))} {M : List Int} (h : RM w q S N A M) (hk : w.heap.size ≤ k) : k ∉ S := fun hm => by have := h.mem k hm; omega
theorem RM.blk {w : World} {q N : Nat} {S : List Nat} {A : List (List (Int × Int))} {M : List Int} (h : RM w q S N A M) : ∃ ab capb am capm, w.heap[q]? = some (.cells #[.slice ab A.length capb, .slice am M.length capm] 56 (0, 0)) := by
  obtain ⟨⟨H, C, h1, h2, rfl⟩, _⟩ := h
  have := h1.blk
  rw [← h2, List.length_map]
  exact ⟨_, _, _, _, this⟩
/-- A call made this of the document's model. -/
structure RTurned (w w' : World) (q : Nat) (S S' : List Nat) (N : Nat) (A : List (List (Int × Int))) (M : List Int) : Prop where
  p : RM w' q S' N A M
  f : Fr S w w'
  s : ∀ k ∈ S', k ∈ S ∨ w.heap.size ≤ k
theorem RTurned.same {w w' : World} {q N : Nat} {S : List Nat} {A : List (List (Int × Int))} {M : List Int} (h : RM w q S N A M) (hb : Below w.heap.size w w') : RTurned w w' q S S N A M := ⟨h.step hb, Fr.of_below hb, fun _ hk => .inl hk⟩
theorem RTurned.after {w w1 w' : World} {q N : Nat} {S S' : List Nat} {A : List (List (Int × Int))} {M : List Int} (hb : Below w.heap.size w w1) (h : RTurned w1 w' q S S' N A M) : RTurned w w' q S S' N A M :=
  ⟨h.p, (Fr.of_below hb).trans h.f, fun k hk => (h.s k hk).imp id (fun h1 => Nat.le_trans hb.size h1)⟩
theorem RTurned.then {w w1 w' : World} {q N : Nat} {S S' : List Nat} {A : List (List (Int × Int))} {M : List Int} (h : RTurned w w1 q S S' N A M) (hb : Below w1.heap.size w1 w') : RTurned w w' q S S' N A M :=
  ⟨h.p.step hb, h.f.trans (Fr.of_below hb), h.s⟩
theorem RTurned.mono {w w' : World} {q N N' : Nat} {S S' : List Nat} {A : List (List (Int × Int))} {M : List Int} (h : RTurned w w' q S S' N A M) (hN : N ≤ N') : RTurned w w' q S S' N' A M := ⟨h.p.mono hN, h.f, h.s⟩
theorem RTurned.trans {w w1 w2 : World} {q N N' : Nat} {S S1 S2 : List Nat} {A A' : List (List (Int × Int))} {M M' : List Int} (h : RTurned w w1 q S S1 N A M) (h' : RTurned w1 w2 q S1 S2 N' A' M') : RTurned w w2 q S S2 N' A' M' := by
  refine ⟨h'.p, ⟨h'.f.os.trans h.f.os, h'.f.tape.trans h.f.tape, h'.f.output.trans h.f.output, Nat.le_trans h.f.size h'.f.size, fun k hk hn => ?_⟩, fun k hk => ?_⟩
  · refine (h'.f.block k (Nat.lt_of_lt_of_le hk h.f.size) (fun h1 => ?_)).trans (h.f.block k hk hn)
    rcases h.s k h1 with h2 | h2
    · exact hn h2
    · omega
  · rcases h'.s k hk with h1 | h1
    · exact h.s k h1
    · exact .inr (Nat.le_trans h.f.size h1)

/-- A core's row, as it is read and as it is written anew. -/
theorem RM.row {w : World} {q N i : Nat} {S : List Nat} {A : List (List (Int × Int))} {M : List Int} (h : RM w q S N A M) (hi : i < A.length) : ∃ bb o capb ao cap, w.cell? ⟨q, 0, none⟩ = some (.slice (some ⟨bb, o, none⟩) A.length capb) ∧ w.cell? ⟨bb, o + i, none⟩ = some (.slice ao (A.getD i []).length cap) ∧ w.frozen? ⟨bb, o + i, none⟩ = false ∧ OwnA 90 2 w 0 ao (A.getD i []).length cap ((A.getD i []).map wc) ∧
    (∀ k, oblk ao = some k → k ≠ bb) ∧ ∀ (w1 : World) (ao' : Option Addr) (cap' : Nat) (L' : List (Int × Int)), Below w.heap.size w w1 → OwnA 90 2 w1 0 ao' L'.length cap' (L'.map wc) → (∀ k, oblk ao' = some k → oblk ao = some k ∨ w.heap.size ≤ k) → L'.length ≤ N + 1 →
      ∃ S', RTurned w (w1.setCell ⟨bb, o + i, none⟩ (.slice ao' L'.length cap')) q S S' (N + 1) (A.set i L') M := by
  obtain ⟨⟨H, C, h1, h2, rfl⟩, h3, h4, h5⟩ := h
  have hC : i < C.length := by rw [← h2, List.length_map] at hi; exact hi
  obtain ⟨c, hc⟩ : ∃ c, C[i]? = some c := ⟨_, List.getElem?_eq_getElem hC⟩
  have hce : C[i] = c := by rw [List.getElem?_eq_getElem hC] at hc; exact Option.some.inj hc
  have hL : A.getD i [] = c.L := by rw [← h2]; simp [List.getD, hC, hce]
  obtain ⟨bb, o, e, hcell⟩ := h1.own.cell i (by simpa using hC) 0 (.slice c.ao c.L.length c.cap) (by simp [rc, hce])
  obtain ⟨g, of, cur, e2, _, hh, _⟩ := h1.own.at_ _ e
  cases e2
  have hb := h1.blk
  rw [e] at hb
  obtain ⟨a1, a2, a3, a4⟩ := h1.apart hc
  have hbb : oblk H.ab = some bb := by rw [e]; rfl
  have hcr := h1.each c (List.mem_of_getElem? hc)
  have hqb : q ≠ bb := fun e => a1 bb hbb e.symm
  have hbc : bb ∉ c.blks := fun hk => (a3 bb hk).2.1 hbb
  have hbl : bb < w.heap.size := blk_lt hh
  have hal : ∀ k, oblk c.al = some k → k ∈ c.blks := fun k hk => List.mem_append_right _ (Option.mem_toList.2 hk)
  have hao : ∀ k, oblk c.ao = some k → k ∈ c.blks := fun k hk => List.mem_append_left _ (Option.mem_toList.2 hk)
  rw [hL]
  refine ⟨bb, o, H.capb, c.ao, c.cap, by rw [← h2, List.length_map]; exact blk_cell hb rfl, by simpa using hcell, blk_free hh, hcr.s, fun k hk e => hbc (by rw [← e]; exact hao k hk), fun w1 ao' cap' L' hb1 hO hn hlen => ?_⟩
  have hsz := hb1.size
  have keep : ∀ k, k < w.heap.size → k ≠ bb → (w1.setCell ⟨bb, o + i, none⟩ (.slice ao' L'.length cap')).heap[k]? = w.heap[k]? := fun k hk h => by
    rw [Below.heap_setCell _ _ _ k h, hb1.block k hk]
  have hown := h1.own
  rw [e] at hown
  have hp := (hown.step hb1).putc (by decide) i hC (rc c) (by rw [List.getElem?_map, hc]; rfl) 0 (by decide) (.slice ao' L'.length cap')
  rw [Nat.mul_one, Nat.add_zero] at hp
  obtain ⟨u1, u2⟩ := h1.upd (w2 := w1.setCell ⟨bb, o + i, none⟩ (.slice ao' L'.length cap')) hc ⟨ao', cap', L', c.g, c.al, c.lcap, c.T⟩ M rfl
    (keep q (blk_lt h1.blk) hqb)
    (by rw [List.map_set, e]; exact hp)
    (h1.mem.keep (fun k hk => keep k (by obtain ⟨_, _, h⟩ := h1.mem.blk k hk; exact blk_lt h) (fun e2 => (a2 k hk).2 (by rw [e2]; exact hbb))))
    ⟨hO.keep (fun k hk => Below.heap_setCell _ _ _ k (fun e2 => by
      have e3 : k = bb := e2
      rcases hn k hk with h | h
      · exact hbc (by rw [← e3]; exact hao k h)
      · omega)), hcr.l.keep (fun k hk => keep k (hcr.lt k (hal k hk)) (fun e2 => hbc (by rw [← e2]; exact hal k hk)))⟩
    (fun k hk _ _ hab _ => keep k (h1.memb k hk) (fun e2 => hab (by rw [e2]; exact hbb)))
    (fun k hk => by
      rcases List.mem_append.1 hk with hk | hk
      · rcases hn k (Option.mem_toList.1 hk) with h | h
        · exact .inl (hao k h)
        · exact .inr h
      · exact .inl (List.mem_append_right _ hk))
    (blks_nodup (fun k hk e2 => by
      rcases hn k e2 with h | h
      · exact nodup_blks a4 k hk h
      · have := hcr.lt k (hal k hk); omega))
  refine ⟨_, ⟨⟨_, _, u1, by rw [List.map_set, h2], rfl⟩, fun l hl => ?_, by rw [List.length_set]; exact h4, h5⟩, ⟨hb1.os, hb1.tape, hb1.output, by simpa [World.setCell] using hsz, fun k hk hn2 => keep k hk (fun e2 => hn2 (mem_bks.2 (.inr (.inl (by rw [e2]; exact hbb)))))⟩, u2⟩
  rcases List.mem_or_eq_of_mem_set hl with hl | rfl
  · exact Nat.le_succ_of_le (h3 l hl)
  · exact hlen
theorem RM.mset {w : World} {q N a : Nat} {S : List Nat} {A : List (List (Int × Int))} {M : List Int} (hT : RM w q S N A M) (ha : a < M.length) : ∃ mb mo capm, w.cell? ⟨q, 1, none⟩ = some (.slice (some ⟨mb, mo, none⟩) M.length capm) ∧ w.cell? ⟨mb, mo + a, none⟩ = some (.int .u32 (M.getD a 0)) ∧ w.frozen? ⟨mb, mo + a, none⟩ = false ∧
    ∀ v, RTurned w (w.setCell ⟨mb, mo + a, none⟩ (.int .u32 v)) q S S N A (M.set a v) := by
  obtain ⟨⟨H, C, h1, h2, rfl⟩, h3, h4, h5⟩ := hT
  obtain ⟨mb, mo, em, hmc⟩ := h1.mem.cell a (by simpa using ha) 0 (.int .u32 M[a]) (by simp [uc])
  have hb := h1.blk
  rw [em] at hb
  obtain ⟨g, of, cur, e3, _, hh, _⟩ := h1.mem.at_ _ em
  cases e3
  refine ⟨mb, mo, H.capm, blk_cell hb rfl, by simp [List.getD, ha]; simpa using hmc, blk_free hh, fun v => ?_⟩
  obtain ⟨m1, m2⟩ := h1.mset ha em v
  exact ⟨⟨⟨H, C, m1, h2, rfl⟩, h3, h4, by rw [List.length_set]; exact h5⟩, m2, fun _ hk => .inl hk⟩
theorem RM.mrow {w : World} {q N : Nat} {S : List Nat} {A : List (List (Int × Int))} {M : List Int} (h : RM w q S N A M) : ∃ am capm, w.cell? ⟨q, 1, none⟩ = some (.slice am M.length capm) ∧ RowU w am capm M := by
  obtain ⟨⟨H, C, h1, _⟩, _⟩ := h
  exact ⟨H.am, H.capm, blk_cell h1.blk rfl, Rows'.us h1.mem⟩

theorem rdL_take1 {L : List (Int × Int)} {M : List Int} {j a : Nat} {x y : Int} (h : L[j]? = some (x, y)) : rdL (L.take (j + 1)) M a = if x = (a : Int) then y else rdL (L.take j) M a := by
  unfold rdL
  rw [fwdL_take _ h]
  by_cases hx : x = (a : Int)
  · simp [hx]
  · simp [hx]
theorem rread_c (w : World) (q N : Nat) (S : List Nat) (A : List (List (Int × Int))) (M : List Int) (hT : RM w q S N A M) (hN : N ≤ 100000) (c a : Nat) (hc : c < A.length) (ha : a < M.length) (v : Int) (hv : rdL (A.getD c []) M a = v) :
    Calls Tryd.prog 23 #[.pointer (some ⟨q, 0, none⟩), .int .i64 (c : Int), .int .i64 (a : Int)] w fun r w' => r = .returned (.int .u32 v) ∧ w' = w := by
  obtain ⟨bb, o, capb, ao, cap, k0, k1, _, hO, _, _⟩ := hT.row hc
  obtain ⟨mb, mo, capm, k2, k3, _, _⟩ := hT.mset ha
  have hlen : (A.getD c []).length ≤ N := hT.n _ (by
    have hcA : A.getD c [] = A[c] := by simp [List.getD, hc]
    rw [hcA]; exact List.getElem_mem hc)
  obtain ⟨L, hL⟩ : ∃ L, A.getD c [] = L := ⟨_, rfl⟩
  rw [hL] at k1 hO hv hlen
  obtain ⟨n, hn⟩ : ∃ n, L.length = n := ⟨_, rfl⟩
  rw [hn] at k1 hO hlen
  obtain ⟨nA, hnA⟩ : ∃ n, A.length = n := ⟨_, rfl⟩
  obtain ⟨nM, hnM⟩ : ∃ n, M.length = n := ⟨_, rfl⟩
  rw [hnA] at k0 hc
  rw [hnM] at k2 ha
  have HO := Hid.in hO
  have HV : Hid (rdL (L.take n) M a = v) := Hid.in (by rw [List.take_of_length_le (by omega)]; exact hv)
  obtain ⟨z, hz⟩ : ∃ z, M.getD a 0 = z := ⟨_, rfl⟩
  have HZ := Hid.in hz
  rw [hz] at k3
  have i1 : (c : Int) < (nA : Int) := by omega
  have i2 : (a : Int) < (nM : Int) := by omega
  have hn5 : n ≤ 100000 := by omega
  clear hT hO hv hL hn hnA hnM hz hc ha hlen hN
  go_enter Tryd.func23, Tryd.ntmps23
  go_wp2
  go_loopw [8] (fun x wr => ∃ j : Nat, j ≤ n ∧ x = .int .i64 ((j : Int) - 1) ∧ rdL (L.take j) M a = v ∧ wr = w) (fun x _ => (intOf x + 1).toNat)
  case atStart => exact ⟨n, Nat.le_refl _, by go_num, HV.out, rfl⟩
  case round =>
    obtain ⟨j, hj, rfl, hr, rfl⟩ := hrel
    have HJ := Hid.in hr
    clear hr HV
    cases j with
    | zero =>
      have h0 := HJ.out
      rw [List.take_zero, rdL_nil, HZ.out] at h0
      subst h0
      go_wp2
      go_ret
      exact ⟨rfl, rfl⟩
    | succ i =>
      obtain ⟨b1, o1, x, y, rfl, x1, x2, hxy⟩ := HO.out.wat i (by omega)
      have h0 := HJ.out
      rw [rdL_take1 hxy] at h0
      have e1 : (((i + 1 : Nat) : Int) - 1) = (i : Int) := by omega
      rw [e1]
      have i3 : (i : Int) < (n : Int) := by omega
      clear HJ hxy e1
      by_cases hxa : x = (a : Int)
      · rw [if_pos hxa] at h0
        subst h0
        subst hxa
        go_wp2
        go_ret
        exact ⟨rfl, rfl⟩
      · rw [if_neg hxa] at h0
        have HJ := Hid.in h0
        have hx0 : (x == (a : Int)) = false := by simpa using hxa
        clear h0 hxa
        go_wp2
        go_roundw
        case rel => exact ⟨i, by omega, by go_num, HJ.out, trivial⟩
        case measure => simp [intOf]
end Go.Proofs.YtncgjclehplfeaaDoor
