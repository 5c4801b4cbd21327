/- DERIVED of the program: the project's model in memory; within, has, knows, Read, Waiting by their contracts. Own work. -/
import Derived.Test.YtncgjclehplfeaaDoorTsC
import Derived.Test.YtncgjclehplfeaaDoorGenR
namespace Go.Proofs.YtncgjclehplfeaaDoor
open Go.RowKit Go.Extern.Stop Go.Stop Go.Extern

/-- The project's model: its blocks, what waits, memory. -/
structure PM (w : World) (q : Nat) (S : List Nat) (N : Nat) (A : List (List (Int × Int))) (M : List Int) : Prop where
  ex : ∃ H C, Mdl shP w q H C M ∧ C.map Cr.L = A ∧ S = bks q H C ∧ ∀ c ∈ C, c.ok M.length N
  a64 : A.length ≤ 64
  m128 : M.length ≤ 128
theorem PM.mem {w : World} {q N : Nat} {S : List Nat} {A : List (List (Int × Int))} {M : List Int} (h : PM w q S N A M) : ∀ k ∈ S, k < w.heap.size := by
  obtain ⟨⟨H, C, h1, _, rfl, _⟩, _⟩ := h
  exact h1.memb
theorem PM.fr {w w' : World} {q N : Nat} {S T : List Nat} {A : List (List (Int × Int))} {M : List Int} (h : PM w q S N A M) (hf : Fr T w w') (hd : ∀ k ∈ S, k ∉ T) : PM w' q S N A M := by
  obtain ⟨⟨H, C, h1, h2, rfl, h3⟩, h4, h5⟩ := h
  exact ⟨⟨H, C, h1.fr hf hd, h2, rfl, h3⟩, h4, h5⟩
theorem PM.step {w w' : World} {q N : Nat} {S : List Nat} {A : List (List (Int × Int))} {M : List Int} (h : PM w q S N A M) (hb : Below w.heap.size w w') : PM w' q S N A M :=
  h.fr (Fr.of_below (S := []) hb) (fun _ _ hn => absurd hn List.not_mem_nil)
theorem PM.mono {w : World} {q N N' : Nat} {S : List Nat} {A : List (List (Int × Int))} {M : List Int} (h : PM w q S N A M) (hN : N ≤ N') : PM w q S N' A M := by
  obtain ⟨⟨H, C, h1, h2, rfl, h3⟩, h4, h5⟩ := h
  exact ⟨⟨H, C, h1, h2, rfl, fun c hc => (h3 c hc).mono hN⟩, h4, h5⟩
theorem PM.blk {w : World} {q N : Nat} {S : List Nat} {A : List (List (Int × Int))} {M : List Int} (h : PM w q S N A M) : ∃ ab capb am capm, w.heap[q]? = some (.cells #[.slice ab A.length capb, .slice am M.length capm] 85 (0, 0)) := by
  obtain ⟨⟨H, C, h1, h2, rfl, h3⟩, h4, h5⟩ := h
  have := h1.blk
  rw [← h2, List.length_map]
  exact ⟨_, _, _, _, this⟩
theorem PM.q {w : World} {q N : Nat} {S : List Nat} {A : List (List (Int × Int))} {M : List Int} (h : PM w q S N A M) : q ∈ S := by
  obtain ⟨⟨H, C, h1, h2, rfl, h3⟩, h4, h5⟩ := h
  exact mem_bks.2 (.inl rfl)
theorem PM.far {w : World} {q N k : Nat} {S : List Nat} {A : List (List (Int × Int))} {M : List Int} (h : PM w q S N A M) (hk : w.heap.size ≤ k) : k ∉ S := fun hm => by have := h.mem k hm; omega
/-- A core's part and memory's, as they are read. -/
theorem PM.core {w : World} {q N i : Nat} {S : List Nat} {A : List (List (Int × Int))} {M : List Int} (h : PM w q S N A M) (hi : i < A.length) : ∃ bb o capb c am capm, w.cell? ⟨q, 0, none⟩ = some (.slice (some ⟨bb, o, none⟩) A.length capb) ∧ w.cell? ⟨q, 1, none⟩ = some (.slice am M.length capm) ∧ CoreAt w bb (o + i * 3) c ∧ c.L = A.getD i [] ∧ c.ok M.length N ∧ OwnA 22 1 w 0 am M.length capm (M.map uc) := by
  obtain ⟨⟨H, C, h1, h2, rfl, h3⟩, h4, h5⟩ := h
  have hC : i < C.length := by rw [← h2, List.length_map] at hi; exact hi
  obtain ⟨bb, o, e, hc⟩ := h1.core (List.getElem?_eq_getElem hC)
  have hb := h1.blk
  rw [e] at hb
  refine ⟨bb, o, H.capb, C[i], H.am, H.capm, ?_, ?_, hc, ?_, h3 _ (List.getElem_mem hC), h1.mem⟩
  · rw [← h2, List.length_map]; exact blk_cell hb rfl
  · exact blk_cell hb rfl
  · rw [← h2]; simp [List.getD, hC]

theorem twithin_c (n a b : Int) (c : Bool) (h : wB n a b = c) (w : World) : Calls Tryd.prog 34 #[.int .i64 n, .int .i64 a, .int .i64 b] w fun r w' => r = .returned (.bool c) ∧ w' = w := by
  subst h
  by_cases h1 : a ≤ n
  · by_cases h2 : n ≤ b
    · have HE := Hid.in (wB_yes ⟨h1, h2⟩)
      go_enter Tryd.func34, Tryd.ntmps34
      go_wp2
      go_ret
      exact ⟨ret_bool HE.out.symm, rfl⟩
    · have HE := Hid.in (wB_no (n := n) (a := a) (b := b) (fun h => h2 h.2))
      go_enter Tryd.func34, Tryd.ntmps34
      go_wp2
      go_ret
      exact ⟨ret_bool HE.out.symm, rfl⟩
  · have HE := Hid.in (wB_no (n := n) (a := a) (b := b) (fun h => h1 h.1))
    go_enter Tryd.func34, Tryd.ntmps34
    go_wp2
    go_ret
    exact ⟨ret_bool HE.out.symm, rfl⟩

theorem thas_c (w : World) (q n capb : Nat) (ab : Option Addr) (hc : w.cell? ⟨q, 0, none⟩ = some (.slice ab n capb)) (hn : n ≤ 64) (c : Int) (b : Bool) (h : wB c 0 ((n : Int) - 1) = b) :
    Calls Tryd.prog 38 #[.pointer (some ⟨q, 0, none⟩), .int .i64 c] w fun r w' => r = .returned (.bool b) ∧ w' = w := by
  have hw : IntKind.i64.wrap ((n : Int) - 1) = (n : Int) - 1 := wrapI (by omega) (by omega)
  have HB := Hid.in h
  clear h
  go_enter Tryd.func38, Tryd.ntmps38
  go_wp2_with fail
  refine (twithin_c c 0 ((n : Int) - 1) b HB.out w).mono ?_
  rintro r w' ⟨rfl, rfl⟩
  go_wp2
  go_ret
  exact ⟨rfl, rfl⟩

theorem tread_c (w : World) (q N : Nat) (S : List Nat) (A : List (List (Int × Int))) (M : List Int) (hT : PM w q S N A M) (hN : N ≤ 100000) (c a : Nat) (hc : c < A.length) (ha : a < M.length) (v : Int) (hv : rdL (A.getD c []) M a = v) :
    Calls Tryd.prog 22 #[.pointer (some ⟨q, 0, none⟩), .int .i64 (c : Int), .int .i64 (a : Int)] w fun r w' => r = .returned (.tuple #[.int .u32 v, .bool true]) ∧ Below w.heap.size w w' := by
  obtain ⟨bb, o, capb, cr, am, capm, k0, k1, hco, hL, hok, hM⟩ := hT.core hc
  have a64 := hT.a64
  have m128 := hT.m128
  obtain ⟨mb, mo, em, hmc⟩ := hM.cell a (by simpa using ha) 0 (.int .u32 M[a]) (by simp [uc])
  subst em
  obtain ⟨x, y, hxy⟩ : ∃ x y, fwdL cr.L (a : Int) = (x, y) := ⟨_, _, rfl⟩
  have HV : Hid (if y = true then x = v else M[a] = v) := Hid.in (by
    rw [← hL] at hv
    unfold rdL at hv
    rw [hxy] at hv
    split
    · rename_i h; rw [if_pos h] at hv; exact hv
    · rename_i h; rw [if_neg h] at hv; rw [← hv]; simp [List.getD, ha])
  have HF := Hid.in (fwd_raw w bb (o + c * 3) M.length N cr hco hok hN a ha x y hxy)
  obtain ⟨nA, hnA⟩ : ∃ n, A.length = n := ⟨_, rfl⟩
  obtain ⟨nM, hnM⟩ : ∃ n, M.length = n := ⟨_, rfl⟩
  rw [hnA] at k0 hc a64
  rw [hnM] at k1 m128
  have HA : Hid (a < nM) := Hid.in (by omega)
  have HHS := Hid.in (thas_c w q nA capb _ k0 a64 (c : Int) true (wB_yes ⟨by omega, by omega⟩))
  obtain ⟨z, hz⟩ : ∃ z : Int, M[a] = z := ⟨_, rfl⟩
  rw [hz] at hmc HV
  have hw : IntKind.i64.wrap ((nM : Int) - 1) = (nM : Int) - 1 := wrapI (by omega) (by omega)
  have HW : Hid (wB (a : Int) 0 ((nM : Int) - 1) = true) := Hid.in (wB_yes ⟨by omega, by omega⟩)
  have i1 : (c : Int) < (nA : Int) := by omega
  have i2 : (a : Int) < (nM : Int) := by omega
  have hqz := lt_cell k0
  have hmz := lt_cell hmc
  rw [Nat.mul_one, Nat.add_zero] at hmc
  clear hT hco hok hM hL hv hxy hnA hnM hz hN a64 m128 hc ha
  go_enter Tryd.func22, Tryd.ntmps22
  go_wp2_with fail
  refine HHS.out.mono ?_
  rintro r w' ⟨rfl, rfl⟩
  go_wp2_with fail
  refine (twithin_c (a : Int) 0 ((nM : Int) - 1) true HW.out _).mono ?_
  rintro r w' ⟨rfl, rfl⟩
  go_wp2_with fail
  refine HF.out.mono ?_
  rintro r w1 ⟨rfl, hb⟩
  have HB := Hid.in hb
  have j0 : w1.cell? ⟨q, 1, none⟩ = _ := (hb.cell (p := ⟨q, 1, none⟩) (lt_cell k1)).trans k1
  have j1 : w1.cell? ⟨mb, mo + a, none⟩ = _ := (hb.cell (p := ⟨mb, mo + a, none⟩) hmz).trans hmc
  clear hb
  cases y with
  | true =>
    have h0 : x = v := by simpa using HV.out
    subst h0
    go_wp2
    go_ret2
    exact ⟨rfl, HB.out⟩
  | false =>
    have h0 : z = v := by simpa using HV.out
    subst h0
    go_wp2
    go_ret2
    exact ⟨rfl, HB.out⟩

/-- Of a core or a word that is none. -/
theorem tread_no (w : World) (q N : Nat) (S : List Nat) (A : List (List (Int × Int))) (M : List Int) (hT : PM w q S N A M) (c a : Int) (hca : wB c 0 ((A.length : Int) - 1) = false ∨ wB a 0 ((M.length : Int) - 1) = false) :
    Calls Tryd.prog 22 #[.pointer (some ⟨q, 0, none⟩), .int .i64 c, .int .i64 a] w fun r w' => r = .returned (.tuple #[.int .u32 0, .bool false]) ∧ w' = w := by
  obtain ⟨ab, capb, am, capm, hq⟩ := hT.blk
  have k0 : w.cell? ⟨q, 0, none⟩ = some (.slice ab A.length capb) := blk_cell hq rfl
  have k1 : w.cell? ⟨q, 1, none⟩ = some (.slice am M.length capm) := blk_cell hq rfl
  have a64 := hT.a64
  have m128 := hT.m128
  obtain ⟨nA, hnA⟩ : ∃ n, A.length = n := ⟨_, rfl⟩
  obtain ⟨nM, hnM⟩ : ∃ n, M.length = n := ⟨_, rfl⟩
  rw [hnA] at k0 hca a64
  rw [hnM] at k1 m128 hca
  obtain ⟨b, hb⟩ : ∃ b, wB c 0 ((nA : Int) - 1) = b := ⟨_, rfl⟩
  have HHS := Hid.in (thas_c w q nA capb _ k0 a64 c b hb)
  have hw : IntKind.i64.wrap ((nM : Int) - 1) = (nM : Int) - 1 := wrapI (by omega) (by omega)
  cases b with
  | false =>
    clear hT hq hca hb hnA hnM
    go_enter Tryd.func22, Tryd.ntmps22
    go_wp2_with fail
    refine HHS.out.mono ?_
    rintro r w' ⟨rfl, rfl⟩
    go_wp2
    go_ret2
    exact ⟨rfl, rfl⟩
  | true =>
    have HW : Hid (wB a 0 ((nM : Int) - 1) = false) := Hid.in (by rcases hca with h | h; (· rw [hb] at h; cases h); exact h)
    clear hT hq hca hb hnA hnM
    go_enter Tryd.func22, Tryd.ntmps22
    go_wp2_with fail
    refine HHS.out.mono ?_
    rintro r w' ⟨rfl, rfl⟩
    go_wp2_with fail
    refine (twithin_c a 0 ((nM : Int) - 1) false HW.out _).mono ?_
    rintro r w' ⟨rfl, rfl⟩
    go_wp2
    go_ret2
    exact ⟨rfl, rfl⟩

theorem twait_c (w : World) (q N : Nat) (S : List Nat) (A : List (List (Int × Int))) (M : List Int) (hT : PM w q S N A M) (c : Nat) (hc : c < A.length) (n : Nat) (hn : (A.getD c []).length = n) :
    Calls Tryd.prog 25 #[.pointer (some ⟨q, 0, none⟩), .int .i64 (c : Int)] w fun r w' => r = .returned (.int .i64 (n : Int)) ∧ w' = w := by
  obtain ⟨bb, o, capb, cr, am, capm, k0, k1, hco, hL, hok, hM⟩ := hT.core hc
  have a64 := hT.a64
  have c0 := hco.c0
  rw [hL, hn] at c0
  obtain ⟨nA, hnA⟩ : ∃ n, A.length = n := ⟨_, rfl⟩
  rw [hnA] at k0 hc a64
  have HHS := Hid.in (thas_c w q nA capb _ k0 a64 (c : Int) true (wB_yes ⟨by omega, by omega⟩))
  have i1 : (c : Int) < (nA : Int) := by omega
  clear hT hco hok hM hL hnA a64 hc hn
  go_enter Tryd.func25, Tryd.ntmps25
  go_wp2_with fail
  refine HHS.out.mono ?_
  rintro r w' ⟨rfl, rfl⟩
  go_wp2
  go_ret
  exact ⟨rfl, rfl⟩
theorem twait_no (w : World) (q N : Nat) (S : List Nat) (A : List (List (Int × Int))) (M : List Int) (hT : PM w q S N A M) (c : Int) (hc : wB c 0 ((A.length : Int) - 1) = false) :
    Calls Tryd.prog 25 #[.pointer (some ⟨q, 0, none⟩), .int .i64 c] w fun r w' => r = .returned (.int .i64 0) ∧ w' = w := by
  obtain ⟨ab, capb, am, capm, hq⟩ := hT.blk
  have k0 : w.cell? ⟨q, 0, none⟩ = some (.slice ab A.length capb) := blk_cell hq rfl
  have HHS := Hid.in (thas_c w q A.length capb _ k0 hT.a64 c false hc)
  clear hT hc hq k0
  go_enter Tryd.func25, Tryd.ntmps25
  go_wp2_with fail
  refine HHS.out.mono ?_
  rintro r w' ⟨rfl, rfl⟩
  go_wp2
  go_ret
  exact ⟨rfl, rfl⟩
end Go.Proofs.YtncgjclehplfeaaDoor
