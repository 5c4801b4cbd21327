/- DERIVED of the program: a table of misses in memory; New, Get, List, Full, Add and Drop by their contracts. Own work. -/
import Derived.Test.YtbljopjjmlacpaaDoorMsPure
import Derived.Deep.WholeRow
namespace Go.Proofs.YtbljopjjmlacpaaDoor
open Go.RowKit Go.Extern.Stop Go.Stop Go.Extern

abbrev opMNew : ByteArray := ⟨#[109, 115, 104, 114, 46, 78, 101, 119]⟩
abbrev opMAdd : ByteArray := ⟨#[109, 115, 104, 114, 46, 65, 100, 100]⟩

/-- A table in memory. -/
structure Tbl (w : World) (q m : Nat) (K : List Int) : Prop where
  b : w.heap[q]? = some (.cells (Value.int .i64 (m : Int) :: ivs K).toArray 60 (0, 0))
  len : K.length = 32
  m1 : 1 ≤ m
  m8 : m ≤ 8

theorem Tbl.lt {w : World} {q m : Nat} {K : List Int} (h : Tbl w q m K) : q < w.heap.size := blk_lt h.b
theorem Tbl.kept {w w' : World} {q m lo hi : Nat} {K : List Int} (h : Tbl w q m K) (ha : Apart lo hi w w') (hd : ¬ (lo ≤ q ∧ q < hi)) : Tbl w' q m K :=
  ⟨(ha.block q h.lt hd).trans h.b, h.len, h.m1, h.m8⟩
theorem Tbl.step {w w' : World} {q m : Nat} {K : List Int} (h : Tbl w q m K) (hb : Below w.heap.size w w') : Tbl w' q m K :=
  ⟨(hb.block q h.lt).trans h.b, h.len, h.m1, h.m8⟩
theorem Tbl.c0 {w : World} {q m : Nat} {K : List Int} (h : Tbl w q m K) : w.cell? ⟨q, 0, none⟩ = some (.int .i64 (m : Int)) := blk_cell h.b rfl
theorem Tbl.ck {w : World} {q m : Nat} {K : List Int} (h : Tbl w q m K) (n : Nat) (hn : n < 32) : w.cell? ⟨q, 1 + n, none⟩ = some (.int .i64 (K.getD n 0)) := by
  rw [Nat.add_comm]
  refine blk_cell h.b ?_
  have hl : n < K.length := by rw [h.len]; exact hn
  simp [ivs, List.getD_eq_getElem?_getD, hl]
theorem Tbl.fk {w : World} {q m : Nat} {K : List Int} (h : Tbl w q m K) (n : Nat) : w.frozen? ⟨q, n, none⟩ = false := blk_free h.b
theorem Tbl.set {w : World} {q m : Nat} {K : List Int} (h : Tbl w q m K) (n : Nat) (v : Int) : Tbl (w.setCell ⟨q, 1 + n, none⟩ (.int .i64 v)) q m (K.set n v) := by
  rw [Nat.add_comm]
  refine ⟨?_, by simpa using h.len, h.m1, h.m8⟩
  rw [blk_set _ h.b]
  simp [ivs, List.map_set]

theorem mwithin_any (n a b : Int) (w : World) : Calls Tryd.prog 22 #[.int .i64 n, .int .i64 a, .int .i64 b] w fun r w' => r = .returned (.bool (wB n a b)) ∧ w' = w := by
  by_cases h1 : a ≤ n
  · by_cases h2 : n ≤ b
    · have HE := Hid.in (wB_yes ⟨h1, h2⟩)
      go_enter Tryd.func22, Tryd.ntmps22
      go_wp2
      go_ret
      exact ⟨ret_bool HE.out.symm, rfl⟩
    · have HE := Hid.in (wB_no (n := n) (a := a) (b := b) (fun h => h2 h.2))
      go_enter Tryd.func22, Tryd.ntmps22
      go_wp2
      go_ret
      exact ⟨ret_bool HE.out.symm, rfl⟩
  · have HE := Hid.in (wB_no (n := n) (a := a) (b := b) (fun h => h1 h.1))
    go_enter Tryd.func22, Tryd.ntmps22
    go_wp2
    go_ret
    exact ⟨ret_bool HE.out.symm, rfl⟩
theorem mwithin_c (n a b : Int) (c : Bool) (h : wB n a b = c) (w : World) : Calls Tryd.prog 22 #[.int .i64 n, .int .i64 a, .int .i64 b] w fun r w' => r = .returned (.bool c) ∧ w' = w := by
  rw [← h]; exact mwithin_any n a b w
theorem misLine_c (n : Int) (c : Bool) (h : isL n = c) (w : World) : Calls Tryd.prog 24 #[.int .i64 n] w fun r w' => r = .returned (.bool c) ∧ w' = w := by
  have HC := Hid.in h
  clear h
  go_enter Tryd.func24, Tryd.ntmps24
  go_wp2_with fail
  refine (mwithin_c n 0 31 c HC.out w).mono ?_
  rintro r w' ⟨rfl, rfl⟩
  go_wp2
  go_ret
  exact ⟨rfl, rfl⟩

theorem mnew_arg (w : World) (sa : Nat → Addr) (hE : Env10 w sa) (n : Int) (h : wB n 1 8 = false) :
    Calls Tryd.prog 8 #[.int .i64 n] w fun r w' => r = .returned (.tuple #[.pointer none, perr sa 1 opMNew n]) ∧ w' = w := by
  have hg : w.cell? ⟨0, 0, none⟩ = some (snt (sa 1)) := hE.g 1 (by omega) (by omega)
  have HC := Hid.in h
  clear h hE
  go_enter Tryd.func8, Tryd.ntmps8
  go_wp2_with fail
  refine (mwithin_c n 1 8 false HC.out w).mono ?_
  rintro r w' ⟨rfl, rfl⟩
  go_wp2_with fail
  refine (wrap_some _ n _ _ w').mono ?_
  rintro r w'' ⟨rfl, rfl⟩
  go_wp2
  go_ret2
  exact ⟨rfl, rfl⟩

set_option maxRecDepth 20000 in
theorem mnew_ok (w : World) (m : Nat) (h1 : 1 ≤ m) (h8 : m ≤ 8) :
    Calls Tryd.prog 8 #[.int .i64 (m : Int)] w fun r w' => r = .returned (.tuple #[.pointer (some ⟨w.heap.size, 0, none⟩), .nilIface]) ∧ Tbl w' w.heap.size m newK ∧ Below w.heap.size w w' := by
  have HC : Hid (wB (m : Int) 1 8 = true) := Hid.in (wB_yes ⟨by omega, by omega⟩)
  go_enter Tryd.func8, Tryd.ntmps8
  go_wp2_with fail
  refine (mwithin_c _ 1 8 true HC.out w).mono ?_
  rintro r w' ⟨rfl, rfl⟩
  go_wp2
  go_ret2
  exact ⟨rfl, ⟨heap_alloc_new _ _, by simp [newK], h1, h8⟩, below_alloc _ _⟩

theorem mget_any (w : World) (q m : Nat) (K : List Int) (hT : Tbl w q m K) (l : Int) :
    Calls Tryd.prog 10 #[.pointer (some ⟨q, 0, none⟩), .int .i64 l] w fun r w' => r = .returned (.tuple #[.int .i64 (getK K l).1, .bool (getK K l).2]) ∧ w' = w := by
  cases hl : isL l with
  | false =>
    rw [getK_none hl]
    have HL := Hid.in hl
    clear hl hT
    go_enter Tryd.func10, Tryd.ntmps10
    go_wp2_with fail
    refine (misLine_c l false HL.out w).mono ?_
    rintro r w' ⟨rfl, rfl⟩
    go_wp2
    go_ret2
    exact ⟨rfl, rfl⟩
  | true =>
    have HL := Hid.in hl
    obtain ⟨n, rfl, hn⟩ := isL_of hl
    clear hl
    have hc := hT.ck n hn
    have hn2 : (n : Int) < 32 := by omega
    rw [getK_at K n hn]
    clear hT
    by_cases hz : K.getD n 0 = 0
    · rw [if_pos hz]
      rw [hz] at hc
      clear hz
      go_enter Tryd.func10, Tryd.ntmps10
      go_wp2_with fail
      refine (misLine_c n true HL.out w).mono ?_
      rintro r w' ⟨rfl, rfl⟩
      go_wp2
      go_ret2
      exact ⟨rfl, rfl⟩
    · rw [if_neg hz]
      generalize K.getD n 0 = k at hz hc
      have hz1 : (k == 0) = false := by simpa using hz
      go_enter Tryd.func10, Tryd.ntmps10
      go_wp2_with fail
      refine (misLine_c n true HL.out w).mono ?_
      rintro r w' ⟨rfl, rfl⟩
      go_wp2
      go_ret2
      exact ⟨rfl, rfl⟩
theorem mget_c (w : World) (q m : Nat) (K : List Int) (hT : Tbl w q m K) (l k : Int) (b : Bool) (h : getK K l = (k, b)) :
    Calls Tryd.prog 10 #[.pointer (some ⟨q, 0, none⟩), .int .i64 l] w fun r w' => r = .returned (.tuple #[.int .i64 k, .bool b]) ∧ w' = w := by
  have := mget_any w q m K hT l
  rw [h] at this
  exact this

/-- The cells of a row of misses. -/
def mc (x : Int × Int) : List Value := [.int .i64 x.1, .int .i64 x.2]
theorem mc_one (x : Int × Int) : ∀ v ∈ mc x, v.oneCell' = true := by
  intro v hv
  simp only [mc, List.mem_cons, List.not_mem_nil, or_false] at hv
  rcases hv with rfl | rfl <;> rfl
theorem mcs_one (L : List (Int × Int)) : ∀ r ∈ L.map mc, ∀ v ∈ r, v.oneCell' = true := by
  intro r hr
  obtain ⟨x, _, rfl⟩ := List.mem_map.1 hr
  exact mc_one x

/-- The call's own row of misses. -/
abbrev OwnM (t : TypeId) (w : World) (B : Nat) (ao : Option Addr) (n cap : Nat) (L : List (Int × Int)) : Prop := OwnS t 2 w B ao n cap (L.map mc)
theorem OwnS.mlen {t : TypeId} {w : World} {B n cap : Nat} {ao : Option Addr} {L : List (Int × Int)} (h : OwnM t w B ao n cap L) : n = L.length := by
  have := h.len (by decide)
  simpa using this
theorem OwnS.miss {t : TypeId} {w : World} {B n cap : Nat} {ao : Option Addr} {L : List (Int × Int)} (h : OwnM t w B ao n cap L) (j : Nat) (hj : j < L.length) : ∃ b, ao = some ⟨b, 0, none⟩ ∧ w.cell? ⟨b, j * 2, none⟩ = some (.int .i64 L[j].1) ∧ w.cell? ⟨b, j * 2 + 1, none⟩ = some (.int .i64 L[j].2) := by
  obtain ⟨b, e, h0⟩ := h.cell j (by simpa using hj) 0 (.int .i64 L[j].1) (by simp [mc])
  obtain ⟨b', e', h1⟩ := h.cell j (by simpa using hj) 1 (.int .i64 L[j].2) (by simp [mc])
  rw [e] at e'
  cases e'
  exact ⟨b, e, h0, h1⟩

theorem Tryd.infoMiss : (Tryd.prog.info? 48).map (fun i => (i.zero, i.size, i.bytes)) = some (some (.agg #[.int .i64 0, .int .i64 0]), 2, 16) := by kernel_rfl

theorem index32 (K : List Int) (hK : K.length = 32) (j : Nat) (hj : j < 32) (w : World) :
    (Instr.index 54 (.agg (ivs K).toArray) (.int .i64 (j : Int))).run Tryd.prog w = .ok (.int .i64 (K.getD j 0)) w := by
  obtain ⟨i0, hi, hz0, hz1, hz2⟩ := info_parts Tryd.infoInt
  have hu : Tryd.prog.underlying 54 = some (.array 32 3) := Tryd.underlying54
  have hl : j < K.length := by omega
  have hj2 : (0 : Int) ≤ (j : Int) ∧ (j : Int) < 32 := by omega
  simp [Instr.index, asIntOf, Sem.run_bind, run_underlying hu, hj2, sizeOf, typeInfo, hi, hz1, part, isAgg, run_underlying Tryd.underlying3, ivs, hl, List.getD_eq_getElem?_getD]
  intro h; omega

theorem Tbl.range {w : World} {q m : Nat} {K : List Int} (h : Tbl w q m K) : w.rangeAt q 1 (ivs K) := by
  intro j v hv
  obtain ⟨hj, rfl⟩ := ivs_get K j v hv
  have h2 := h.ck j (by rw [← h.len]; exact hj)
  rw [h2]
  simp [List.getD_eq_getElem?_getD, hj]
theorem size32 (K : List Int) (hK : K.length = 32) : (Tryd.prog.info? 54).map (·.size) = some (ivs K).length := by rw [ivs_length, hK]; kernel_rfl

set_option maxHeartbeats 1600000 in
theorem mlist_any (w : World) (q m : Nat) (K : List Int) (hT : Tbl w q m K) :
    Calls Tryd.prog 14 #[.pointer (some ⟨q, 0, none⟩)] w fun r w' => ∃ ao cap, r = .returned (.slice ao (allK K).length cap) ∧ OwnM 48 w' w.heap.size ao (allK K).length cap (allK K) ∧ Below w.heap.size w w' := by
  have hrg := hT.range
  have hsz := size32 K hT.len
  have hix := index32 K hT.len
  generalize hG : ivs K = G at hrg hix hsz
  have HRG := Hid.in hrg
  have HSZ := Hid.in hsz
  clear hG hT hrg hsz
  go_enter Tryd.func14, Tryd.ntmps14
  go_wp2_with (refine wpList_load_mid rfl 54 _ rfl _ _ rfl _ _ HRG.out Tryd.underlying54 rfl HSZ.out ?_)
  go_loopw [3, 10] (fun s c wr => ∃ (i : Nat) (ao : Option Addr) (cap : Nat), i ≤ 32 ∧ c = .int .i64 (i : Int) ∧ s = .slice ao (lstK K i).length cap ∧ OwnM 48 wr w.heap.size ao (lstK K i).length cap (lstK K i) ∧ Below w.heap.size w wr) (fun _ c _ => 32 - (intOf c).toNat)
  case atStart => exact ⟨0, none, 0, Nat.zero_le _, rfl, rfl, OwnS.nil _ _ _ _, Below.refl _ _⟩
  case round =>
    obtain ⟨i, ao, cap, hi, rfl, rfl, hO, hb⟩ := hrel
    have HO := Hid.in hO
    have HB := Hid.in hb
    clear hO hb
    by_cases hlt : i < 32
    · have hx := hix i hlt
      have i1 : (i : Int) < 32 := by omega
      have hle : (lstK K i).length ≤ 1000 := by have := lstK_le K i; omega
      clear hix
      by_cases hz : K.getD i 0 = 0
      · have HN : Hid (lstK K (i + 1) = lstK K i) := Hid.in (by rw [lstK, if_pos hz, List.append_nil])
        rw [hz] at hx
        clear hz
        go_wp2
        go_roundw
        case rel => exact ⟨i + 1, ao, cap, by omega, by go_num, by rw [HN.out], by rw [HN.out]; exact HO.out, HB.out⟩
        case measure => simp [intOf]; omega
      · have HN : Hid (lstK K (i + 1) = lstK K i ++ [((i : Int), K.getD i 0)]) := Hid.in (by rw [lstK, if_neg hz])
        generalize K.getD i 0 = k at hz hx HN
        have hz1 : (k != 0) = true := by simpa using hz
        generalize hn : (lstK K i).length = n at HO hle
        have HNN := Hid.in hn
        clear hn
        have HP1 : Hid (Below w.heap.size w (wr.alloc (.cells #[.int .i64 (i : Int), .int .i64 k] 48))) := Hid.in (HB.out.alloc HB.out.size _)
        have HR : Hid (Rows' 2 (wr.alloc (.cells #[.int .i64 (i : Int), .int .i64 k] 48)) (some ⟨wr.heap.size, 0, none⟩) 1 [mc ((i : Int), k)]) := Hid.in (Rows'.lit 2 wr 48 (mc ((i : Int), k)) _ rfl rfl (mc_one _))
        go_wp2_with (first
          | (at_builtin; refine wpList_concatS rfl 33 48 2 16 _ (.tmp 16) (.tmp 20) rfl Tryd.underlying33 Tryd.infoMiss rfl (by decide) (by decide) w.heap.size w ao (some ⟨wr.heap.size, 0, none⟩) n cap 1 1 _ [mc ((i : Int), k)] rfl (HO.out.step (below_alloc _ _)) rfl rfl HR.out HP1.out HP1.out.size (by omega) ?_; intro ao3 cap3 w3 HO3 HB3 _)
          | fail)
        have HNL : Hid ((lstK K (i + 1)).length = n + 1) := Hid.in (by rw [HN.out, List.length_append, HNN.out]; rfl)
        go_roundw
        case rel => exact ⟨i + 1, ao3, cap3, by omega, by go_num, by rw [HNL.out], by rw [HNL.out]; unfold OwnM; rw [HN.out, List.map_append]; exact HO3.out, HB3.out⟩
        case measure => simp [intOf]; omega
    · obtain rfl : i = 32 := by omega
      go_wp2
      go_ret
      exact ⟨ao, cap, rfl, HO.out, HB.out⟩

end Go.Proofs.YtbljopjjmlacpaaDoor
