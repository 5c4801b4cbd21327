/- DERIVED of the program: knows, Memory, refusal of the project's model by their contracts. Own work. -/
import Derived.Test.YtncgjclehplfeaaDoorTsD
namespace Go.Proofs.YtncgjclehplfeaaDoor
open Go.RowKit Go.Extern.Stop Go.Stop Go.Extern

/-- An event's value, its cells. -/
abbrev evv (k c a v n : Int) (d : Bool) : Value := .agg #[.int .i64 k, .int .i64 c, .int .i64 a, .int .u32 v, .int .u32 n, .bool d]

theorem tknows_c (w : World) (q N : Nat) (S : List Nat) (A : List (List (Int × Int))) (M : List Int) (hT : PM w q S N A M) (k c a v n : Int) (d b : Bool) (h : knP A.length M.length ⟨k, c, a, v, n, d⟩ = b) :
    Calls Tryd.prog 49 #[.pointer (some ⟨q, 0, none⟩), evv k c a v n d] w fun r w' => r = .returned (.bool b) ∧ Below w.heap.size w w' := by
  obtain ⟨ab, capb, am, capm, hq⟩ := hT.blk
  have a64 := hT.a64
  have m128 := hT.m128
  obtain ⟨nA, hnA⟩ : ∃ n, A.length = n := ⟨_, rfl⟩
  obtain ⟨nM, hnM⟩ : ∃ n, M.length = n := ⟨_, rfl⟩
  rw [hnA, hnM] at hq h
  rw [hnA] at a64
  rw [hnM] at m128
  have hqz := blk_lt hq
  have x0 : (w.alloc (.cells #[.int .i64 k, .int .i64 c, .int .i64 a, .int .u32 v, .int .u32 n, .bool d] 24)).cell? ⟨q, 0, none⟩ = some (.slice ab nA capb) := blk_cell (((below_alloc w _).block q hqz).trans hq) rfl
  have x1 : (w.alloc (.cells #[.int .i64 k, .int .i64 c, .int .i64 a, .int .u32 v, .int .u32 n, .bool d] 24)).cell? ⟨q, 1, none⟩ = some (.slice am nM capm) := blk_cell (((below_alloc w _).block q hqz).trans hq) rfl
  have HX1 := Hid.in x1
  have hw : IntKind.i64.wrap ((nM : Int) - 1) = (nM : Int) - 1 := wrapI (by omega) (by omega)
  unfold knP at h
  simp only [] at h
  cases h1 : wB k 1 5 with
  | false =>
    rw [h1] at h
    simp only [Bool.false_and] at h
    subst h
    have H1 := Hid.in h1
    clear h1 hq hT hw hnA hnM a64 m128
    go_enter Tryd.func49, Tryd.ntmps49
    go_wp2_with fail
    refine (twithin_c k 1 5 false H1.out _).mono ?_
    rintro r w' ⟨rfl, rfl⟩
    go_wp2
    go_ret
    exact ⟨rfl, below_alloc _ _⟩
  | true =>
    rw [h1] at h
    simp only [Bool.true_and] at h
    have H1 := Hid.in h1
    have HC := Hid.in (thas_c _ q nA capb ab x0 a64 c _ rfl)
    cases h2 : wB c 0 ((nA : Int) - 1) with
    | false =>
      rw [h2] at h
      simp only [Bool.false_and] at h
      subst h
      rw [h2] at HC
      clear h1 h2 hq hT hw hnA hnM a64 m128
      go_enter Tryd.func49, Tryd.ntmps49
      go_wp2_with fail
      refine (twithin_c k 1 5 true H1.out _).mono ?_
      rintro r w' ⟨rfl, rfl⟩
      go_wp2_with fail
      refine HC.out.mono ?_
      rintro r w' ⟨rfl, rfl⟩
      go_wp2
      go_ret
      exact ⟨rfl, below_alloc _ _⟩
    | true =>
      rw [h2] at h HC
      simp only [Bool.true_and] at h
      by_cases h5 : k = 5
      · subst h5
        simp only [decide_true, Bool.true_or] at h
        subst h
        clear h1 h2 hq hT hnA hnM a64 m128
        go_enter Tryd.func49, Tryd.ntmps49
        go_wp2_with fail
        refine (twithin_c 5 1 5 true H1.out _).mono ?_
        rintro r w' ⟨rfl, rfl⟩
        go_wp2_with fail
        refine HC.out.mono ?_
        rintro r w' ⟨rfl, rfl⟩
        go_upto_region 3 with fail
        generalize hwx : w.alloc _ = wx at x0 x1 HX1
        have HB : Hid (Below w.heap.size w wx) := Hid.in (by rw [← hwx]; exact below_alloc _ _)
        have e0 : wx.cell? ⟨w.heap.size, 0, none⟩ = some (.int .i64 5) := by rw [← hwx]; exact blk_cell (heap_alloc_new _ _) rfl
        have hC0 : ∀ m : Kin (fun W => Below wx.heap.size wx W), m.of.cell? ⟨w.heap.size, 0, none⟩ = some (.int .i64 5) := fun m => (m.in.cell (p := ⟨w.heap.size, 0, none⟩) (lt_cell e0)).trans e0
        clear x0 x1 HC hwx e0
        refine wp_region_kin (C := fun W => Below wx.heap.size wx W) (by kernel_rfl) (by kernel_rfl) (Below.refl _ _).drew (fun hne => ?_)
        repeat (go_big_quiet_step (fail))
        refine wpQuiet_nil ?_
        rintro w6 ⟨m, rfl⟩
        have HT := Hid.in (bstep HB.out (Nat.le_refl _) m.in)
        go_wp2
        go_ret
        exact ⟨rfl, HT.out⟩
      · simp only [h5, decide_false, Bool.false_or] at h
        have HA := Hid.in h
        clear h1 h2 hq hT hnA hnM a64 m128 h
        go_enter Tryd.func49, Tryd.ntmps49
        go_wp2_with fail
        refine (twithin_c k 1 5 true H1.out _).mono ?_
        rintro r w' ⟨rfl, rfl⟩
        go_wp2_with fail
        refine HC.out.mono ?_
        rintro r w' ⟨rfl, rfl⟩
        go_upto_region 3 with fail
        generalize hwx : w.alloc _ = wx at x0 x1 HX1
        have HB : Hid (Below w.heap.size w wx) := Hid.in (by rw [← hwx]; exact below_alloc _ _)
        have e0 : wx.cell? ⟨w.heap.size, 0, none⟩ = some (.int .i64 k) := by rw [← hwx]; exact blk_cell (heap_alloc_new _ _) rfl
        have e2 : wx.cell? ⟨w.heap.size, 2, none⟩ = some (.int .i64 a) := by rw [← hwx]; exact blk_cell (heap_alloc_new _ _) rfl
        have hC0 : ∀ m : Kin (fun W => Below wx.heap.size wx W), m.of.cell? ⟨w.heap.size, 0, none⟩ = some (.int .i64 k) := fun m => (m.in.cell (p := ⟨w.heap.size, 0, none⟩) (lt_cell e0)).trans e0
        have hC2 : ∀ m : Kin (fun W => Below wx.heap.size wx W), m.of.cell? ⟨w.heap.size, 2, none⟩ = some (.int .i64 a) := fun m => (m.in.cell (p := ⟨w.heap.size, 2, none⟩) (lt_cell e2)).trans e2
        have hC1 : ∀ m : Kin (fun W => Below wx.heap.size wx W), m.of.cell? ⟨q, 1, none⟩ = some (.slice am nM capm) := fun m => (m.in.cell (p := ⟨q, 1, none⟩) (lt_cell x1)).trans x1
        have hk5 : (k == 5) = false := by simpa using h5
        clear x0 x1 HC hwx e0 e2 h5
        refine wp_region_kin (C := fun W => Below wx.heap.size wx W) (by kernel_rfl) (by kernel_rfl) (Below.refl _ _).drew (fun hne => ?_)
        repeat (go_big_quiet_step (first | (go_at_call 34; exact Kin.same _ (twithin_c a 0 ((nM : Int) - 1) b HA.out _))))
        refine wpQuiet_nil ?_
        rintro w6 ⟨m, rfl⟩
        have HT := Hid.in (bstep HB.out (Nat.le_refl _) m.in)
        go_wp2
        go_ret
        exact ⟨rfl, HT.out⟩

theorem Tryd.infoU32 : (Tryd.prog.info? 22).map (fun i => (i.zero, i.size, i.bytes)) = some (some (.int .u32 0), 1, 4) := by kernel_rfl
theorem uc_one (M : List Int) : ∀ r ∈ M.map uc, ∀ v ∈ r, v.oneCell' = true := by
  intro r hr v hv
  obtain ⟨x, _, rfl⟩ := List.mem_map.1 hr
  simp only [uc, List.mem_cons, List.not_mem_nil, or_false] at hv
  subst hv
  rfl
theorem PM.mrow {w : World} {q N : Nat} {S : List Nat} {A : List (List (Int × Int))} {M : List Int} (h : PM w q S N A M) : ∃ am capm, w.cell? ⟨q, 1, none⟩ = some (.slice am M.length capm) ∧ OwnA 22 1 w 0 am M.length capm (M.map uc) := by
  obtain ⟨⟨H, C, h1, _⟩, _⟩ := h
  exact ⟨H.am, H.capm, blk_cell h1.blk rfl, h1.mem⟩
theorem tmem_c (w : World) (q N : Nat) (S : List Nat) (A : List (List (Int × Int))) (M : List Int) (hT : PM w q S N A M) :
    Calls Tryd.prog 24 #[.pointer (some ⟨q, 0, none⟩)] w fun r w' => ∃ ao cap, r = .returned (.slice ao M.length cap) ∧ OwnA 22 1 w' w.heap.size ao M.length cap (M.map uc) ∧ Below w.heap.size w w' := by
  obtain ⟨am, capm, k1, hO⟩ := hT.mrow
  have m128 := hT.m128
  have HR := Hid.in (OwnA.rows hO (uc_one M))
  obtain ⟨n, hn⟩ : ∃ n, M.length = n := ⟨_, rfl⟩
  rw [hn] at k1 m128
  have HL : Hid (n = (M.map uc).length) := Hid.in (by rw [List.length_map, hn])
  have hn8 : 0 + n ≤ 1000000 := by omega
  have HN := Hid.in hn
  clear hT hO hn m128
  go_enter Tryd.func24, Tryd.ntmps24
  go_wp2_with (first
    | (at_builtin; refine wpList_concatA rfl 27 22 1 4 _ (.const (.slice none 0 0)) (.tmp 6) rfl Tryd.underlying27 Tryd.infoU32 rfl (by decide) (by decide) w.heap.size none am 0 0 n capm [] (M.map uc) rfl (OwnA.nil _ _ _ _) rfl HL.out HR.out (Nat.le_refl _) hn8 ?_; intro ao3 cap3 w3 HO3 HG3 _ _)
    | fail)
  go_ret
  rw [HN.out]
  refine ⟨ao3, cap3, rfl, ?_, (Below.refl _ _).grown HG3.out (Nat.le_refl _) (fun k hk => by cases hk)⟩
  have := HO3.out
  rwa [Nat.zero_add, List.nil_append] at this
end Go.Proofs.YtncgjclehplfeaaDoor
