/- DERIVED of the program: what the rows' listed package variables give a walk: ten sentinels and errors.errorType; assentkeep.Error and assentbook.Within by their contracts. After the guide's laid_sentinels2. Own work. -/
import Derived.Test.YtakomlmbdienpaaDoorRows
import Derived.Test.YtakomlmbdienpaaDoorBaseIs
import Derived.LaidLaws
import Derived.LaidHandle
import Derived.Stop.LaidErr
namespace Go.Proofs.YtakomlmbdienpaaDoor
open Go.RowKit Go.ChangeShapes

/-- How a sentinel of errors.New's make reads. -/
abbrev sdat (text : List UInt8) : DataW Unit := .iface "*errors.errorString" (.ptr (.agg [.lit (.string text)]))

/-- Names, places and texts of sentinels; what the world holds of them. -/
def Sents (W : World) : List (String × Nat × List UInt8) → List Addr → Prop
  | [], [] => True
  | x :: L, a :: ads => (W.cell? ⟨x.2.1, 0, none⟩ = some (snt a) ∧ (∃ s : ByteArray, W.cell? a = some (.string s) ∧ s.data.toList = x.2.2) ∧ Sen W a) ∧ Sents W L ads
  | _, _ => False

theorem Tryd.cellsStr : Tryd.prog.cellsOf 130 = 1 := by kernel_rfl

theorem Tryd.cellsString : Tryd.prog.cellsOf 9 = 1 := by kernel_rfl

theorem starErr : "*" ++ "errors.errorString" = "*errors.errorString" := by decide

theorem Tryd.rowPStr (u : TypeId) (h : Tryd.prog.typeName? 3 u = some "*errors.errorString") : u = 110 :=
  typeName_ptr_named (nm := "errors.errorString") (by rw [starErr]; kernel_rfl) (by kernel_rfl) (by decide) u (by rw [starErr]; exact h)

set_option maxRecDepth 100000 in
theorem laid_sents {W : World} : ∀ (L : List (String × Nat × List UInt8)) (ps : List MemPlace),
    (∀ x ∈ L, Tryd.prog.globalNamed x.1 = some x.2.1 ∧ (Tryd.prog.globals[x.2.1]?).map (·.type) = some 24) →
    DataW.LaidVars Tryd.prog W (L.map fun x => (x.1, sdat x.2.2)) ps →
    (∀ b off, MemPlace.cell b off ∈ ps → (∃ c t, W.heap[b]? = some (.cells c t (0, 0))) ∧ ∀ u v, W.cell? ⟨b, off, none⟩ = some (.iface u v) → Value.okWide Tryd.prog W .any 0 u v) →
    ∃ ads, Sents W L ads ∧ (∀ a ∈ ads, MemPlace.cell a.block a.off ∈ ps) ∧ (ps.Nodup → ads.Nodup)
  | [], ps, _, _, _ => ⟨[], True.intro, fun a h => absurd h (List.not_mem_nil), fun _ => List.nodup_nil⟩
  | x :: L, ps, hL, hv, hrows => by
    obtain ⟨g0, t0, cs0, f0, p0, q0, hg0, ht0, hv0, hd0, hq, rfl⟩ := hv
    obtain ⟨hg, ht⟩ := hL x (List.mem_cons_self ..)
    obtain rfl := Option.some.inj (hg.symm.trans hg0)
    obtain rfl := Option.some.inj (ht.symm.trans ht0)
    obtain ⟨l0⟩ := cs0
    have ok0 : ∀ u v, l0 = [.iface u v] → Value.okWide Tryd.prog W .any 0 u v := fun u v e => by
      subst e
      exact (hrows x.2.1 0 (by simp [MemPlace.row])).2 u v (by simpa using World.var?_cell hg0 hv0 0)
    obtain ⟨a0, s0, rfl, hc0, hs0, hz0, rfl⟩ := errorString_of_trod Tryd.underlying24 Tryd.rowPStr Tryd.underlying110 Tryd.underlying130 rfl rfl Tryd.underlying9 Tryd.cellsStr Tryd.cellsString hd0 ok0
    obtain ⟨ads, h1, h2, h3⟩ := laid_sents L q0 (fun y hy => hL y (List.mem_cons_of_mem _ hy)) hq (fun b off hm => hrows b off (List.mem_append_right _ hm))
    refine ⟨a0 :: ads, ⟨⟨by simpa using World.var?_cell hg0 hv0 0, ⟨s0, hc0, hs0⟩, (hrows a0.block a0.off (by simp [MemPlace.row])).1⟩, h1⟩, ?_, ?_⟩
    · intro a ha
      rcases List.mem_cons.1 ha with rfl | ha
      · simp [MemPlace.row]
      · exact List.mem_append_right _ (h2 a ha)
    · intro hnd
      have hnd' := List.nodup_append.1 hnd
      refine List.nodup_cons.2 ⟨fun ha => ?_, h3 hnd'.2.1⟩
      exact hnd'.2.2 (.cell a0.block a0.off) (by simp [MemPlace.row]) _ (h2 a0 ha) rfl

theorem Tryd.et : Tryd.prog.globalNamed "errors.errorType" = some 10 := by kernel_rfl

theorem Tryd.rt : (Tryd.prog.cutTypes.find? (·.1 == "internal/reflectlite.rtype")).map (·.2) = some 95 := by kernel_rfl

theorem Tryd.oneRow : ((List.range 142).filter fun t => Tryd.prog.rowNamed t [101, 114, 114, 111, 114]) = [24] := by kernel_rfl

theorem Tryd.size : Tryd.prog.types.size = 142 := by kernel_rfl

theorem handle_of {W : World} (h : handlesMet Tryd.prog [("errors.errorType", Rows.laid_errors_errorType)] W) : ET W := by
  obtain ⟨name, u, ty, e1, e2, e3, e4, e5⟩ := h _ (List.mem_singleton.2 rfl)
  have en : name = [101, 114, 114, 111, 114] := (Option.some.inj e1).symm
  subst en
  obtain rfl := Option.some.inj (Tryd.rt.symm.trans e2)
  have hm : ty ∈ (List.range 142).filter fun t => Tryd.prog.rowNamed t [101, 114, 114, 111, 114] := List.mem_filter.2 ⟨List.mem_range.2 (by rw [← Tryd.size]; exact e3), e4⟩
  rw [Tryd.oneRow] at hm
  obtain rfl := List.mem_singleton.1 hm
  have hh : typeHandle Tryd.prog 24 = hnd 24 := by kernel_rfl
  rw [hh] at e5
  simpa [ET] using World.var?_cell Tryd.et e5 0

theorem bytes_of {s : ByteArray} {l : List UInt8} (h : s.data.toList = l) : s = ⟨l.toArray⟩ := by
  obtain ⟨d⟩ := s
  simp only at h
  subst h
  rfl

abbrev sents10 : List (String × Nat × List UInt8) := [("assent/api.ErrArg", 0, [97, 110, 32, 97, 114, 103, 117, 109, 101, 110, 116, 32, 116, 104, 97, 116, 32, 99, 97, 110, 39, 116, 32, 98, 101]), ("assent/api.ErrLong", 2, [116, 111, 111, 32, 108, 111, 110, 103]), ("assent/api.ErrShort", 3, [116, 111, 111, 32, 115, 104, 111, 114, 116]), ("assent/api.ErrForm", 4, [110, 111, 116, 32, 105, 110, 32, 102, 111, 114, 109]), ("assent/api.ErrTail", 5, [115, 111, 109, 101, 116, 104, 105, 110, 103, 32, 108, 101, 102, 116, 32, 111, 118, 101, 114]), ("assent/api.ErrFull", 1, [110, 111, 32, 114, 111, 111, 109]), ("assent/api.ErrBusy", 6, [117, 110, 100, 101, 114, 32, 119, 97, 121]), ("assent/api.ErrNone", 7, [116, 104, 101, 114, 101, 32, 105, 115, 32, 110, 111, 110, 101]), ("assent/api.ErrOrder", 8, [110, 111, 116, 32, 105, 110, 32, 111, 114, 100, 101, 114]), ("assent/api.ErrValue", 9, [97, 110, 111, 116, 104, 101, 114, 32, 118, 97, 108, 117, 101])]

theorem sents10_named : ∀ x ∈ sents10, Tryd.prog.globalNamed x.1 = some x.2.1 ∧ (Tryd.prog.globals[x.2.1]?).map (·.type) = some 24 := by
  intro x hx
  simp only [sents10, List.mem_cons, List.not_mem_nil, or_false] at hx
  rcases hx with rfl | rfl | rfl | rfl | rfl | rfl | rfl | rfl | rfl | rfl
  all_goals exact ⟨by kernel_rfl, by kernel_rfl⟩

/-- The place of the package variable of a code. -/
def gix : Nat → Nat
  | 1 => 0
  | 2 => 2
  | 3 => 3
  | 4 => 4
  | 5 => 5
  | 6 => 1
  | 7 => 6
  | 8 => 7
  | 9 => 8
  | 10 => 9
  | _ => 0

/-- What the ten package variables hold. -/
structure Env10 (w : World) (sa : Nat → Addr) : Prop where
  g : ∀ c, 1 ≤ c → c ≤ 10 → w.cell? ⟨gix c, 0, none⟩ = some (snt (sa c))
  s : ∀ c, 1 ≤ c → c ≤ 10 → Sen w (sa c)
  inj : ∀ c d, 1 ≤ c → c ≤ 10 → 1 ≤ d → d ≤ 10 → sa c = sa d → c = d
  et : ET w
  tx : ∀ c, 1 ≤ c → c ≤ 10 → ∃ t : ByteArray, w.cell? (sa c) = some (.string t) ∧ t.size ≤ 100
  tF : w.cell? (sa 6) = some (.string ⟨#[110, 111, 32, 114, 111, 111, 109]⟩)

theorem Env10.below {w w' : World} {sa : Nat → Addr} (h : Env10 w sa) (hb : Below w.heap.size w w') : Env10 w' sa :=
  ⟨fun c h1 h2 => (hb.cell (p := ⟨gix c, 0, none⟩) (lt_cell (h.g c h1 h2))).trans (h.g c h1 h2), fun c h1 h2 => (h.s c h1 h2).below hb (h.s c h1 h2).lt, h.inj, h.et.below hb h.et.lt,
   fun c h1 h2 => by obtain ⟨t, ht, hz⟩ := h.tx c h1 h2; exact ⟨t, (hb.cell (p := sa c) (lt_cell ht)).trans ht, hz⟩, (hb.cell (p := sa 6) (lt_cell h.tF)).trans h.tF⟩

theorem env10_of_laid {W : World} (h : laidMetH Tryd.prog [("errors.errorType", Rows.laid_errors_errorType), ("assent/api.ErrArg", Rows.laid_assent_api_ErrArg), ("assent/api.ErrLong", Rows.laid_assent_api_ErrLong), ("assent/api.ErrShort", Rows.laid_assent_api_ErrShort), ("assent/api.ErrForm", Rows.laid_assent_api_ErrForm), ("assent/api.ErrTail", Rows.laid_assent_api_ErrTail), ("assent/api.ErrFull", Rows.laid_assent_api_ErrFull), ("assent/api.ErrBusy", Rows.laid_assent_api_ErrBusy), ("assent/api.ErrNone", Rows.laid_assent_api_ErrNone), ("assent/api.ErrOrder", Rows.laid_assent_api_ErrOrder), ("assent/api.ErrValue", Rows.laid_assent_api_ErrValue)] W) : ∃ sa, Env10 W sa := by
  have h' : laidMet Tryd.prog (sents10.map fun x => (x.1, sdat x.2.2)) W ∧ handlesMet Tryd.prog [("errors.errorType", Rows.laid_errors_errorType)] W := h
  obtain ⟨⟨ps, hv, hnd, hrows⟩, hh⟩ := h'
  obtain ⟨ads, h1, h2, h3⟩ := laid_sents sents10 ps sents10_named hv hrows
  have hn := h3 hnd
  match ads, h1, hn with
  | [a1, a2, a3, a4, a5, a6, a7, a8, a9, a10], ⟨p1, p2, p3, p4, p5, p6, p7, p8, p9, p10, _⟩, hn =>
    have hE : ∃ sa : Nat → Addr, sa 1 = a1 ∧ sa 2 = a2 ∧ sa 3 = a3 ∧ sa 4 = a4 ∧ sa 5 = a5 ∧ sa 6 = a6 ∧ sa 7 = a7 ∧ sa 8 = a8 ∧ sa 9 = a9 ∧ sa 10 = a10 := ⟨fun c => [a1, a2, a3, a4, a5, a6, a7, a8, a9, a10].getD (c - 1) a1, rfl, rfl, rfl, rfl, rfl, rfl, rfl, rfl, rfl, rfl⟩
    obtain ⟨sa, rfl, rfl, rfl, rfl, rfl, rfl, rfl, rfl, rfl, rfl⟩ := hE
    have key : ∀ c, 1 ≤ c → c ≤ 10 → W.cell? ⟨gix c, 0, none⟩ = some (snt (sa c)) ∧ Sen W (sa c) ∧ ∃ t : ByteArray, W.cell? (sa c) = some (.string t) ∧ t.size ≤ 100 := by
      have sz : ∀ (s : ByteArray) (l : List UInt8), s.data.toList = l → l.length ≤ 100 → s.size ≤ 100 := fun s l e hl => by
        rw [bytes_of e]; simpa [ByteArray.size] using hl
      intro c h1 h2
      match c, h1, h2 with
      | 1, _, _ => obtain ⟨c0, ⟨s0, t0, e0⟩, n0⟩ := p1; exact ⟨c0, n0, s0, t0, sz _ _ e0 (by decide)⟩
      | 2, _, _ => obtain ⟨c0, ⟨s0, t0, e0⟩, n0⟩ := p2; exact ⟨c0, n0, s0, t0, sz _ _ e0 (by decide)⟩
      | 3, _, _ => obtain ⟨c0, ⟨s0, t0, e0⟩, n0⟩ := p3; exact ⟨c0, n0, s0, t0, sz _ _ e0 (by decide)⟩
      | 4, _, _ => obtain ⟨c0, ⟨s0, t0, e0⟩, n0⟩ := p4; exact ⟨c0, n0, s0, t0, sz _ _ e0 (by decide)⟩
      | 5, _, _ => obtain ⟨c0, ⟨s0, t0, e0⟩, n0⟩ := p5; exact ⟨c0, n0, s0, t0, sz _ _ e0 (by decide)⟩
      | 6, _, _ => obtain ⟨c0, ⟨s0, t0, e0⟩, n0⟩ := p6; exact ⟨c0, n0, s0, t0, sz _ _ e0 (by decide)⟩
      | 7, _, _ => obtain ⟨c0, ⟨s0, t0, e0⟩, n0⟩ := p7; exact ⟨c0, n0, s0, t0, sz _ _ e0 (by decide)⟩
      | 8, _, _ => obtain ⟨c0, ⟨s0, t0, e0⟩, n0⟩ := p8; exact ⟨c0, n0, s0, t0, sz _ _ e0 (by decide)⟩
      | 9, _, _ => obtain ⟨c0, ⟨s0, t0, e0⟩, n0⟩ := p9; exact ⟨c0, n0, s0, t0, sz _ _ e0 (by decide)⟩
      | 10, _, _ => obtain ⟨c0, ⟨s0, t0, e0⟩, n0⟩ := p10; exact ⟨c0, n0, s0, t0, sz _ _ e0 (by decide)⟩
    refine ⟨sa, fun c h1 h2 => (key c h1 h2).1, fun c h1 h2 => (key c h1 h2).2.1, ?_, handle_of hh, fun c h1 h2 => (key c h1 h2).2.2, ?_⟩
    · intro c d h1 h2 h3 h4 e
      have hp : ∀ i j, i < 10 → j < 10 → sa (i + 1) = sa (j + 1) → i = j := by
        intro i j hi hj hij
        have hl : [sa 1, sa 2, sa 3, sa 4, sa 5, sa 6, sa 7, sa 8, sa 9, sa 10] = (List.range 10).map (fun i => sa (i + 1)) := rfl
        rw [hl] at hn
        have hq := List.pairwise_iff_getElem.1 hn
        rcases Nat.lt_trichotomy i j with h | h | h
        · exact absurd hij (by have := hq i j (by simpa using hi) (by simpa using hj) h; simpa using this)
        · exact h
        · exact absurd hij.symm (by have := hq j i (by simpa using hj) (by simpa using hi) h; simpa using this)
      have := hp (c - 1) (d - 1) (by omega) (by omega) (by rw [Nat.sub_add_cancel h1, Nat.sub_add_cancel h3]; exact e)
      omega
    · obtain ⟨c0, ⟨s0, t0, e0⟩, n0⟩ := p6
      rw [t0, bytes_of e0]

theorem error_code (w : World) (sa : Nat → Addr) (h : Env10 w sa) (c : Nat) (h1 : 1 ≤ c) (h2 : c ≤ 10) :
    Calls Tryd.prog 35 #[.int .i64 c] w fun r w' => r = .returned (snt (sa c)) ∧ w' = w := by
  have hg := h.g c h1 h2
  clear h
  match c, h1, h2 with
  | 1, _, _ =>
    simp only [gix] at hg
    go_enter Tryd.func35, Tryd.ntmps35
    go_wp2
    go_ret
    exact ⟨rfl, rfl⟩
  | 2, _, _ =>
    simp only [gix] at hg
    go_enter Tryd.func35, Tryd.ntmps35
    go_wp2
    go_ret
    exact ⟨rfl, rfl⟩
  | 3, _, _ =>
    simp only [gix] at hg
    go_enter Tryd.func35, Tryd.ntmps35
    go_wp2
    go_ret
    exact ⟨rfl, rfl⟩
  | 4, _, _ =>
    simp only [gix] at hg
    go_enter Tryd.func35, Tryd.ntmps35
    go_wp2
    go_ret
    exact ⟨rfl, rfl⟩
  | 5, _, _ =>
    simp only [gix] at hg
    go_enter Tryd.func35, Tryd.ntmps35
    go_wp2
    go_ret
    exact ⟨rfl, rfl⟩
  | 6, _, _ =>
    simp only [gix] at hg
    go_enter Tryd.func35, Tryd.ntmps35
    go_wp2
    go_ret
    exact ⟨rfl, rfl⟩
  | 7, _, _ =>
    simp only [gix] at hg
    go_enter Tryd.func35, Tryd.ntmps35
    go_wp2
    go_ret
    exact ⟨rfl, rfl⟩
  | 8, _, _ =>
    simp only [gix] at hg
    go_enter Tryd.func35, Tryd.ntmps35
    go_wp2
    go_ret
    exact ⟨rfl, rfl⟩
  | 9, _, _ =>
    simp only [gix] at hg
    go_enter Tryd.func35, Tryd.ntmps35
    go_wp2
    go_ret
    exact ⟨rfl, rfl⟩
  | 10, _, _ =>
    simp only [gix] at hg
    go_enter Tryd.func35, Tryd.ntmps35
    go_wp2
    go_ret
    exact ⟨rfl, rfl⟩

/-- A number brought into lo .. hi. -/
def wi (n lo hi : Int) : Nat := (lo + n % (hi - lo + 1)).toNat

theorem wi_cast (n lo hi : Int) (h0 : 0 ≤ lo) (h1 : lo ≤ hi) : ((wi n lo hi : Nat) : Int) = lo + n % (hi - lo + 1) := by
  have := Int.emod_nonneg n (show hi - lo + 1 ≠ 0 by omega)
  unfold wi
  omega

theorem wi_le (n lo hi : Int) (h0 : 0 ≤ lo) (h1 : lo ≤ hi) : lo ≤ (wi n lo hi : Nat) ∧ ((wi n lo hi : Nat) : Int) ≤ hi := by
  have h2 := Int.emod_nonneg n (show hi - lo + 1 ≠ 0 by omega)
  have h3 := Int.emod_lt_of_pos n (show 0 < hi - lo + 1 by omega)
  rw [wi_cast n lo hi h0 h1]
  omega

theorem within_any (n lo hi : Int) (w : World) (h0 : 0 ≤ lo) (h1 : lo ≤ hi) (h2 : hi ≤ 1000) :
    Calls Tryd.prog 26 #[.int .i64 n, .int .i64 lo, .int .i64 hi] w fun r w' => r = .returned (.int .i64 (wi n lo hi)) ∧ w' = w := by
  obtain ⟨p1, p2, p3, p4⟩ := tmod_emod n (hi - lo + 1) (by omega)
  have hw := wi_cast n lo hi h0 h1
  have hz : ¬ hi - lo + 1 = 0 := by omega
  have HW := Hid.in (And.intro hw (And.intro p1 p2))
  clear hw p1 p2
  by_cases hn : n.tmod (hi - lo + 1) < 0
  · go_enter Tryd.func26, Tryd.ntmps26
    go_wp2
    go_ret
    exact ⟨ret_int (by have h1 := HW.out.1; have h3 := HW.out.2.2 hn; rw [h1, h3]; simp; omega), rfl⟩
  · go_enter Tryd.func26, Tryd.ntmps26
    go_wp2
    go_ret
    exact ⟨ret_int (by have h1 := HW.out.1; have h3 := HW.out.2.1 (by omega); rw [h1, h3]), rfl⟩

end Go.Proofs.YtakomlmbdienpaaDoor
