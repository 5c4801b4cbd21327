/- DERIVED of the program: FaultAny returns true, for every code, row and text. Own work. -/
import Derived.Test.YtgaajnefegjoeaaDoorFltEnv
import Derived.Test.YtgaajnefegjoeaaDoorHidesA
import Derived.Deep.DrawnRows
import Derived.ChangeSlices
import Derived.ProofKit
namespace Go.Proofs.YtgaajnefegjoeaaDoor
open Go.RowKit Go.Extern.Stop Go.Stop Go.Extern

/-- A slice of numbers that reads as zs. -/
def IntsAt (w : World) (v : Value) (zs : List Int) : Prop :=
  (∃ a c, v = .slice a 0 c ∧ zs = []) ∨ ∃ b o c, v = .slice (some ⟨b, o, none⟩) zs.length c ∧ ∀ (k : Nat) (h : k < zs.length), w.cell? ⟨b, o + k, none⟩ = some (.int .i64 zs[k])

theorem fidx_lb (a : Addr) : ∀ (l : List Addr) (i : Nat), fidx a l i = -1 ∨ (i : Int) ≤ fidx a l i
  | [], i => .inl rfl
  | b :: r, i => by
    unfold fidx
    split
    · exact .inr (Int.le_refl _)
    · rcases fidx_lb a r (i + 1) with h | h
      · exact .inl h
      · exact .inr (by omega)
theorem fidx_snoc (a b : Addr) : ∀ (l : List Addr) (i : Nat), fidx a (l ++ [b]) i = if fidx a l i < 0 then (if a = b then ((i + l.length : Nat) : Int) else -1) else fidx a l i
  | [], i => by simp [fidx]
  | x :: r, i => by
    simp only [List.cons_append, fidx]
    split
    · rw [if_neg (by omega)]
    · rw [fidx_snoc a b r (i + 1)]
      simp only [List.length_cons]
      have : i + 1 + r.length = i + (r.length + 1) := by omega
      rw [this]
theorem fidx_ub (a : Addr) (l : List Addr) : ∀ i : Nat, fidx a l i ≤ i + l.length := by
  induction l with
  | nil => intro i; simp [fidx]
  | cons b r ih =>
    intro i
    simp only [fidx, List.length_cons]
    split
    · omega
    · have := ih (i + 1); omega

theorem any_owns (l : List (ByteArray × Int)) (a : Addr) (bs : List Addr) (v : Value) (base n : Nat) (vs : List Value) (W : World) (hl : bs.length ≤ 1000) (hown : W.ownsRow base 23 1 v n vs) (hv : vs = bs.map snt) (hn : n = bs.length) (ha : Sen W a) (hbs : ∀ (k : Nat) (h : k < bs.length), Sen W bs[k]) :
    Calls Tryd.prog 15 #[chn l (snt a), v] W fun r w' => r = .returned (.int .i64 (fidx a bs 0)) ∧ Below W.heap.size W w' := by
  subst hv; subst hn
  obtain ⟨h1, h2⟩ := hown
  rcases h2 with ⟨rfl, h0⟩ | ⟨g, cap, cur, rfl, hg, hh, hle, hm, hsz, ht⟩
  · have : bs = [] := List.length_eq_zero_iff.1 h0
    subst this
    exact any_none _ (chn_if _ _) W
  · refine any_chn l a bs g 0 cap W (by omega) (fun k hk => ?_) ha hbs
    have hx : cur.toList[k]? = some (snt bs[k]) := by
      have : (cur.toList.take (bs.length * 1))[k]? = some (snt bs[k]) := by rw [ht]; simp [hk]
      rw [List.getElem?_take] at this
      simpa [hk] using this
    simp only [World.cell?, hh, Nat.zero_add]
    simpa using hx

theorem Tryd.infoError : (Tryd.prog.info? 23).map (fun i => (i.zero, i.size, i.bytes)) = some (some .nilIface, 1, 16) := by kernel_rfl

/-- The sentinels of the first k numbers. -/
def bsz (sa : Nat → Addr) (zs : List Int) (k : Nat) : List Addr := (zs.take k).map fun z => sa (wi z 1 10)
theorem bsz_succ (sa : Nat → Addr) (zs : List Int) (k : Nat) (h : k < zs.length) : bsz sa zs (k + 1) = bsz sa zs k ++ [sa (wi zs[k] 1 10)] := by
  unfold bsz; rw [List.take_succ_eq_append_getElem h, List.map_append]; rfl
theorem bsz_length (sa : Nat → Addr) (zs : List Int) (k : Nat) (h : k ≤ zs.length) : (bsz sa zs k).length = k := by
  unfold bsz; rw [List.length_map, List.length_take]; omega
theorem bsz_sen (sa : Nat → Addr) (zs : List Int) (k : Nat) (W : World) (h : ∀ c, 1 ≤ c → c ≤ 10 → Sen W (sa c)) : ∀ (j : Nat) (hj : j < (bsz sa zs k).length), Sen W (bsz sa zs k)[j] := by
  intro j hj
  have hw := wi_le (zs.take k)[j]! 1 10 (by omega) (by omega)
  simp only [bsz, List.getElem_map]
  have hw := wi_le ((zs.take k)[j]'(by simpa [bsz] using hj)) 1 10 (by omega) (by omega)
  exact h _ (by omega) (by omega)

set_option maxHeartbeats 40000000 in
set_option maxRecDepth 100000 in
theorem lany_some (w : World) (sa : Nat → Addr) (hE : Env10 w sa) (code : Int) (zs : List Int) (b o cap : Nat) (op : ByteArray)
    (hz : ∀ (k : Nat) (h : k < zs.length), w.cell? ⟨b, o + k, none⟩ = some (.int .i64 zs[k])) :
    Calls Tryd.prog 6 #[.int .i64 code, .slice (some ⟨b, o, none⟩) zs.length cap, .string op] w fun r w' => r = .returned (.bool true) ∧ Below w.heap.size w w' := by
  obtain ⟨i0, hi, hz0, hz1, hz2⟩ := info_parts Tryd.infoError
  have HI := Hid.in (And.intro hi (And.intro hz0 (And.intro hz1 hz2)))
  clear hi hz0 hz1 hz2
  have HE := Hid.in hE
  have HZ := Hid.in hz
  clear hE hz
  have b1 := wi_le code 1 10 (by omega) (by omega)
  generalize hc : wi code 1 10 = c at b1
  have HC := Hid.in hc
  clear hc
  go_enter Tryd.func6, Tryd.ntmps6
  go_wp2_with fail
  refine (within_any code 1 10 _ (by omega) (by omega) (by omega)).mono ?_
  rw [HC.out]
  rintro r w ⟨rfl, rfl⟩
  go_wp2_with fail
  refine (error_code _ sa HE.out c (by omega) (by omega)).mono ?_
  rintro r w ⟨rfl, rfl⟩
  go_wp2_with fail
  refine (wrap_some _ _ _ _ _).mono ?_
  rintro r w ⟨rfl, rfl⟩
  go_wp2_with fail
  refine (wrap_some _ _ _ _ _).mono ?_
  rintro r w ⟨rfl, rfl⟩
  go_wp2
  go_loopw [9, 10, 11] (fun v wn i wr => ∃ k : Nat, k ≤ zs.length ∧ k ≤ 20 ∧ i = .int .i64 k ∧ wn = .int .i64 (fidx (sa c) (bsz sa zs k) 0) ∧ wr.ownsRow w.heap.size 23 1 v k ((bsz sa zs k).map snt) ∧ Below w.heap.size w wr) (fun _ _ i _ => 20 - (intOf i).toNat)
  case atStart => exact ⟨0, Nat.zero_le _, Nat.zero_le _, rfl, rfl, World.ownsRow_nil _ _ _ _, Below.refl _ _⟩
  case round =>
    obtain ⟨k, hk, hk20, rfl, rfl, hown, hb⟩ := hrel
    have HO := Hid.in hown
    have HB := Hid.in hb
    clear hown hb
    by_cases hlt : k < zs.length ∧ k < 20
    · obtain ⟨hlt, hlt20⟩ := hlt
      have hcell : wr.cell? ⟨b, o + k, none⟩ = some (.int .i64 zs[k]) := (HB.out.cell (p := ⟨b, o + k, none⟩) (lt_cell (HZ.out k hlt))).trans (HZ.out k hlt)
      have HS := Hid.in (bsz_succ sa zs k hlt)
      have HF := Hid.in (fidx_snoc (sa c) (sa (wi zs[k] 1 10)) (bsz sa zs k) 0)
      have HL := Hid.in (bsz_length sa zs k hk)
      have b2 := wi_le zs[k] 1 10 (by omega) (by omega)
      have hu := fidx_ub (sa c) (bsz sa zs k) 0
      have hv := fidx_lb (sa c) (bsz sa zs k) 0
      generalize hy : fidx (sa c) (bsz sa zs k) 0 = y at HF hu hv ⊢
      have HY := Hid.in hy
      clear hy
      generalize hx : wi zs[k] 1 10 = x at HS HF b2
      have HX := Hid.in hx
      clear hx
      go_wp2_with fail
      refine (within_any zs[k] 1 10 _ (by omega) (by omega) (by omega)).mono ?_
      rw [HX.out]
      rintro r wr ⟨rfl, rfl⟩
      have HE2 := Hid.in (HE.out.below HB.out)
      have HN : Hid (∃ y' : Int, fidx (sa c) (bsz sa zs (k + 1)) 0 = y' ∧ (x = c → y < 0 → y' = k) ∧ (x = c → ¬ y < 0 → y' = y) ∧ (¬ x = c → y' = y)) := Hid.in (by
        refine ⟨_, rfl, fun h1 h2 => ?_, fun h1 h2 => ?_, fun h1 => ?_⟩
        · rw [HS.out, HF.out, if_pos h2, if_pos (by rw [h1]), HL.out]; simp
        · rw [HS.out, HF.out, if_neg h2]
        · rw [HS.out, HF.out]
          have hne : ¬ sa c = sa x := fun e => h1 (HE.out.inj c x (by omega) (by omega) (by omega) (by omega) e).symm
          rw [if_neg hne]
          split
          · rcases hv with h | h
            · exact h.symm
            · omega
          · rfl)
      obtain ⟨y', hy', g1, g2, g3⟩ := HN.out
      have HY' := Hid.in hy'
      have G := Hid.in (And.intro g1 (And.intro g2 g3))
      clear hy' g1 g2 g3 HN hcell hu hv
      by_cases hxc : x = c
      · have t1 : ((x : Int) == (c : Int)) = true := by simp [hxc]
        have HXC := Hid.in hxc
        clear hxc
        by_cases hyn : y < 0
        · have HYN := Hid.in hyn
          go_wp2_with fail
          refine (error_code _ sa HE2.out x (by omega) (by omega)).mono ?_
          rintro r wr ⟨rfl, rfl⟩
          go_wp2_with (at_builtin; refine wpList_append_lies _ rfl _ _ 46 rfl w.heap.size 23 i0 .nilIface 1 16 Tryd.underlying46 HI.out.1 HI.out.2.1 HI.out.2.2.1 HI.out.2.2.2 rfl (by decide) _ _ _ rfl (ownsRow_below HO.out ((Below.refl _ _).alloc (Nat.le_refl _) _) (Nat.le_refl _)) ⟨wr.heap.size, 0, none⟩ 1 1 [snt (sa x)] rfl rfl ?c1 ?c2 (by decide) ?c3 ?c4 ?c5 _ rfl ?_)
          case c1 =>
            intro j u hj
            match j, hj with
            | 0, hj => simp at hj; subst hj; simp [Addr.add, go_sem]
          case c2 => intro u hu; simp at hu; subst hu; rfl
          case c3 => unfold maxLen; omega
          case c4 => omega
          case c5 => have := HB.out.size; simp; omega
          intro g cap' w3 hown3 hgrow hat hlt3
          have HO3 := Hid.in hown3
          rw [show (bsz sa zs k).map snt ++ [snt (sa x)] = (bsz sa zs (k + 1)).map snt by rw [HS.out, List.map_append]; rfl] at HO3
          have HB3 : Hid (Below w.heap.size w w3) := Hid.in ((HB.out.alloc HB.out.size _).grown hgrow (by have := HB.out.size; simp; omega) (fun k hk => (ownBlock_lt HO.out _ hk).1))
          clear hown3 hgrow hat hlt3
          go_wp2
          go_roundw
          case rel => exact ⟨k + 1, hlt, by omega, by go_num, by rw [HY'.out, G.out.1 HXC.out HYN.out], HO3.out, HB3.out⟩
          case measure => simp [intOf]; omega
        · have HYN := Hid.in hyn
          go_wp2_with fail
          refine (error_code _ sa HE2.out x (by omega) (by omega)).mono ?_
          rintro r wr ⟨rfl, rfl⟩
          go_wp2_with (at_builtin; refine wpList_append_lies _ rfl _ _ 46 rfl w.heap.size 23 i0 .nilIface 1 16 Tryd.underlying46 HI.out.1 HI.out.2.1 HI.out.2.2.1 HI.out.2.2.2 rfl (by decide) _ _ _ rfl (ownsRow_below HO.out ((Below.refl _ _).alloc (Nat.le_refl _) _) (Nat.le_refl _)) ⟨wr.heap.size, 0, none⟩ 1 1 [snt (sa x)] rfl rfl ?c1 ?c2 (by decide) ?c3 ?c4 ?c5 _ rfl ?_)
          case c1 =>
            intro j u hj
            match j, hj with
            | 0, hj => simp at hj; subst hj; simp [Addr.add, go_sem]
          case c2 => intro u hu; simp at hu; subst hu; rfl
          case c3 => unfold maxLen; omega
          case c4 => omega
          case c5 => have := HB.out.size; simp; omega
          intro g cap' w3 hown3 hgrow hat hlt3
          have HO3 := Hid.in hown3
          rw [show (bsz sa zs k).map snt ++ [snt (sa x)] = (bsz sa zs (k + 1)).map snt by rw [HS.out, List.map_append]; rfl] at HO3
          have HB3 : Hid (Below w.heap.size w w3) := Hid.in ((HB.out.alloc HB.out.size _).grown hgrow (by have := HB.out.size; simp; omega) (fun k hk => (ownBlock_lt HO.out _ hk).1))
          clear hown3 hgrow hat hlt3
          go_wp2
          go_roundw
          case rel => exact ⟨k + 1, hlt, by omega, by go_num, by rw [HY'.out, G.out.2.1 HXC.out HYN.out], HO3.out, HB3.out⟩
          case measure => simp [intOf]; omega
      · have t1 : ((x : Int) == (c : Int)) = false := by simp; omega
        have HXC := Hid.in hxc
        clear hxc
        go_wp2_with fail
        refine (error_code _ sa HE2.out x (by omega) (by omega)).mono ?_
        rintro r wr ⟨rfl, rfl⟩
        go_wp2_with (at_builtin; refine wpList_append_lies _ rfl _ _ 46 rfl w.heap.size 23 i0 .nilIface 1 16 Tryd.underlying46 HI.out.1 HI.out.2.1 HI.out.2.2.1 HI.out.2.2.2 rfl (by decide) _ _ _ rfl (ownsRow_below HO.out ((Below.refl _ _).alloc (Nat.le_refl _) _) (Nat.le_refl _)) ⟨wr.heap.size, 0, none⟩ 1 1 [snt (sa x)] rfl rfl ?c1 ?c2 (by decide) ?c3 ?c4 ?c5 _ rfl ?_)
        case c1 =>
          intro j u hj
          match j, hj with
          | 0, hj => simp at hj; subst hj; simp [Addr.add, go_sem]
        case c2 => intro u hu; simp at hu; subst hu; rfl
        case c3 => unfold maxLen; omega
        case c4 => omega
        case c5 => have := HB.out.size; simp; omega
        intro g cap' w3 hown3 hgrow hat hlt3
        have HO3 := Hid.in hown3
        rw [show (bsz sa zs k).map snt ++ [snt (sa x)] = (bsz sa zs (k + 1)).map snt by rw [HS.out, List.map_append]; rfl] at HO3
        have HB3 : Hid (Below w.heap.size w w3) := Hid.in ((HB.out.alloc HB.out.size _).grown hgrow (by have := HB.out.size; simp; omega) (fun k hk => (ownBlock_lt HO.out _ hk).1))
        clear hown3 hgrow hat hlt3
        go_wp2
        go_roundw
        case rel => exact ⟨k + 1, hlt, by omega, by go_num, by rw [HY'.out, G.out.2.2 HXC.out], HO3.out, HB3.out⟩
        case measure => simp [intOf]; omega
    · have HAny : Hid (∀ (v : Value) (W : World), W.ownsRow w.heap.size 23 1 v k ((bsz sa zs k).map snt) → Below w.heap.size w W → Calls Tryd.prog 15 #[flt op 1 (flt op 2 (snt (sa c))), v] W fun r w' => r = .returned (.int .i64 (fidx (sa c) (bsz sa zs k) 0)) ∧ Below W.heap.size W w') := Hid.in (fun v W h1 h2 =>
        any_owns [(op, 1), (op, 2)] (sa c) (bsz sa zs k) v w.heap.size k _ W (by rw [bsz_length sa zs k hk]; omega) h1 rfl (bsz_length sa zs k hk).symm ((HE.out.below h2).s c (by omega) (by omega)) (bsz_sen sa zs k W (HE.out.below h2).s))
      generalize hy : fidx (sa c) (bsz sa zs k) 0 = y at HAny ⊢
      clear hy
      by_cases hA : k < zs.length
      all_goals
        first
        | have hA' : ¬ k < 20 := fun h => hlt ⟨hA, h⟩
        | skip
        clear hlt
        go_wp2_with fail
        refine (HAny.out _ _ HO.out HB.out).mono ?_
        rintro r w2 ⟨rfl, hb2⟩
        have HB2 := Hid.in (bstep HB.out (Nat.le_refl _) hb2)
        clear hb2
        go_wp2_with fail
        refine (runs_any_world _ (sa 6) (sa 7) (HE.out.below HB2.out).env).mono ?_
        rintro r w3 ⟨rfl, hb3⟩
        have HB3 := Hid.in (bstep HB2.out (Nat.le_refl _) hb3)
        clear hb3
        go_wp2
        go_ret
        exact ⟨rfl, HB3.out⟩

set_option maxHeartbeats 4000000 in
set_option maxRecDepth 100000 in
theorem lany_zero (w : World) (sa : Nat → Addr) (hE : Env10 w sa) (code : Int) (a : Option Addr) (cap : Nat) (op : ByteArray) :
    Calls Tryd.prog 6 #[.int .i64 code, .slice a 0 cap, .string op] w fun r w' => r = .returned (.bool true) ∧ Below w.heap.size w w' := by
  have HE := Hid.in hE
  clear hE
  have b1 := wi_le code 1 10 (by omega) (by omega)
  generalize hc : wi code 1 10 = c at b1
  have HC := Hid.in hc
  clear hc
  go_enter Tryd.func6, Tryd.ntmps6
  go_wp2_with fail
  refine (within_any code 1 10 _ (by omega) (by omega) (by omega)).mono ?_
  rw [HC.out]
  rintro r w ⟨rfl, rfl⟩
  go_wp2_with fail
  refine (error_code _ sa HE.out c (by omega) (by omega)).mono ?_
  rintro r w ⟨rfl, rfl⟩
  go_wp2_with fail
  refine (wrap_some _ _ _ _ _).mono ?_
  rintro r w ⟨rfl, rfl⟩
  go_wp2_with fail
  refine (wrap_some _ _ _ _ _).mono ?_
  rintro r w ⟨rfl, rfl⟩
  go_wp2
  refine wp_loop_rounds 1 ?_
  rw [rounds_succ]
  go_wp2_with fail
  refine (any_none _ (.inr ⟨_, _, rfl⟩) _).mono ?_
  rintro r w2 ⟨rfl, hb2⟩
  have HB2 := Hid.in hb2
  clear hb2
  go_wp2_with fail
  refine (runs_any_world _ (sa 6) (sa 7) (HE.out.below HB2.out).env).mono ?_
  rintro r w3 ⟨rfl, hb3⟩
  have HB3 := Hid.in (bstep HB2.out (Nat.le_refl _) hb3)
  clear hb3
  go_wp2
  go_ret
  exact ⟨rfl, HB3.out⟩

theorem lany_any (w : World) (sa : Nat → Addr) (hE : Env10 w sa) (code : Int) (v : Value) (zs : List Int) (op : ByteArray) (hz : IntsAt w v zs) :
    Calls Tryd.prog 6 #[.int .i64 code, v, .string op] w fun r w' => r = .returned (.bool true) ∧ Below w.heap.size w w' := by
  rcases hz with ⟨a, c, rfl, rfl⟩ | ⟨b, o, c, rfl, h⟩
  · exact lany_zero w sa hE code a c op
  · exact lany_some w sa hE code zs b o c op h

set_option maxRecDepth 100000 in
open Go.ChangeShapes Go.WideShapes Go.ChangeAt in
/-- An argument of type []int, opened. -/
theorem open_ints_at {H : Type} {enc : TypeId × Value → H} {r : Reach} {b0 base : Nat} {spare : Nat → Bool} {held : Bool} {W : World} {v : Value} {d : DataW H} {ps : List MemPlace}
    (hval : Value.okWide Tryd.prog W r b0 45 v) (h : DataW.Trod enc Tryd.prog W base spare held 45 v d ps) : ∃ zs : List Int, IntsAt W v zs := by
  obtain ⟨a0, len, cap, rfl⟩ := okWide_slice Tryd.underlying45 hval
  obtain ⟨fuel, hf⟩ := h
  rcases open_ints Tryd.underlying45 Tryd.underlying3 (by kernel_rfl) hf with ⟨hcs, hx⟩ | ⟨a, len', cap', zs, hcs, _, hl, hm, hz, hx, hcell, hwz⟩
  · simp [Value.cells] at hcs
    obtain ⟨rfl, rfl, rfl⟩ := hcs
    exact ⟨[], .inl ⟨_, _, rfl, rfl⟩⟩
  · simp [Value.cells] at hcs
    obtain ⟨rfl, rfl, rfl⟩ := hcs
    by_cases hl0 : len = 0
    · subst hl0
      exact ⟨[], .inl ⟨_, _, rfl, rfl⟩⟩
    · have hlz : len ≤ zs.length := by split at hz <;> omega
      obtain ⟨b, off, spot⟩ := a
      have hspot : spot = none := by simpa [Addr.add] using World.cell?_spot (hcell 0 (by omega))
      subst hspot
      have hlen : (zs.take len).length = len := by rw [List.length_take]; omega
      refine ⟨zs.take len, .inr ⟨b, off, cap, by rw [hlen], fun k hk => ?_⟩⟩
      have hk' : k < zs.length := by omega
      have := hcell k hk'
      rw [add_plain] at this
      rw [this]
      simp [List.getElem?_eq_getElem hk']
end Go.Proofs.YtgaajnefegjoeaaDoor
