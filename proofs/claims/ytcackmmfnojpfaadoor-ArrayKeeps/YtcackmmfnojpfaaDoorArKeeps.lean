/- DERIVED of the program: ArrayKeeps returns true. Own work. -/
import Derived.Test.YtcackmmfnojpfaaDoorArPin
import Derived.Test.YtcackmmfnojpfaaDoorArKeepP
import Derived.Test.YtcackmmfnojpfaaDoorArAsk
import Derived.Test.YtcackmmfnojpfaaDoorArEq
import Derived.Deep.WholeRow
namespace Go.Proofs.YtcackmmfnojpfaaDoor
open Go.RowKit Go.Extern.Stop Go.Stop Go.Extern

theorem Tryd.infoEnts : (Tryd.prog.info? 66).map (fun i => (i.zero, i.size)) = some (some (.agg (newE 32)), 320) := by kernel_rfl

/-- What the statement's own tables hold of an array. -/
structure Kept (w : World) (Hb : Nat) (A : List St) : Prop where
  h : ∃ cs, w.heap[Hb]? = some (.cells cs 66 (0, 0)) ∧ cs.size = 320 ∧ ∀ x : Nat, x < 32 → (getA A (x : Int)).2 = true → ∀ (c : Nat) v, ((getA A (x : Int)).1.ec)[c]? = some v → cs[x * 10 + c]? = some v
  i : ∃ ci, w.heap[Hb + 1]? = some (.cells ci 67 (0, 0)) ∧ ∀ x : Nat, x < 32 → ci[x]? = some (.int .i64 (if (getA A (x : Int)).2 = true then 1 else 0))

theorem Kept.step {w w' : World} {Hb : Nat} {A : List St} (h : Kept w Hb A) (hb : Below w.heap.size w w') : Kept w' Hb A := by
  obtain ⟨cs, s1, s2⟩ := h.h
  obtain ⟨ci, i1, i2⟩ := h.i
  exact ⟨⟨cs, (hb.block _ (blk_lt s1)).trans s1, s2⟩, ⟨ci, (hb.block _ (blk_lt i1)).trans i1, i2⟩⟩
theorem Kept.apart {w w' : World} {Hb lo hi : Nat} {A : List St} (h : Kept w Hb A) (ha : Apart lo hi w w') (hd : hi ≤ Hb) : Kept w' Hb A := by
  obtain ⟨cs, s1, s2⟩ := h.h
  obtain ⟨ci, i1, i2⟩ := h.i
  exact ⟨⟨cs, (ha.block _ (blk_lt s1) (by omega)).trans s1, s2⟩, ⟨ci, (ha.block _ (blk_lt i1) (by omega)).trans i1, i2⟩⟩
theorem Kept.alike {w : World} {Hb : Nat} {A A' : List St} (h : Kept w Hb A) (he : ∀ x : Nat, x < 32 → getA A' (x : Int) = getA A (x : Int)) : Kept w Hb A' := by
  obtain ⟨cs, s1, s2, s3⟩ := h.h
  obtain ⟨ci, i1, i2⟩ := h.i
  exact ⟨⟨cs, s1, s2, fun x hx => by rw [he x hx]; exact s3 x hx⟩, ⟨ci, i1, fun x hx => by rw [he x hx]; exact i2 x hx⟩⟩

theorem Kept.put {w : World} {Hb : Nat} {A A' : List St} (h : Kept w Hb A) {y : Nat} (hy : y < 32) {e : En} (he : ∀ x : Nat, x < 32 → getA A' (x : Int) = if (x : Int) = (y : Int) then (e, true) else getA A (x : Int)) :
    Kept ((w.setCells Hb (y * 10) e.ec).setCell ⟨Hb + 1, y, none⟩ (.int .i64 1)) Hb A' := by
  obtain ⟨cs, s1, s2, s3⟩ := h.h
  obtain ⟨ci, i1, i2⟩ := h.i
  have b1 := setCells_blk e.ec w Hb (y * 10) cs _ s1
  have b2 : (w.setCells Hb (y * 10) e.ec).heap[Hb + 1]? = some (.cells ci 67 (0, 0)) := ((apart_setCells e.ec w Hb (y * 10) Hb (Hb + 1) (Nat.le_refl _) (by omega)).block _ (blk_lt i1) (by omega)).trans i1
  have b3 := blk_set (i := y) (.int .i64 1) b2
  have b4 : ((w.setCells Hb (y * 10) e.ec).setCell ⟨Hb + 1, y, none⟩ (.int .i64 1)).heap[Hb]? = some (.cells (setL cs (y * 10) e.ec) 66 (0, 0)) := (Below.heap_setCell _ _ _ Hb (by simp)).trans b1
  refine ⟨⟨_, b4, by rw [setL_size]; exact s2, fun x hx hg c v hv => ?_⟩, ⟨_, b3, fun x hx => ?_⟩⟩
  · rw [he x hx] at hg hv
    have hc : c < 10 := by have := (List.getElem?_eq_some_iff.1 hv).1; rwa [ec_len] at this
    by_cases hxy : x = y
    · subst hxy
      rw [if_pos rfl] at hv
      exact setL_in _ _ _ _ _ hv (by rw [ec_len]; omega)
    · rw [if_neg (by omega)] at hg hv
      rw [setL_out _ _ _ _ (by rw [ec_len]; omega)]
      exact s3 x hx hg c v hv
  · rw [he x hx]
    have hl := (Array.getElem?_eq_some_iff.1 (i2 x hx)).1
    by_cases hxy : x = y
    · subst hxy; rw [Array.getElem?_setIfInBounds_self_of_lt hl, if_pos rfl]; rfl
    · rw [Array.getElem?_setIfInBounds_ne (fun z => hxy z.symm), if_neg (show ¬ (x : Int) = (y : Int) by omega)]; exact i2 x hx

theorem Kept.drop {w : World} {Hb : Nat} {A A' : List St} (h : Kept w Hb A) {y : Nat} (he : ∀ x : Nat, x < 32 → getA A' (x : Int) = if (x : Int) = (y : Int) then (En.zero, false) else getA A (x : Int)) :
    Kept (w.setCell ⟨Hb + 1, y, none⟩ (.int .i64 0)) Hb A' := by
  obtain ⟨cs, s1, s2, s3⟩ := h.h
  obtain ⟨ci, i1, i2⟩ := h.i
  have b3 := blk_set (i := y) (.int .i64 0) i1
  have b4 : (w.setCell ⟨Hb + 1, y, none⟩ (.int .i64 0)).heap[Hb]? = some (.cells cs 66 (0, 0)) := (Below.heap_setCell _ _ _ Hb (by simp)).trans s1
  refine ⟨⟨_, b4, s2, fun x hx hg c v hv => ?_⟩, ⟨_, b3, fun x hx => ?_⟩⟩
  · rw [he x hx] at hg hv
    by_cases hxy : x = y
    · subst hxy; rw [if_pos rfl] at hg; cases hg
    · rw [if_neg (by omega)] at hg hv
      exact s3 x hx hg c v hv
  · rw [he x hx]
    have hl := (Array.getElem?_eq_some_iff.1 (i2 x hx)).1
    by_cases hxy : x = y
    · subst hxy; rw [Array.getElem?_setIfInBounds_self_of_lt hl, if_pos rfl]; rfl
    · rw [Array.getElem?_setIfInBounds_ne (fun z => hxy z.symm), if_neg (show ¬ (x : Int) = (y : Int) by omega)]; exact i2 x hx

theorem Apart.cell {lo hi : Nat} {w w' : World} (h : Apart lo hi w w') {p : Addr} (hp : p.block < w.heap.size) (ho : ¬ (lo ≤ p.block ∧ p.block < hi)) : w'.cell? p = w.cell? p := by
  simp only [World.cell?, h.block _ hp ho]
theorem ECells.apart {w w' : World} {b o lo hi : Nat} {e : En} (h : ECells w b o e) (ha : Apart lo hi w w') (hd : ¬ (lo ≤ b ∧ b < hi)) : ECells w' b o e := by
  obtain ⟨h0, h1, h2, h3, h4, h5, h6, h7, h8, h9⟩ := h
  have hl := lt_cell h0
  exact ⟨(ha.cell (p := ⟨b, o, none⟩) hl hd).trans h0, (ha.cell (p := ⟨b, o + 1, none⟩) hl hd).trans h1, (ha.cell (p := ⟨b, o + 2, none⟩) hl hd).trans h2, (ha.cell (p := ⟨b, o + 3, none⟩) hl hd).trans h3, (ha.cell (p := ⟨b, o + 4, none⟩) hl hd).trans h4,
    (ha.cell (p := ⟨b, o + 5, none⟩) hl hd).trans h5, (ha.cell (p := ⟨b, o + 6, none⟩) hl hd).trans h6, (ha.cell (p := ⟨b, o + 7, none⟩) hl hd).trans h7, (ha.cell (p := ⟨b, o + 8, none⟩) hl hd).trans h8, (ha.cell (p := ⟨b, o + 9, none⟩) hl hd).trans h9⟩
theorem vld_nat {x : Nat} (h : x < 32) : vld (x : Int) = true := by simp only [vld, decide_eq_true_eq]; omega

abbrev ints32 : Obj := .cells #[.int .i64 0, .int .i64 0, .int .i64 0, .int .i64 0, .int .i64 0, .int .i64 0, .int .i64 0, .int .i64 0, .int .i64 0, .int .i64 0, .int .i64 0, .int .i64 0, .int .i64 0, .int .i64 0, .int .i64 0, .int .i64 0, .int .i64 0, .int .i64 0, .int .i64 0, .int .i64 0, .int .i64 0, .int .i64 0, .int .i64 0, .int .i64 0, .int .i64 0, .int .i64 0, .int .i64 0, .int .i64 0, .int .i64 0, .int .i64 0, .int .i64 0, .int .i64 0] 67

theorem kept_new (w : World) : Kept ((w.alloc (.cells (newE 32) 66)).alloc ints32) w.heap.size (newA 8 8) := by
  refine ⟨⟨newE 32, ((below_alloc _ _).block _ (by simp)).trans (heap_alloc_new _ _), by simp [newE, size_madeCells], fun x hx hg => ?_⟩, ⟨Array.replicate 32 (.int .i64 0), ?_, fun x hx => ?_⟩⟩
  · rw [get_new (by decide)] at hg; cases hg
  · have := heap_alloc_new (w.alloc (.cells (newE 32) 66)) ints32
    rw [World.size_alloc] at this
    exact this
  · rw [get_new (by decide)]; simp [hx]

set_option maxHeartbeats 16000000 in
set_option maxRecDepth 20000 in
theorem arrayKeeps_any (w : World) (sa : Nat → Addr) (hE : Env10 w sa) (al : Option Addr) (n capl : Nat) (hQ : Asks6 w al n) (n1 : Int) :
    Calls Tryd.prog 7 #[.slice al n capl, .int .i64 n1] w fun r w' => r = .returned (.bool true) ∧ Below w.heap.size w w' := by
  have HE := Hid.in hE
  have HQ := Hid.in hQ
  have hz66 := (zero_of_info Tryd.infoEnts).1
  clear hE hQ
  obtain ⟨tl, htl⟩ : ∃ l : Nat, wI n1 0 31 = (l : Int) := ⟨(wI n1 0 31).toNat, by have := wI_le n1 0 31 (by omega); omega⟩
  have HTL := Hid.in htl
  have htl32 : tl < 32 := by have := wI_le n1 0 31 (by omega); omega
  clear htl
  go_enter Tryd.func7, Tryd.ntmps7
  go_wp2_with fail
  refine (new_ok w 8 8 (by omega) (by omega)).mono ?_
  rintro r w1 ⟨rfl, hA, hb⟩
  have HA1 := Hid.in hA
  have HB1 := Hid.in hb
  have HM : Hid (w.heap.size + 2 + 8 ≤ w1.heap.size) := Hid.in (by have := hA.lt.2 7 (by simp [newA]); omega)
  have HZ1 : Hid (Below w1.heap.size w1 ((w1.alloc (.cells (newE 32) 66)).alloc ints32)) := Hid.in ((below_alloc _ _).alloc (by simp) _)
  clear hA hb
  go_wp2
  go_loopw [9] (fun c wr => ∃ (i : Nat) (A : List St), i ≤ n ∧ i ≤ 60 ∧ c = .int .i64 (i : Int) ∧ Arr wr w.heap.size 8 A ∧ A.length = 8 ∧ OkA 8 A ∧ Kept wr w1.heap.size A ∧ Below w.heap.size w wr) (fun c _ => 60 - (intOf c).toNat)
  case atStart => exact ⟨0, newA 8 8, Nat.zero_le _, Nat.zero_le _, rfl, HA1.out.step HZ1.out, by simp [newA], OkA.new 8 8, kept_new w1, bstep HB1.out (Nat.le_refl _) HZ1.out⟩
  case round =>
    obtain ⟨i, A, hi, hi60, rfl, hA, hAl, hok, hkp, hb⟩ := hrel
    have HA := Hid.in hA
    have HAL := Hid.in hAl
    have HOK := Hid.in hok
    have HKP := Hid.in hkp
    have HBr := Hid.in hb
    clear hA hAl hok hb hkp HA1 HB1 HZ1 hz66
    by_cases hlt : i < n ∧ i < 60
    · obtain ⟨hin, hi6⟩ := hlt
      obtain ⟨lb, lo, rfl, kd, ln0, e, pa, pc, ps, hq0⟩ := HQ.out i hin
      have hq := hq0.step HBr.out
      have hkd := hq.kd
      obtain ⟨e0, e1, e2, e3, e4, e5, e6, e7, e8, e9⟩ := e
      obtain ⟨c0, c1, c2, c3, c4, c5, c6, c7, c8, c9⟩ := hq.en
      simp only [] at c0 c1 c2 c3 c4 c5 c6 c7 c8 c9
      have HKD := Hid.in hq0.kd
      obtain ⟨y, hy⟩ : ∃ l : Nat, wI e0 0 31 = (l : Int) := ⟨(wI e0 0 31).toNat, by have := wI_le e0 0 31 (by omega); omega⟩
      have hy32 : y < 32 := by have := wI_le e0 0 31 (by omega); omega
      have HY := Hid.in hy
      obtain ⟨st, hst⟩ : ∃ z, wI e1 1 4 = z := ⟨_, rfl⟩
      obtain ⟨md, hmd⟩ : ∃ z, wI e2 0 3 = z := ⟨_, rfl⟩
      obtain ⟨ep, hep⟩ : ∃ z, wI e3 0 9 = z := ⟨_, rfl⟩
      have b1 := wI_le e1 1 4 (by omega)
      have b2 := wI_le e2 0 3 (by omega)
      have b3 := wI_le e3 0 9 (by omega)
      rw [hst] at b1
      rw [hmd] at b2
      rw [hep] at b3
      obtain ⟨st1, st4⟩ := b1
      obtain ⟨md0, md3⟩ := b2
      obtain ⟨ep0, ep9⟩ := b3
      have HST := Hid.in hst
      have HMD := Hid.in hmd
      have HEP := Hid.in hep
      have i1 : (i : Int) < (n : Int) := by omega
      have i2 : (i : Int) < 60 := by omega
      clear hq hq0 hy hst hmd hep
      go_wp2_with fail
      refine (withinc e0 0 31 (y : Int) _ (by decide) (by decide) (by decide) HY.out).mono ?_
      rintro r w' ⟨rfl, hw'⟩
      subst hw'
      go_upto_region 11 with fail
      have W1 := fun w' => withinc e1 1 4 st w' (by decide) (by decide) (by decide) HST.out
      have W2 := fun w' => withinc e2 0 3 md w' (by decide) (by decide) (by decide) HMD.out
      have W3 := fun w' => withinc e3 0 9 ep w' (by decide) (by decide) (by decide) HEP.out
      go_cut [] (fun wx => wx = (wr.alloc (.cells #[.int .i64 (y : Int), .int .i64 st, .int .i64 md, .int .i64 ep, .int .u32 e4, .int .u32 e5, .int .u32 e6, .int .u32 e7, .bool e8, .bool e9] 32)).drew)
      case first =>
        clear HA HAL HOK HKP HBr HQ HE HTL htl32 HM hkd HKD c0 c1 c2 c3 c4 c5 c6 c7 c8 c9 HY hy32 HST HMD HEP st1 st4 md0 md3 ep0 ep9 i1 i2
        go_region_with (first
          | (go_at_call 28; refine (Calls.mono (by with_reducible exact W1 _) ?_); rintro r w' ⟨rfl, rfl⟩)
          | (go_at_call 28; refine (Calls.mono (by with_reducible exact W2 _) ?_); rintro r w' ⟨rfl, rfl⟩)
          | (go_at_call 28; refine (Calls.mono (by with_reducible exact W3 _) ?_); rintro r w' ⟨rfl, rfl⟩))
        all_goals
          go_wp2_with fail
          go_meet
          case rel => rfl
      case rest =>
        have hbx : Below wr.heap.size wr wc := by rw [hcut]; exact (below_alloc _ _).drew
        have hex : ECells wc wr.heap.size 0 (En.mk (y : Int) st md ep e4 e5 e6 e7 e8 e9) := by
          rw [hcut]; exact (ECells.lit wr 32 (En.mk (y : Int) st md ep e4 e5 e6 e7 e8 e9) _ rfl).step ((Below.refl _ _).drew)
        rename World => wx
        have HAX := Hid.in (HA.out.step hbx)
        have HKX := Hid.in (HKP.out.step hbx)
        have HBX := Hid.in (bstep HBr.out (Nat.le_refl _) hbx)
        have HEX := Hid.in hex
        have HXL : Hid (w1.heap.size + 1 < wr.heap.size) := Hid.in (by obtain ⟨ci, i1, _⟩ := HKP.out.i; exact blk_lt i1)
        have HRG : Hid ((En.mk (y : Int) st md ep e4 e5 e6 e7 e8 e9).right = true) := Hid.in (by simp only [En.right, decide_eq_true_eq]; omega)
        have HA8 : Hid (0 < A.length) := Hid.in (by have := HAL.out; omega)
        have hkx : wx.cell? ⟨lb, lo + i * 13, none⟩ = some (.int .i64 kd) := (HBX.out.cell (p := ⟨lb, lo + i * 13, none⟩) (lt_cell HKD.out)).trans HKD.out
        clear hcut hbx W1 W2 W3 HA HKP HBr hkd c0 c1 c2 c3 c4 c5 c6 c7 c8 c9 HY HST HMD HEP
        obtain ⟨c0, c1, c2, c3, c4, c5, c6, c7, c8, c9⟩ := hex
        simp only [Nat.zero_add] at c0 c1 c2 c3 c4 c5 c6 c7 c8 c9
        go_upto_if 68 with fail
        go_cut [] (fun wy => ∃ A', Arr wy w.heap.size 8 A' ∧ A'.length = 8 ∧ OkA 8 A' ∧ Kept wy w1.heap.size A' ∧ Below w.heap.size w wy)
        case first =>
          by_cases hk3 : kd = 3
          · subst hk3
            obtain ⟨A4, h4⟩ : ∃ A4, dropA A (y : Int) = ((getA A (y : Int)).2, A4) := ⟨_, Prod.ext drop_get rfl⟩
            have HD4 := Hid.in h4
            have HO4 : Hid (OkA 8 A4) := Hid.in (by have := HOK.out.drop HA8.out (y : Int); rwa [h4] at this)
            have HL4 : Hid (A4.length = 8) := Hid.in (by have := dropA_len A (y : Int); rw [h4] at this; exact this.trans HAL.out)
            have HG4 : Hid (∀ x : Nat, x < 32 → getA A4 (x : Int) = if (x : Int) = (y : Int) then (En.zero, false) else getA A (x : Int)) := Hid.in (fun x hx => by have := get_drop HOK.out HA8.out (vld_nat hy32) (vld_nat hx); rwa [h4] at this)
            obtain ⟨ci, i1', i2'⟩ := HKX.out.i
            have ki := blk_cell i1' (i2' y hy32)
            have HKI := Hid.in ki
            have HI1 := Hid.in i1'
            clear h4 i1' i2'
            generalize (getA A (y : Int)).2 = gb at HD4 ki HKI
            have y0 : (0 : Int) ≤ (y : Int) := by omega
            have y1 : (y : Int) < 32 := by omega
            cases gb with
            | false =>
              simp only [if_false, Bool.false_eq_true] at ki
              go_upto_region 14 with fail
              go_region_held3 (fun W => W.cell? ⟨wr.heap.size, 0, none⟩ = some (.int .i64 (y : Int)) ∧ W.cell? ⟨w1.heap.size + 1, y, none⟩ = some (.int .i64 0)) (first | go_keep | (simp [*]; done))
                (first | (go_at_call 14; refine (drop_c _ _ 8 A (HAX.out.step ((Below.refl _ _).drew)) (y : Int) _ A4 HD4.out).mono ?_; rintro r w5 ⟨rfl, hA5, hp5⟩; have HA5 := Hid.in hA5; have HP5 := Hid.in hp5; have hk5 : w5.cell? ⟨wr.heap.size, 0, none⟩ = some (.int .i64 (y : Int)) := (hp5.cell (p := ⟨wr.heap.size, 0, none⟩) (lt_cell c0) (fun h => absurd h.2 (by have := HM.out; have := HXL.out; rw [HAL.out]; show ¬ wr.heap.size < w.heap.size + 2 + 8; omega))).trans c0; have hi5 : w5.cell? ⟨w1.heap.size + 1, y, none⟩ = some (.int .i64 0) := (hp5.cell (p := ⟨w1.heap.size + 1, y, none⟩) (blk_lt HI1.out) (fun h => absurd h.2 (by have := HM.out; rw [HAL.out]; show ¬ w1.heap.size + 1 < w.heap.size + 2 + 8; omega))).trans ki; clear hA5 hp5))
              have HK5 := Hid.in (HKX.out.apart ((Apart.of_below ((Below.refl _ _).drew)).trans HP5.out) (by rw [HAL.out]; exact HM.out))
              have HB5 := Hid.in (HP5.out.below (HBX.out.drew) (Nat.le_refl _) HBX.out.size)
              have hf5 : w5.frozen? ⟨w1.heap.size + 1, y, none⟩ = false := by obtain ⟨ci5, i5, _⟩ := HK5.out.i; exact blk_free i5
              clear ki c1 c2 c3 c4 c5 c6 c7 c8 c9 c0
              go_wp2
              go_meet
              case rel => exact ⟨A4, HA5.out.kept (apart_setCells [.int .i64 0] w5 (w1.heap.size + 1) y (w1.heap.size + 1) (w1.heap.size + 2) (Nat.le_refl _) (by omega)) (.inr (by rw [HL4.out]; have := HM.out; omega)), HL4.out, HO4.out, HK5.out.drop HG4.out, HB5.out.setCell (by show w.heap.size ≤ w1.heap.size + 1; have := HM.out; omega) _⟩
            | true =>
              simp only [if_true] at ki
              go_upto_region 14 with fail
              go_region_held3 (fun W => W.cell? ⟨wr.heap.size, 0, none⟩ = some (.int .i64 (y : Int)) ∧ W.cell? ⟨w1.heap.size + 1, y, none⟩ = some (.int .i64 1)) (first | go_keep | (simp [*]; done))
                (first | (go_at_call 14; refine (drop_c _ _ 8 A (HAX.out.step ((Below.refl _ _).drew)) (y : Int) _ A4 HD4.out).mono ?_; rintro r w5 ⟨rfl, hA5, hp5⟩; have HA5 := Hid.in hA5; have HP5 := Hid.in hp5; have hk5 : w5.cell? ⟨wr.heap.size, 0, none⟩ = some (.int .i64 (y : Int)) := (hp5.cell (p := ⟨wr.heap.size, 0, none⟩) (lt_cell c0) (fun h => absurd h.2 (by have := HM.out; have := HXL.out; rw [HAL.out]; show ¬ wr.heap.size < w.heap.size + 2 + 8; omega))).trans c0; have hi5 : w5.cell? ⟨w1.heap.size + 1, y, none⟩ = some (.int .i64 1) := (hp5.cell (p := ⟨w1.heap.size + 1, y, none⟩) (blk_lt HI1.out) (fun h => absurd h.2 (by have := HM.out; rw [HAL.out]; show ¬ w1.heap.size + 1 < w.heap.size + 2 + 8; omega))).trans ki; clear hA5 hp5))
              have HK5 := Hid.in (HKX.out.apart ((Apart.of_below ((Below.refl _ _).drew)).trans HP5.out) (by rw [HAL.out]; exact HM.out))
              have HB5 := Hid.in (HP5.out.below (HBX.out.drew) (Nat.le_refl _) HBX.out.size)
              have hf5 : w5.frozen? ⟨w1.heap.size + 1, y, none⟩ = false := by obtain ⟨ci5, i5, _⟩ := HK5.out.i; exact blk_free i5
              clear ki c1 c2 c3 c4 c5 c6 c7 c8 c9 c0
              go_wp2
              go_meet
              case rel => exact ⟨A4, HA5.out.kept (apart_setCells [.int .i64 0] w5 (w1.heap.size + 1) y (w1.heap.size + 1) (w1.heap.size + 2) (Nat.le_refl _) (by omega)) (.inr (by rw [HL4.out]; have := HM.out; omega)), HL4.out, HO4.out, HK5.out.drop HG4.out, HB5.out.setCell (by show w.heap.size ≤ w1.heap.size + 1; have := HM.out; omega) _⟩
          · have hk3' : (kd == 3) = false := by simpa using hk3
            obtain ⟨A4, h4⟩ : ∃ A4, putA A (En.mk (y : Int) st md ep e4 e5 e6 e7 e8 e9) = (0, A4) := ⟨_, Prod.ext (put_eight HOK.out HAL.out HRG.out) rfl⟩
            have HP4 := Hid.in h4
            have HO4 : Hid (OkA 8 A4) := Hid.in (by have := HOK.out.put HA8.out (En.mk (y : Int) st md ep e4 e5 e6 e7 e8 e9); rwa [h4] at this)
            have HL4 : Hid (A4.length = 8) := Hid.in (by have := putA_len A (En.mk (y : Int) st md ep e4 e5 e6 e7 e8 e9); rw [h4] at this; exact this.trans HAL.out)
            have HG4 : Hid (∀ x : Nat, x < 32 → getA A4 (x : Int) = if (x : Int) = (y : Int) then ((En.mk (y : Int) st md ep e4 e5 e6 e7 e8 e9), true) else getA A (x : Int)) := Hid.in (fun x hx => by have := get_put HA8.out HRG.out (by rw [h4]) (vld_nat hx); rwa [h4] at this)
            clear h4 hk3
            go_wp2_with fail
            refine (put_c wx sa (HE.out.below HBX.out) _ 8 A HAX.out (En.mk (y : Int) st md ep e4 e5 e6 e7 e8 e9) 0 A4 HP4.out).mono ?_
            rintro r w5 ⟨rfl, hA5, hp5⟩
            have HA5 := Hid.in hA5
            have HK5 := Hid.in (HKX.out.apart hp5 (by rw [HAL.out]; exact HM.out))
            have HB5 := Hid.in (hp5.below HBX.out (Nat.le_refl _) HBX.out.size)
            have HE5 := Hid.in (HEX.out.apart hp5 (by rw [HAL.out]; have := HM.out; have := HXL.out; omega))
            clear hA5 hp5 c0 c1 c2 c3 c4 c5 c6 c7 c8 c9 hkx
            obtain ⟨c0, c1, c2, c3, c4, c5, c6, c7, c8, c9⟩ := HE5.out
            simp only [Nat.zero_add] at c0 c1 c2 c3 c4 c5 c6 c7 c8 c9
            obtain ⟨cs, s1, s2, _⟩ := HK5.out.h
            obtain ⟨ci, i1', i2'⟩ := HK5.out.i
            have ki := blk_cell i1' (i2' y hy32)
            have fi : w5.frozen? ⟨w1.heap.size + 1, y, none⟩ = false := blk_free i1'
            have fh : ∀ o, w5.frozen? ⟨w1.heap.size, o, none⟩ = false := fun o => blk_free s1
            have hv : ∀ c, c < 10 → ∃ v, w5.cell? ⟨w1.heap.size, y * 10 + c, none⟩ = some v := fun c hc => ⟨_, blk_cell s1 (Array.getElem?_eq_getElem (show y * 10 + c < cs.size by omega))⟩
            obtain ⟨u0, g0⟩ := hv 0 (by decide)
            obtain ⟨u1, g1⟩ := hv 1 (by decide)
            obtain ⟨u2, g2⟩ := hv 2 (by decide)
            obtain ⟨u3, g3⟩ := hv 3 (by decide)
            obtain ⟨u4', g4⟩ := hv 4 (by decide)
            obtain ⟨u5', g5⟩ := hv 5 (by decide)
            obtain ⟨u6', g6⟩ := hv 6 (by decide)
            obtain ⟨u7', g7⟩ := hv 7 (by decide)
            obtain ⟨u8', g8⟩ := hv 8 (by decide)
            obtain ⟨u9', g9⟩ := hv 9 (by decide)
            rw [Nat.add_zero] at g0
            have y0 : (0 : Int) ≤ (y : Int) := by omega
            have y1 : (y : Int) < 32 := by omega
            have n1' : ¬ wr.heap.size = w1.heap.size := by have := HXL.out; omega
            have n2' : ¬ w1.heap.size = wr.heap.size := by have := HXL.out; omega
            have n3' : ¬ wr.heap.size = w1.heap.size + 1 := by have := HXL.out; omega
            have n4' : ¬ w1.heap.size + 1 = wr.heap.size := by have := HXL.out; omega
            clear s1 s2 i1' i2' hv
            rw [perr_none]
            go_upto_region 19 with fail
            go_region
            go_wp2
            go_meet
            case rel => exact ⟨A4, (HA5.out.kept ((apart_setCells (En.mk (y : Int) st md ep e4 e5 e6 e7 e8 e9).ec w5 w1.heap.size (y * 10) w1.heap.size (w1.heap.size + 2) (Nat.le_refl _) (by omega)).trans (apart_setCells [.int .i64 1] _ (w1.heap.size + 1) y w1.heap.size (w1.heap.size + 2) (by omega) (by omega))) (.inr (by rw [HL4.out]; exact HM.out))).drew, HL4.out, HO4.out, (HK5.out.put hy32 HG4.out).step ((Below.refl _ _).drew), ((belowSetCells (by have := HM.out; omega) (En.mk (y : Int) st md ep e4 e5 e6 e7 e8 e9).ec (y * 10) w5 HB5.out).setCell (by show w.heap.size ≤ w1.heap.size + 1; have := HM.out; omega) _).drew⟩
        case rest =>
          obtain ⟨A2, hA2, hl2, ho2, hk2, hb2⟩ := hcut
          rename World => wy
          have HA2 := Hid.in hA2
          have HL2 := Hid.in hl2
          have HO2 := Hid.in ho2
          have HK2 := Hid.in hk2
          have HB2 := Hid.in hb2
          obtain ⟨ct, A3, h3⟩ : ∃ ct A3, touchA A2 (tl : Int) = (ct, A3) := ⟨_, _, rfl⟩
          have HT3 := Hid.in h3
          have HO3 : Hid (OkA 8 A3) := Hid.in (by have := ho2.touch (by omega) (tl : Int); rwa [h3] at this)
          have HL3 : Hid (A3.length = 8) := Hid.in (by have := touchA_len A2 (tl : Int); rw [h3] at this; exact this.trans hl2)
          have HG3 : Hid (∀ x : Nat, x < 32 → getA A3 (x : Int) = getA A2 (x : Int)) := Hid.in (fun x hx => by have := get_touch (A := A2) (by omega) (tl : Int) (vld_nat hx); rwa [h3] at this)
          clear hA2 hl2 ho2 hk2 hb2 h3 c0 c1 c2 c3 c4 c5 c6 c7 c8 c9 hkx
          go_wp2_with fail
          refine (withinc n1 0 31 (tl : Int) _ (by decide) (by decide) (by decide) HTL.out).mono ?_
          rintro r w' ⟨rfl, hw'⟩
          subst hw'
          go_wp2_with fail
          refine (atouch_c _ _ 8 A2 HA2.out (tl : Int) ct A3 HT3.out).mono ?_
          rintro r w9 ⟨rfl, hA, hp⟩
          have HA9 := Hid.in hA
          have HK9 := Hid.in ((HK2.out.apart hp (by rw [HL2.out]; exact HM.out)).alike HG3.out)
          have HB9 := Hid.in (hp.below HB2.out (Nat.le_refl _) HB2.out.size)
          clear hA hp
          go_wp2
          go_loopw [11] (fun c wv => ∃ j : Nat, j ≤ 32 ∧ c = .int .i64 (j : Int) ∧ Below w9.heap.size w9 wv) (fun c _ => 32 - (intOf c).toNat)
          case atStart => exact ⟨0, Nat.zero_le _, rfl, Below.refl _ _⟩
          case round =>
            obtain ⟨j, hj, rfl, hbv⟩ := hrel
            have HBV := Hid.in hbv
            clear hbv
            by_cases hj32 : j < 32
            · obtain ⟨e, c, hge⟩ : ∃ e c, getA A3 (j : Int) = (e, c) := ⟨_, _, rfl⟩
              have HGE := Hid.in hge
              have HZE : Hid (c = false → e = En.zero) := Hid.in (fun hc => by
                subst hc
                unfold getA at hge
                split at hge
                · split at hge
                  · exact (congrArg Prod.fst hge).symm
                  · have := congrArg Prod.snd hge; cases this
                · exact (congrArg Prod.fst hge).symm)
              clear hge
              go_wp2_with fail
              refine (get_c _ _ 8 A3 (HA9.out.step HBV.out) (j : Int) e c HGE.out).mono ?_
              rintro r w10 ⟨rfl, hb⟩
              have HB10 := Hid.in (bstep HBV.out (Nat.le_refl _) hb)
              have hK := HK9.out.step HB10.out
              obtain ⟨ci, i1', i2'⟩ := hK.i
              have ki := blk_cell i1' (i2' j hj32)
              rw [HGE.out] at ki
              have hHl : w1.heap.size + 1 < w10.heap.size := blk_lt i1'
              have hHl0 : w1.heap.size < w10.heap.size := by omega
              have j1 : (j : Int) < 32 := by omega
              have HHL := Hid.in hHl
              clear hb
              obtain ⟨e0', e1', e2', e3', e4', e5', e6', e7', e8', e9'⟩ := e
              cases c with
              | true =>
                obtain ⟨cs, s1, s2, s3⟩ := hK.h
                have f := fun c v hv => blk_cell s1 (s3 j hj32 (by rw [HGE.out]) c v hv)
                rw [HGE.out] at f
                have k0 := f 0 _ rfl
                have k1 := f 1 _ rfl
                have k2 := f 2 _ rfl
                have k3 := f 3 _ rfl
                have k4 := f 4 _ rfl
                have k5 := f 5 _ rfl
                have k6 := f 6 _ rfl
                have k7 := f 7 _ rfl
                have k8 := f 8 _ rfl
                have k9 := f 9 _ rfl
                simp only [Nat.add_zero, if_true] at k0 k1 k2 k3 k4 k5 k6 k7 k8 k9 ki
                have hne : ∀ w', (binOp .neq 32 (.agg #[.int .i64 e0', .int .i64 e1', .int .i64 e2', .int .i64 e3', .int .u32 e4', .int .u32 e5', .int .u32 e6', .int .u32 e7', .bool e8', .bool e9']) (.agg #[.int .i64 e0', .int .i64 e1', .int .i64 e2', .int .i64 e3', .int .u32 e4', .int .u32 e5', .int .u32 e6', .int .u32 e7', .bool e8', .bool e9'])).run Tryd.prog w' = .ok (.bool false) w' := fun w' => ne_entry (En.mk e0' e1' e2' e3' e4' e5' e6' e7' e8' e9') w'
                clear hK i1' i2' s1 s2 s3 f
                go_upto_region 25 with fail
                go_quiet (fail)
                go_wp2
                go_roundw
                case rel => exact ⟨j + 1, by omega, by go_num, drewN_below (HB10.out.alloc HB10.out.size _) _⟩
                case measure => simp [intOf]; omega
              | false =>
                have hz := HZE.out rfl
                simp only [En.zero, En.mk.injEq] at hz
                obtain ⟨rfl, rfl, rfl, rfl, rfl, rfl, rfl, rfl, rfl, rfl⟩ := hz
                simp only [if_false, Bool.false_eq_true] at ki
                have hne : ∀ w', (binOp .neq 32 (.agg #[.int .i64 0, .int .i64 0, .int .i64 0, .int .i64 0, .int .u32 0, .int .u32 0, .int .u32 0, .int .u32 0, .bool false, .bool false]) (.agg #[.int .i64 0, .int .i64 0, .int .i64 0, .int .i64 0, .int .u32 0, .int .u32 0, .int .u32 0, .int .u32 0, .bool false, .bool false])).run Tryd.prog w' = .ok (.bool false) w' := fun w' => ne_entry En.zero w'
                clear hK i1' i2'
                go_upto_region 25 with fail
                go_quiet (fail)
                go_wp2
                go_roundw
                case rel => exact ⟨j + 1, by omega, by go_num, drewN_below (HB10.out.alloc HB10.out.size _) _⟩
                case measure => simp [intOf]; omega
            · go_wp2
              go_roundw
              case rel => exact ⟨i + 1, A3, by omega, by omega, by go_num, HA9.out.step HBV.out, HL3.out, HO3.out, HK9.out.step HBV.out, bstep HB9.out (Nat.le_refl _) HBV.out⟩
              case measure => simp [intOf]; omega
    · have HKK : Hid ((i : Int) < (n : Int) ∧ (i : Int) = 60 ∨ ¬ (i : Int) < (n : Int)) := Hid.in (by omega)
      clear hlt hi hi60
      rcases HKK.out with ⟨h1, h2⟩ | h1
      all_goals
        clear HKK
        go_wp2_with fail
        refine (arrayRuns_any _ sa (HE.out.below HBr.out)).mono ?_
        rintro r w9 ⟨rfl, hb⟩
        have HB9 := Hid.in (bstep HBr.out (Nat.le_refl _) hb)
        clear hb
        go_wp2
        go_ret
        exact ⟨rfl, HB9.out⟩

end Go.Proofs.YtcackmmfnojpfaaDoor
