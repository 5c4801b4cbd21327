/- DERIVED of the program: PackIn returns true. Own work. -/
import Derived.Test.YtkjenbilfjlfdabDoorPkJ
namespace Go.Proofs.YtkjenbilfjlfdabDoor
open Go.RowKit Go.Extern.Stop Go.Stop Go.Extern

theorem Tryd.infoInt : (Tryd.prog.info? 3).map (fun i => (i.zero, i.size, i.bytes)) = some (some (.int .i64 0), 1, 8) := by kernel_rfl

/-- The call's own slice of numbers. -/
def OwnI (w : World) (B : Nat) (ao : Option Addr) (n cap : Nat) (zs : List Int) : Prop := w.ownsRow B 3 1 (.slice ao n cap) n (zs.map (Value.int .i64))

theorem OwnI.nil (w : World) (B : Nat) : OwnI w B none 0 0 [] := ⟨rfl, .inl ⟨rfl, rfl⟩⟩
theorem OwnI.blk {w : World} {B n cap : Nat} {ao : Option Addr} {zs : List Int} (h : OwnI w B ao n cap zs) : ∀ k, oblk ao = some k → B ≤ k ∧ ∃ cur, w.heap[k]? = some (.cells cur 3 (0, 0)) := by
  obtain ⟨h1, h2⟩ := h
  intro k hk
  rcases h2 with ⟨e, _⟩ | ⟨g, cap', cur, e, hg, hh, r⟩
  · simp only [Value.slice.injEq] at e
    rw [e.1] at hk; cases hk
  · simp only [Value.slice.injEq] at e
    rw [e.1] at hk
    cases hk
    exact ⟨hg, cur, hh⟩
theorem Own.tag {w : World} {B n cap : Nat} {ao : Option Addr} {bs : List Nat} (h : Own w B ao n cap bs) : ∀ k, oblk ao = some k → ∃ cur, w.heap[k]? = some (.cells cur 5 (0, 0)) := by
  obtain ⟨h1, h2⟩ := h
  intro k hk
  rcases h2 with ⟨e, _⟩ | ⟨g, cap', cur, e, hg, hh, r⟩
  · simp only [Value.slice.injEq] at e
    rw [e.1] at hk; cases hk
  · simp only [Value.slice.injEq] at e
    rw [e.1] at hk
    cases hk
    exact ⟨cur, hh⟩
theorem OwnI.step {w w' : World} {B n cap : Nat} {ao : Option Addr} {zs : List Int} (h : OwnI w B ao n cap zs) (hb : Below w.heap.size w w') : OwnI w' B ao n cap zs :=
  World.ownsRow.kept h (grown_of_below hb none) (by
    cases ao with
    | none => exact .inl rfl
    | some q => exact .inr (by simp [Value.ownBlock]))
theorem OwnI.len {w : World} {B n cap : Nat} {ao : Option Addr} {zs : List Int} (h : OwnI w B ao n cap zs) : n = zs.length := by
  have := h.1
  simp at this
  omega
theorem OwnI.cell {w : World} {B n cap : Nat} {ao : Option Addr} {zs : List Int} (h : OwnI w B ao n cap zs) (k : Nat) (hk : k < zs.length) : ∃ b, ao = some ⟨b, 0, none⟩ ∧ w.cell? ⟨b, k, none⟩ = some (.int .i64 zs[k]) := by
  have hn := h.len
  obtain ⟨h1, h2⟩ := h
  rcases h2 with ⟨e, h0⟩ | ⟨g, cap', cur, e, hg, hh, hle, hm, hsz, ht⟩
  · omega
  · simp only [Value.slice.injEq] at e
    refine ⟨g, e.1, ?_⟩
    have hx : cur.toList[k]? = some (.int .i64 zs[k]) := by
      have : (cur.toList.take (n * 1))[k]? = some (.int .i64 zs[k]) := by rw [ht]; simp [hk]
      rw [List.getElem?_take] at this
      simpa [show k < n by omega] using this
    simp only [World.cell?, hh]
    simpa using hx

theorem ownI_shape {w : World} {B n : Nat} {v : Value} {xs : List Value} (h : w.ownsRow B 3 1 v n xs) : ∃ ao cap, v = .slice ao n cap := by
  rcases h.2 with ⟨rfl, rfl⟩ | ⟨g, cap, cur, rfl, _⟩
  · exact ⟨_, _, rfl⟩
  · exact ⟨_, _, rfl⟩

/-- 'append(row, n)', row the call's own. -/
theorem wpList_pushI {w : World} {ops : Array Oper} {rest : List Oper} {o : Oper} {a : Act} {Q : Exit → Act → World → Prop} (hgd : o.guard = none) (s x : Operand)
    (ho : o.op = .call { callee := .builtin .append, args := #[s, x], argTypes := #[35, 35] }) (B : Nat) (w0 : World)
    (ao : Option Addr) (H n cap : Nat) (zs : List Int) (z : Int) (hs : a.eval s = .slice ao n cap) (hown : OwnI w B ao n cap zs) (hx : a.eval x = .slice (some ⟨H, 0, none⟩) 1 1) (hc : w.cell? ⟨H, 0, none⟩ = some (.int .i64 z))
    (hb : Below B w0 w) (hB : B ≤ w.heap.size) (hlen : n ≤ 1000)
    (h : ∀ ao' cap' w', Hid (OwnI w' B ao' (n + 1) cap' (zs ++ [z])) → Hid (Below B w0 w') → Hid (w.grownBy w' (oblk ao)) → wpList Tryd.prog ops Q rest (a.put o.dst (.slice ao' (n + 1) cap')) w') : wpList Tryd.prog ops Q (o :: rest) a w := by
  obtain ⟨i0, hi, hz0, hz1, hz2⟩ := info_parts Tryd.infoInt
  have hbl := hown.blk
  refine wpList_append_own w hgd s x 35 ho B 3 i0 (.int .i64 0) 1 8 Tryd.underlying35 hi hz0 hz1 hz2 rfl (by decide) _ n _ hs hown ⟨H, 0, none⟩ 1 1 [.int .i64 z] hx rfl ?_ ?_ (by unfold maxLen; omega) (by omega) hB ?_
  · intro j u hj
    match j, hj with
    | 0, hj => simp at hj; subst hj; rw [Addr.add_lit]; exact hc
  · intro u hu; simp at hu; subst hu; rfl
  · intro v' w' hown' hgrow _
    obtain ⟨ao', cap', rfl⟩ := ownI_shape hown'
    have hob : (Value.slice ao n cap).ownBlock = oblk ao := by cases ao <;> rfl
    rw [hob] at hgrow
    refine h ao' cap' w' (Hid.in ?_) (Hid.in ?_) (Hid.in hgrow)
    · unfold OwnI
      rw [List.map_append]
      exact hown'
    · exact hb.grown hgrow hB (fun k hk => (hbl k hk).1)

/-- Where each number of a row begins. -/
def ats (zs : List Int) (k : Nat) : List Int := (List.range k).map fun j => ((encs (zs.take j)).length : Int)
theorem ats_succ (zs : List Int) (k : Nat) : ats zs (k + 1) = ats zs k ++ [((encs (zs.take k)).length : Int)] := by
  unfold ats; rw [List.range_succ, List.map_append]; rfl
theorem ats_length (zs : List Int) (k : Nat) : (ats zs k).length = k := by simp [ats]
theorem ats_get (zs : List Int) (k j : Nat) (h : j < (ats zs k).length) : (ats zs k)[j] = ((encs (zs.take j)).length : Int) := by simp [ats]

theorem take_whole (zs : List Int) (j : Nat) (hj : j < zs.length) (hr : ∀ z ∈ zs, -9223372036854775808 ≤ z ∧ z ≤ 9223372036854775807) :
    dec 0 0 ((encs zs).drop (encs (zs.take j)).length) = (0, zz zs[j], (enc (zz zs[j])).length) := by
  have h := dec_whole zs j (encs zs).length hj hr (by
    have h1 := congrArg List.length (encs_split zs (j + 1))
    rw [List.length_append] at h1
    omega)
  rwa [List.take_length] at h

set_option maxHeartbeats 3200000 in
set_option maxRecDepth 20000 in
theorem packIn_any (w : World) (sa : Nat → Addr) (hE : Env10 w sa) (al : Option Addr) (capl : Nat) (zs : List Int) (hZ : Ints w al capl zs) (lo hi : Int) :
    Calls Tryd.prog 4 #[.slice al zs.length capl, .int .i64 lo, .int .i64 hi] w fun r w' => r = .returned (.bool true) ∧ Below w.heap.size w w' := by
  have HE := Hid.in hE
  have HZ := Hid.in hZ
  clear hE hZ
  obtain ⟨zt, hzt⟩ : ∃ zt, zt = zs.take 20 := ⟨_, rfl⟩
  have HZT : Hid (Ints w al capl zt) := Hid.in (by rw [hzt]; exact HZ.out.take 20)
  have hz20 : zt.length ≤ 20 := by rw [hzt, List.length_take]; omega
  have HZA : Hid (20 < zs.length → zt.length = 20) := Hid.in (fun h => by rw [hzt, List.length_take]; omega)
  have HZB : Hid (¬ 20 < zs.length → zt.length = zs.length) := Hid.in (fun h => by rw [hzt, List.length_take]; omega)
  have hle := HZ.out.le
  clear hzt
  go_enter Tryd.func4, Tryd.ntmps4
  go_upto_if 15 with fail
  go_cut [0] (fun v wd => v = .slice al zt.length capl ∧ wd = w)
  case first =>
    by_cases h : 20 < zs.length
    · have HA := Hid.in (HZA.out h)
      have hc20 : ¬ (capl : Int) < 20 := by omega
      go_wp2_with fail
      go_meet
      case rel => exact ⟨by rw [HA.out], rfl⟩
    · have HA := Hid.in (HZB.out h)
      go_wp2_with fail
      go_meet
      case rel => exact ⟨by rw [HA.out], rfl⟩
  case rest =>
  obtain ⟨rfl, hw⟩ := hcut
  subst hw
  rename World => w
  clear HZ HZA HZB hle
  go_wp2
  go_loopw [7, 8, 9] (fun v x i wr => ∃ (k : Nat) (a1 a2 : Option Addr) (c1 c2 : Nat), k ≤ zt.length ∧ i = .int .i64 k ∧ v = .slice a1 (encs (zt.take k)).length c1 ∧ x = .slice a2 k c2 ∧ Own wr w.heap.size a1 (encs (zt.take k)).length c1 (encs (zt.take k)) ∧ OwnI wr w.heap.size a2 k c2 (ats zt k) ∧ Below w.heap.size w wr) (fun _ _ i _ => 20 - (intOf i).toNat)
  case atStart => exact ⟨0, none, none, 0, 0, Nat.zero_le _, rfl, rfl, rfl, Own.nil _ _, OwnI.nil _ _, Below.refl _ _⟩
  case round =>
    obtain ⟨k, a1, a2, c1, c2, hk, rfl, rfl, rfl, hO, hOI, hb⟩ := hrel
    have HO := Hid.in hO
    have HOI := Hid.in hOI
    have HB := Hid.in hb
    clear hO hOI hb
    have hel : (encs (zt.take k)).length ≤ 10 * k := by
      have h := encs_len (zt.take k) (fun z hz => HZT.out.rng z (List.mem_of_mem_take hz))
      rw [List.length_take] at h
      omega
    by_cases hlt : k < zt.length
    · obtain ⟨b, o, rfl, hcw⟩ := HZT.out.cell k hlt
      have HCW := Hid.in hcw
      have HR := Hid.in (HZT.out.rng _ (List.getElem_mem hlt))
      have HS := Hid.in (encs_snoc zt k hlt)
      have HAS := Hid.in (ats_succ zt k)
      generalize zt[k] = z at HCW HR hcw HS
      have HLW := Hid.in (lt_cell (q := ⟨b, o + k, none⟩) hcw)
      clear hcw
      go_wp2_with (first | (at_builtin; refine wpList_pushI rfl (.tmp 24) (.tmp 27) rfl w.heap.size w a2 wr.heap.size k c2 (ats zt k) ((encs (zt.take k)).length : Int) rfl (HOI.out.step (below_alloc _ _)) rfl (by simp) (HB.out.alloc HB.out.size _) (by have := HB.out.size; simp; omega) (by omega) ?_; intro a3 c3 w3 HO3 HB3 HG3; have hcell : w3.cell? ⟨b, o + k, none⟩ = some (.int .i64 z) := (HB3.out.cell (p := ⟨b, o + k, none⟩) HLW.out).trans HCW.out) | fail)
      have HO1 : Hid (Own w3 w.heap.size a1 (encs (zt.take k)).length c1 (encs (zt.take k))) := Hid.in (by
        refine (HO.out.step (below_alloc _ _)).kept HG3.out ?_
        cases h1 : oblk a1 with
        | none => exact .inl rfl
        | some g1 =>
          refine .inr (fun e => ?_)
          obtain ⟨cu, hcu⟩ := HO.out.tag g1 h1
          obtain ⟨_, cv, hcv⟩ := HOI.out.blk g1 e.symm
          rw [hcu] at hcv
          simp at hcv)
      refine (num_any a1 c1 _ z w3 HO1.out.lie (by omega) HR.out.1 HR.out.2).mono ?_
      rintro r w4 ⟨a4, c4, rfl, hO4, hb4⟩
      have HO4 := Hid.in hO4
      have HB4 := Hid.in hb4
      clear hO4 hb4
      go_wp2
      go_roundw
      case rel =>
        refine ⟨k + 1, a4, a3, c4, c3, by omega, by go_num, by rw [HS.out, List.length_append], rfl, ?_, ?_, bstep HB3.out (Nat.le_refl _) HB4.out⟩
        · rw [HS.out, List.length_append]
          obtain ⟨h1, h2⟩ := HO4.out
          refine ⟨h1, ?_⟩
          rcases h2 with h2 | ⟨g, cap', cur, e, hg, hh, r⟩
          · exact .inl h2
          · exact .inr ⟨g, cap', cur, e, Nat.le_trans HB3.out.size hg, hh, r⟩
        · rw [HAS.out]
          exact HO3.out.step HB4.out
      case measure => simp [intOf]; omega
    · have hkl : zt.take k = zt := List.take_of_length_le (by omega)
      have hkn : k = zt.length := by omega
      subst hkn
      rename World => wo
      rw [hkl] at HO hel ⊢
      clear hkl
      go_wp2_with fail
      refine (read_any a1 c1 (encs zt) wo sa HO.out.lie (encs_byte zt) (by omega)).mono ?_
      rintro r w2 ⟨q, rfl, hR, hb2⟩
      have HR2 := Hid.in hR
      have HQ := Hid.in hR.rng.1
      have HB2 := Hid.in hb2
      clear hR hb2
      go_wp2
      go_loopw [11] (fun i wv => ∃ j : Nat, j ≤ zt.length ∧ i = .int .i64 j ∧ Rd wv sa wo.heap.size w2.heap.size q (encs zt) (encs (zt.take j)).length 0 ∧ Below wo.heap.size wo wv) (fun i _ => 20 - (intOf i).toNat)
      case atStart => exact ⟨0, Nat.zero_le _, rfl, HR2.out, HB2.out⟩
      case round =>
        obtain ⟨j, hj, rfl, hR, hbv⟩ := hrel
        have HR := Hid.in hR
        have HBV := Hid.in hbv
        have HW : Hid (Below w.heap.size w wr) := Hid.in (bstep HB.out (Nat.le_refl _) hbv)
        clear hR hbv HR2 HB2
        by_cases hlt : j < zt.length
        · obtain ⟨b, o, rfl, hcw⟩ := HZT.out.cell j hlt
          have HCW := Hid.in hcw
          have HZR := Hid.in (HZT.out.rng _ (List.getElem_mem hlt))
          have HD := Hid.in (take_whole zt j hlt HZT.out.rng)
          have HS := Hid.in (encs_snoc zt j hlt)
          obtain ⟨ba, rfl, hca⟩ := HOI.out.cell j (by rw [ats_length]; exact hlt)
          rw [ats_get] at hca
          have HCA := Hid.in hca
          have HLA := Hid.in (lt_cell (q := ⟨ba, j, none⟩) hca)
          generalize zt[j] = z at HCW HZR hcw HD HS
          have HLW := Hid.in (lt_cell (q := ⟨b, o + j, none⟩) hcw)
          clear hcw hca
          go_wp2_with fail
          refine (in_any wr sa (HE.out.below HW.out) _ _ q _ 0 _ HR.out lo hi).mono ?_
          by_cases hin : lo ≤ z ∧ z ≤ hi
          · rw [inS_ok HD.out (by rw [uz_zz]; omega), uz_zz]
            obtain ⟨i1, i2⟩ := hin
            rintro r w3 ⟨rfl, hR3, hg3⟩
            have HR3 := Hid.in hR3
            have HBV3 := Hid.in (wrote HBV.out hg3 (Nat.le_refl _) HQ.out)
            clear hR3 hg3
            have hcell : w3.cell? ⟨b, o + j, none⟩ = some (.int .i64 z) := ((bstep HB.out (Nat.le_refl _) HBV3.out).cell (p := ⟨b, o + j, none⟩) HLW.out).trans HCW.out
            go_wp2_with fail
            refine (rwrong_any w3 sa _ _ q _ 0 _ HR3.out).mono ?_
            rw [rerr_no]
            rintro r w' ⟨rfl, rfl⟩
            go_wp2
            go_roundw
            case rel => exact ⟨j + 1, by omega, by go_num, by rw [HS.out, List.length_append]; exact HR3.out, HBV3.out⟩
            case measure => simp [intOf]; omega
          · rw [inS_out HD.out (by rw [uz_zz]; omega)]
            rintro r w3 ⟨rfl, hR3, hg3⟩
            have HR3 := Hid.in hR3
            have HBV3 := Hid.in (wrote HBV.out hg3 (Nat.le_refl _) HQ.out)
            have HW3 : Hid (Below w.heap.size w w3) := Hid.in (bstep HB.out (Nat.le_refl _) HBV3.out)
            clear hR3 hg3
            have hcell : w3.cell? ⟨b, o + j, none⟩ = some (.int .i64 z) := (HW3.out.cell (p := ⟨b, o + j, none⟩) HLW.out).trans HCW.out
            have hcella : w3.cell? ⟨ba, j, none⟩ = some (.int .i64 ((encs (zt.take j)).length : Int)) := (HBV3.out.cell (p := ⟨ba, j, none⟩) HLA.out).trans HCA.out
            have HLA3 : Hid (ba < w3.heap.size) := Hid.in (lt_cell (q := ⟨ba, j, none⟩) hcella)
            generalize (encs (zt.take j)).length = at_ at HR3 hcella
            have HCA3 := Hid.in hcella
            have j0 : (0 : Int) ≤ (j : Int) := by omega
            have j1 : (j : Int) < (zt.length : Int) := by omega
            have hbr : Below w3.heap.size w3 w3 := Below.refl _ _
            have hbd : ∀ W, Below w3.heap.size w3 W → Below w3.heap.size w3 W.drew := fun W h => h.drew
            have hca3 : ∀ W, Below w3.heap.size w3 W → W.cell? ⟨ba, j, none⟩ = some (.int .i64 (at_ : Int)) := fun W h => (h.cell (p := ⟨ba, j, none⟩) HLA3.out).trans HCA3.out
            clear hcella
            by_cases h1 : z < lo
            · clear hin
              go_upto_region 18 with fail
              go_region_held3 (fun W => W.cell? ⟨ba, j, none⟩ = some (.int .i64 (at_ : Int)) ∧ Below w3.heap.size w3 W) (first | go_keep | (simp [*]; done))
                (first
                  | (go_at_call 8; refine (rat_any _ sa wo.heap.size w2.heap.size q at_ 4 (encs zt) (HR3.out.step (by simp [*]))).mono ?_; rintro r w' ⟨rfl, rfl⟩)
                  | (go_at_call 6; refine (rwrong_any _ sa wo.heap.size w2.heap.size q at_ 4 (encs zt) (HR3.out.step (by simp [*]))).mono ?_; rw [rerr_yes sa 4 at_ (by decide)]; rintro r w' ⟨rfl, rfl⟩)
                  | (go_at_call 13; refine (kIs_flt opP at_ [] 4 (by omega) (by omega) _ sa (HE.out.below (bstep HW3.out (Nat.le_refl _) (by simp [*])))).mono ?_; rintro e w5 ⟨rfl, hb5⟩; have hS : Below w3.heap.size w3 w5 := bstep (by simp [*]) (Nat.le_refl _) hb5; clear hb5)
                  | (go_at_call 11; refine (packRuns_any _ sa (HE.out.below (bstep HW3.out (Nat.le_refl _) (by simp [*])))).mono ?_; rintro e w6 ⟨rfl, hb6⟩; have hT : Below w3.heap.size w3 w6 := bstep (by simp [*]) (Nat.le_refl _) hb6; clear hb6))
              have HX := Hid.in (bstep HW3.out (Nat.le_refl _) hT)
              clear hbr hbd hca3 hS hT
              go_wp2
              go_ret
              exact ⟨rfl, HX.out⟩
            · have h2 : hi < z := by omega
              clear hin
              go_upto_region 18 with fail
              go_region_held3 (fun W => W.cell? ⟨ba, j, none⟩ = some (.int .i64 (at_ : Int)) ∧ Below w3.heap.size w3 W) (first | go_keep | (simp [*]; done))
                (first
                  | (go_at_call 8; refine (rat_any _ sa wo.heap.size w2.heap.size q at_ 4 (encs zt) (HR3.out.step (by simp [*]))).mono ?_; rintro r w' ⟨rfl, rfl⟩)
                  | (go_at_call 6; refine (rwrong_any _ sa wo.heap.size w2.heap.size q at_ 4 (encs zt) (HR3.out.step (by simp [*]))).mono ?_; rw [rerr_yes sa 4 at_ (by decide)]; rintro r w' ⟨rfl, rfl⟩)
                  | (go_at_call 13; refine (kIs_flt opP at_ [] 4 (by omega) (by omega) _ sa (HE.out.below (bstep HW3.out (Nat.le_refl _) (by simp [*])))).mono ?_; rintro e w5 ⟨rfl, hb5⟩; have hS : Below w3.heap.size w3 w5 := bstep (by simp [*]) (Nat.le_refl _) hb5; clear hb5)
                  | (go_at_call 11; refine (packRuns_any _ sa (HE.out.below (bstep HW3.out (Nat.le_refl _) (by simp [*])))).mono ?_; rintro e w6 ⟨rfl, hb6⟩; have hT : Below w3.heap.size w3 w6 := bstep (by simp [*]) (Nat.le_refl _) hb6; clear hb6))
              have HX := Hid.in (bstep HW3.out (Nat.le_refl _) hT)
              clear hbr hbd hca3 hS hT
              go_wp2
              go_ret
              exact ⟨rfl, HX.out⟩
        · have hjn : j = zt.length := by omega
          subst hjn
          go_wp2_with fail
          refine (rend_any wr sa (HE.out.below HW.out) _ _ q _ 0 _ HR.out).mono ?_
          have he : endS (encs zt) (encs (zt.take zt.length)).length 0 = 0 := by rw [List.take_length]; unfold endS; simp
          rw [he, rerr_no, List.take_length]
          rintro r w3 ⟨rfl, hR3, hg3⟩
          have HR3 := Hid.in hR3
          have HW3 := Hid.in (wrote HW.out hg3 (Nat.le_refl _) (Nat.le_trans HB.out.size HQ.out))
          clear hR3 hg3
          go_wp2_with fail
          refine (rat_any w3 sa _ _ q _ 0 _ HR3.out).mono ?_
          rintro r w' ⟨rfl, rfl⟩
          go_wp2_with fail
          refine (packRuns_any _ sa (HE.out.below HW3.out)).mono ?_
          rintro r w7 ⟨rfl, hb7⟩
          have HW7 := Hid.in (bstep HW3.out (Nat.le_refl _) hb7)
          clear hb7
          go_wp2
          go_ret
          exact ⟨rfl, HW7.out⟩

end Go.Proofs.YtkjenbilfjlfdabDoor
