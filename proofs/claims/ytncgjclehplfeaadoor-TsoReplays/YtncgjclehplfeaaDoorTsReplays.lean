/- DERIVED of the program: TsoReplays returns true. Own work. -/
import Derived.Test.YtncgjclehplfeaaDoorTsTri
import Derived.Test.YtncgjclehplfeaaDoorTsRR
import Derived.Test.YtncgjclehplfeaaDoorTsK
import Derived.Test.YtncgjclehplfeaaDoorGenV
import Derived.Test.YtncgjclehplfeaaDoorGenW
namespace Go.Proofs.YtncgjclehplfeaaDoor
open Go.RowKit Go.Extern.Stop Go.Stop Go.Extern

theorem kOnly_flt (op : ByteArray) (n : Int) (c : Nat) (h1 : 1 ≤ c) (h2 : c ≤ 10) (w : World) (sa : Nat → Addr) (hE : Env10 w sa) :
    Calls Tryd.prog 20 #[flt op n (snt (sa c)), .int .i64 c] w fun r w' => r = .returned (.bool true) ∧ Below w.heap.size w w' := kOnly_chn [(op, n)] c h1 h2 w sa hE
/-- The document's model, a row of events. -/
structure Rr (w0 w : World) (p : Nat) (R : List Nat) (K : Nat) (s : TS) (ao : Option Addr) (n cap : Nat) (L : List Ev) : Prop where
  m : RM w p R K s.1 s.2
  b : Below w0.heap.size w0 w
  rb : ∀ k ∈ R, w0.heap.size ≤ k
  o : OwnA 24 6 w w0.heap.size ao n cap (L.map Ev.cs)
  od : ∀ k, oblk ao = some k → k ∉ R
theorem Rr.step {w0 w w' : World} {p K n cap : Nat} {R : List Nat} {s : TS} {ao : Option Addr} {L : List Ev} (h : Rr w0 w p R K s ao n cap L) (hb : Below w.heap.size w w') : Rr w0 w' p R K s ao n cap L :=
  ⟨h.m.step hb, bstep h.b (Nat.le_refl _) hb, h.rb, h.o.step hb, h.od⟩
theorem Rr.olt {w0 w : World} {p K n cap : Nat} {R : List Nat} {s : TS} {ao : Option Addr} {L : List Ev} (h : Rr w0 w p R K s ao n cap L) (k : Nat) (hk : oblk ao = some k) : k < w.heap.size := by
  obtain ⟨_, cur, hc⟩ := h.o.blk k hk
  exact blk_lt hc
/-- A write to a block of the call's own that is neither's. -/
theorem Rr.fr {w0 w w' : World} {p K n cap X : Nat} {R : List Nat} {s : TS} {ao : Option Addr} {L : List Ev} (h : Rr w0 w p R K s ao n cap L) (hf : Fr [X] w w') (h1 : X ∉ R) (h2 : oblk ao ≠ some X) (h3 : w0.heap.size ≤ X) : Rr w0 w' p R K s ao n cap L :=
  ⟨h.m.fr hf (fun k hk hm => h1 (by rw [← List.mem_singleton.1 hm]; exact hk)), hf.below h.b (fun k hk => by rw [List.mem_singleton.1 hk]; exact h3) h.b.size, h.rb, h.o.fr hf (fun k hk hm => h2 (by rw [← List.mem_singleton.1 hm]; exact hk)), h.od⟩
theorem Rr.rturned {w0 w w' : World} {p K K' n cap : Nat} {R R' : List Nat} {s s' : TS} {ao : Option Addr} {L : List Ev} (h : Rr w0 w p R K s ao n cap L) (ht : RTurned w w' p R R' K' s'.1 s'.2) : Rr w0 w' p R' K' s' ao n cap L :=
  ⟨ht.p, ht.f.below h.b h.rb h.b.size, fun k hk => by
    rcases ht.s k hk with h1 | h1
    · exact h.rb k h1
    · exact Nat.le_trans h.b.size h1, h.o.fr ht.f h.od, fun k hk hn => by
    rcases ht.s k hn with h1 | h1
    · exact h.od k hk h1
    · have := h.olt k hk; omega⟩
theorem Rr.row {w0 w w' : World} {p K n cap n' cap' : Nat} {R : List Nat} {s : TS} {ao ao' : Option Addr} {L L' : List Ev} (h : Rr w0 w p R K s ao n cap L) (ho : OwnA 24 6 w' w0.heap.size ao' n' cap' (L'.map Ev.cs)) (hg : w.grownBy w' (oblk ao)) (hn : ∀ b, oblk ao' = some b → oblk ao = some b ∨ w.heap.size ≤ b) : Rr w0 w' p R K s ao' n' cap' L' := by
  have hf : Fr (oblk ao).toList w w' := Fr.of_grown hg (fun k hk => Option.mem_toList.2 hk)
  refine ⟨h.m.fr hf (fun k hk hm => h.od k (Option.mem_toList.1 hm) hk), hf.below h.b (fun k hk => (h.o.blk k (Option.mem_toList.1 hk)).1) h.b.size, h.rb, ho, fun k hk => ?_⟩
  rcases hn k hk with h1 | h1
  · exact h.od k h1
  · exact h.m.far h1
theorem set6 {w : World} {X : Nat} {t : TypeId} {a0 a1 a2 a3 a4 a5 : Value} (h : w.heap[X]? = some (.cells #[a0, a1, a2, a3, a4, a5] t (0, 0))) (b0 b1 b2 b3 b4 b5 : Value) :
    ((((((w.setCell ⟨X, 0, none⟩ b0).setCell ⟨X, 1, none⟩ b1).setCell ⟨X, 2, none⟩ b2).setCell ⟨X, 3, none⟩ b3).setCell ⟨X, 4, none⟩ b4).setCell ⟨X, 5, none⟩ b5).heap[X]? = some (.cells #[b0, b1, b2, b3, b4, b5] t (0, 0)) ∧
    Fr [X] w ((((((w.setCell ⟨X, 0, none⟩ b0).setCell ⟨X, 1, none⟩ b1).setCell ⟨X, 2, none⟩ b2).setCell ⟨X, 3, none⟩ b3).setCell ⟨X, 4, none⟩ b4).setCell ⟨X, 5, none⟩ b5) :=
  ⟨blk_set (i := 5) b5 (blk_set (i := 4) b4 (blk_set (i := 3) b3 (blk_set (i := 2) b2 (blk_set (i := 1) b1 (blk_set (i := 0) b0 h))))),
    (((((((Fr.refl [X] w).setCell b0 List.mem_cons_self).setCell b1 List.mem_cons_self).setCell b2 List.mem_cons_self).setCell b3 List.mem_cons_self).setCell b4 List.mem_cons_self).setCell b5 List.mem_cons_self)⟩
theorem tnewC_no {c n : Int} (h : ¬ ((1 ≤ c ∧ c ≤ 64) ∧ 1 ≤ n ∧ n ≤ 128)) : ∃ i, tnewC c n = (1, i) := by
  unfold tnewC
  by_cases h1 : 1 ≤ c ∧ c ≤ 64
  · rw [wB_yes h1, wB_no (n := n) (fun h2 => h ⟨h1, h2⟩)]
    exact ⟨1, rfl⟩
  · rw [wB_no (n := c) h1]
    exact ⟨0, rfl⟩

set_option maxHeartbeats 6400000 in
set_option maxRecDepth 20000 in
theorem tsoReplays_no (w : World) (sa : Nat → Addr) (hE : Env10 w sa) (c0 n0 : Int) (h : ¬ ((1 ≤ c0 ∧ c0 ≤ 64) ∧ 1 ≤ n0 ∧ n0 ≤ 128)) (al : Option Addr) (ln capl : Nat) (hcap : ln ≤ capl) (ob : Option Addr) (nb capb : Nat) :
    Calls Tryd.prog 5 #[.int .i64 c0, .int .i64 n0, .slice al ln capl, .slice ob nb capb] w fun r w' => r = .returned (.bool true) ∧ Below w.heap.size w w' := by
  have HE := Hid.in hE
  have HN := Hid.in h
  obtain ⟨i, hi⟩ := tnewC_no h
  have HI := Hid.in hi
  have hsl : ∀ w, 60 ≤ capl → (Instr.sliceAt 26 (.slice al ln capl) none (some (.int .i64 60)) none).run Tryd.prog w = .ok (.slice al 60 capl) w := fun w h => slice_toQ 26 24 _ _ _ Tryd.underlying26 Tryd.infoEv al ln capl 60 h w
  clear hE h hi
  go_enter Tryd.func5, Tryd.ntmps5
  go_upto_if 23 with fail
  go_cut [2] (fun x wd => ∃ n, x = .slice al n capl ∧ wd = w)
  case first =>
    by_cases h : ln ≤ 60
    · have i1 : ¬ (60 : Int) < (ln : Int) := by omega
      clear hsl
      go_wp2
      go_meet
      case rel => exact ⟨ln, rfl, rfl⟩
    · have i1 : (60 : Int) < (ln : Int) := by omega
      have hs2 := fun w => hsl w (by omega)
      clear hsl
      go_wp2
      go_meet
      case rel => exact ⟨60, rfl, rfl⟩
  case rest =>
    obtain ⟨n, rfl, hwd⟩ := hcut
    subst hwd
    rename World => w
    clear hsl
    go_wp2_with fail
    refine (rtnew_no w c0 n0 HN.out).mono ?_
    rintro r w' ⟨rfl, rfl⟩
    go_wp2_with fail
    refine (treplay_no w' sa HE.out c0 n0 i HI.out _).mono ?_
    rintro r w' ⟨rfl, rfl⟩
    rw [perr_some sa 1 opTNew i (by decide)]
    go_wp2_with fail
    refine (rreplay_no _ c0 n0 HN.out _).mono ?_
    rintro r w' ⟨rfl, rfl⟩
    go_wp2_with fail
    refine (rtnew_no w' c0 n0 HN.out).mono ?_
    rintro r w' ⟨rfl, rfl⟩
    go_wp2_with fail
    refine (kOnly_flt opTNew i 1 (by decide) (by decide) w' sa HE.out).mono ?_
    rintro r w2 ⟨rfl, hb⟩
    have HB2 := Hid.in hb
    clear hb
    go_wp2_with fail
    refine (tsoRuns_any _ sa (HE.out.below HB2.out)).mono ?_
    rintro r w3 ⟨rfl, hb⟩
    have HB3 := Hid.in (bstep HB2.out (Nat.le_refl _) hb)
    clear hb
    go_wp2
    go_ret
    exact ⟨rfl, HB3.out⟩

theorem badS_code : ∀ (L : List Ev) (s : TS) (i : Nat) {a c : Nat} {co : Int}, badS s L i = some (a, c, co) → c ≠ 0 ∧ c ≤ 10
  | [], _, _, _, _, _, h => by cases h
  | e :: r, s, i, a, c, co, h => by
    by_cases he : refP s.1 s.2 e = 0
    · rw [badS_yes he] at h
      exact badS_code r _ _ h
    · rw [badS_no he] at h
      cases h
      exact ⟨he, refP_le _ _ _⟩
set_option maxHeartbeats 12800000 in
set_option maxRecDepth 20000 in
theorem tsoReplays_ok (w : World) (sa : Nat → Addr) (hE : Env10 w sa) (nA nM : Nat) (h1 : 1 ≤ nA) (h2 : nA ≤ 64) (h3 : 1 ≤ nM) (h4 : nM ≤ 128) (al : Option Addr) (ln capl : Nat) (hcap : ln ≤ capl) (hI : EvsW w al ln) (ob : Option Addr) (nb capb : Nat) (hB : BoolsW w ob nb) :
    Calls Tryd.prog 5 #[.int .i64 (nA : Int), .int .i64 (nM : Int), .slice al ln capl, .slice ob nb capb] w fun r w' => r = .returned (.bool true) ∧ Below w.heap.size w w' := by
  have HE := Hid.in hE
  have HI := Hid.in hI
  have HB := Hid.in hB
  have H1 := Hid.in h1
  have H2 := Hid.in h2
  have H3 := Hid.in h3
  have H4 := Hid.in h4
  have hsl : ∀ w, 60 ≤ capl → (Instr.sliceAt 26 (.slice al ln capl) none (some (.int .i64 60)) none).run Tryd.prog w = .ok (.slice al 60 capl) w := fun w h => slice_toQ 26 24 _ _ _ Tryd.underlying26 Tryd.infoEv al ln capl 60 h w
  clear hE hI hB h1 h2 h3 h4
  go_enter Tryd.func5, Tryd.ntmps5
  go_upto_if 23 with fail
  go_cut [2] (fun x wd => ∃ n, x = .slice al n capl ∧ n ≤ 60 ∧ n ≤ ln ∧ wd = w)
  case first =>
    by_cases h : ln ≤ 60
    · have i1 : ¬ (60 : Int) < (ln : Int) := by omega
      clear hsl
      go_wp2
      go_meet
      case rel => exact ⟨ln, rfl, h, Nat.le_refl _, rfl⟩
    · have i1 : (60 : Int) < (ln : Int) := by omega
      have hs2 := fun w => hsl w (by omega)
      clear hsl
      go_wp2
      go_meet
      case rel => exact ⟨60, rfl, Nat.le_refl _, by omega, rfl⟩
  case rest =>
    obtain ⟨ll, rfl, hn60, hnl, hwd⟩ := hcut
    subst hwd
    rename World => w
    clear hsl
    go_wp2_with fail
    refine (rtnew_c w nA nM H1.out H2.out H3.out H4.out).mono ?_
    rintro r w1 ⟨p, R, rfl, hR, hb, hs⟩
    have HR1 : Hid (Rr w w1 p R 0 (ts0 nA nM) none 0 0 []) := Hid.in ⟨hR, hb, hs, OwnA.nil _ _ _ _, fun k hk => by cases hk⟩
    clear hR hb hs
    go_upto_if 33 with fail
    go_cut [9] (fun x wd => ∃ (R : List Nat) (s : TS) (K : Nat) (ao : Option Addr) (n cap : Nat) (L : List Ev), x = .slice ao n cap ∧ n ≤ 60 ∧ Rr w wd p R K s ao n cap L)
    case first =>
      go_wp2
      go_loopw [9, 12] (fun x z wr => ∃ (i : Nat) (s : TS) (R : List Nat) (ao : Option Addr) (cap : Nat) (L : List Ev), i ≤ ll ∧ x = .slice ao i cap ∧ z = .int .i64 (i : Int) ∧ Rr w wr p R i s ao i cap L) (fun _ z _ => ll - (intOf z).toNat)
      case atStart => exact ⟨0, ts0 nA nM, R, none, 0, [], Nat.zero_le _, rfl, rfl, HR1.out⟩
      case round =>
        obtain ⟨i, s, Ri, ao, cap, L, hi, rfl, rfl, hT⟩ := hrel
        clear HR1
        have HTi := Hid.in hT
        clear hT
        rename World => wr
        by_cases hlt : i < ll
        · obtain ⟨b, o, k1, c1, a1, v1, z1, d1, rfl, x0, x1, x2, x3, x4, x5⟩ := HI.out.at i (by omega)
          have hbw := HTi.out.b
          have y0 := (hbw.cell (p := ⟨b, o + i * 6, none⟩) (lt_cell x0)).trans x0
          have y1 := (hbw.cell (p := ⟨b, o + i * 6 + 1, none⟩) (lt_cell x1)).trans x1
          have y2 := (hbw.cell (p := ⟨b, o + i * 6 + 2, none⟩) (lt_cell x2)).trans x2
          have y3 := (hbw.cell (p := ⟨b, o + i * 6 + 3, none⟩) (lt_cell x3)).trans x3
          have y4 := (hbw.cell (p := ⟨b, o + i * 6 + 4, none⟩) (lt_cell x4)).trans x4
          have y5 := (hbw.cell (p := ⟨b, o + i * 6 + 5, none⟩) (lt_cell x5)).trans x5
          have i1 : (i : Int) < (ll : Int) := by omega
          clear x0 x1 x2 x3 x4 x5 hbw
          go_upto_region 10 with fail
          generalize hwx : wr.alloc _ = wx
          obtain ⟨X, hX⟩ : ∃ X, wr.heap.size = X := ⟨_, rfl⟩
          have HX : Hid (X ∉ Ri ∧ oblk ao ≠ some X ∧ w.heap.size ≤ X) := Hid.in (by
            rw [← hX]
            exact ⟨HTi.out.m.far (Nat.le_refl _), fun h => by have := HTi.out.olt _ h; omega, HTi.out.b.size⟩)
          have HX1 : Hid (wx.heap[X]? = some (.cells #[.int .i64 k1, .int .i64 c1, .int .i64 a1, .int .u32 v1, .int .u32 z1, .bool d1] 24 (0, 0))) := Hid.in (by rw [← hX, ← hwx]; exact heap_alloc_new _ _)
          have HT1 : Hid (Rr w wx p Ri i s ao i cap L) := Hid.in (by rw [← hwx]; exact HTi.out.step (below_alloc _ _))
          rw [hX]
          clear hwx hX HTi y0 y1 y2 y3 y4 y5
          obtain ⟨own, hown⟩ : ∃ own : Bool, (i < nb → ∃ lb lo, ob = some ⟨lb, lo, none⟩ ∧ wx.cell? ⟨lb, lo + i, none⟩ = some (.bool own)) ∧ (¬ i < nb → own = true) := by
            by_cases h : i < nb
            · obtain ⟨lb, lo, zz, e, xc⟩ := HB.out.at i h
              exact ⟨zz, fun _ => ⟨lb, lo, e, (HT1.out.b.cell (p := ⟨lb, lo + i, none⟩) (lt_cell xc)).trans xc⟩, fun hh => absurd h hh⟩
            · exact ⟨true, fun hh => absurd hh h, fun _ => rfl⟩
          go_cut [53] (fun x wd => x = .bool own ∧ wd = wx)
          case first =>
            by_cases h : i < nb
            · obtain ⟨lb, lo, rfl, xc⟩ := hown.1 h
              have i4 : ¬ (nb : Int) ≤ (i : Int) := by omega
              go_wp2
              go_meet
              case rel => exact ⟨rfl, rfl⟩
            · have i4 : (nb : Int) ≤ (i : Int) := by omega
              have HLI := Hid.in (hown.2 h)
              go_wp2
              go_meet
              case rel => exact ⟨by rw [HLI.out], rfl⟩
          case rest =>
            obtain ⟨rfl, hwd⟩ := hcut
            subst hwd
            rename World => wx
            clear hown
            go_upto_if 53 with fail
            go_cut [] (fun wd => ∃ (k2 c2 a2 v2 z2 : Int) (d2 : Bool), wd.heap[X]? = some (.cells #[.int .i64 k2, .int .i64 c2, .int .i64 a2, .int .u32 v2, .int .u32 z2, .bool d2] 24 (0, 0)) ∧ Rr w wd p Ri i s ao i cap L)
            case first =>
              cases own with
              | false =>
                go_wp2
                go_meet
                case rel => exact ⟨_, _, _, _, _, _, HX1.out, HT1.out⟩
              | true =>
                obtain ⟨e', he⟩ : ∃ e', fitE s.1 s.2 ⟨k1, c1, a1, v1, z1, d1⟩ = e' := ⟨_, rfl⟩
                have HFE := Hid.in he
                clear he
                obtain ⟨k2, c2, a2, v2, z2, d2⟩ := e'
                have f0 := blk_cell (i := 0) HX1.out rfl
                have f1 := blk_cell (i := 1) HX1.out rfl
                have f2 := blk_cell (i := 2) HX1.out rfl
                have f3 := blk_cell (i := 3) HX1.out rfl
                have f4 := blk_cell (i := 4) HX1.out rfl
                have f5 := blk_cell (i := 5) HX1.out rfl
                go_wp2_with fail
                refine (fit_c wx p i Ri s.1 s.2 HT1.out.m (by omega) k1 c1 a1 v1 z1 d1 _ HFE.out).mono ?_
                rintro r w2 ⟨rfl, hb⟩
                have HX2 := Hid.in ((hb.block X (blk_lt HX1.out)).trans HX1.out)
                have HT2 := Hid.in (HT1.out.step hb)
                clear hb HT1 HX1 f0 f1 f2 f3 f4 f5
                have g0 := blk_cell (i := 0) HX2.out rfl
                have g1 := blk_cell (i := 1) HX2.out rfl
                have g2 := blk_cell (i := 2) HX2.out rfl
                have g3 := blk_cell (i := 3) HX2.out rfl
                have g4 := blk_cell (i := 4) HX2.out rfl
                have g5 := blk_cell (i := 5) HX2.out rfl
                have zf0 : w2.frozen? ⟨X, 0, none⟩ = false := blk_free HX2.out
                have zf1 : w2.frozen? ⟨X, 1, none⟩ = false := blk_free HX2.out
                have zf2 : w2.frozen? ⟨X, 2, none⟩ = false := blk_free HX2.out
                have zf3 : w2.frozen? ⟨X, 3, none⟩ = false := blk_free HX2.out
                have zf4 : w2.frozen? ⟨X, 4, none⟩ = false := blk_free HX2.out
                have zf5 : w2.frozen? ⟨X, 5, none⟩ = false := blk_free HX2.out
                go_wp2
                generalize hw4 : World.setCell _ ⟨X, 5, none⟩ _ = w4
                have HS6 : Hid (w4.heap[X]? = some (.cells #[.int .i64 k2, .int .i64 c2, .int .i64 a2, .int .u32 v2, .int .u32 z2, .bool d2] 24 (0, 0)) ∧ Fr [X] w2 w4) := Hid.in (by rw [← hw4]; exact set6 HX2.out (.int .i64 k2) (.int .i64 c2) (.int .i64 a2) (.int .u32 v2) (.int .u32 z2) (.bool d2))
                clear hw4
                go_meet
                case rel => exact ⟨k2, c2, a2, v2, z2, d2, HS6.out.1, HT2.out.fr HS6.out.2 HX.out.1 HX.out.2.1 HX.out.2.2⟩
            case rest =>
              obtain ⟨k2, c2, a2, v2, z2, d2, hx, hT⟩ := hcut
              clear HX1 HT1
              have HX3 := Hid.in hx
              have HT3 := Hid.in hT
              clear hx hT
              rename World => w3
              obtain ⟨r0, hr0⟩ : ∃ r0, refP s.1 s.2 ⟨k2, c2, a2, v2, z2, d2⟩ = r0 := ⟨_, rfl⟩
              have HR0 := Hid.in hr0
              clear hr0
              have f0 := blk_cell (i := 0) HX3.out rfl
              have f1 := blk_cell (i := 1) HX3.out rfl
              have f2 := blk_cell (i := 2) HX3.out rfl
              have f3 := blk_cell (i := 3) HX3.out rfl
              have f4 := blk_cell (i := 4) HX3.out rfl
              have f5 := blk_cell (i := 5) HX3.out rfl
              go_wp2_with fail
              refine (rstep_c w3 p i Ri s.1 s.2 HT3.out.m (by omega) k2 c2 a2 v2 z2 d2 r0 HR0.out).mono ?_
              rintro r w4 ⟨rfl, R4, hRT⟩
              have HT4 := Hid.in (HT3.out.rturned (s' := stepS s ⟨k2, c2, a2, v2, z2, d2⟩) hRT)
              have HX4 := Hid.in ((hRT.f.block X (blk_lt HX3.out) HX.out.1).trans HX3.out)
              clear hRT HT3 HX3 f0 f1 f2 f3 f4 f5
              have g0 := blk_cell (i := 0) HX4.out rfl
              have g1 := blk_cell (i := 1) HX4.out rfl
              have g2 := blk_cell (i := 2) HX4.out rfl
              have g3 := blk_cell (i := 3) HX4.out rfl
              have g4 := blk_cell (i := 4) HX4.out rfl
              have g5 := blk_cell (i := 5) HX4.out rfl
              have HT5 := Hid.in (HT4.out.step (below_alloc w4 (.cells #[.int .i64 k2, .int .i64 c2, .int .i64 a2, .int .u32 v2, .int .u32 z2, .bool d2] 24)))
              have HR5 : Hid (RowE (w4.alloc (.cells #[.int .i64 k2, .int .i64 c2, .int .i64 a2, .int .u32 v2, .int .u32 z2, .bool d2] 24)) (some ⟨w4.heap.size, 0, none⟩) 1 [⟨k2, c2, a2, v2, z2, d2⟩]) := Hid.in (RowE.lits w4 [⟨k2, c2, a2, v2, z2, d2⟩] _ rfl)
              have hn1 : i + 1 ≤ 1000000 := by omega
              clear HT4
              go_upto_region 8 with (first | (at_builtin; refine wpList_concatA rfl 26 24 6 40 _ (.tmp 60) (.tmp 62) rfl Tryd.underlying26 Tryd.infoEv rfl (by decide) (by decide) w.heap.size ao (some ⟨w4.heap.size, 0, none⟩) i cap 1 1 (L.map Ev.cs) (([⟨k2, c2, a2, v2, z2, d2⟩] : List Ev).map Ev.cs) rfl HT5.out.o rfl rfl HR5.out HT5.out.b.size hn1 ?_; intro ao6 cap6 w6 HP6 HG6 HN6 _) | fail)
              have HT6 : Hid (Rr w w6 p R4 (i + 1) (stepS s ⟨k2, c2, a2, v2, z2, d2⟩) ao6 (i + 1) cap6 (L ++ [⟨k2, c2, a2, v2, z2, d2⟩])) := Hid.in (HT5.out.row (by rw [List.map_append]; exact HP6.out) HG6.out HN6.out)
              clear HT5 HR5 HX4 HP6 HG6 HN6 g0 g1 g2 g3 g4 g5
              go_wp2
              go_roundw
              case rel => exact ⟨i + 1, _, R4, ao6, cap6, _, by omega, rfl, by go_num, HT6.out⟩
              case measure => simp [intOf]; omega
        · have i1 : ¬ (i : Int) < (ll : Int) := by omega
          go_wp2
          go_meet
          case rel => exact ⟨Ri, s, i, ao, i, cap, L, rfl, by omega, HTi.out⟩
    case rest =>
      obtain ⟨R2, s, K, ao, n, cap, L, rfl, hn60', hT⟩ := hcut
      clear HR1
      have HT2 := Hid.in hT
      clear hT
      rename World => w2
      have HLN : Hid (L.length = n) := Hid.in (by have h := HT2.out.o.len; rwa [List.length_map] at h)
      have HRW : Hid (RowE w2 ao cap L) := Hid.in (Rows'.evs HT2.out.o)
      have HB2 := Hid.in HT2.out.b
      obtain ⟨res, hres⟩ : ∃ res, badS (ts0 nA nM) L 0 = res := ⟨_, rfl⟩
      obtain ⟨MF, hMF⟩ : ∃ MF, (runS (ts0 nA nM) L).2 = MF := ⟨_, rfl⟩
      have HRES := Hid.in hres
      have HMF := Hid.in hMF
      have HML : Hid (MF.length = nM) := Hid.in (by rw [← hMF, (runS_len L _).2]; simp)
      clear HT2 hres hMF
      go_wp2_with fail
      refine (treplay_c w2 sa (HE.out.below HB2.out) nA nM H1.out H2.out H3.out H4.out ao n cap L HLN.out (by omega) HRW.out res HRES.out MF HMF.out).mono ?_
      rintro r w3 ⟨hv, hb⟩
      have HB3 := Hid.in (bstep HB2.out (Nat.le_refl _) hb)
      have HRW3 : Hid (RowE w3 ao cap L) := Hid.in (HRW.out.step hb)
      have hsz : w2.heap.size ≤ w3.heap.size := hb.size
      clear hb HB2 HRW
      cases res with
      | none =>
        obtain ⟨a5, p5, rfl, hO⟩ := hv
        have HO5 := Hid.in hO
        clear hO
        go_wp2_with fail
        refine (rreplay_c w3 nA nM H1.out H2.out H3.out H4.out ao n cap L HLN.out (by omega) HRW3.out none HRES.out MF HMF.out).mono ?_
        rintro r w4 ⟨⟨a6, p6, rfl, hU⟩, hb⟩
        have HB4 := Hid.in (bstep HB3.out (Nat.le_refl _) hb)
        have HU6 := Hid.in hU
        have HU5 := Hid.in (Rows'.us (HO5.out.step hb))
        have hm8 : nM ≤ 1000000 := by have := H4.out; omega
        clear hU hb HB3 HRW3 HO5
        go_wp2_with fail
        refine (sameU_any w4 a5 a6 nM nM p5 p6 MF MF HML.out HML.out HU5.out HU6.out hm8 true (decide_eq_true rfl)).mono ?_
        rintro r w5 ⟨rfl, hb⟩
        have HB5 := Hid.in (bstep HB4.out (Nat.le_refl _) hb)
        clear hb HB4 HU5 HU6
        go_wp2_with fail
        refine (tsoRuns_any _ sa (HE.out.below HB5.out)).mono ?_
        rintro r w6 ⟨rfl, hb⟩
        have HB6 := Hid.in (bstep HB5.out (Nat.le_refl _) hb)
        clear hb
        go_wp2
        go_ret
        exact ⟨rfl, HB6.out⟩
      | some y =>
        obtain ⟨at_, c, co⟩ := y
        obtain ⟨hc0, hc10⟩ := badS_code L _ 0 HRES.out
        have HC1 : Hid (1 ≤ c) := Hid.in (by omega)
        have HC2 := Hid.in hc10
        have e0 : ((c : Int) == 0) = false := by simpa using hc0
        obtain rfl := hv
        clear hc0 hc10
        go_wp2_with fail
        refine (rreplay_c w3 nA nM H1.out H2.out H3.out H4.out ao n cap L HLN.out (by omega) HRW3.out _ HRES.out MF HMF.out).mono ?_
        rintro r w4 ⟨hv4, hb⟩
        obtain rfl := hv4
        have HB4 := Hid.in (bstep HB3.out (Nat.le_refl _) hb)
        clear hb HB3 HRW3
        go_wp2_with fail
        refine (rtnew_c w4 nA nM H1.out H2.out H3.out H4.out).mono ?_
        rintro r w5 ⟨q5, S5, rfl, _, hb, _⟩
        have HB5 := Hid.in (bstep HB4.out (Nat.le_refl _) hb)
        clear hb HB4
        go_wp2_with fail
        refine (kIs_flt opTRep (at_ : Int) [(opTStep, co)] c HC1.out HC2.out w5 sa (HE.out.below HB5.out)).mono ?_
        rintro r w6 ⟨rfl, hb⟩
        have HB6 := Hid.in (bstep HB5.out (Nat.le_refl _) hb)
        clear hb HB5
        go_wp2_with fail
        refine (kOnly_chn [(opTRep, (at_ : Int)), (opTStep, co)] c HC1.out HC2.out w6 sa (HE.out.below HB6.out)).mono ?_
        rintro r w7 ⟨rfl, hb⟩
        have HB7 := Hid.in (bstep HB6.out (Nat.le_refl _) hb)
        clear hb HB6
        go_wp2_with fail
        refine (tsoRuns_any _ sa (HE.out.below HB7.out)).mono ?_
        rintro r w8 ⟨rfl, hb⟩
        have HB8 := Hid.in (bstep HB7.out (Nat.le_refl _) hb)
        clear hb
        go_wp2
        go_ret
        exact ⟨rfl, HB8.out⟩
theorem tsoReplays_any (w : World) (sa : Nat → Addr) (hE : Env10 w sa) (c0 n0 : Int) (al : Option Addr) (ln capl : Nat) (hcap : ln ≤ capl) (hI : EvsW w al ln) (ob : Option Addr) (nb capb : Nat) (hB : BoolsW w ob nb) :
    Calls Tryd.prog 5 #[.int .i64 c0, .int .i64 n0, .slice al ln capl, .slice ob nb capb] w fun r w' => r = .returned (.bool true) ∧ Below w.heap.size w w' := by
  by_cases h : (1 ≤ c0 ∧ c0 ≤ 64) ∧ 1 ≤ n0 ∧ n0 ≤ 128
  · obtain ⟨nA, rfl⟩ : ∃ m : Nat, c0 = (m : Int) := ⟨c0.toNat, by omega⟩
    obtain ⟨nM, rfl⟩ : ∃ m : Nat, n0 = (m : Int) := ⟨n0.toNat, by omega⟩
    exact tsoReplays_ok w sa hE nA nM (by omega) (by omega) (by omega) (by omega) al ln capl hcap hI ob nb capb hB
  · exact tsoReplays_no w sa hE c0 n0 h al ln capl hcap ob nb capb
end Go.Proofs.YtncgjclehplfeaaDoor
