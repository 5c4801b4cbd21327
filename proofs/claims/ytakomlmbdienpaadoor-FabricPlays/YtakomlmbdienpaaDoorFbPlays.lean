/- DERIVED of the program: FabricPlays returns true. Own work. -/
import Derived.Test.YtakomlmbdienpaaDoorFbRB
import Derived.Deep.CutBlock
namespace Go.Proofs.YtakomlmbdienpaaDoor
open Go.RowKit Go.Extern.Stop Go.Stop Go.Extern

theorem eq_same (m : M13) (w : World) : (Op.equalIn 10000 32 (.agg (mv m)) (.agg (mv m))).run Tryd.prog w = .ok true w := by
  obtain ⟨k, c, l, t, o, e, w_, v, d0, d1, d2, d3, h⟩ := m
  have := eq_msgIn 9997 k c l t o e w_ v d0 d1 d2 d3 h k c l t o e w_ v d0 d1 d2 d3 h w
  rw [(eqB_iff _ _).2 rfl] at this
  exact this
/-- What a call left that wrote its own blocks alone. -/
theorem Bo.fr {w0 w w' : World} {q p cs rm : Nat} {S R F : List Nat} {P Q : List (List M13)} (h : Bo w0 w q S p R cs rm P Q) (hf : Fr F w w') (h1 : ∀ k ∈ F, k ∉ S) (h2 : ∀ k ∈ F, k ∉ R) (h3 : ∀ k ∈ F, w0.heap.size ≤ k) : Bo w0 w' q S p R cs rm P Q :=
  ⟨⟨h.a.f.fr hf (fun k hk hm => h1 k hm hk), h.a.lo, hf.below h.a.b h3 h.a.b.size⟩, h.b.fr hf (fun k hk hm => h2 k hm hk), h.lo, h.d⟩
theorem Rows'.far {w0 : World} {m cap n : Nat} {ao : Option Addr} {rs : List (List Value)} (h : Rows' m w0 ao cap rs) (hm : 0 < m) (hl : ∀ r ∈ rs, r.length = m) (hn : rs.length = n) : 0 < n → ∀ k, oblk ao = some k → k < w0.heap.size := by
  intro h0 k hk
  have h1 : 0 < rs.length := by omega
  have h2 := hl _ (List.getElem_mem h1)
  obtain ⟨b, o, e, hc⟩ := h.cell 0 h1 0 (rs[0][0]'(by omega)) (List.getElem?_eq_getElem (by omega))
  rw [e] at hk
  cases hk
  exact lt_cell (q := ⟨b, o + 0 * m + 0, none⟩) hc
/-- The call that is played: its five cells, the messages that it names. -/
structure Aq (w0 w : World) (X : Nat) (kd pq qc qx : Int) (lo : Option Addr) (nn lc : Nat) (L : List M13) : Prop where
  x : w.heap[X]? = some (.cells #[.int .i64 kd, .int .i64 pq, .int .i64 qc, .int .i64 qx, .slice lo nn lc] 46 (0, 0))
  l : Rows' 13 w0 lo lc (L.map mc)
  n : L.length = nn
  i : InB L
  h : nn ≤ 1000
theorem Aq.step {w0 w w' : World} {X : Nat} {kd pq qc qx : Int} {lo : Option Addr} {nn lc : Nat} {L : List M13} (h : Aq w0 w X kd pq qc qx lo nn lc L) (hb : w'.heap[X]? = w.heap[X]?) : Aq w0 w' X kd pq qc qx lo nn lc L := ⟨hb.trans h.x, h.l, h.n, h.i, h.h⟩
theorem Aq.sep {w0 w : World} {X : Nat} {kd pq qc qx : Int} {lo : Option Addr} {nn lc : Nat} {L : List M13} (h : Aq w0 w X kd pq qc qx lo nn lc L) {S : List Nat} (hS : ∀ k ∈ S, w0.heap.size ≤ k) : 0 < nn → ∀ k, oblk lo = some k → k ∉ S := fun h0 k hk hm => by
  have h1 := Rows'.far h.l (by decide) (fun r hr => (mcs_each L r hr).1) (by rw [List.length_map]; exact h.n) h0 k hk
  have := hS k hm
  omega

set_option maxHeartbeats 51200000 in
set_option maxRecDepth 20000 in
theorem fabricPlays_ok (w : World) (sa : Nat → Addr) (hE : Env10 w sa) (cs rm : Nat) (h1 : 1 ≤ cs) (h2 : cs ≤ 64) (h3 : 1 ≤ rm) (h4 : rm ≤ 64) (al : Option Addr) (ln capl : Nat) (hQ : AskQ w al ln) :
    Calls Tryd.prog 4 #[.int .i64 (cs : Int), .int .i64 (rm : Int), .slice al ln capl] w fun r w' => r = .returned (.bool true) ∧ Below w.heap.size w w' := by
  have HE := Hid.in hE
  have HQ := Hid.in hQ
  have H1 := Hid.in (And.intro (And.intro h1 h2) (And.intro h3 h4))
  clear hE hQ h1 h2 h3 h4
  go_enter Tryd.func4, Tryd.ntmps4
  go_wp2_with fail
  refine (lvnew_c w cs rm H1.out.1.1 H1.out.1.2 H1.out.2.1 H1.out.2.2).mono ?_
  rintro r w1 ⟨q, S, rfl, hA⟩
  have HA1 := Hid.in hA
  clear hA
  go_wp2_with fail
  refine (rfnew_ok w1 cs rm H1.out.1.1 H1.out.1.2 H1.out.2.1 H1.out.2.2).mono ?_
  rintro r w2 ⟨p, R, rfl, hF, hlo, hb⟩
  have HT2 : Hid (Bo w w2 q S p R cs rm (noneF cs) (noneF cs)) := Hid.in ⟨HA1.out.step hb, hF, fun k hk => Nat.le_trans HA1.out.b.size (hlo k hk), fun k hk hm => by have := HA1.out.f.mem k hk; have := hlo k hm; omega⟩
  clear hF hlo hb HA1
  go_wp2_with fail
  refine (kIs_nil opFNew 0 w2).mono ?_
  rintro r w3 ⟨rfl, hb⟩
  have HT3 := Hid.in (HT2.out.step hb)
  clear hb HT2
  go_wp2
  go_loopw [12] (fun c wr => ∃ (i : Nat) (S R : List Nat) (P : List (List M13)), i ≤ ln ∧ i ≤ 50 ∧ c = .int .i64 (i : Int) ∧ Bo w wr q S p R cs rm P P) (fun c _ => 60 - (intOf c).toNat)
  case atStart => exact ⟨0, _, _, _, Nat.zero_le _, Nat.zero_le _, rfl, HT3.out⟩
  case round =>
    clear HT3
    obtain ⟨i, S, R, P, hin', hi50, rfl, hT⟩ := hrel
    have HTi := Hid.in hT
    clear hT
    rename World => wo
    by_cases hlt : i < ln ∧ i < 50
    · as_aux_lemma =>
      obtain ⟨hin, hi5⟩ := hlt
      obtain ⟨b, o, kd, pq, qc, qx, lo, nl, lc, L0, rfl, x0, x1, x2, x3, x4, hLn, hLr, hLi⟩ := HQ.out.at_ i hin
      have hbw := HTi.out.a.b
      have y0 := (hbw.cell (p := ⟨b, o + i * 5, none⟩) (lt_cell x0)).trans x0
      have y1 := (hbw.cell (p := ⟨b, o + i * 5 + 1, none⟩) (lt_cell x1)).trans x1
      have y2 := (hbw.cell (p := ⟨b, o + i * 5 + 2, none⟩) (lt_cell x2)).trans x2
      have y3 := (hbw.cell (p := ⟨b, o + i * 5 + 3, none⟩) (lt_cell x3)).trans x3
      have y4 := (hbw.cell (p := ⟨b, o + i * 5 + 4, none⟩) (lt_cell x4)).trans x4
      have i1 : (i : Int) < (ln : Int) := by omega
      have i2 : (i : Int) < 50 := by omega
      have HLn := Hid.in hLn
      have HLr := Hid.in hLr
      have HLi := Hid.in hLi
      clear x0 x1 x2 x3 x4 hbw hLn hLr hLi
      go_upto_region 9 with fail
      generalize hww : wo.alloc _ = wx
      obtain ⟨X, hX⟩ : ∃ X, wo.heap.size = X := ⟨_, rfl⟩
      have HX : Hid (wx.heap[X]? = some (.cells #[.int .i64 kd, .int .i64 pq, .int .i64 qc, .int .i64 qx, .slice lo nl lc] 46 (0, 0))) := Hid.in (by rw [← hX, ← hww]; exact heap_alloc_new _ _)
      have HTX : Hid (Bo w wx q S p R cs rm P P) := Hid.in (by rw [← hww]; exact HTi.out.step (below_alloc _ _))
      have HXD : Hid (X ∉ S ∧ X ∉ R ∧ w.heap.size ≤ X) := Hid.in (by rw [← hX]; exact ⟨HTi.out.a.f.far (Nat.le_refl _), HTi.out.b.far (Nat.le_refl _), HTi.out.a.b.size⟩)
      rw [hX]
      clear hww hX HTi y0 y1 y2 y3 y4
      have a4 := blk_cell (i := 4) HX.out rfl
      go_upto_if 73 with fail
      go_cut [] (fun wd => ∃ (nn : Nat) (L : List M13), Aq w wd X kd pq qc qx lo nn lc L ∧ Bo w wd q S p R cs rm P P)
      case first =>
        by_cases h12 : 12 < nl
        · as_aux_lemma =>
          obtain ⟨mb, mo, m0, rfl, _⟩ := HLr.out.msg 0 (by rw [HLn.out]; omega)
          have hle := HLr.out.le
          rw [List.length_map, HLn.out] at hle
          have hs := slice_toM mb mo nl lc 12 (by omega)
          have j12 : (nl : Int) > 12 := by omega
          have j12' : (12 : Int) < (nl : Int) := by omega
          have zf := blk_free (i := 4) HX.out
          go_wp2_with fail
          go_meet
          case rel =>
            refine ⟨12, L0.take 12, ⟨?_, by rw [List.map_take]; exact HLr.out.take 12, by rw [List.length_take, HLn.out]; omega, fun m hm => HLi.out m (List.mem_of_mem_take hm), by decide⟩, HTX.out.fr ((Fr.refl [X] _).setCell _ List.mem_cons_self) (fun k hk => by rw [List.mem_singleton.1 hk]; exact HXD.out.1) (fun k hk => by rw [List.mem_singleton.1 hk]; exact HXD.out.2.1) (fun k hk => by rw [List.mem_singleton.1 hk]; exact HXD.out.2.2)⟩
            exact blk_set (i := 4) _ HX.out
        · as_aux_lemma =>
          have j12 : ¬ (nl : Int) > 12 := by omega
          have j12' : ¬ (12 : Int) < (nl : Int) := by omega
          go_wp2_with fail
          go_meet
          case rel => exact ⟨nl, L0, ⟨HX.out, HLr.out, HLn.out, HLi.out, by omega⟩, HTX.out⟩
      case rest =>
      obtain ⟨nn, L, hA, hT⟩ := hcut
      clear HX HTX HLn HLr HLi a4
      have HA := Hid.in hA
      have HT := Hid.in hT
      clear hA hT
      rename World => wx
      have a0 := blk_cell (i := 0) HA.out.x rfl
      go_upto_block 2 with fail
      clear a0
      go_cut [14] (fun v wd => ∃ (P' : List (List M13)) (S' R' : List Nat), v = .bool true ∧ Aq w wd X kd pq qc qx lo nn lc L ∧ Bo w wd q S' p R' cs rm P' P' ∧ X ∉ S' ∧ X ∉ R')
      case first =>
        by_cases k1 : kd = 1
        · as_aux_lemma =>
            subst k1
            clear i1 i2
            have j1 : ((1 : Int) == 1) = true := by decide
            have a0 := blk_cell (i := 0) HA.out.x rfl
            have a1 := blk_cell (i := 1) HA.out.x rfl
            have a2 := blk_cell (i := 2) HA.out.x rfl
            have a3 := blk_cell (i := 3) HA.out.x rfl
            have a4 := blk_cell (i := 4) HA.out.x rfl
            obtain ⟨v, T, hRT, hpT, hv, hB⟩ := HT.out.b.body
            subst hRT
            have HV := Hid.in hv
            have HBd := Hid.in hB
            have HPT := Hid.in hpT
            have HSz : Hid ((Tryd.prog.info? 50).map (·.size) = some v.toArray.size) := Hid.in ((show v.toArray.size = v.length by simp) ▸ Tryd.sizeRFab HBd.out.len)
            have HTh : Hid ((wx.alloc (.cells #[.int .i64 0, .int .i64 0, .slice none 0 0, .slice none 0 0, .slice none 0 0, .slice none 0 0] 50)).there wx.heap.size 0 v.toArray.size) := Hid.in (by
              have h1 := blk_there (heap_alloc_new wx (.cells #[.int .i64 0, .int .i64 0, .slice none 0 0, .slice none 0 0, .slice none 0 0, .slice none 0 0] 50))
              have e : v.toArray.size = 6 := by simp [HBd.out.len]
              rw [e]
              exact h1)
            clear hv hB hpT
            go_upto_region 17 with (first | (refine wpList_load_mid rfl 50 (.tmp 84) rfl p 0 rfl v _ (blk_range HV.out) Tryd.underlying50 rfl (Tryd.sizeRFab HBd.out.len) ?_) | (refine wpList_store_mid rfl 50 (.tmp 16) (.tmp 85) rfl wx.heap.size 0 v.toArray rfl rfl HTh.out HSz.out (all_oneCell_toArray HBd.out.one) ?_; generalize hW1 : (wx.alloc _).setCells wx.heap.size 0 v.toArray.toList = w1) | fail)
            have hb1 : Below wx.heap.size wx w1 := by
              have hg : wx.grownBy w1 (some wx.heap.size) := by rw [← hW1]; exact grown_trans' (grown_of_below (below_alloc _ _) _) (grown_setCells _ _ _ _)
              exact ⟨hg.os, hg.tape, hg.output, hg.size, fun k hk => hg.block k hk (fun e => by cases e; omega)⟩
            have HY1 : Hid (w1.heap[wx.heap.size]? = some (.cells v.toArray 50 (0, 0))) := Hid.in (by
              rw [← hW1]
              have h2 := blk_over (v := v) (heap_alloc_new wx (.cells #[.int .i64 0, .int .i64 0, .slice none 0 0, .slice none 0 0, .slice none 0 0, .slice none 0 0] 50)) (by rw [HBd.out.len]; rfl)
              simpa using h2)
            have HB1 := Hid.in hb1
            have HA1 := Hid.in (HA.out.step (hb1.block X (blk_lt HA.out.x)))
            have HT1 := Hid.in (HT.out.step hb1)
            clear hW1 hb1 a0 a1 a2 a3 a4
            obtain ⟨Y, hY⟩ : ∃ Y, wx.heap.size = Y := ⟨_, rfl⟩
            have HYS : Hid (Y ∉ S ∧ Y ∉ (p :: T) ∧ w.heap.size ≤ Y ∧ X ≠ Y ∧ Y < w1.heap.size) := Hid.in (by
              rw [← hY]
              exact ⟨HT.out.a.f.far (Nat.le_refl _), HT.out.b.far (Nat.le_refl _), HT.out.a.b.size, fun e => by have := blk_lt HA.out.x; omega, blk_lt HY1.out⟩)
            rw [hY] at HY1 ⊢
            have HYe := Hid.in hY
            clear hY
            have a0 := blk_cell (i := 0) HA1.out.x rfl
            have a4 := blk_cell (i := 4) HA1.out.x rfl
            obtain ⟨cd, kk, hck⟩ : ∃ cd kk, fitsF cs rm P L = (cd, kk) := ⟨_, _, rfl⟩
            obtain ⟨P', hP'⟩ : ∃ P', sentF cs rm P L = P' := ⟨_, rfl⟩
            have HCK := Hid.in hck
            have HP' := Hid.in hP'
            have HC10 : Hid (cd ≤ 10) := Hid.in (by have := fitsF_code cs rm P L; rw [hck] at this; exact this)
            clear hck hP'
            go_wp2_with fail
            refine (fbsend_g w1 sa (HE.out.below HT1.out.a.b) q cs rm S P HT1.out.a.f lo nn lc L (HA1.out.l.step HT1.out.a.b) HA1.out.n HA1.out.i HA1.out.h (HA1.out.sep HT1.out.a.lo) cd kk P' HCK.out HP'.out).mono ?_
            rintro r w2 ⟨rfl, S2, hT⟩
            have HT2 := Hid.in (HT1.out.goA hT)
            have HF2 := Hid.in hT
            clear hT
            have HS2 : Hid (∀ k ∈ S2, k ∈ S ∨ w1.heap.size ≤ k) := Hid.in HF2.out.s
            have HA2 := Hid.in (HA1.out.step (HF2.out.f.block X (blk_lt HA1.out.x) HXD.out.1))
            have HY2 := Hid.in ((HF2.out.f.block Y HYS.out.2.2.2.2 HYS.out.1).trans HY1.out)
            have HYT : Hid (Y ∉ T) := Hid.in (fun h => HYS.out.2.1 (List.mem_cons_of_mem _ h))
            have HB2 : Hid (RBody w2 v T cs rm P) := Hid.in ((HBd.out.below HB1.out).step (fun k hk => HF2.out.f.block k ((HBd.out.below HB1.out).mem k hk) (fun h => HT1.out.d k h (List.mem_cons_of_mem _ hk))) HF2.out.f.size)
            have HR2 : Hid (Bo w w2 q S2 Y (Y :: T) cs rm P' P) := Hid.in (by
              refine ⟨HT2.out.a, HB2.out.go w2 Y (fun _ _ => rfl) HY2.out HYT.out, fun k hk => ?_, fun k hk hm => ?_⟩
              · rcases List.mem_cons.1 hk with e | e
                · rw [e]; exact HYS.out.2.2.1
                · exact HT2.out.lo k (List.mem_cons_of_mem _ e)
              · rcases List.mem_cons.1 hm with e | e
                · rcases HS2.out k hk with h1 | h1
                  · exact HYS.out.1 (e ▸ h1)
                  · have := HYS.out.2.2.2.2; omega
                · exact HT2.out.d k hk (List.mem_cons_of_mem _ e))
            clear a0 a4
            have a0 := blk_cell (i := 0) HA2.out.x rfl
            have a4 := blk_cell (i := 4) HA2.out.x rfl
            go_wp2_with fail
            refine (rfsend_g w2 Y cs rm (Y :: T) P HR2.out.b lo nn lc L (HA2.out.l.step HR2.out.a.b) HA2.out.n HA2.out.i HA2.out.h (HA2.out.sep HR2.out.lo) cd kk HCK.out P' HP'.out).mono ?_
            rintro r w3 ⟨rfl, S3, hU⟩
            have HT3 := Hid.in (HR2.out.goB hU)
            have HU := Hid.in hU
            clear hU
            have HA3 := Hid.in (HA2.out.step (HU.out.f.block X (blk_lt HA2.out.x) (fun h => by
              rcases List.mem_cons.1 h with e | e
              · exact HYS.out.2.2.2.1 e
              · exact HXD.out.2.1 (List.mem_cons_of_mem _ e))))
            have HP2 : Hid (p < w2.heap.size ∧ p ∉ S2 ∧ p ≠ Y ∧ p ∉ T) := Hid.in ⟨HT2.out.b.mem p List.mem_cons_self, fun h => HT2.out.d p h List.mem_cons_self, fun e => HYS.out.2.1 (by rw [e]; exact List.mem_cons_self), HPT.out⟩
            have HV3 : Hid (w3.heap[p]? = some (.cells v.toArray 50 (0, 0))) := Hid.in (by
              have h1 := (HB1.out.block p (blk_lt HV.out)).trans HV.out
              have h2 := (HF2.out.f.block p (blk_lt h1) (fun h => HT1.out.d p h List.mem_cons_self)).trans h1
              refine (HU.out.f.block p HP2.out.1 (fun h => ?_)).trans h2
              rcases List.mem_cons.1 h with e | e
              · exact HP2.out.2.2.1 e
              · exact HP2.out.2.2.2 e)
            obtain ⟨v3, T3, hS3, hYT3, hv3, hB3⟩ := HT3.out.b.body
            subst hS3
            have HV3' := Hid.in hv3
            have HB3 := Hid.in hB3
            have HPT3 : Hid (p ∉ T3) := Hid.in (fun h => by
              rcases HU.out.s p (List.mem_cons_of_mem _ h) with h1 | h1
              · rcases List.mem_cons.1 h1 with e | e
                · exact HP2.out.2.2.1 e
                · exact HP2.out.2.2.2 e
              · have := HP2.out.1; omega)
            have HSz3 : Hid ((Tryd.prog.info? 50).map (·.size) = some v3.toArray.size) := Hid.in ((show v3.toArray.size = v3.length by simp) ▸ Tryd.sizeRFab HB3.out.len)
            have HTh3 : Hid (w3.there p 0 v3.toArray.size) := Hid.in (by
              have h1 := blk_there HV3.out
              have e : v3.toArray.size = v.toArray.size := by simp [HBd.out.len, HB3.out.len]
              rw [e]
              exact h1)
            clear hv3 hB3 hYT3 a0 a4
            have a0 := blk_cell (i := 0) HA3.out.x rfl
            go_upto_region 24 with (first | (refine wpList_load_mid rfl 50 (.tmp 16) rfl Y 0 rfl v3 _ (blk_range HV3'.out) Tryd.underlying50 rfl (Tryd.sizeRFab HB3.out.len) ?_) | (refine wpList_store_mid rfl 50 (.tmp 110) (.tmp 109) rfl p 0 v3.toArray rfl rfl HTh3.out HSz3.out (all_oneCell_toArray HB3.out.one) ?_; generalize hW4 : w3.setCells p 0 v3.toArray.toList = w4) | fail)
            have hg4 : w3.grownBy w4 (some p) := by rw [← hW4]; exact grown_setCells _ _ _ _
            have HV4 : Hid (w4.heap[p]? = some (.cells v3.toArray 50 (0, 0))) := Hid.in (by
              rw [← hW4]
              have h2 := blk_over (v := v3) HV3.out (by simp [HBd.out.len, HB3.out.len])
              simpa using h2)
            have HG4 := Hid.in hg4
            clear hW4 hg4 a0
            have HA4 := Hid.in (HA3.out.step (HG4.out.block X (blk_lt HA3.out.x) (fun e => by cases e; exact HXD.out.2.1 List.mem_cons_self)))
            have HT4 : Hid (Bo w w4 q S2 p (p :: T3) cs rm P' P') := Hid.in (by
              have hf : Fr [p] w3 w4 := Fr.of_grown HG4.out (fun k e => by cases e; exact List.mem_singleton.2 rfl)
              have hlo : w.heap.size ≤ p := HT1.out.lo p List.mem_cons_self
              refine ⟨⟨HT3.out.a.f.fr hf (fun k hk hm => HP2.out.2.1 (by rw [← List.mem_singleton.1 hm]; exact hk)), HT3.out.a.lo, hf.below HT3.out.a.b (fun k hk => by rw [List.mem_singleton.1 hk]; exact hlo) HT3.out.a.b.size⟩, HB3.out.go w4 p (fun k hk => HG4.out.block k (HB3.out.mem k hk) (fun e => by cases e; exact HPT3.out hk)) HV4.out HPT3.out, fun k hk => ?_, fun k hk hm => ?_⟩
              · rcases List.mem_cons.1 hk with e | e
                · rw [e]; exact hlo
                · exact HT3.out.lo k (List.mem_cons_of_mem _ e)
              · rcases List.mem_cons.1 hm with e | e
                · exact HP2.out.2.1 (e ▸ hk)
                · exact HT3.out.d k hk (List.mem_cons_of_mem _ e))
            have HXF : Hid (X ∉ S2 ∧ X ∉ (p :: T3)) := Hid.in ⟨fun h => by
                rcases HS2.out X h with h1 | h1
                · exact HXD.out.1 h1
                · have := blk_lt HA1.out.x; omega, fun h => by
                rcases List.mem_cons.1 h with e | e
                · exact HXD.out.2.1 (by rw [e]; exact List.mem_cons_self)
                · rcases HU.out.s X (List.mem_cons_of_mem _ e) with h1 | h1
                  · rcases List.mem_cons.1 h1 with e2 | e2
                    · exact HYS.out.2.2.2.1 e2
                    · exact HXD.out.2.1 (List.mem_cons_of_mem _ e2)
                  · have := blk_lt HA2.out.x; omega⟩
            go_wp2_with fail
            refine (kIs_perr opFSend (kk : Int) cd HC10.out w4 sa (HE.out.below HT4.out.a.b)).mono ?_
            rintro r w5 ⟨rfl, hb⟩
            have HT5 := Hid.in (HT4.out.step hb)
            have HA5 := Hid.in (HA4.out.step (hb.block X (blk_lt HA4.out.x)))
            clear hb
            go_wp2_with fail
            refine (kOnly_perr opFSend (kk : Int) cd HC10.out w5 sa (HE.out.below HT5.out.a.b)).mono ?_
            rintro r w6 ⟨rfl, hb⟩
            have HT6 := Hid.in (HT5.out.step hb)
            have HA6 := Hid.in (HA5.out.step (hb.block X (blk_lt HA5.out.x)))
            clear hb
            go_wp2
            go_meet
            case rel => exact ⟨P', S2, p :: T3, rfl, HA6.out, HT6.out, HXF.out.1, HXF.out.2⟩
        by_cases k2 : kd = 2
        · as_aux_lemma =>
            subst k2
            clear i1 i2 k1
            have j1 : ((2 : Int) == 1) = false := by decide
            have j2 : ((2 : Int) == 2) = true := by decide
            have a0 := blk_cell (i := 0) HA.out.x rfl
            have a1 := blk_cell (i := 1) HA.out.x rfl
            have a2 := blk_cell (i := 2) HA.out.x rfl
            have a3 := blk_cell (i := 3) HA.out.x rfl
            have a4 := blk_cell (i := 4) HA.out.x rfl
            obtain ⟨v, T, hRT, hpT, hv, hB⟩ := HT.out.b.body
            subst hRT
            have HV := Hid.in hv
            have HBd := Hid.in hB
            have HPT := Hid.in hpT
            have HSz : Hid ((Tryd.prog.info? 50).map (·.size) = some v.toArray.size) := Hid.in ((show v.toArray.size = v.length by simp) ▸ Tryd.sizeRFab HBd.out.len)
            have HTh : Hid ((wx.alloc (.cells #[.int .i64 0, .int .i64 0, .slice none 0 0, .slice none 0 0, .slice none 0 0, .slice none 0 0] 50)).there wx.heap.size 0 v.toArray.size) := Hid.in (by
              have h1 := blk_there (heap_alloc_new wx (.cells #[.int .i64 0, .int .i64 0, .slice none 0 0, .slice none 0 0, .slice none 0 0, .slice none 0 0] 50))
              have e : v.toArray.size = 6 := by simp [HBd.out.len]
              rw [e]
              exact h1)
            clear hv hB hpT
            go_upto_region 17 with (first | (refine wpList_load_mid rfl 50 (.tmp 84) rfl p 0 rfl v _ (blk_range HV.out) Tryd.underlying50 rfl (Tryd.sizeRFab HBd.out.len) ?_) | (refine wpList_store_mid rfl 50 (.tmp 16) (.tmp 85) rfl wx.heap.size 0 v.toArray rfl rfl HTh.out HSz.out (all_oneCell_toArray HBd.out.one) ?_; generalize hW1 : (wx.alloc _).setCells wx.heap.size 0 v.toArray.toList = w1) | fail)
            have hb1 : Below wx.heap.size wx w1 := by
              have hg : wx.grownBy w1 (some wx.heap.size) := by rw [← hW1]; exact grown_trans' (grown_of_below (below_alloc _ _) _) (grown_setCells _ _ _ _)
              exact ⟨hg.os, hg.tape, hg.output, hg.size, fun k hk => hg.block k hk (fun e => by cases e; omega)⟩
            have HY1 : Hid (w1.heap[wx.heap.size]? = some (.cells v.toArray 50 (0, 0))) := Hid.in (by
              rw [← hW1]
              have h2 := blk_over (v := v) (heap_alloc_new wx (.cells #[.int .i64 0, .int .i64 0, .slice none 0 0, .slice none 0 0, .slice none 0 0, .slice none 0 0] 50)) (by rw [HBd.out.len]; rfl)
              simpa using h2)
            have HB1 := Hid.in hb1
            have HA1 := Hid.in (HA.out.step (hb1.block X (blk_lt HA.out.x)))
            have HT1 := Hid.in (HT.out.step hb1)
            clear hW1 hb1 a0 a1 a2 a3 a4
            obtain ⟨Y, hY⟩ : ∃ Y, wx.heap.size = Y := ⟨_, rfl⟩
            have HYS : Hid (Y ∉ S ∧ Y ∉ (p :: T) ∧ w.heap.size ≤ Y ∧ X ≠ Y ∧ Y < w1.heap.size) := Hid.in (by
              rw [← hY]
              exact ⟨HT.out.a.f.far (Nat.le_refl _), HT.out.b.far (Nat.le_refl _), HT.out.a.b.size, fun e => by have := blk_lt HA.out.x; omega, blk_lt HY1.out⟩)
            rw [hY] at HY1 ⊢
            have HYe := Hid.in hY
            clear hY
            have a0 := blk_cell (i := 0) HA1.out.x rfl
            have a4 := blk_cell (i := 4) HA1.out.x rfl
            obtain ⟨cd, kk, hck⟩ : ∃ cd kk, fitsF cs rm P L = (cd, kk) := ⟨_, _, rfl⟩
            have HCK := Hid.in hck
            have HC10 : Hid (cd ≤ 10) := Hid.in (by have := fitsF_code cs rm P L; rw [hck] at this; exact this)
            clear hck
            go_wp2_with fail
            refine (fbfits_c w1 sa (HE.out.below HT1.out.a.b) q cs rm S P HT1.out.a.f lo nn lc L (HA1.out.l.step HT1.out.a.b) HA1.out.n HA1.out.i HA1.out.h cd kk HCK.out).mono ?_
            rintro r w2 ⟨rfl, hb2⟩
            have HT2 := Hid.in (HT1.out.step hb2)
            have HB2 := Hid.in hb2
            have HA2 := Hid.in (HA1.out.step (hb2.block X (blk_lt HA1.out.x)))
            have HY2 := Hid.in ((hb2.block Y HYS.out.2.2.2.2).trans HY1.out)
            clear hb2 a0 a4
            go_wp2_with fail
            refine (fbtwin_c w2 p cs rm (p :: T) P HT2.out.b).mono ?_
            rintro r w3 ⟨v3, T3, rfl, hb3, hB3, hT3⟩
            have HB3 := Hid.in hB3
            have HT3 := Hid.in (HT2.out.step hb3)
            have HA3 := Hid.in (HA2.out.step (hb3.block X (blk_lt HA2.out.x)))
            have HY3 := Hid.in ((hb3.block Y (blk_lt HY2.out)).trans HY2.out)
            have HN3 := Hid.in hT3
            have HYT3 : Hid (Y ∉ T3) := Hid.in (fun h => by have := HN3.out Y h; have := blk_lt HY2.out; omega)
            have HSz3 : Hid ((Tryd.prog.info? 50).map (·.size) = some v3.toArray.size) := Hid.in ((show v3.toArray.size = v3.length by simp) ▸ Tryd.sizeRFab HB3.out.len)
            have HTh3 : Hid (w3.there Y 0 v3.toArray.size) := Hid.in (by
              have h1 := blk_there HY3.out
              have e : v3.toArray.size = v.toArray.size := by simp [HBd.out.len, HB3.out.len]
              rw [e]
              exact h1)
            clear hb3 hB3 hT3
            go_upto_region 21 with (first | (refine wpList_store_mid rfl 50 (.tmp 16) (.tmp 98) rfl Y 0 v3.toArray rfl rfl HTh3.out HSz3.out (all_oneCell_toArray HB3.out.one) ?_; generalize hW4 : w3.setCells Y 0 v3.toArray.toList = w4) | fail)
            have hg4 : w3.grownBy w4 (some Y) := by rw [← hW4]; exact grown_setCells _ _ _ _
            have HY4 : Hid (w4.heap[Y]? = some (.cells v3.toArray 50 (0, 0))) := Hid.in (by
              rw [← hW4]
              have h2 := blk_over (v := v3) HY3.out (by simp [HBd.out.len, HB3.out.len])
              simpa using h2)
            have HG4 := Hid.in hg4
            clear hW4 hg4
            have HT4 := Hid.in (HT3.out.poke HG4.out HYS.out.1 HYS.out.2.1 HYS.out.2.2.1)
            have HA4 := Hid.in (HA3.out.step (HG4.out.block X (blk_lt HA3.out.x) (fun e => HYS.out.2.2.2.1 (Option.some.inj e))))
            have HR4 : Hid (RFab w4 Y (Y :: T3) cs rm P) := Hid.in (HB3.out.go w4 Y (fun k hk => HG4.out.block k (HB3.out.mem k hk) (fun e => by cases e; exact HYT3.out hk)) HY4.out HYT3.out)
            have HL4 : Hid (∀ k ∈ Y :: T3, w.heap.size ≤ k) := Hid.in (fun k hk => by
              rcases List.mem_cons.1 hk with e | e
              · rw [e]; exact HYS.out.2.2.1
              · exact Nat.le_trans HT2.out.a.b.size (HN3.out k e))
            have a0 := blk_cell (i := 0) HA4.out.x rfl
            have a4 := blk_cell (i := 4) HA4.out.x rfl
            obtain ⟨P', hP'⟩ : ∃ P', sentF cs rm P L = P' := ⟨_, rfl⟩
            have HP' := Hid.in hP'
            clear hP'
            go_wp2_with fail
            refine (rfsend_g w4 Y cs rm (Y :: T3) P HR4.out lo nn lc L (HA4.out.l.step HT4.out.a.b) HA4.out.n HA4.out.i HA4.out.h (HA4.out.sep HL4.out) cd kk HCK.out P' HP'.out).mono ?_
            rintro r w5 ⟨rfl, S5, hU⟩
            have HT5 : Hid (Bo w w5 q S p (p :: T) cs rm P P) := Hid.in (HT4.out.fr hU.f (fun k hk hm => by
              rcases List.mem_cons.1 hk with e | e
              · exact HYS.out.1 (e ▸ hm)
              · have := HN3.out k e; have := HT2.out.a.f.mem k hm; omega) (fun k hk hm => by
              rcases List.mem_cons.1 hk with e | e
              · exact HYS.out.2.1 (e ▸ hm)
              · have := HN3.out k e; have := HT2.out.b.mem k hm; omega) HL4.out)
            have HA5 := Hid.in (HA4.out.step (hU.f.block X (blk_lt HA4.out.x) (fun h => by
              rcases List.mem_cons.1 h with e | e
              · exact HYS.out.2.2.2.1 e
              · have := HN3.out X e; have := blk_lt HA2.out.x; omega)))
            clear hU a0 a4
            have a0 := blk_cell (i := 0) HA5.out.x rfl
            go_wp2_with fail
            refine (kIs_perr opFSend (kk : Int) cd HC10.out w5 sa (HE.out.below HT5.out.a.b)).mono ?_
            rintro r w6 ⟨rfl, hb⟩
            have HT6 := Hid.in (HT5.out.step hb)
            have HA6 := Hid.in (HA5.out.step (hb.block X (blk_lt HA5.out.x)))
            clear hb a0
            go_wp2_with fail
            refine (kOnly_perr opFSend (kk : Int) cd HC10.out w6 sa (HE.out.below HT6.out.a.b)).mono ?_
            rintro r w7 ⟨rfl, hb⟩
            have HT7 := Hid.in (HT6.out.step hb)
            have HA7 := Hid.in (HA6.out.step (hb.block X (blk_lt HA6.out.x)))
            clear hb
            go_wp2
            go_meet
            case rel => exact ⟨P, S, p :: T, rfl, HA7.out, HT7.out, HXD.out.1, HXD.out.2.1⟩
        by_cases k3 : kd = 3
        · as_aux_lemma =>
            subst k3
            clear i1 i2 k1 k2
            obtain ⟨m, b, hmb⟩ : ∃ m b, peekF cs P pq qc qx = (m, b) := ⟨_, _, rfl⟩
            have HMB := Hid.in hmb
            clear hmb
            have j1 : ((3 : Int) == 1) = false := by decide
            have j2 : ((3 : Int) == 2) = false := by decide
            have j3 : ((3 : Int) == 3) = true := by decide
            have a0 := blk_cell (i := 0) HA.out.x rfl
            have a1 := blk_cell (i := 1) HA.out.x rfl
            have a2 := blk_cell (i := 2) HA.out.x rfl
            have a3 := blk_cell (i := 3) HA.out.x rfl
            have a4 := blk_cell (i := 4) HA.out.x rfl
            go_wp2_with fail
            refine (fbpeek_c wx q cs rm S P HT.out.a.f pq qc qx m b HMB.out).mono ?_
            rintro r w1 ⟨rfl, hb⟩
            have HT1 := Hid.in (HT.out.step hb)
            have HA1 := Hid.in (HA.out.step (hb.block X (blk_lt HA.out.x)))
            clear hb a0 a1 a2 a3 a4
            as_aux_lemma =>
              have a1 := blk_cell (i := 1) HA1.out.x rfl
              have a2 := blk_cell (i := 2) HA1.out.x rfl
              have a3 := blk_cell (i := 3) HA1.out.x rfl
              go_upto_region 27 with (first | (refine wpList_store_mid rfl 32 (.tmp 19) (.tmp 131) rfl w1.heap.size 0 (mv m) rfl rfl (there_zero w1 m) (Tryd.sizeMv _) (mv_one _) ?_; generalize hw2 : (w1.alloc _).setCells w1.heap.size 0 (mv m).toList = w2) | fail)
              have Rw2 : Hid (w2.rangeAt w1.heap.size 0 (mc m)) := Hid.in (by rw [← hw2]; exact World.rangeAt_setCells_same _ _ _ _ (by rw [Array.length_toList]; exact there_zero w1 m))
              have Gw2 : Hid (Below w1.heap.size w1 w2) := Hid.in (by
                have hg : w1.grownBy w2 (some w1.heap.size) := by rw [← hw2]; exact grown_trans' (grown_of_below (below_alloc _ _) _) (grown_setCells _ _ _ _)
                exact ⟨hg.os, hg.tape, hg.output, hg.size, fun k hk => hg.block k hk (fun e => by cases e; omega)⟩)
              clear hw2
              have HA2 := Hid.in (HA1.out.step (Gw2.out.block X (blk_lt HA1.out.x)))
              have HT2 := Hid.in (HT1.out.step Gw2.out)
              clear a1 a2 a3
              have a1 := blk_cell (i := 1) HA2.out.x rfl
              have a2 := blk_cell (i := 2) HA2.out.x rfl
              have a3 := blk_cell (i := 3) HA2.out.x rfl
              obtain ⟨B1, hB1⟩ : ∃ x, w1.heap.size = x := ⟨_, rfl⟩
              have HBl1 : Hid (B1 < w2.heap.size ∧ B1 ∉ R) := Hid.in (by
                rw [← hB1]
                refine ⟨?_, HT1.out.b.far (Nat.le_refl _)⟩
                have hl : 0 < (mc m).length := by rw [mc_len]; decide
                have h := Rw2.out 0 _ (List.getElem?_eq_getElem hl)
                exact lt_cell h)
              rw [hB1] at Rw2 ⊢
              clear hB1 Gw2
              as_aux_lemma =>
                go_wp2_with fail
                refine (rfpeek_c w2 p cs rm R P HT2.out.b pq qc qx m b HMB.out).mono ?_
                rintro r w3 ⟨rfl, hb⟩
                have HT3 := Hid.in (HT2.out.step hb)
                have HA3 := Hid.in (HA2.out.step (hb.block X (blk_lt HA2.out.x)))
                have HR3 := Hid.in (rangeAt_fr Rw2.out (Fr.of_below (S := []) hb) List.not_mem_nil)
                clear hb a1 a2 a3
                as_aux_lemma =>
                  go_upto_region 28 with (first | (refine wpList_store_mid rfl 32 (.tmp 21) (.tmp 142) rfl w3.heap.size 0 (mv m) rfl rfl (there_zero w3 m) (Tryd.sizeMv _) (mv_one _) ?_; generalize hw4 : (w3.alloc _).setCells w3.heap.size 0 (mv m).toList = w4) | fail)
                  have Rw4 : Hid (w4.rangeAt w3.heap.size 0 (mc m)) := Hid.in (by rw [← hw4]; exact World.rangeAt_setCells_same _ _ _ _ (by rw [Array.length_toList]; exact there_zero w3 m))
                  have Gw4 : Hid (Below w3.heap.size w3 w4) := Hid.in (by
                    have hg : w3.grownBy w4 (some w3.heap.size) := by rw [← hw4]; exact grown_trans' (grown_of_below (below_alloc _ _) _) (grown_setCells _ _ _ _)
                    exact ⟨hg.os, hg.tape, hg.output, hg.size, fun k hk => hg.block k hk (fun e => by cases e; omega)⟩)
                  clear hw4
                  have HA4 := Hid.in (HA3.out.step (Gw4.out.block X (blk_lt HA3.out.x)))
                  have HT4 := Hid.in (HT3.out.step Gw4.out)
                  have HR4 := Hid.in (rangeAt_fr HR3.out (Fr.of_below (S := []) Gw4.out) List.not_mem_nil)
                  obtain ⟨B3, hB3⟩ : ∃ x, w3.heap.size = x := ⟨_, rfl⟩
                  rw [hB3] at Rw4 ⊢
                  clear hB3 Gw4
                  as_aux_lemma =>
                    have heq := fun w => eq_same m w
                    go_wp2_with (first | (refine wpList_load_mid rfl 32 (.tmp 19) rfl B1 0 rfl (mc m) _ HR4.out Tryd.underlying32 rfl (by rw [mc_len]; exact Tryd.sizeMsg) ?_; simp only [mc_arr]) | (refine wpList_load_mid rfl 32 (.tmp 21) rfl B3 0 rfl (mc m) _ Rw4.out Tryd.underlying32 rfl (by rw [mc_len]; exact Tryd.sizeMsg) ?_; simp only [mc_arr]) | fail)
                    go_meet
                    case rel => exact ⟨P, S, R, rfl, HA4.out, HT4.out, HXD.out.1, HXD.out.2.1⟩
        by_cases k4 : kd = 4
        · as_aux_lemma =>
            subst k4
            clear i1 i2 k1 k2 k3
            obtain ⟨m, b, hmb⟩ : ∃ m b, peekF cs P pq qc qx = (m, b) := ⟨_, _, rfl⟩
            have HMB := Hid.in hmb
            clear hmb
            have j1 : ((4 : Int) == 1) = false := by decide
            have j2 : ((4 : Int) == 2) = false := by decide
            have j3 : ((4 : Int) == 3) = false := by decide
            have j4 : ((4 : Int) == 4) = true := by decide
            have a0 := blk_cell (i := 0) HA.out.x rfl
            have a1 := blk_cell (i := 1) HA.out.x rfl
            have a2 := blk_cell (i := 2) HA.out.x rfl
            have a3 := blk_cell (i := 3) HA.out.x rfl
            have a4 := blk_cell (i := 4) HA.out.x rfl
            obtain ⟨P', hP'⟩ : ∃ P', tookF cs P pq qc qx = P' := ⟨_, rfl⟩
            have HP' := Hid.in hP'
            clear hP'
            go_wp2_with fail
            refine (fbtake_c wx q cs rm S P HT.out.a.f pq qc qx m b HMB.out P' HP'.out).mono ?_
            rintro r w1 ⟨rfl, S2, hT⟩
            have HT1 := Hid.in (HT.out.goA hT)
            have HA1 := Hid.in (HA.out.step (hT.f.block X (blk_lt HA.out.x) HXD.out.1))
            have HX1 : Hid (X ∉ S2) := Hid.in (fun h => by
              rcases hT.s X h with h1 | h1
              · exact HXD.out.1 h1
              · have := blk_lt HA.out.x; omega)
            clear hT a0 a1 a2 a3 a4
            as_aux_lemma =>
              have a1 := blk_cell (i := 1) HA1.out.x rfl
              have a2 := blk_cell (i := 2) HA1.out.x rfl
              have a3 := blk_cell (i := 3) HA1.out.x rfl
              go_upto_region 31 with (first | (refine wpList_store_mid rfl 32 (.tmp 23) (.tmp 163) rfl w1.heap.size 0 (mv m) rfl rfl (there_zero w1 m) (Tryd.sizeMv _) (mv_one _) ?_; generalize hw2 : (w1.alloc _).setCells w1.heap.size 0 (mv m).toList = w2) | fail)
              have Rw2 : Hid (w2.rangeAt w1.heap.size 0 (mc m)) := Hid.in (by rw [← hw2]; exact World.rangeAt_setCells_same _ _ _ _ (by rw [Array.length_toList]; exact there_zero w1 m))
              have Gw2 : Hid (Below w1.heap.size w1 w2) := Hid.in (by
                have hg : w1.grownBy w2 (some w1.heap.size) := by rw [← hw2]; exact grown_trans' (grown_of_below (below_alloc _ _) _) (grown_setCells _ _ _ _)
                exact ⟨hg.os, hg.tape, hg.output, hg.size, fun k hk => hg.block k hk (fun e => by cases e; omega)⟩)
              clear hw2
              have HA2 := Hid.in (HA1.out.step (Gw2.out.block X (blk_lt HA1.out.x)))
              have HT2 := Hid.in (HT1.out.step Gw2.out)
              clear a1 a2 a3
              have a1 := blk_cell (i := 1) HA2.out.x rfl
              have a2 := blk_cell (i := 2) HA2.out.x rfl
              have a3 := blk_cell (i := 3) HA2.out.x rfl
              obtain ⟨B1, hB1⟩ : ∃ x, w1.heap.size = x := ⟨_, rfl⟩
              have HBl1 : Hid (B1 < w2.heap.size ∧ B1 ∉ R) := Hid.in (by
                rw [← hB1]
                refine ⟨?_, HT1.out.b.far (Nat.le_refl _)⟩
                have hl : 0 < (mc m).length := by rw [mc_len]; decide
                have h := Rw2.out 0 _ (List.getElem?_eq_getElem hl)
                exact lt_cell h)
              rw [hB1] at Rw2 ⊢
              clear hB1 Gw2
              as_aux_lemma =>
                go_wp2_with fail
                refine (rftake_c w2 p cs rm R P HT2.out.b pq qc qx m b HMB.out P' HP'.out).mono ?_
                rintro r w3 ⟨rfl, R2, hU⟩
                have HT3 := Hid.in (HT2.out.goB hU)
                have HA3 := Hid.in (HA2.out.step (hU.f.block X (blk_lt HA2.out.x) HXD.out.2.1))
                have HX3 : Hid (X ∉ R2) := Hid.in (fun h => by
                  rcases hU.s X h with h1 | h1
                  · exact HXD.out.2.1 h1
                  · have := blk_lt HA2.out.x; omega)
                have HR3 := Hid.in (rangeAt_fr Rw2.out hU.f HBl1.out.2)
                clear hU a1 a2 a3
                as_aux_lemma =>
                  go_upto_region 32 with (first | (refine wpList_store_mid rfl 32 (.tmp 25) (.tmp 174) rfl w3.heap.size 0 (mv m) rfl rfl (there_zero w3 m) (Tryd.sizeMv _) (mv_one _) ?_; generalize hw4 : (w3.alloc _).setCells w3.heap.size 0 (mv m).toList = w4) | fail)
                  have Rw4 : Hid (w4.rangeAt w3.heap.size 0 (mc m)) := Hid.in (by rw [← hw4]; exact World.rangeAt_setCells_same _ _ _ _ (by rw [Array.length_toList]; exact there_zero w3 m))
                  have Gw4 : Hid (Below w3.heap.size w3 w4) := Hid.in (by
                    have hg : w3.grownBy w4 (some w3.heap.size) := by rw [← hw4]; exact grown_trans' (grown_of_below (below_alloc _ _) _) (grown_setCells _ _ _ _)
                    exact ⟨hg.os, hg.tape, hg.output, hg.size, fun k hk => hg.block k hk (fun e => by cases e; omega)⟩)
                  clear hw4
                  have HA4 := Hid.in (HA3.out.step (Gw4.out.block X (blk_lt HA3.out.x)))
                  have HT4 := Hid.in (HT3.out.step Gw4.out)
                  have HR4 := Hid.in (rangeAt_fr HR3.out (Fr.of_below (S := []) Gw4.out) List.not_mem_nil)
                  obtain ⟨B3, hB3⟩ : ∃ x, w3.heap.size = x := ⟨_, rfl⟩
                  rw [hB3] at Rw4 ⊢
                  clear hB3 Gw4
                  as_aux_lemma =>
                    have heq := fun w => eq_same m w
                    go_wp2_with (first | (refine wpList_load_mid rfl 32 (.tmp 23) rfl B1 0 rfl (mc m) _ HR4.out Tryd.underlying32 rfl (by rw [mc_len]; exact Tryd.sizeMsg) ?_; simp only [mc_arr]) | (refine wpList_load_mid rfl 32 (.tmp 25) rfl B3 0 rfl (mc m) _ Rw4.out Tryd.underlying32 rfl (by rw [mc_len]; exact Tryd.sizeMsg) ?_; simp only [mc_arr]) | fail)
                    go_meet
                    case rel => exact ⟨P', S2, R2, rfl, HA4.out, HT4.out, HX1.out, HX3.out⟩
        · as_aux_lemma =>
            have j1 : (kd == 1) = false := by simpa using k1
            have j2 : (kd == 2) = false := by simpa using k2
            have j3 : (kd == 3) = false := by simpa using k3
            have j4 : (kd == 4) = false := by simpa using k4
            go_wp2
            go_meet
            case rel => exact ⟨P, S, R, rfl, HA.out, HT.out, HXD.out.1, HXD.out.2.1⟩
      case rest =>
      obtain ⟨P', S', R', rfl, hA, hT, hxs, hxr⟩ := hcut
      clear HA HT HXD
      have HA := Hid.in hA
      have HT := Hid.in hT
      clear hA hT hxs hxr
      rename World => wd
      as_aux_lemma =>
        obtain ⟨nA, hnA⟩ : ∃ n, allF P' = n := ⟨_, rfl⟩
        obtain ⟨nL, hnL⟩ : ∃ n, lenP cs P' pq qc = n := ⟨_, rfl⟩
        have n1 : ∀ n : Kin (fun W => Below wd.heap.size wd W), n.of.cell? ⟨X, 1, none⟩ = some (.int .i64 pq) := fun n => blk_cell ((n.in.block X (blk_lt HA.out.x)).trans HA.out.x) rfl
        have n2 : ∀ n : Kin (fun W => Below wd.heap.size wd W), n.of.cell? ⟨X, 2, none⟩ = some (.int .i64 qc) := fun n => blk_cell ((n.in.block X (blk_lt HA.out.x)).trans HA.out.x) rfl
        have C1 : Hid (∀ n : Kin (fun W => Below wd.heap.size wd W), Calls Tryd.prog 13 #[.pointer (some ⟨q, 0, none⟩)] n.of fun r w' => r = .returned (.int .i64 (nA : Int)) ∧ w' = n.of) := Hid.in (fun n => fball_c n.of q cs rm S' P' (HT.out.a.f.step n.in) nA hnA)
        have C2 : Hid (∀ n : Kin (fun W => Below wd.heap.size wd W), Calls Tryd.prog 24 #[.pointer (some ⟨p, 0, none⟩)] n.of fun r w' => r = .returned (.int .i64 (nA : Int)) ∧ w' = n.of) := Hid.in (fun n => rfall_c n.of p cs rm R' P' (HT.out.b.step n.in) nA hnA)
        have C3 : Hid (∀ n : Kin (fun W => Below wd.heap.size wd W), Calls Tryd.prog 15 #[.pointer (some ⟨q, 0, none⟩), .int .i64 pq, .int .i64 qc] n.of fun r w' => r = .returned (.int .i64 (nL : Int)) ∧ w' = n.of) := Hid.in (fun n => fblen_c n.of q cs rm S' P' (HT.out.a.f.step n.in) pq qc nL hnL)
        have C4 : Hid (∀ n : Kin (fun W => Below wd.heap.size wd W), Calls Tryd.prog 25 #[.pointer (some ⟨p, 0, none⟩), .int .i64 pq, .int .i64 qc] n.of fun r w' => r = .returned (.int .i64 (nL : Int)) ∧ w' = n.of) := Hid.in (fun n => rflen_c n.of p cs rm R' P' (HT.out.b.step n.in) pq qc nL hnL)
        clear hnA hnL
        go_upto_region 33 with fail
        refine wp_region_kin (C := fun W => Below wd.heap.size wd W) (by kernel_rfl) (by kernel_rfl) (Below.refl _ _).drew (fun hne' => ?_)
        repeat (go_big_quiet_step (first | (go_at_call 13; exact Kin.same _ (C1.out _)) | (go_at_call 24; exact Kin.same _ (C2.out _)) | (go_at_call 15; exact Kin.same _ (C3.out _)) | (go_at_call 25; exact Kin.same _ (C4.out _))))
        refine wpQuiet_nil ?_
        rintro we ⟨n, rfl⟩
        have hbe := n.in
        generalize n.of = we at hbe
        have HTe := Hid.in (HT.out.step hbe)
        clear hbe n1 n2
        go_wp2
        go_roundw
        case rel => exact ⟨i + 1, S', R', P', by omega, by omega, by go_num, HTe.out⟩
        case measure => simp [intOf]; omega
    · by_cases hin : i < ln
      · have i1 : (i : Int) < (ln : Int) := by omega
        have i2 : ¬ (i : Int) < 50 := by omega
        go_wp2_with fail
        refine (fabricRuns_any _ sa (HE.out.below HTi.out.a.b)).mono ?_
        rintro r w3 ⟨rfl, hb⟩
        have HB3 := Hid.in (bstep HTi.out.a.b (Nat.le_refl _) hb)
        clear hb
        go_wp2
        go_ret
        exact ⟨rfl, HB3.out⟩
      · have i1 : ¬ (i : Int) < (ln : Int) := by omega
        go_wp2_with fail
        refine (fabricRuns_any _ sa (HE.out.below HTi.out.a.b)).mono ?_
        rintro r w3 ⟨rfl, hb⟩
        have HB3 := Hid.in (bstep HTi.out.a.b (Nat.le_refl _) hb)
        clear hb
        go_wp2
        go_ret
        exact ⟨rfl, HB3.out⟩

theorem fabricPlays_any (w : World) (sa : Nat → Addr) (hE : Env10 w sa) (c0 n0 : Int) (al : Option Addr) (ln capl : Nat) (hQ : AskQ w al ln) :
    Calls Tryd.prog 4 #[.int .i64 c0, .int .i64 n0, .slice al ln capl] w fun r w' => r = .returned (.bool true) ∧ Below w.heap.size w w' := by
  by_cases h : 1 ≤ c0 ∧ c0 ≤ 64
  · by_cases h2 : 1 ≤ n0 ∧ n0 ≤ 64
    · obtain ⟨cs, rfl⟩ : ∃ m : Nat, c0 = (m : Int) := ⟨c0.toNat, by omega⟩
      obtain ⟨rm, rfl⟩ : ∃ m : Nat, n0 = (m : Int) := ⟨n0.toNat, by omega⟩
      exact fabricPlays_ok w sa hE cs rm (by omega) (by omega) (by omega) (by omega) al ln capl hQ
    · exact fabricPlays_nil2 w sa hE c0 n0 h h2 al ln capl
  · exact fabricPlays_nil1 w sa hE c0 n0 h al ln capl

end Go.Proofs.YtakomlmbdienpaaDoor
