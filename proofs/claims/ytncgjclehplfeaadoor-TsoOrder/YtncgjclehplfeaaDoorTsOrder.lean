/- DERIVED of the program: TsoOrder returns true. Own work. -/
import Derived.Test.YtncgjclehplfeaaDoorTsFen
import Derived.Deep.CutBlock
namespace Go.Proofs.YtncgjclehplfeaaDoor
open Go.RowKit Go.Extern.Stop Go.Stop Go.Extern

/-- The commits that are to come, as a row. -/
def cms (R : List (Int × Int)) : List (List Value) := R.map (fun p => (Ev.mk 3 0 p.1 p.2 0 false).cs)
theorem cms_len (R : List (Int × Int)) : (cms R).length = R.length := by simp [cms]
theorem cms_snoc (R : List (Int × Int)) (p : Int × Int) : cms (R ++ [p]) = cms R ++ [(Ev.mk 3 0 p.1 p.2 0 false).cs] := by simp [cms]
/-- A law's model, its row of commits, its own memory. -/
structure Ors (w0 w : World) (q : Nat) (S : List Nat) (N g : Nat) (ao : Option Addr) (n cap : Nat) (R : List (Int × Int)) (s : TS) (A : List Int) : Prop where
  a : At w0 w q S N s
  o : OwnA 24 6 w w0.heap.size ao n cap (cms R)
  od : ∀ k, oblk ao = some k → k ∉ S ∧ k ≠ g
  gc : w.heap[g]? = some (.cells (uarr A) 67 (0, 0))
  gd : g ∉ S ∧ w0.heap.size ≤ g
theorem Ors.step {w0 w w' : World} {q N g n cap : Nat} {S : List Nat} {ao : Option Addr} {R : List (Int × Int)} {s : TS} {A : List Int} (h : Ors w0 w q S N g ao n cap R s A) (hb : Below w.heap.size w w') : Ors w0 w' q S N g ao n cap R s A :=
  ⟨h.a.step hb, h.o.step hb, h.od, (hb.block g (blk_lt h.gc)).trans h.gc, h.gd⟩
theorem Ors.turned {w0 w w' : World} {q N N' g n cap : Nat} {S S' : List Nat} {ao : Option Addr} {R : List (Int × Int)} {s s' : TS} {A : List Int} (h : Ors w0 w q S N g ao n cap R s A) (ht : Turned w w' q S S' N' s'.1 s'.2) : Ors w0 w' q S' N' g ao n cap R s' A := by
  have hg := blk_lt h.gc
  refine ⟨h.a.turned ht, h.o.fr ht.f (fun k hk => (h.od k hk).1), fun k hk => ⟨fun hm => ?_, (h.od k hk).2⟩, (ht.f.block g hg h.gd.1).trans h.gc, fun hm => ?_, h.gd.2⟩
  · rcases ht.s k hm with h1 | h1
    · exact (h.od k hk).1 h1
    · obtain ⟨_, cur, hc⟩ := h.o.blk k hk
      have := blk_lt hc
      omega
  · rcases ht.s g hm with h1 | h1
    · exact h.gd.1 h1
    · omega
theorem Ors.arr {w0 w : World} {q N g n cap : Nat} {S : List Nat} {ao : Option Addr} {R : List (Int × Int)} {s : TS} {A : List Int} (h : Ors w0 w q S N g ao n cap R s A) (r : Nat) (v : Int) : Ors w0 (w.setCell ⟨g, r, none⟩ (.int .u32 v)) q S N g ao n cap R s (A.set r v) := by
  have hf : Fr [g] w (w.setCell ⟨g, r, none⟩ (.int .u32 v)) := (Fr.refl _ _).setCell _ List.mem_cons_self
  refine ⟨h.a.fr hf (fun k hk hm => h.gd.1 (by rw [← List.mem_singleton.1 hm]; exact hk)) (fun k hk => by rw [List.mem_singleton.1 hk]; exact h.gd.2), h.o.fr hf (fun k hk hm => (h.od k hk).2 (List.mem_singleton.1 hm)), h.od, ?_, h.gd⟩
  have h2 := blk_set (i := r) (.int .u32 v) h.gc
  rw [u4_set] at h2
  exact h2
theorem Ors.row {w0 w w' : World} {q N g n cap n' cap' : Nat} {S : List Nat} {ao ao' : Option Addr} {R R' : List (Int × Int)} {s : TS} {A : List Int} (h : Ors w0 w q S N g ao n cap R s A) (ho : OwnA 24 6 w' w0.heap.size ao' n' cap' (cms R')) (hg : w.grownBy w' (oblk ao)) (hn : ∀ b, oblk ao' = some b → oblk ao = some b ∨ w.heap.size ≤ b) : Ors w0 w' q S N g ao' n' cap' R' s A := by
  have hf : Fr (oblk ao).toList w w' := Fr.of_grown hg (fun k hk => Option.mem_toList.2 hk)
  have hgl := blk_lt h.gc
  refine ⟨h.a.fr hf (fun k hk hm => (h.od k (Option.mem_toList.1 hm)).1 hk) (fun k hk => (h.o.blk k (Option.mem_toList.1 hk)).1), ho, fun k hk => ?_, (hg.block g hgl (fun e => (h.od g e.symm).2 rfl)).trans h.gc, h.gd⟩
  rcases hn k hk with h1 | h1
  · exact h.od k h1
  · exact ⟨h.a.p.far h1, by omega⟩

theorem slice_from6 (ts te : TypeId) (z : Value) (by_ : Nat) (hts : Tryd.prog.underlying ts = some (.slice te)) (hte : (Tryd.prog.info? te).map (fun i => (i.zero, i.size, i.bytes)) = some (some z, 6, by_)) (b o n cap : Nat) (hn : 1 ≤ n) (w : World) :
    (Instr.sliceAt ts (.slice (some ⟨b, o, none⟩) n cap) (some (.int .i64 1)) none none).run Tryd.prog w = .ok (.slice (some (if cap = 1 then ⟨b, o, none⟩ else ⟨b, o + 6, none⟩)) (n - 1) (cap - 1)) w := by
  obtain ⟨i0, hi, hz0, hz1, hz2⟩ := info_parts hte
  have hj2 : (1 : Int) ≤ (n : Int) := by omega
  simp [Instr.sliceAt, Instr.slice, Instr.sliceBounds, Instr.sliceBound, asIntOf, Sem.run_bind, run_underlying hts, hj2, sizeOf, typeInfo, hi, hz1]
  split <;> rfl
theorem Ors.tail {w0 w : World} {q N g n cap b o : Nat} {S : List Nat} {R : List (Int × Int)} {s : TS} {A : List Int} {X : Addr} (h : Ors w0 w q S N g (some ⟨b, o, none⟩) n cap R s A) (hn : 1 ≤ n) (hX : (if cap = 1 then (⟨b, o, none⟩ : Addr) else ⟨b, o + 6, none⟩) = X) : Ors w0 w q S N g (some X) (n - 1) (cap - 1) (R.drop 1) s A := by
  have hbk : oblk (some X) = some b := by rw [← hX]; split <;> rfl
  have hcm : cms (R.drop 1) = (cms R).drop 1 := by simp [cms]
  refine ⟨h.a, ?_, fun k hk => h.od k (by rw [hbk] at hk; exact hk), h.gc, h.gd⟩
  rw [hcm, ← hX]
  by_cases hc : cap = 1
  · rw [if_pos hc]
    have hle := h.o.le
    have hl := h.o.len
    obtain rfl : n = 1 := by omega
    subst hc
    rw [List.drop_eq_nil_of_le (by omega)]
    exact h.o.gone
  · rw [if_neg hc]
    have := h.o.drop 1 hn
    rwa [Nat.one_mul] at this
theorem Ors.wat {w0 w : World} {q N g n cap : Nat} {S : List Nat} {ao : Option Addr} {R : List (Int × Int)} {s : TS} {A : List Int} (h : Ors w0 w q S N g ao n cap R s A) (j : Nat) (hj : j < n) : ∃ b o x y, ao = some ⟨b, o, none⟩ ∧ w.cell? ⟨b, o + j * 6, none⟩ = some (.int .i64 3) ∧ w.cell? ⟨b, o + j * 6 + 1, none⟩ = some (.int .i64 0) ∧ w.cell? ⟨b, o + j * 6 + 2, none⟩ = some (.int .i64 x) ∧ w.cell? ⟨b, o + j * 6 + 3, none⟩ = some (.int .u32 y) ∧ w.cell? ⟨b, o + j * 6 + 4, none⟩ = some (.int .u32 0) ∧ w.cell? ⟨b, o + j * 6 + 5, none⟩ = some (.bool false) ∧ R[j]? = some (x, y) := by
  have hl : R.length = n := by rw [← cms_len]; exact h.o.len
  have hj' : j < (cms R).length := by rw [cms_len]; omega
  have hr : (cms R)[j] = (Ev.mk 3 0 (R[j]'(by omega)).1 (R[j]'(by omega)).2 0 false).cs := by simp [cms]
  obtain ⟨b, o, e, h0⟩ := h.o.cell j hj' 0 (.int .i64 3) (by rw [hr]; rfl)
  obtain ⟨b1, o1, e1, h1⟩ := h.o.cell j hj' 1 (.int .i64 0) (by rw [hr]; rfl)
  obtain ⟨b2, o2, e2, h2⟩ := h.o.cell j hj' 2 (.int .i64 (R[j]'(by omega)).1) (by rw [hr]; rfl)
  obtain ⟨b3, o3, e3, h3⟩ := h.o.cell j hj' 3 (.int .u32 (R[j]'(by omega)).2) (by rw [hr]; rfl)
  obtain ⟨b4, o4, e4, h4⟩ := h.o.cell j hj' 4 (.int .u32 0) (by rw [hr]; rfl)
  obtain ⟨b5, o5, e5, h5⟩ := h.o.cell j hj' 5 (.bool false) (by rw [hr]; rfl)
  rw [e] at e1 e2 e3 e4 e5
  cases e1; cases e2; cases e3; cases e4; cases e5
  exact ⟨b, o, _, _, e, by simpa using h0, h1, h2, h3, h4, h5, List.getElem?_eq_getElem (by omega)⟩

abbrev os (L : List (Int × Int)) (M : List Int) : TS := ([L, []], M)
theorem ord_store (L : List (Int × Int)) (M : List Int) (hM : M.length = 4) (a : Nat) (ha : a < 4) (v : Int) : refP (os L M).1 (os L M).2 ⟨2, 0, a, v, 0, false⟩ = 0 ∧ stepS (os L M) ⟨2, 0, a, v, 0, false⟩ = os (L ++ [((a : Int), v)]) M := by
  have l2 : a < (os L M).2.length := by simp only [hM]; exact ha
  exact ⟨ref_store (os L M) 0 a v 0 false (by simp) l2, (step_store (s := os L M) (c := 0) (by simp) l2).trans rfl⟩
theorem ord_commit (x y : Int) (R : List (Int × Int)) (M : List Int) (hM : M.length = 4) (r : Nat) (hx : x = (r : Int)) (hr : r < 4) : refP (os ((x, y) :: R) M).1 (os ((x, y) :: R) M).2 ⟨3, 0, x, y, 0, false⟩ = 0 ∧ stepS (os ((x, y) :: R) M) ⟨3, 0, x, y, 0, false⟩ = os R (M.set r y) := by
  subst hx
  have l2 : r < (os (((r : Int), y) :: R) M).2.length := by simp only [hM]; exact hr
  exact ⟨(ref_commit (os (((r : Int), y) :: R) M) 0 r y 0 false (by simp) l2 _ R rfl).trans (if_pos rfl), (step_commit (s := os (((r : Int), y) :: R) M) (c := 0) (by simp) l2 R rfl).trans rfl⟩
theorem rdL_take {L : List (Int × Int)} {M : List Int} {j a : Nat} {x y : Int} (h : L[j]? = some (x, y)) : rdL (L.take (j + 1)) M a = if x = (a : Int) then y else rdL (L.take j) M a := by
  unfold rdL
  rw [fwdL_take _ h]
  by_cases hx : x = (a : Int)
  · simp [hx]
  · simp [hx]

set_option maxHeartbeats 12800000 in
set_option maxRecDepth 20000 in
theorem tsoOrder_any (w : World) (sa : Nat → Addr) (hE : Env10 w sa) (aa : Option Addr) (na capa : Nat) (hI : IntsW w aa na) (av : Option Addr) (nv capv : Nat) (hV : U32sW w av nv) (al : Option Addr) (nl capl : Nat) (hB : BoolsW w al nl) :
    Calls Tryd.prog 6 #[.slice aa na capa, .slice av nv capv, .slice al nl capl] w fun r w' => r = .returned (.bool true) ∧ Below w.heap.size w w' := by
  have HE := Hid.in hE
  have HI := Hid.in hI
  have HV := Hid.in hV
  have HL := Hid.in hB
  clear hE hI hV hB
  go_enter Tryd.func6, Tryd.ntmps6
  go_wp2_with fail
  refine (at_new w w (Below.refl _ _) 2 4 (by decide) (by decide) (by decide) (by decide)).mono ?_
  rintro r w1 ⟨q, S, rfl, hA, _, _⟩
  have HA1 : Hid (At w w1 q S 0 (os [] [0, 0, 0, 0])) := Hid.in hA
  clear hA
  go_upto_region 6 with fail
  generalize hwx : w1.alloc _ = wx
  have HOx : Hid (Ors w wx q S 0 w1.heap.size none 0 0 [] (os [] [0, 0, 0, 0]) [0, 0, 0, 0]) := Hid.in (by
    rw [← hwx]
    exact ⟨HA1.out.step (below_alloc _ _), OwnA.nil _ _ _ _, (fun k hk => by cases hk), heap_alloc_new _ _, HA1.out.p.far (Nat.le_refl _), HA1.out.b.size⟩)
  generalize w1.heap.size = g at HOx ⊢
  clear hwx HA1
  go_wp2
  go_loopw [9, 11] (fun x y wr => ∃ (i N : Nat) (S : List Nat) (ao : Option Addr) (n cap : Nat) (L : List (Int × Int)) (M : List Int), i ≤ 30 ∧ i ≤ na ∧ i ≤ nv ∧ N ≤ 2 * i ∧ x = .slice ao n cap ∧ y = .int .i64 (i : Int) ∧ n ≤ i ∧ M.length = 4 ∧ (∀ p ∈ L, 0 ≤ p.1 ∧ p.1 ≤ 3) ∧ Ors w wr q S N g ao n cap L (os L M) M) (fun _ y _ => 30 - (intOf y).toNat)
  case atStart => exact ⟨0, 0, S, none, 0, 0, [], [0, 0, 0, 0], by omega, by omega, by omega, by omega, rfl, rfl, by omega, rfl, fun p hp => absurd hp List.not_mem_nil, HOx.out⟩
  case round =>
    obtain ⟨i, N, S, ao, n, cap, L, M, hi, hia, hiv, hN2, rfl, rfl, hni, hM4, hLr, hO⟩ := hrel
    clear HOx
    have HO := Hid.in hO
    have HM4 := Hid.in hM4
    have HLR := Hid.in hLr
    clear hO hM4 hLr
    by_cases hlt : i < na ∧ i < nv ∧ i < 30
    · obtain ⟨h1, h2, h3⟩ := hlt
      obtain ⟨b1, o1, z, rfl, x0⟩ := HI.out.at i h1
      obtain ⟨b2, o2, v, rfl, x1⟩ := HV.out.at i h2
      have X1 := Hid.in x1
      have y0 := (HO.out.a.b.cell (p := ⟨b1, o1 + i, none⟩) (lt_cell x0)).trans x0
      have y1 := (HO.out.a.b.cell (p := ⟨b2, o2 + i, none⟩) (lt_cell x1)).trans x1
      have i1 : (i : Int) < (na : Int) := by omega
      have i2 : (i : Int) < (nv : Int) := by omega
      have i3 : (i : Int) < 30 := by omega
      have hw1 := wI_le z 0 3 (by omega)
      obtain ⟨a, ha⟩ : ∃ m : Nat, wI z 0 3 = (m : Int) := ⟨(wI z 0 3).toNat, by omega⟩
      have ha4 : a < 4 := by omega
      have HA := Hid.in ha
      have hN : N < 100000 := by omega
      have hN1 : N + 1 < 100000 := by omega
      have Y := Hid.in (ord_store L M HM4.out a ha4 v)
      clear x0 x1 hw1 ha
      go_wp2_with fail
      refine (within_i z 0 3 _ (by omega) (by omega) (by omega)).mono ?_
      rw [HA.out]
      rintro r w2 ⟨rfl, rfl⟩
      go_wp2_with fail
      refine (ev_c _ _ _ _ _).mono ?_
      rintro r w3 ⟨rfl, hb⟩
      have HO3 := Hid.in (HO.out.step hb)
      clear hb HO y0 y1
      go_wp2_with fail
      refine (at_yes w _ sa HE.out q N S _ _ HO3.out.a hN 2 0 (a : Int) v 0 false Y.out.1 Y.out.2).mono ?_
      rintro r w4 ⟨rfl, S4, _, hT⟩
      have HO4 := Hid.in (HO3.out.turned hT)
      have y1 := (HO4.out.a.b.cell (p := ⟨b2, o2 + i, none⟩) (lt_cell X1.out)).trans X1.out
      clear hT HO3
      go_wp2_with fail
      refine (ev_c _ _ _ _ _).mono ?_
      rintro r w5 ⟨rfl, hb⟩
      have HO5 := Hid.in ((HO4.out.step hb).step (below_alloc w5 (.cells #[.int .i64 3, .int .i64 0, .int .i64 (a : Int), .int .u32 v, .int .u32 0, .bool false] 24)))
      have HR5 : Hid (RowE (w5.alloc (.cells #[.int .i64 3, .int .i64 0, .int .i64 (a : Int), .int .u32 v, .int .u32 0, .bool false] 24)) (some ⟨w5.heap.size, 0, none⟩) 1 [⟨3, 0, a, v, 0, false⟩]) := Hid.in (RowE.lits w5 [⟨3, 0, a, v, 0, false⟩] _ rfl)
      have hn1 : n + 1 ≤ 1000000 := by omega
      clear hb HO4 y1
      go_upto_region 13 with (first | (at_builtin; refine wpList_concatA rfl 26 24 6 40 _ (.tmp 60) (.tmp 67) rfl Tryd.underlying26 Tryd.infoEv rfl (by decide) (by decide) w.heap.size ao (some ⟨w5.heap.size, 0, none⟩) n cap 1 1 (cms L) (([⟨3, 0, a, v, 0, false⟩] : List Ev).map Ev.cs) rfl HO5.out.o rfl rfl HR5.out HO5.out.a.b.size hn1 ?_; intro ao6 cap6 w6 HP6 HG6 HN6 _) | fail)
      have HO6 : Hid (Ors w w6 q S4 (N + 1) g ao6 (n + 1) cap6 (L ++ [((a : Int), v)]) (os (L ++ [((a : Int), v)]) M) M) := Hid.in (HO5.out.row (by rw [cms_snoc]; exact HP6.out) HG6.out HN6.out)
      have HL6 : Hid (∀ p ∈ L ++ [((a : Int), v)], 0 ≤ p.1 ∧ p.1 ≤ 3) := Hid.in (fun p hp => by
        rcases List.mem_append.1 hp with hp | hp
        · exact HLR.out p hp
        · rw [List.mem_singleton.1 hp]; simp only []; omega)
      generalize L ++ [((a : Int), v)] = L6 at HO6 HL6
      clear HO5 HR5 HP6 HG6 HN6 HLR Y
      go_upto_region 13 with fail
      obtain ⟨cmt, hcmt⟩ : ∃ cmt : Bool, (i < nl → ∃ lb lo, al = some ⟨lb, lo, none⟩ ∧ w6.cell? ⟨lb, lo + i, none⟩ = some (.bool cmt)) ∧ (¬ i < nl → cmt = false) := by
        by_cases h : i < nl
        · obtain ⟨lb, lo, zz, e, xc⟩ := HL.out.at i h
          exact ⟨zz, fun _ => ⟨lb, lo, e, (HO6.out.a.b.cell (p := ⟨lb, lo + i, none⟩) (lt_cell xc)).trans xc⟩, fun hh => absurd h hh⟩
        · exact ⟨false, fun hh => absurd hh h, fun _ => rfl⟩
      go_cut [78] (fun x wd => x = .bool cmt ∧ wd = w6)
      case first =>
        by_cases h : i < nl
        · obtain ⟨lb, lo, rfl, xc⟩ := hcmt.1 h
          have i4 : (i : Int) < (nl : Int) := by omega
          go_wp2
          go_meet
          case rel => exact ⟨rfl, rfl⟩
        · have i4 : ¬ (i : Int) < (nl : Int) := by omega
          have HLI := Hid.in (hcmt.2 h)
          go_wp2
          go_meet
          case rel => exact ⟨by rw [HLI.out], rfl⟩
      case rest =>
        obtain ⟨rfl, hwd⟩ := hcut
        subst hwd
        rename World => w6
        clear hcmt
        go_upto_if 78 with fail
        go_cut [9] (fun x wd => ∃ (N' : Nat) (S : List Nat) (ao : Option Addr) (n' cap : Nat) (L : List (Int × Int)) (M : List Int), N' ≤ N + 2 ∧ x = .slice ao n' cap ∧ n' ≤ n + 1 ∧ M.length = 4 ∧ (∀ p ∈ L, 0 ≤ p.1 ∧ p.1 ≤ 3) ∧ Ors w wd q S N' g ao n' cap L (os L M) M)
        case first =>
          cases cmt with
          | false =>
            go_wp2
            go_meet
            case rel => exact ⟨N + 1, S4, ao6, n + 1, cap6, L6, M, by omega, rfl, by omega, HM4.out, HL6.out, HO6.out⟩
          | true =>
            obtain ⟨b, o, x, y, rfl, x0, x1, x2, x3, x4, x5, hxy⟩ := HO6.out.wat 0 (Nat.succ_pos n)
            simp only [Nat.zero_mul, Nat.add_zero] at x0 x1 x2 x3 x4 x5
            obtain ⟨R, hLR⟩ : ∃ R, L6 = (x, y) :: R := by
              cases L6 with
              | nil => simp at hxy
              | cons p R => simp at hxy; exact ⟨R, by rw [hxy]⟩
            subst hLR
            obtain ⟨hx0, hx3⟩ := HL6.out (x, y) List.mem_cons_self
            simp only [] at hx0 hx3
            obtain ⟨r, hr⟩ : ∃ r : Nat, x = (r : Int) := ⟨x.toNat, by omega⟩
            have hr4 : r < 4 := by omega
            have Y := Hid.in (ord_commit x y R M HM4.out r hr hr4)
            have HR := Hid.in hr
            have i5 : (0 : Int) < ((n + 1 : Nat) : Int) := by omega
            obtain ⟨n1, hn1⟩ : ∃ n1, n + 1 = n1 := ⟨_, rfl⟩
            rw [hn1] at HO6 i5
            rw [hn1]
            have HN1 := Hid.in hn1
            clear hxy hr hx0 hx3 hn1
            go_wp2_with fail
            refine (at_yes w _ sa HE.out q _ S4 _ _ HO6.out.a hN1 3 0 x y 0 false Y.out.1 Y.out.2).mono ?_
            rintro r' w7 ⟨rfl, S7, _, hT⟩
            have HO7 := Hid.in (HO6.out.turned hT)
            clear hT HO6 x0 x1 x2 x3 x4 x5
            obtain ⟨b', o', x', y', hao, z0, z1, z2, z3, z4, z5, hxy⟩ := HO7.out.wat 0 (by have := HN1.out; omega)
            cases hao
            simp only [List.getElem?_cons_zero, Option.some.injEq, Prod.mk.injEq] at hxy
            obtain ⟨e1, e2⟩ := hxy
            subst e1
            subst e2
            simp only [Nat.zero_mul, Nat.add_zero] at z2 z3
            have hg0 := blk_cell HO7.out.gc (u4_get M r (by rw [HM4.out]; exact hr4))
            have hgf : w7.frozen? ⟨g, r, none⟩ = false := blk_free HO7.out.gc
            have hsl := slice_from6 26 24 _ _ Tryd.underlying26 Tryd.infoEv b o n1 cap6 (by have := HN1.out; omega)
            obtain ⟨X, hX⟩ : ∃ X, (if cap6 = 1 then (⟨b, o, none⟩ : Addr) else ⟨b, o + 6, none⟩) = X := ⟨_, rfl⟩
            rw [hX] at hsl
            have HX := Hid.in hX
            have hxr := HR.out
            subst hxr
            have i6 : (r : Int) < 4 := by omega
            have i7 : 0 < n1 := by have := HN1.out; omega
            have HO9 : Hid (Ors w (w7.drew.setCell ⟨g, r, none⟩ (.int .u32 y)) q S7 (N + 1 + 1) g (some X) (n1 - 1) (cap6 - 1) R (os R (M.set r y)) (M.set r y)) := Hid.in (((HO7.out.step (Below.refl _ _).drew).arr r y).tail (by have := HN1.out; omega) HX.out)
            clear z0 z1 z4 z5 hX HO7
            go_upto_region 16 with fail
            refine wp_region_but (fun W => cellIs b (o + 2) (.int .i64 (r : Int)) W ∧ cellIs b (o + 3) (.int .u32 y) W) 9 (by kernel_rfl) ?_
            have HS : Hid (cellIs b (o + 2) (.int .i64 (r : Int)) w7.drew ∧ cellIs b (o + 3) (.int .u32 y) w7.drew) := Hid.in ⟨z2, z3⟩
            refine wpBut_take (i := 0) (v := ?_) rfl (by kernel_rfl) (by kernel_rfl) (by exact fun _ _ _ h => h) HS.out (Or.inl ⟨by rfl, ?_⟩) ?_
            case refine_2 => (intro w hSw; obtain ⟨s1, s2⟩ := hSw; simp only [cellIs] at s1 s2; go_simp; try with_reducible rfl)
            simp only [Act.put, List.setIfInBounds_toArray, List.set_cons_zero, List.set_cons_succ]
            refine wpBut_take (i := 1) (v := ?_) rfl (by kernel_rfl) (by kernel_rfl) (by exact fun _ _ _ h => h) HS.out (Or.inl ⟨by rfl, ?_⟩) ?_
            case refine_2 => (intro w hSw; obtain ⟨s1, s2⟩ := hSw; simp only [cellIs] at s1 s2; go_simp; try with_reducible rfl)
            simp only [Act.put, List.setIfInBounds_toArray, List.set_cons_zero, List.set_cons_succ]
            refine wpBut_take (i := 2) (v := ?_) rfl (by kernel_rfl) (by kernel_rfl) (by exact fun _ _ _ h => h) HS.out (Or.inl ⟨by rfl, ?_⟩) ?_
            case refine_2 => (intro w hSw; obtain ⟨s1, s2⟩ := hSw; simp only [cellIs] at s1 s2; go_simp; try with_reducible rfl)
            simp only [Act.put, List.setIfInBounds_toArray, List.set_cons_zero, List.set_cons_succ]
            refine wpBut_take (i := 3) (v := ?_) rfl (by kernel_rfl) (by kernel_rfl) (by exact fun _ _ _ h => h) HS.out (Or.inl ⟨by rfl, ?_⟩) ?_
            case refine_2 => (intro w hSw; obtain ⟨s1, s2⟩ := hSw; simp only [cellIs] at s1 s2; go_simp; try with_reducible rfl)
            simp only [Act.put, List.setIfInBounds_toArray, List.set_cons_zero, List.set_cons_succ]
            refine wpBut_take (i := 4) (v := ?_) rfl (by kernel_rfl) (by kernel_rfl) (by exact fun _ _ _ h => h) HS.out (Or.inl ⟨by rfl, ?_⟩) ?_
            case refine_2 => (intro w hSw; obtain ⟨s1, s2⟩ := hSw; simp only [cellIs] at s1 s2; go_simp; try with_reducible rfl)
            simp only [Act.put, List.setIfInBounds_toArray, List.set_cons_zero, List.set_cons_succ]
            refine wpBut_take (i := 5) (v := ?_) rfl (by kernel_rfl) (by kernel_rfl) (by exact fun _ _ _ h => h) HS.out (Or.inl ⟨by rfl, ?_⟩) ?_
            case refine_2 => (intro w hSw; obtain ⟨s1, s2⟩ := hSw; simp only [cellIs] at s1 s2; go_simp; try with_reducible rfl)
            simp only [Act.put, List.setIfInBounds_toArray, List.set_cons_zero, List.set_cons_succ]
            refine wpBut_take (i := 6) (v := ?_) rfl (by kernel_rfl) (by kernel_rfl) (by exact fun _ _ _ h => h) HS.out (Or.inl ⟨by rfl, ?_⟩) ?_
            case refine_2 => (intro w hSw; obtain ⟨s1, s2⟩ := hSw; simp only [cellIs] at s1 s2; go_simp; try with_reducible rfl)
            simp only [Act.put, List.setIfInBounds_toArray, List.set_cons_zero, List.set_cons_succ]
            refine wpBut_take (i := 7) (v := ?_) rfl (by kernel_rfl) (by kernel_rfl) (by exact fun _ _ _ h => h) HS.out (Or.inl ⟨by rfl, ?_⟩) ?_
            case refine_2 => (intro w hSw; obtain ⟨s1, s2⟩ := hSw; simp only [cellIs] at s1 s2; go_simp; try with_reducible rfl)
            simp only [Act.put, List.setIfInBounds_toArray, List.set_cons_zero, List.set_cons_succ]
            refine wpBut_take (i := 8) (v := ?_) rfl (by kernel_rfl) (by kernel_rfl) (by exact fun _ _ _ h => h) HS.out (Or.inl ⟨by rfl, ?_⟩) ?_
            case refine_2 => (intro w hSw; obtain ⟨s1, s2⟩ := hSw; simp only [cellIs] at s1 s2; go_simp; try with_reducible rfl)
            simp only [Act.put, List.setIfInBounds_toArray, List.set_cons_zero, List.set_cons_succ]
            refine wpBut_one (i := 9) rfl (by kernel_rfl) (fun K HK => ?_)
            go_simp
            refine HK.out _ _ (fun h => absurd rfl h) ?_
            clear HK K hg0 hgf z2 z3 HS
            refine wpBut_done (by kernel_rfl) ?_ _
            go_wp2_with fail
            go_meet
            case rel => exact ⟨N + 1 + 1, S7, some X, n1 - 1, cap6 - 1, R, M.set r y, by omega, rfl, by have := HN1.out; omega, by rw [List.length_set]; exact HM4.out, fun p hp => HL6.out p (List.mem_cons_of_mem _ hp), HO9.out⟩
        case rest =>
          obtain ⟨N7, S7, ao7, n7, cap7, L7, M7, hN7, rfl, hn7, hM7, hL7, hO⟩ := hcut
          rename World => wy
          have HO7 := Hid.in hO
          have HM7 := Hid.in hM7
          have HL7 := Hid.in hL7
          clear hO hM7 hL7 HO6 HL6 HM4
          obtain ⟨z1, hz1⟩ : ∃ z1, M7.getD a 0 = z1 := ⟨_, rfl⟩
          have HZ1 := Hid.in hz1
          have g0 := blk_cell HO7.out.gc (u4_get M7 a (by rw [HM7.out]; exact ha4))
          rw [hz1] at g0
          have i4 : (a : Int) < 4 := by omega
          have hN8 : N7 ≤ 100000 := by omega
          have HRD := Hid.in (tread_c wy q N7 S7 _ _ HO7.out.a.p hN8 1 a (by simp) (by rw [HM7.out]; exact ha4) z1 hz1)
          clear hz1
          go_wp2_with fail
          refine HRD.out.mono ?_
          rintro r w8 ⟨rfl, hb⟩
          have g1 : w8.cell? ⟨g, a, none⟩ = _ := (hb.cell (p := ⟨g, a, none⟩) (lt_cell g0)).trans g0
          have HO8 := Hid.in (HO7.out.step hb)
          clear hb g0 HO7 HRD
          go_wp2
          go_loopw [15, 116] (fun x y wr => ∃ (j : Nat), j ≤ n7 ∧ x = .int .u32 (rdL (L7.take j) M7 a) ∧ y = .int .i64 (j : Int) ∧ Ors w wr q S7 N7 g ao7 n7 cap7 L7 (os L7 M7) M7) (fun _ y _ => n7 - (intOf y).toNat)
          case atStart => exact ⟨0, Nat.zero_le _, by rw [List.take_zero, rdL_nil, HZ1.out], rfl, HO8.out⟩
          case round =>
            obtain ⟨j, hj, rfl, rfl, hO⟩ := hrel
            clear HO8 g1
            have HO9 := Hid.in hO
            clear hO
            rename World => wo
            by_cases hlt : j < n7
            · obtain ⟨b, o, x, y, rfl, x0, x1, x2, x3, x4, x5, hxy⟩ := HO9.out.wat j hlt
              have i5 : (j : Int) < (n7 : Int) := by omega
              have hxy' := rdL_take (M := M7) (a := a) hxy
              have HOA := Hid.in (HO9.out.step (below_alloc wo (.cells #[.int .i64 3, .int .i64 0, .int .i64 x, .int .u32 y, .int .u32 0, .bool false] 24)))
              clear hxy HO9
              by_cases hxa : x = (a : Int)
              · rw [if_pos hxa] at hxy'
                have HXY := Hid.in hxy'
                have e1 : (x == (a : Int)) = true := by simpa using hxa
                clear hxa hxy'
                go_wp2
                go_roundw
                case rel => exact ⟨j + 1, by omega, by rw [HXY.out], by go_num, HOA.out⟩
                case measure => simp [intOf]; omega
              · rw [if_neg hxa] at hxy'
                have HXY := Hid.in hxy'
                have e1 : (x == (a : Int)) = false := by simpa using hxa
                clear hxa hxy'
                go_wp2
                go_roundw
                case rel => exact ⟨j + 1, by omega, by rw [HXY.out], by go_num, HOA.out⟩
                case measure => simp [intOf]; omega
            · obtain rfl : j = n7 := by omega
              have hl7 : L7.length = j := by rw [← cms_len]; exact HO9.out.o.len
              have htk : rdL (L7.take j) M7 a = rdL L7 M7 a := by rw [List.take_of_length_le (by omega)]
              obtain ⟨z2, hz2⟩ : ∃ z2, rdL L7 M7 a = z2 := ⟨_, rfl⟩
              rw [htk, hz2]
              have HRD := Hid.in (tread_c wo q N7 S7 _ _ HO9.out.a.p hN8 0 a (by simp) (by rw [HM7.out]; exact ha4) z2 hz2)
              have HL77 := Hid.in hl7
              clear htk hz2 hl7
              go_wp2_with fail
              refine HRD.out.mono ?_
              rintro r w9 ⟨rfl, hb⟩
              have HOB := Hid.in (HO9.out.step hb)
              clear hb HO9 HRD
              have HWT := Hid.in (twait_c w9 q N7 S7 _ _ HOB.out.a.p 0 (by simp) j (by simp only [List.getD_cons_zero]; exact HL77.out))
              go_wp2_with fail
              refine HWT.out.mono ?_
              rintro r wc ⟨rfl, rfl⟩
              clear HWT
              go_wp2
              go_roundw
              case rel => exact ⟨i + 1, N7, S7, ao7, j, cap7, L7, M7, by omega, by omega, by omega, by omega, rfl, by go_num, by omega, HM7.out, HL7.out, HOB.out⟩
              case measure => simp [intOf]; omega
    · have fin : ∀ W, Below w.heap.size w W → Calls Tryd.prog 3 #[] W fun r w' => r = .returned (.bool true) ∧ Below w.heap.size w w' := fun W hW => (tsoRuns_any W sa (HE.out.below hW)).mono (fun r w' ⟨h1, h2⟩ => ⟨h1, bstep hW (Nat.le_refl _) h2⟩)
      have HF := Hid.in (fin _ HO.out.a.b)
      clear fin HO HM4 HLR
      by_cases h1 : i < na
      · have i1 : (i : Int) < (na : Int) := by omega
        by_cases h2 : i < nv
        · have i2 : (i : Int) < (nv : Int) := by omega
          obtain rfl : i = 30 := by omega
          go_wp2_with fail
          refine HF.out.mono ?_
          rintro r w3 ⟨rfl, hb⟩
          have HB3 := Hid.in hb
          clear hb
          go_wp2
          go_ret
          exact ⟨rfl, HB3.out⟩
        · have i2 : ¬ (i : Int) < (nv : Int) := by omega
          go_wp2_with fail
          refine HF.out.mono ?_
          rintro r w3 ⟨rfl, hb⟩
          have HB3 := Hid.in hb
          clear hb
          go_wp2
          go_ret
          exact ⟨rfl, HB3.out⟩
      · have i1 : ¬ (i : Int) < (na : Int) := by omega
        go_wp2_with fail
        refine HF.out.mono ?_
        rintro r w3 ⟨rfl, hb⟩
        have HB3 := Hid.in hb
        clear hb
        go_wp2
        go_ret
        exact ⟨rfl, HB3.out⟩
end Go.Proofs.YtncgjclehplfeaaDoor
