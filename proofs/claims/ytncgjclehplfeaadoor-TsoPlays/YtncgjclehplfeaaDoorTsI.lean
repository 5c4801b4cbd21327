/- DERIVED of the program: rows of events; Replay of the project's model by its contract. Own work. -/
import Derived.Test.YtncgjclehplfeaaDoorTsH
namespace Go.Proofs.YtncgjclehplfeaaDoor
open Go.RowKit Go.Extern.Stop Go.Stop Go.Extern

/-- An event's cells. -/
def Ev.cs (e : Ev) : List Value := [.int .i64 e.k, .int .i64 e.c, .int .i64 e.a, .int .u32 e.v, .int .u32 e.n, .bool e.d]
theorem Ev.cs_one (e : Ev) : ∀ v ∈ e.cs, v.oneCell' = true := by
  intro v hv
  simp only [Ev.cs, List.mem_cons, List.not_mem_nil, or_false] at hv
  rcases hv with rfl | rfl | rfl | rfl | rfl | rfl <;> rfl
/-- A row of events that is read. -/
abbrev RowE (w : World) (ao : Option Addr) (cap : Nat) (L : List Ev) : Prop := Rows' 6 w ao cap (L.map Ev.cs)
theorem Rows'.eat {w : World} {ao : Option Addr} {cap : Nat} {L : List Ev} (h : RowE w ao cap L) (j : Nat) (hj : j < L.length) : ∃ b o k c a v n d, ao = some ⟨b, o, none⟩ ∧ w.cell? ⟨b, o + j * 6, none⟩ = some (.int .i64 k) ∧ w.cell? ⟨b, o + j * 6 + 1, none⟩ = some (.int .i64 c) ∧ w.cell? ⟨b, o + j * 6 + 2, none⟩ = some (.int .i64 a) ∧ w.cell? ⟨b, o + j * 6 + 3, none⟩ = some (.int .u32 v) ∧ w.cell? ⟨b, o + j * 6 + 4, none⟩ = some (.int .u32 n) ∧ w.cell? ⟨b, o + j * 6 + 5, none⟩ = some (.bool d) ∧ L[j]? = some ⟨k, c, a, v, n, d⟩ := by
  have hj' : j < (L.map Ev.cs).length := by simpa using hj
  obtain ⟨b, o, e, h0⟩ := h.cell j hj' 0 (.int .i64 L[j].k) (by simp [Ev.cs])
  obtain ⟨b1, o1, e1, h1⟩ := h.cell j hj' 1 (.int .i64 L[j].c) (by simp [Ev.cs])
  obtain ⟨b2, o2, e2, h2⟩ := h.cell j hj' 2 (.int .i64 L[j].a) (by simp [Ev.cs])
  obtain ⟨b3, o3, e3, h3⟩ := h.cell j hj' 3 (.int .u32 L[j].v) (by simp [Ev.cs])
  obtain ⟨b4, o4, e4, h4⟩ := h.cell j hj' 4 (.int .u32 L[j].n) (by simp [Ev.cs])
  obtain ⟨b5, o5, e5, h5⟩ := h.cell j hj' 5 (.bool L[j].d) (by simp [Ev.cs])
  rw [e] at e1 e2 e3 e4 e5
  cases e1; cases e2; cases e3; cases e4; cases e5
  exact ⟨b, o, _, _, _, _, _, _, e, by simpa using h0, h1, h2, h3, h4, h5, List.getElem?_eq_getElem hj⟩

/-- The model's state, as lists. -/
abbrev TS : Type := List (List (Int × Int)) × List Int
def stepS (s : TS) (e : Ev) : TS := (stA s.1 s.2 e, stM s.1 s.2 e)
def runS (s : TS) (L : List Ev) : TS := L.foldl stepS s
/-- The first event that is refused: which, why, whose. -/
def badS : TS → List Ev → Nat → Option (Nat × Nat × Int)
  | _, [], _ => none
  | s, e :: r, i => if refP s.1 s.2 e = 0 then badS (stepS s e) r (i + 1) else some (i, refP s.1 s.2 e, e.c)
theorem stepS_len1 (s : TS) (e : Ev) : (stepS s e).1.length = s.1.length := stA_len _ _ _
theorem stepS_len2 (s : TS) (e : Ev) : (stepS s e).2.length = s.2.length := stM_len _ _ _
theorem runS_len (L : List Ev) : ∀ s : TS, (runS s L).1.length = s.1.length ∧ (runS s L).2.length = s.2.length := by
  induction L with
  | nil => intro s; exact ⟨rfl, rfl⟩
  | cons e r ih => intro s; obtain ⟨h1, h2⟩ := ih (stepS s e); exact ⟨h1.trans (stepS_len1 s e), h2.trans (stepS_len2 s e)⟩
theorem badS_yes {s : TS} {e : Ev} {r : List Ev} {i : Nat} (h : refP s.1 s.2 e = 0) : badS s (e :: r) i = badS (stepS s e) r (i + 1) := if_pos h
theorem badS_no {s : TS} {e : Ev} {r : List Ev} {i : Nat} (h : refP s.1 s.2 e ≠ 0) : badS s (e :: r) i = some (i, refP s.1 s.2 e, e.c) := if_neg h
abbrev ts0 (nA nM : Nat) : TS := (List.replicate nA [], List.replicate nM 0)

abbrev opTRep : ByteArray := ⟨#[116, 115, 111, 46, 82, 101, 112, 108, 97, 121]⟩
/-- Replay's answer. -/
def repV (sa : Nat → Addr) (nM : Nat) (B : Nat) (res : Option (Nat × Nat × Int)) (MF : List Int) (r : Ending) (w' : World) : Prop :=
  match res with
  | none => ∃ ao cap, r = .returned (.tuple #[.slice ao nM cap, .nilIface]) ∧ OwnA 22 1 w' B ao nM cap (MF.map uc)
  | some (i, c, co) => r = .returned (.tuple #[.slice none 0 0, flt opTRep i (chn [(opTStep, co)] (snt (sa c)))])

theorem treplay_no (w : World) (sa : Nat → Addr) (hE : Env10 w sa) (c n i : Int) (h : tnewC c n = (1, i)) (v : Value) :
    Calls Tryd.prog 10 #[.int .i64 c, .int .i64 n, v] w fun r w' => r = .returned (.tuple #[.slice none 0 0, perr sa 1 opTNew i]) ∧ w' = w := by
  have HN := Hid.in (tnew_no w sa hE c n i h)
  clear hE h
  rw [perr_some sa 1 opTNew i (by decide)] at HN ⊢
  go_enter Tryd.func10, Tryd.ntmps10
  go_wp2_with fail
  refine HN.out.mono ?_
  rintro r w' ⟨rfl, rfl⟩
  go_wp2
  go_ret2
  exact ⟨rfl, rfl⟩

set_option maxHeartbeats 3200000 in
set_option maxRecDepth 20000 in
theorem treplay_c (w : World) (sa : Nat → Addr) (hE : Env10 w sa) (nA nM : Nat) (h1 : 1 ≤ nA) (h2 : nA ≤ 64) (h3 : 1 ≤ nM) (h4 : nM ≤ 128) (al : Option Addr) (n cap : Nat) (L : List Ev) (hn : L.length = n) (hn6 : n ≤ 10000) (hR : RowE w al cap L)
    (res : Option (Nat × Nat × Int)) (hres : badS (ts0 nA nM) L 0 = res) (MF : List Int) (hMF : (runS (ts0 nA nM) L).2 = MF) :
    Calls Tryd.prog 10 #[.int .i64 (nA : Int), .int .i64 (nM : Int), .slice al n cap] w fun r w' => repV sa nM w.heap.size res MF r w' ∧ Below w.heap.size w w' := by
  have HE := Hid.in hE
  have HL := Hid.in hn
  have HR := Hid.in hR
  have HRES := Hid.in hres
  have HMF := Hid.in hMF
  clear hE hn hR hres hMF
  go_enter Tryd.func10, Tryd.ntmps10
  go_wp2_with fail
  refine (tnew_c w nA nM h1 h2 h3 h4).mono ?_
  rintro r w1 ⟨q, S0, rfl, hP, hb, hs⟩
  have HP := Hid.in hP
  have HB := Hid.in hb
  have HS := Hid.in hs
  clear hP hb hs
  go_wp2
  go_loopw [24] (fun c wr => ∃ (j : Nat) (s : TS) (S : List Nat), j ≤ n ∧ c = .int .i64 (j : Int) ∧ PM wr q S j s.1 s.2 ∧ Below w.heap.size w wr ∧ (∀ k ∈ S, w.heap.size ≤ k) ∧ badS s (L.drop j) j = res ∧ (runS s (L.drop j)).2 = MF ∧ s.2.length = nM) (fun c _ => n - (intOf c).toNat)
  case atStart => exact ⟨0, ts0 nA nM, S0, Nat.zero_le _, rfl, HP.out, HB.out, HS.out, HRES.out, HMF.out, by simp⟩
  case round =>
    obtain ⟨j, s, S, hj, rfl, hP, hB, hS, hres, hmf, hnM⟩ := hrel
    clear HP HB HS HRES HMF
    have HP := Hid.in hP
    have HB := Hid.in hB
    have HS := Hid.in hS
    have HRES := Hid.in hres
    have HMF := Hid.in hmf
    have HNM := Hid.in hnM
    clear hP hB hS hres hmf hnM
    rename World => wo
    by_cases hlt : j < n
    · obtain ⟨b, o, k, c, a, v, z, d, rfl, x0, x1, x2, x3, x4, x5, hxx⟩ := HR.out.eat j (by rw [HL.out]; exact hlt)
      have HX := Hid.in (show L.drop j = ⟨k, c, a, v, z, d⟩ :: L.drop (j + 1) by
        obtain ⟨hh, he⟩ := List.getElem?_eq_some_iff.1 hxx
        rw [← he, List.drop_eq_getElem_cons hh])
      have y0 := (HB.out.cell (p := ⟨b, o + j * 6, none⟩) (lt_cell x0)).trans x0
      have y1 := (HB.out.cell (p := ⟨b, o + j * 6 + 1, none⟩) (lt_cell x1)).trans x1
      have y2 := (HB.out.cell (p := ⟨b, o + j * 6 + 2, none⟩) (lt_cell x2)).trans x2
      have y3 := (HB.out.cell (p := ⟨b, o + j * 6 + 3, none⟩) (lt_cell x3)).trans x3
      have y4 := (HB.out.cell (p := ⟨b, o + j * 6 + 4, none⟩) (lt_cell x4)).trans x4
      have y5 := (HB.out.cell (p := ⟨b, o + j * 6 + 5, none⟩) (lt_cell x5)).trans x5
      have i1 : (j : Int) < (n : Int) := by omega
      clear x0 x1 x2 x3 x4 x5 hxx
      obtain ⟨r0, hr0⟩ : ∃ r0, refP s.1 s.2 ⟨k, c, a, v, z, d⟩ = r0 := ⟨_, rfl⟩
      have HH := Hid.in hr0
      clear hr0
      go_wp2_with fail
      have hbx := below_alloc wo (.cells #[.int .i64 k, .int .i64 c, .int .i64 a, .int .u32 v, .int .u32 z, .bool d] 24)
      refine (tstep_c _ sa ((HE.out.below HB.out).below hbx) q j S s.1 s.2 (HP.out.step hbx) (by omega) k c a v z d r0 HH.out).mono ?_
      rintro r w2 ⟨rfl, S', hT⟩
      have hT2 := hT.after hbx
      by_cases h0 : r0 = 0
      · subst h0
        have hSS : ∀ k ∈ S', w.heap.size ≤ k := fun k hk => by
          rcases hT2.s k hk with h | h
          · exact HS.out k h
          · exact Nat.le_trans HB.out.size h
        have HN : Hid (∃ s' : TS, PM w2 q S' (j + 1) s'.1 s'.2 ∧ Below w.heap.size w w2 ∧ (∀ k ∈ S', w.heap.size ≤ k) ∧ badS s' (L.drop (j + 1)) (j + 1) = res ∧ (runS s' (L.drop (j + 1))).2 = MF ∧ s'.2.length = nM) :=
          Hid.in ⟨stepS s ⟨k, c, a, v, z, d⟩, hT2.p, hT2.f.below HB.out HS.out HB.out.size, hSS, by
            have := HRES.out; rw [HX.out, badS_yes HH.out] at this; exact this, by
            have := HMF.out; rw [HX.out] at this; exact this, by rw [stepS_len2]; exact HNM.out⟩
        clear hT hT2 hSS hbx y0 y1 y2 y3 y4 y5
        rw [perr_none]
        go_wp2
        go_roundw
        case rel =>
          obtain ⟨s', e1, e2, e3, e4, e5, e6⟩ := HN.out
          exact ⟨j + 1, s', S', by omega, by go_num, e1, e2, e3, e4, e5, e6⟩
        case measure => simp [intOf]; omega
      · have HZ := Hid.in h0
        have HB2 : Hid (Below w.heap.size w w2) := Hid.in (hT2.f.below HB.out HS.out HB.out.size)
        rw [perr_some sa r0 opTStep c h0]
        clear hT hT2 hbx y0 y1 y2 y3 y4 y5 h0
        go_wp2_with fail
        refine (wrap_some _ (j : Int) _ _ _).mono ?_
        rintro r w3 ⟨rfl, rfl⟩
        go_wp2
        go_ret2
        refine ⟨?_, HB2.out⟩
        have := HRES.out
        rw [HX.out, badS_no (by rw [HH.out]; exact HZ.out), HH.out] at this
        subst this
        exact rfl
    · obtain rfl : j = n := by omega
      have hd : L.drop j = [] := List.drop_eq_nil_of_le (by rw [HL.out]; exact Nat.le_refl _)
      have HD := Hid.in hd
      clear hd
      go_wp2_with fail
      refine (tmem_c wo q j S s.1 s.2 HP.out).mono ?_
      rintro r w2 ⟨ao, cap', rfl, hO, hb⟩
      have HO := Hid.in hO
      have HB2 := Hid.in (bstep HB.out (Nat.le_refl _) hb)
      clear hO hb
      go_wp2
      go_ret2
      refine ⟨?_, HB2.out⟩
      have hr := HRES.out
      have hm := HMF.out
      rw [HD.out] at hr hm
      subst hr
      refine ⟨ao, cap', by have h := HNM.out; subst h; rfl, ?_⟩
      have h := HO.out.low HB.out.size
      rw [HNM.out] at h
      rw [show s.2 = MF from hm] at h
      exact h
end Go.Proofs.YtncgjclehplfeaaDoor
