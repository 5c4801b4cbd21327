/- DERIVED of the program: a reader in memory; pack.Read, (*Reader).stop, In, Num, End, Wrong, At. Own work. -/
import Derived.Test.YtgepfbaojogccaaDoorPkC
namespace Go.Proofs.YtgepfbaojogccaaDoor
open Go.RowKit Go.Extern.Stop Go.Stop Go.Extern

theorem grown_set (w : World) (q i : Nat) (v : Value) : w.grownBy (w.setCell ⟨q, i, none⟩ v) (some q) :=
  ⟨rfl, rfl, rfl, by simp [World.setCell], fun k _ hk => Below.heap_setCell w _ v k (fun e => hk (by rw [e]))⟩

/-- A reader in block q: its bytes, its place, its error's code. -/
structure Rd (w : World) (sa : Nat → Addr) (ra rz q : Nat) (bs : List Nat) (at_ c : Nat) : Prop where
  blk : ∃ ao cap, w.heap[q]? = some (.cells #[.slice ao bs.length cap, .int .i64 at_, rerr sa c at_] 73 (0, 0)) ∧ Lie w ao cap bs ∧ ∀ b, oblk ao = some b → ra ≤ b ∧ b < rz ∧ b ≠ q
  rng : ra ≤ q ∧ q < rz
  le : at_ ≤ bs.length
  byte : ∀ x ∈ bs, x < 256
  len : bs.length ≤ 140737488355328
  code : c = 0 ∨ 3 ≤ c ∧ c ≤ 5

theorem Rd.lt {w : World} {sa : Nat → Addr} {ra rz q : Nat} {bs : List Nat} {at_ c : Nat} (h : Rd w sa ra rz q bs at_ c) : q < w.heap.size := by
  obtain ⟨_, _, h, _⟩ := h.blk
  exact blk_lt h

theorem Rd.kept {w w' : World} {sa : Nat → Addr} {ra rz q : Nat} {bs : List Nat} {at_ c : Nat} {row : Option Nat} (h : Rd w sa ra rz q bs at_ c) (hg : w.grownBy w' row) (hr : ∀ k, row = some k → ¬ (ra ≤ k ∧ k < rz)) : Rd w' sa ra rz q bs at_ c := by
  obtain ⟨ao, cap, h1, h2, h3⟩ := h.blk
  refine ⟨⟨ao, cap, (hg.block q (blk_lt h1) (fun e => hr q e.symm h.rng)).trans h1, h2.kept hg ?_, h3⟩, h.rng, h.le, h.byte, h.len, h.code⟩
  cases ho : oblk ao with
  | none => exact .inl rfl
  | some b => exact .inr (fun e => hr b e.symm ⟨(h3 b ho).1, (h3 b ho).2.1⟩)

theorem Rd.step {w w' : World} {sa : Nat → Addr} {ra rz q : Nat} {bs : List Nat} {at_ c : Nat} (h : Rd w sa ra rz q bs at_ c) (hb : Below w.heap.size w w') : Rd w' sa ra rz q bs at_ c :=
  h.kept (grown_of_below hb none) (fun k hk => by cases hk)

theorem Rd.wide {w : World} {sa : Nat → Addr} {ra rz ra' rz' q : Nat} {bs : List Nat} {at_ c : Nat} (h : Rd w sa ra rz q bs at_ c) (h1 : ra' ≤ ra) (h2 : rz ≤ rz') : Rd w sa ra' rz' q bs at_ c := by
  obtain ⟨ao, cap, b1, b2, b3⟩ := h.blk
  have hr := h.rng
  exact ⟨⟨ao, cap, b1, b2, fun b e => by have := b3 b e; omega⟩, by omega, h.le, h.byte, h.len, h.code⟩

theorem read_any (ao : Option Addr) (cap : Nat) (bs : List Nat) (w : World) (sa : Nat → Addr) (hL : Lie w ao cap bs) (hby : ∀ x ∈ bs, x < 256) (hlen : bs.length ≤ 140737488355328) :
    Calls Tryd.prog 26 #[.slice ao bs.length cap] w fun r w' => ∃ q, r = .returned (.pointer (some ⟨q, 0, none⟩)) ∧ Rd w' sa w.heap.size w'.heap.size q bs 0 0 ∧ Below w.heap.size w w' := by
  have HL := Hid.in hL
  have HBY := Hid.in hby
  clear hL hby
  go_enter Tryd.func26, Tryd.ntmps26
  go_wp2_with (at_builtin; refine wpList_concat rfl (.const (.slice none 0 0)) (.tmp 3) rfl w.heap.size w none _ 0 0 _ _ [] bs rfl (Own.nil _ _) rfl rfl HL.out (Below.refl _ _) (Nat.le_refl _) (by omega) ?_; intro ao' c' w2 HO2 HB2)
  go_ret
  have h := HO2.out
  have hs := HB2.out.size
  simp only [Nat.zero_add, List.nil_append] at h ⊢
  refine ⟨w2.heap.size, rfl, ⟨⟨ao', c', heap_alloc_new _ _, h.lie.step ((Below.refl _ _).alloc (Nat.le_refl _) _), ?_⟩, ⟨hs, by simp⟩, Nat.zero_le _, HBY.out, hlen, .inl rfl⟩, HB2.out.alloc hs _⟩
  intro b e
  have h1 := h.blk _ e
  exact ⟨h1.1, by simp; omega, by omega⟩

theorem stop_any (w : World) (sa : Nat → Addr) (ra rz q at_ : Nat) (bs : List Nat) (hR : Rd w sa ra rz q bs at_ 0) (c : Nat) (h3 : 3 ≤ c) (h5 : c ≤ 5) :
    Calls Tryd.prog 43 #[.pointer (some ⟨q, 0, none⟩), snt (sa c)] w fun r w' => r = .returned (.tuple #[]) ∧ Rd w' sa ra rz q bs at_ c ∧ w.grownBy w' (some q) := by
  obtain ⟨ao, cap, hq, hL, hne⟩ := hR.blk
  have k1 : w.cell? ⟨q, 1, none⟩ = some (.int .i64 at_) := blk_cell hq rfl
  have k2 : w.cell? ⟨q, 2, none⟩ = some .nilIface := blk_cell hq rfl
  have f2 : w.frozen? ⟨q, 2, none⟩ = false := blk_free hq
  have HR := Hid.in hR
  have HQ := Hid.in hq
  have HL := Hid.in hL
  have HN := Hid.in hne
  clear hR hq hL hne
  go_enter Tryd.func43, Tryd.ntmps43
  go_wp2_with fail
  refine (wrap_some _ _ _ _ _).mono ?_
  rintro r w' ⟨rfl, rfl⟩
  go_wp2
  go_end0
  refine ⟨rfl, ?_, grown_set _ _ _ _⟩
  refine ⟨⟨ao, cap, ?_, HL.out.kept (grown_set _ _ _ _) (.inr (fun e => (HN.out q e).2.2 rfl)), HN.out⟩, HR.out.rng, HR.out.le, HR.out.byte, HR.out.len, .inr ⟨h3, h5⟩⟩
  have h := blk_set (i := 2) (flt opP at_ (snt (sa c))) HQ.out
  have hr : rerr sa c at_ = flt opP at_ (snt (sa c)) := by unfold rerr; rw [if_neg (by omega)]
  rw [hr]
  exact h

/-- What In answers: the code behind it, the number, the place behind it. -/
def inS (bs : List Nat) (lo hi : Int) (at_ c : Nat) : Nat × Int × Nat :=
  if c ≠ 0 then (c, 0, at_) else
  if (dec 0 0 (bs.drop at_)).1 ≠ 0 then ((dec 0 0 (bs.drop at_)).1, 0, at_) else
  if uz (dec 0 0 (bs.drop at_)).2.1 < lo ∨ hi < uz (dec 0 0 (bs.drop at_)).2.1 then (4, 0, at_) else (0, uz (dec 0 0 (bs.drop at_)).2.1, at_ + (dec 0 0 (bs.drop at_)).2.2)

theorem inS_wrong {bs : List Nat} {lo hi : Int} {at_ c : Nat} (h : c ≠ 0) : inS bs lo hi at_ c = (c, 0, at_) := by unfold inS; rw [if_pos h]
theorem inS_bad {bs : List Nat} {lo hi : Int} {at_ d u s : Nat} (h : dec 0 0 (bs.drop at_) = (d, u, s)) (hd : d ≠ 0) : inS bs lo hi at_ 0 = (d, 0, at_) := by
  unfold inS; rw [if_neg (by simp), if_pos (by rw [h]; exact hd), h]
theorem inS_out {bs : List Nat} {lo hi : Int} {at_ u s : Nat} (h : dec 0 0 (bs.drop at_) = (0, u, s)) (ho : uz u < lo ∨ hi < uz u) : inS bs lo hi at_ 0 = (4, 0, at_) := by
  unfold inS; rw [if_neg (by simp), if_neg (by rw [h]; simp), if_pos (by rw [h]; exact ho)]
theorem inS_ok {bs : List Nat} {lo hi : Int} {at_ u s : Nat} (h : dec 0 0 (bs.drop at_) = (0, u, s)) (ho : ¬ (uz u < lo ∨ hi < uz u)) : inS bs lo hi at_ 0 = (0, uz u, at_ + s) := by
  unfold inS; rw [if_neg (by simp), if_neg (by rw [h]; simp), if_neg (by rw [h]; exact ho), h]

theorem first_at (ao : Option Addr) (n cap : Nat) (bs : List Nat) (w : World) (sa : Nat → Addr) (hE : Env10 w sa) (hn : n = bs.length) (hL : 0 < bs.length → Lie w ao cap bs) (hby : ∀ x ∈ bs, x < 256) (hlen : bs.length ≤ 140737488355328) :
    Calls Tryd.prog 42 #[.slice ao n cap] w fun r w' => r = .returned (.tuple #[.int .i64 (uz (dec 0 0 bs).2.1), .int .i64 (dec 0 0 bs).2.2, serr sa (dec 0 0 bs).1]) ∧ Below w.heap.size w w' := by
  subst hn
  cases hbs : bs with
  | nil => exact first_none ao cap w sa hE
  | cons x r => rw [← hbs]; exact first_any ao cap bs w sa hE (hL (by simp [hbs])) hby hlen

theorem Lie.drop {w : World} {ao : Option Addr} {cap at_ : Nat} {bs : List Nat} (h : Lie w ao cap bs) (ha : at_ ≤ bs.length) (h0 : 0 < (bs.drop at_).length) : Lie w (if cap = at_ then ao else ao.map (fun x => x.add at_)) (cap - at_) (bs.drop at_) := by
  rw [List.length_drop] at h0
  have hc := h.1
  rw [if_neg (by omega)]
  obtain ⟨b, o, rfl, _⟩ := h.2.2 0 (by omega)
  refine ⟨by rw [List.length_drop]; omega, (by simp), fun k hk => ⟨b, o + at_, by simp [Addr.add_lit], ?_⟩⟩
  rw [List.length_drop] at hk
  obtain ⟨b', o', e, hc⟩ := h.2.2 (at_ + k) (by omega)
  cases e
  rw [Nat.add_assoc, hc]
  simp

theorem first_in (w : World) (sa : Nat → Addr) (hE : Env10 w sa) (ra rz q at_ : Nat) (bs : List Nat) (ao : Option Addr) (cap : Nat) (hL : Lie w ao cap bs) (hR : Rd w sa ra rz q bs at_ 0) :
    Calls Tryd.prog 42 #[.slice (if cap = at_ then ao else ao.map (fun x => x.add at_)) (bs.length - at_) (cap - at_)] w.drew fun r w' => r = .returned (.tuple #[.int .i64 (uz (dec 0 0 (bs.drop at_)).2.1), .int .i64 (dec 0 0 (bs.drop at_)).2.2, serr sa (dec 0 0 (bs.drop at_)).1]) ∧ Below w.heap.size w w' := by
  have hb : Below w.heap.size w w.drew := (Below.refl _ _).drew
  refine (first_at _ _ _ (bs.drop at_) w.drew sa (hE.below hb) (by simp) (fun h0 => (hL.step hb).drop hR.le h0) (fun x hx => hR.byte x (List.mem_of_mem_drop hx)) (by have := hR.len; simp; omega)).mono ?_
  rintro r w' ⟨h1, h2⟩
  exact ⟨h1, hb.trans h2⟩

theorem in_wrong (w : World) (sa : Nat → Addr) (ra rz q at_ c : Nat) (bs : List Nat) (hR : Rd w sa ra rz q bs at_ c) (hc : c ≠ 0) (lo hi : Int) :
    Calls Tryd.prog 28 #[.pointer (some ⟨q, 0, none⟩), .int .i64 lo, .int .i64 hi] w fun r w' => r = .returned (.int .i64 0) ∧ w' = w := by
  obtain ⟨ao, cap, hq, hL, hne⟩ := hR.blk
  have k2 : w.cell? ⟨q, 2, none⟩ = some (flt opP at_ (snt (sa c))) := by
    have h : w.cell? ⟨q, 2, none⟩ = some (rerr sa c at_) := blk_cell hq rfl
    rw [h]; unfold rerr; rw [if_neg hc]
  clear hR hq hL hne
  go_enter Tryd.func28, Tryd.ntmps28
  go_wp2
  go_ret
  exact ⟨rfl, rfl⟩

set_option maxHeartbeats 1600000 in
set_option maxRecDepth 20000 in
theorem in_bad (w : World) (sa : Nat → Addr) (hE : Env10 w sa) (ra rz q at_ : Nat) (bs : List Nat) (hR : Rd w sa ra rz q bs at_ 0) (lo hi : Int) (d u s : Nat) (hd : dec 0 0 (bs.drop at_) = (d, u, s)) (h3 : 3 ≤ d) (h4 : d ≤ 4) :
    Calls Tryd.prog 28 #[.pointer (some ⟨q, 0, none⟩), .int .i64 lo, .int .i64 hi] w fun r w' => r = .returned (.int .i64 0) ∧ Rd w' sa ra rz q bs at_ d ∧ w.grownBy w' (some q) := by
  obtain ⟨ao, cap, hq, hL, hne⟩ := hR.blk
  have k0 : w.cell? ⟨q, 0, none⟩ = some (.slice ao bs.length cap) := blk_cell hq rfl
  have k1 : w.cell? ⟨q, 1, none⟩ = some (.int .i64 at_) := blk_cell hq rfl
  have k2 : w.cell? ⟨q, 2, none⟩ = some .nilIface := blk_cell hq rfl
  have hF := first_in w sa hE ra rz q at_ bs ao cap hL hR
  obtain ⟨A, hA⟩ : ∃ A, (if cap = at_ then ao else Option.map (fun x => x.add at_) ao) = A := ⟨_, rfl⟩
  rw [hd, hA] at hF
  have HF := Hid.in hF
  clear hF
  have HR := Hid.in hR
  have HE := Hid.in hE
  have HQ := Hid.in hq
  have HL := Hid.in hL
  have HNE := Hid.in hne
  have hle := hR.le
  have hln := hR.len
  have hlc := hL.1
  have HS : Hid (serr sa d = snt (sa d)) := Hid.in (by unfold serr; rw [if_neg (by omega)])
  simp only [HS.out] at HF
  clear hR hq hL hne hE hd
  have hb0 : Below w.heap.size w w.drew := (Below.refl _ _).drew
  have hbd : ∀ W, Below w.heap.size w W → Below w.heap.size w W.drew := fun W h => h.drew
  go_enter Tryd.func28, Tryd.ntmps28
  go_upto_region 3 with fail
  go_region_held3 (fun W => W.cell? ⟨q, 0, none⟩ = some (.slice ao bs.length cap) ∧ W.cell? ⟨q, 1, none⟩ = some (.int .i64 at_) ∧ Below w.heap.size w W) (first | go_keep | (simp [*]; done)) (first | (go_at_call 42; refine HF.out.mono ?_; rintro r w1 ⟨rfl, hb1⟩; have k0' : w1.cell? ⟨q, 0, none⟩ = some (.slice ao bs.length cap) := (hb1.cell (p := ⟨q, 0, none⟩) HR.out.lt).trans k0; have k1' : w1.cell? ⟨q, 1, none⟩ = some (.int .i64 at_) := (hb1.cell (p := ⟨q, 1, none⟩) HR.out.lt).trans k1))
  have HB1 := Hid.in hb1
  clear hb1 hb0 hbd k0 k1 k2 k0' k1'
  go_wp2_with fail
  refine (stop_any w1 sa ra rz q at_ bs (HR.out.step HB1.out) d h3 (by omega)).mono ?_
  rintro r w2 ⟨rfl, hR2, hg2⟩
  go_wp2
  go_ret
  exact ⟨rfl, hR2, grown_trans (grown_of_below HB1.out _) hg2⟩

set_option maxHeartbeats 1600000 in
set_option maxRecDepth 20000 in
theorem in_out (w : World) (sa : Nat → Addr) (hE : Env10 w sa) (ra rz q at_ : Nat) (bs : List Nat) (hR : Rd w sa ra rz q bs at_ 0) (lo hi : Int) (u s : Nat) (hd : dec 0 0 (bs.drop at_) = (0, u, s)) (ho : uz u < lo ∨ hi < uz u) :
    Calls Tryd.prog 28 #[.pointer (some ⟨q, 0, none⟩), .int .i64 lo, .int .i64 hi] w fun r w' => r = .returned (.int .i64 0) ∧ Rd w' sa ra rz q bs at_ 4 ∧ w.grownBy w' (some q) := by
  have HO := Hid.in ho
  clear ho
  obtain ⟨ao, cap, hq, hL, hne⟩ := hR.blk
  have k0 : w.cell? ⟨q, 0, none⟩ = some (.slice ao bs.length cap) := blk_cell hq rfl
  have k1 : w.cell? ⟨q, 1, none⟩ = some (.int .i64 at_) := blk_cell hq rfl
  have k2 : w.cell? ⟨q, 2, none⟩ = some .nilIface := blk_cell hq rfl
  have hF := first_in w sa hE ra rz q at_ bs ao cap hL hR
  obtain ⟨A, hA⟩ : ∃ A, (if cap = at_ then ao else Option.map (fun x => x.add at_) ao) = A := ⟨_, rfl⟩
  rw [hd, hA] at hF
  have HF := Hid.in hF
  clear hF
  have HR := Hid.in hR
  have HE := Hid.in hE
  have HQ := Hid.in hq
  have HL := Hid.in hL
  have HNE := Hid.in hne
  have hle := hR.le
  have hln := hR.len
  have hlc := hL.1
  have HS : Hid (serr sa 0 = .nilIface) := Hid.in (by unfold serr; rw [if_pos rfl])
  simp only [HS.out] at HF
  clear hR hq hL hne hE hd
  have hb0 : Below w.heap.size w w.drew := (Below.refl _ _).drew
  have hbd : ∀ W, Below w.heap.size w W → Below w.heap.size w W.drew := fun W h => h.drew
  go_enter Tryd.func28, Tryd.ntmps28
  go_upto_region 3 with fail
  go_region_held3 (fun W => W.cell? ⟨q, 0, none⟩ = some (.slice ao bs.length cap) ∧ W.cell? ⟨q, 1, none⟩ = some (.int .i64 at_) ∧ Below w.heap.size w W) (first | go_keep | (simp [*]; done)) (first | (go_at_call 42; refine HF.out.mono ?_; rintro r w1 ⟨rfl, hb1⟩; have k0' : w1.cell? ⟨q, 0, none⟩ = some (.slice ao bs.length cap) := (hb1.cell (p := ⟨q, 0, none⟩) HR.out.lt).trans k0; have k1' : w1.cell? ⟨q, 1, none⟩ = some (.int .i64 at_) := (hb1.cell (p := ⟨q, 1, none⟩) HR.out.lt).trans k1))
  have HB1 := Hid.in hb1
  clear hb1 hb0 hbd k0 k1 k2 k0' k1'
  have g4 := (HE.out.below HB1.out).g 4 (by omega) (by omega)
  simp only [gix] at g4
  by_cases h1 : uz u < lo
  · go_wp2_with fail
    refine (stop_any w1 sa ra rz q at_ bs (HR.out.step HB1.out) 4 (by omega) (by omega)).mono ?_
    rintro r w2 ⟨rfl, hR2, hg2⟩
    have HR2 := Hid.in hR2
    have HG2 := Hid.in hg2
    clear hR2 hg2
    go_wp2
    go_ret
    exact ⟨rfl, HR2.out, grown_trans (grown_of_below HB1.out _) HG2.out⟩
  · have h2 : hi < uz u := by have := HO.out; omega
    go_wp2_with fail
    refine (stop_any w1 sa ra rz q at_ bs (HR.out.step HB1.out) 4 (by omega) (by omega)).mono ?_
    rintro r w2 ⟨rfl, hR2, hg2⟩
    have HR2 := Hid.in hR2
    have HG2 := Hid.in hg2
    clear hR2 hg2
    go_wp2
    go_ret
    exact ⟨rfl, HR2.out, grown_trans (grown_of_below HB1.out _) HG2.out⟩

set_option maxHeartbeats 1600000 in
set_option maxRecDepth 20000 in
theorem in_ok (w : World) (sa : Nat → Addr) (hE : Env10 w sa) (ra rz q at_ : Nat) (bs : List Nat) (hR : Rd w sa ra rz q bs at_ 0) (lo hi : Int) (u s : Nat) (hd : dec 0 0 (bs.drop at_) = (0, u, s)) (hs : at_ + s ≤ bs.length) (ho : ¬ (uz u < lo ∨ hi < uz u)) :
    Calls Tryd.prog 28 #[.pointer (some ⟨q, 0, none⟩), .int .i64 lo, .int .i64 hi] w fun r w' => r = .returned (.int .i64 (uz u)) ∧ Rd w' sa ra rz q bs (at_ + s) 0 ∧ w.grownBy w' (some q) := by
  obtain ⟨ao, cap, hq, hL, hne⟩ := hR.blk
  have k0 : w.cell? ⟨q, 0, none⟩ = some (.slice ao bs.length cap) := blk_cell hq rfl
  have k1 : w.cell? ⟨q, 1, none⟩ = some (.int .i64 at_) := blk_cell hq rfl
  have k2 : w.cell? ⟨q, 2, none⟩ = some .nilIface := blk_cell hq rfl
  have hF := first_in w sa hE ra rz q at_ bs ao cap hL hR
  obtain ⟨A, hA⟩ : ∃ A, (if cap = at_ then ao else Option.map (fun x => x.add at_) ao) = A := ⟨_, rfl⟩
  rw [hd, hA] at hF
  have HF := Hid.in hF
  clear hF
  have HR := Hid.in hR
  have HE := Hid.in hE
  have HQ := Hid.in hq
  have HL := Hid.in hL
  have HNE := Hid.in hne
  have hle := hR.le
  have hln := hR.len
  have hlc := hL.1
  have HS : Hid (serr sa 0 = .nilIface) := Hid.in (by unfold serr; rw [if_pos rfl])
  simp only [HS.out] at HF
  clear hR hq hL hne hE hd
  have hb0 : Below w.heap.size w w.drew := (Below.refl _ _).drew
  have hbd : ∀ W, Below w.heap.size w W → Below w.heap.size w W.drew := fun W h => h.drew
  go_enter Tryd.func28, Tryd.ntmps28
  go_upto_region 3 with fail
  go_region_held3 (fun W => W.cell? ⟨q, 0, none⟩ = some (.slice ao bs.length cap) ∧ W.cell? ⟨q, 1, none⟩ = some (.int .i64 at_) ∧ Below w.heap.size w W) (first | go_keep | (simp [*]; done)) (first | (go_at_call 42; refine HF.out.mono ?_; rintro r w1 ⟨rfl, hb1⟩; have k0' : w1.cell? ⟨q, 0, none⟩ = some (.slice ao bs.length cap) := (hb1.cell (p := ⟨q, 0, none⟩) HR.out.lt).trans k0; have k1' : w1.cell? ⟨q, 1, none⟩ = some (.int .i64 at_) := (hb1.cell (p := ⟨q, 1, none⟩) HR.out.lt).trans k1))
  have HB1 := Hid.in hb1
  clear hb1 hb0 hbd k0 k1 k2 k0' k1'
  have HQ1 : Hid (w1.heap[q]? = some (.cells #[.slice ao bs.length cap, .int .i64 at_, rerr sa 0 at_] 73 (0, 0))) := Hid.in ((HB1.out.block q HR.out.lt).trans HQ.out)
  have k1 : w1.cell? ⟨q, 1, none⟩ = some (.int .i64 at_) := blk_cell HQ1.out rfl
  have f1 : w1.frozen? ⟨q, 1, none⟩ = false := blk_free HQ1.out
  have h1 : ¬ uz u < lo := fun h => ho (.inl h)
  have h2 : ¬ hi < uz u := fun h => ho (.inr h)
  clear ho
  go_wp2
  go_ret
  have HG : Hid (w1.grownBy (w1.setCell ⟨q, 1, none⟩ (.int .i64 ((at_ : Int) + s))) (some q)) := Hid.in (grown_set _ _ _ _)
  refine ⟨rfl, ⟨⟨ao, cap, ?_, (HL.out.step HB1.out).kept HG.out (.inr (fun e => (HNE.out q e).2.2 rfl)), HNE.out⟩, HR.out.rng, hs, HR.out.byte, HR.out.len, .inl rfl⟩, grown_trans (grown_of_below HB1.out _) HG.out⟩
  exact blk_set (i := 1) (.int .i64 ((at_ : Int) + s)) HQ1.out

theorem in_any (w : World) (sa : Nat → Addr) (hE : Env10 w sa) (ra rz q at_ c : Nat) (bs : List Nat) (hR : Rd w sa ra rz q bs at_ c) (lo hi : Int) :
    Calls Tryd.prog 28 #[.pointer (some ⟨q, 0, none⟩), .int .i64 lo, .int .i64 hi] w fun r w' => r = .returned (.int .i64 (inS bs lo hi at_ c).2.1) ∧ Rd w' sa ra rz q bs (inS bs lo hi at_ c).2.2 (inS bs lo hi at_ c).1 ∧ w.grownBy w' (some q) := by
  by_cases hc : c = 0
  · subst hc
    obtain ⟨d, u, s, hd⟩ : ∃ d u s, dec 0 0 (bs.drop at_) = (d, u, s) := ⟨_, _, _, rfl⟩
    by_cases h0 : d = 0
    · subst h0
      by_cases ho : uz u < lo ∨ hi < uz u
      · rw [inS_out hd ho]
        exact in_out w sa hE ra rz q at_ bs hR lo hi u s hd ho
      · rw [inS_ok hd ho]
        obtain ⟨v, h1, h2, h3, h4, h5, h6⟩ := dec_ok _ 0 0 u s (by omega) (fun x hx => hR.byte x (List.mem_of_mem_drop hx)) hd
        rw [List.length_drop] at h4
        have := enc_pos v
        exact in_ok w sa hE ra rz q at_ bs hR lo hi u s hd (by omega) ho
    · rw [inS_bad hd h0]
      have h34 : d = 3 ∨ d = 4 := by
        rcases dec_code (bs.drop at_) 0 0 with h | h | h <;> rw [hd] at h
        · exact absurd h h0
        · cases h; exact .inl rfl
        · cases h; exact .inr rfl
      exact in_bad w sa hE ra rz q at_ bs hR lo hi d u s hd (by omega) (by omega)
  · rw [inS_wrong hc]
    refine (in_wrong w sa ra rz q at_ c bs hR hc lo hi).mono ?_
    rintro r w' ⟨rfl, rfl⟩
    exact ⟨rfl, hR, World.grownBy.refl _ _⟩

end Go.Proofs.YtgepfbaojogccaaDoor
