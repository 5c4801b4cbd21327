/- DERIVED of the program: BufferPlays returns true. Own work. -/
import Derived.Test.YteajmkfmoocanaaDoorBfR
import Derived.Test.YteajmkfmoocanaaDoorGenK
import Derived.Deep.CutBlock
import Derived.Deep.Light
namespace Go.Proofs.YteajmkfmoocanaaDoor
open Go.RowKit Go.Extern.Stop Go.Stop Go.Extern

theorem kOnly_flt (op : ByteArray) (n : Int) (c : Nat) (h1 : 1 ≤ c) (h2 : c ≤ 10) (w : World) (sa : Nat → Addr) (hE : Env10 w sa) :
    Calls Tryd.prog 16 #[flt op n (snt (sa c)), .int .i64 c] w fun r w' => r = .returned (.bool true) ∧ Below w.heap.size w w' := kOnly_chn [(op, n)] c h1 h2 w sa hE
theorem kOnly_nil (w : World) (sa : Nat → Addr) (hE : Env10 w sa) : Calls Tryd.prog 16 #[.nilIface, .int .i64 0] w fun r w' => r = .returned (.bool true) ∧ Below w.heap.size w w' := by
  have HE := Hid.in hE
  clear hE
  go_enter Tryd.func16, Tryd.ntmps16
  go_wp2
  go_loopw [5] (fun i wr => ∃ k : Nat, 1 ≤ k ∧ k ≤ 11 ∧ i = .int .i64 k ∧ Below w.heap.size w wr) (fun i _ => 11 - (intOf i).toNat)
  case atStart => exact ⟨1, Nat.le_refl _, by omega, rfl, Below.refl _ _⟩
  case round =>
    obtain ⟨k, hk1, hk, rfl, hb⟩ := hrel
    have HB := Hid.in hb
    clear hb
    by_cases hlt : k ≤ 10
    · have hq : ((k : Int) == 0) = false := by simp; omega
      go_wp2_with fail
      refine (error_code _ sa (HE.out.below HB.out) k hk1 hlt).mono ?_
      rintro r w' ⟨rfl, rfl⟩
      go_wp2_with fail
      refine (Is_nil (sa k) _).mono ?_
      rintro r w' ⟨rfl, rfl⟩
      go_wp2
      go_roundw
      case rel => exact ⟨k + 1, by omega, by omega, by go_num, HB.out⟩
      case measure => simp [intOf]; omega
    · go_wp2
      go_ret
      exact ⟨rfl, HB.out⟩
theorem kOnly_perr (op : ByteArray) (n : Int) (c : Nat) (h2 : c ≤ 10) (w : World) (sa : Nat → Addr) (hE : Env10 w sa) :
    Calls Tryd.prog 16 #[perr sa c op n, .int .i64 c] w fun r w' => r = .returned (.bool true) ∧ Below w.heap.size w w' := by
  unfold perr
  split
  · rename_i h
    subst h
    exact kOnly_nil w sa hE
  · exact kOnly_flt op n c (by omega) h2 w sa hE

/-- Both buffers in one world. -/
structure Twin (w0 w : World) (p q m : Nat) (S T : List Nat) (L : List (Int × Int)) : Prop where
  a : Buf 64 32 w p S m L
  r : Buf 51 52 w q T m L
  d : ∀ k ∈ S, k ∉ T
  l : Below w0.heap.size w0 w
  p : w0.heap.size ≤ p
  q : w0.heap.size ≤ q
theorem Twin.fr {w0 w w' : World} {p q m : Nat} {S T U : List Nat} {L : List (Int × Int)} (h : Twin w0 w p q m S T L) (hf : Fr U w w') (h1 : ∀ k ∈ U, k ∉ S) (h2 : ∀ k ∈ U, k ∉ T) (h3 : ∀ k ∈ U, w0.heap.size ≤ k) : Twin w0 w' p q m S T L :=
  ⟨h.a.fr hf (fun k hk hm => h1 k hm hk), h.r.fr hf (fun k hk hm => h2 k hm hk), h.d, hf.below h.l h3 h.l.size, h.p, h.q⟩
theorem Twin.step {w0 w w' : World} {p q m : Nat} {S T : List Nat} {L : List (Int × Int)} (h : Twin w0 w p q m S T L) (hb : Below w.heap.size w w') : Twin w0 w' p q m S T L :=
  h.fr (Fr.of_below (S := []) hb) (fun _ hk => absurd hk List.not_mem_nil) (fun _ hk => absurd hk List.not_mem_nil) (fun _ hk => absurd hk List.not_mem_nil)
/-- The document's own one behind a call of the project's. -/
theorem Twin.mid {w0 w w1 : World} {p q m : Nat} {S S1 T : List Nat} {L L' : List (Int × Int)} (h : Twin w0 w p q m S T L) (h1 : Went 64 32 w w1 p S S1 m L') : Buf 51 52 w1 q T m L :=
  h.r.fr h1.f (fun k hk hm => h.d k hm hk)
theorem Twin.both {w0 w w1 w2 : World} {p q m : Nat} {S S1 T T1 : List Nat} {L L' : List (Int × Int)} (h : Twin w0 w p q m S T L) (h1 : Went 64 32 w w1 p S S1 m L') (h2 : Went 51 52 w1 w2 q T T1 m L') : Twin w0 w2 p q m S1 T1 L' := by
  have hb1 := h1.below h.a h.l h.p
  have hmid := h.mid h1
  have hd1 : ∀ k ∈ S1, k ∉ T := fun k hk hm => by
    rcases h1.s k hk with h3 | h3
    · exact h.d k h3 hm
    · have := (h.r.mem k hm).2; omega
  refine ⟨h1.b.fr h2.f hd1, h2.b, fun k hk hm => ?_, h2.below hmid hb1 h.q, h.p, h.q⟩
  rcases h2.s k hm with h3 | h3
  · exact hd1 k hk h3
  · have := (h1.b.mem k hk).2; omega
/-- A cell of a block that is neither's. -/
theorem Twin.far {w0 w : World} {p q m k : Nat} {S T : List Nat} {L : List (Int × Int)} (h : Twin w0 w p q m S T L) (hk : w.heap.size ≤ k) : k ∉ S ∧ k ∉ T := ⟨h.a.far hk, h.r.far hk⟩

/-- From its k-th store on a list reads so. -/
def Rest (w : World) (ao : Option Addr) (k : Nat) (L : List (Int × Int)) : Prop :=
  ∀ j x y, k ≤ j → L[j]? = some (x, y) → ∃ b o, ao = some ⟨b, o, none⟩ ∧ w.cell? ⟨b, o + j * 2, none⟩ = some (.int .i64 x) ∧ w.cell? ⟨b, o + j * 2 + 1, none⟩ = some (.int .u32 y) ∧ w.frozen? ⟨b, o + j * 2 + 1, none⟩ = false
theorem Rest.of_own {t : TypeId} {w : World} {B n cap : Nat} {ao : Option Addr} {L : List (Int × Int)} (h : OwnW t w B ao n cap L) (k : Nat) : Rest w ao k L := by
  intro j x y _ hxy
  have hj : j < n := by rw [← h.wlen]; exact (List.getElem?_eq_some_iff.1 hxy).1
  obtain ⟨b, o, x', y', rfl, h1, h2, h3⟩ := h.wat j hj
  rw [hxy] at h3
  cases h3
  obtain ⟨g, o', cur, e, _, hh, _⟩ := h.at_ _ rfl
  cases e
  exact ⟨b, o, rfl, h1, h2, blk_free hh⟩
theorem Rest.set {w : World} {b o k : Nat} {L : List (Int × Int)} (h : Rest w (some ⟨b, o, none⟩) k L) (v : Value) : Rest (w.setCell ⟨b, o + k * 2 + 1, none⟩ v) (some ⟨b, o, none⟩) (k + 1) L := by
  intro j x y hj hxy
  obtain ⟨b', o', e, h1, h2, h3⟩ := h j x y (by omega) hxy
  cases e
  refine ⟨b, o, rfl, (World.cell?_setCell_other _ _ _ _ (fun e => ?_)).trans h1, (World.cell?_setCell_other _ _ _ _ (fun e => ?_)).trans h2, ?_⟩
  · have := congrArg Addr.off e; simp only [] at this; omega
  · have := congrArg Addr.off e; simp only [] at this; omega
  · simpa using h3
theorem Rest.drewN {w : World} {ao : Option Addr} {k : Nat} {L : List (Int × Int)} (h : Rest w ao k L) (n : Nat) : Rest (w.drewN n) ao k L := h

set_option maxRecDepth 20000 in
theorem bufferPlays_nil (w : World) (sa : Nat → Addr) (hE : Env10 w sa) (n0 : Int) (h : wB n0 1 8 = false) (al : Option Addr) (n capl : Nat) :
    Calls Tryd.prog 4 #[.int .i64 n0, .slice al n capl] w fun r w' => r = .returned (.bool true) ∧ Below w.heap.size w w' := by
  have HE := Hid.in hE
  have HC := Hid.in h
  clear hE h
  go_enter Tryd.func4, Tryd.ntmps4
  go_wp2_with fail
  refine (bnew_arg w sa HE.out n0 HC.out).mono ?_
  rintro r w' ⟨rfl, rfl⟩
  go_wp2_with fail
  refine (rbnew_arg _ n0 HC.out).mono ?_
  rintro r w' ⟨rfl, rfl⟩
  go_wp2_with fail
  refine (kIs_perr opBNew n0 1 (by omega) w' sa HE.out).mono ?_
  rintro r w2 ⟨rfl, hb⟩
  have HB := Hid.in hb
  clear hb
  by_cases hn : 0 < n
  · have i1 : (0 : Int) < (n : Int) := by omega
    go_wp2
    go_loopw [9] (fun c wr => c = .int .i64 0 ∧ wr = w2) (fun _ _ => 0)
    case atStart => exact ⟨rfl, rfl⟩
    case round =>
      obtain ⟨rfl, rfl⟩ := hrel
      go_wp2_with fail
      refine (bufferRuns_any _ sa (HE.out.below HB.out)).mono ?_
      rintro r w3 ⟨rfl, hb⟩
      have HB3 := Hid.in (bstep HB.out (Nat.le_refl _) hb)
      clear hb
      go_wp2
      go_ret
      exact ⟨rfl, HB3.out⟩
  · obtain rfl : n = 0 := by omega
    go_wp2
    go_loopw [9] (fun c wr => c = .int .i64 0 ∧ wr = w2) (fun _ _ => 0)
    case atStart => exact ⟨rfl, rfl⟩
    case round =>
      obtain ⟨rfl, rfl⟩ := hrel
      go_wp2_with fail
      refine (bufferRuns_any _ sa (HE.out.below HB.out)).mono ?_
      rintro r w3 ⟨rfl, hb⟩
      have HB3 := Hid.in (bstep HB.out (Nat.le_refl _) hb)
      clear hb
      go_wp2
      go_ret
      exact ⟨rfl, HB3.out⟩

set_option maxHeartbeats 25600000 in
set_option maxRecDepth 20000 in
theorem bufferPlays_ok (w : World) (sa : Nat → Addr) (hE : Env10 w sa) (m : Nat) (h1 : 1 ≤ m) (h8 : m ≤ 8) (al : Option Addr) (n capl : Nat) (hQ : AsksK w al n [.i64, .i64, .u32]) :
    Calls Tryd.prog 4 #[.int .i64 (m : Int), .slice al n capl] w fun r w' => r = .returned (.bool true) ∧ Below w.heap.size w w' := by
  have HE := Hid.in hE
  have HQ := Hid.in hQ
  clear hE hQ
  go_enter Tryd.func4, Tryd.ntmps4
  go_wp2_with fail
  refine (bnew_ok w m h1 h8).mono ?_
  rintro r w1 ⟨rfl, hT, hb⟩
  have HT1 := Hid.in hT
  have HB1 := Hid.in hb
  clear hT hb
  go_wp2_with fail
  refine (rbnew_ok w1 m h1 h8).mono ?_
  rintro r w2 ⟨rfl, hR, hb⟩
  have HB2 : Hid (Twin w w2 w.heap.size w1.heap.size m [w.heap.size] [w1.heap.size] []) := Hid.in ⟨HT1.out.step hb, hR, fun k hk hm => by
    have e1 := List.mem_singleton.1 hk
    have e2 := List.mem_singleton.1 hm
    have := (HT1.out.mem w.heap.size List.mem_cons_self).2
    omega, bstep HB1.out (Nat.le_refl _) hb, Nat.le_refl _, HB1.out.size⟩
  clear hR hb HT1 HB1
  go_wp2_with fail
  refine (kIs_nil opBNew m w2).mono ?_
  rintro r w3 ⟨rfl, hb⟩
  have HB3 := Hid.in (HB2.out.step hb)
  clear hb HB2
  obtain ⟨lo, hlo⟩ : ∃ lo, w1.heap.size = lo := ⟨_, rfl⟩
  rw [hlo] at HB3
  rw [hlo]
  clear hlo
  go_wp2
  go_loopw [9] (fun c wr => ∃ (i : Nat) (S T : List Nat) (L : List (Int × Int)), i ≤ n ∧ i ≤ 60 ∧ c = .int .i64 (i : Int) ∧ Twin w wr w.heap.size lo m S T L) (fun c _ => 60 - (intOf c).toNat)
  case atStart => exact ⟨0, _, _, _, Nat.zero_le _, Nat.zero_le _, rfl, HB3.out⟩
  case round =>
    obtain ⟨i, S, T, L, hin', hi60, rfl, hB⟩ := hrel
    have HB := Hid.in hB
    clear hB HB3
    by_cases hlt : i < n ∧ i < 60
    · obtain ⟨hin, hi6⟩ := hlt
      obtain ⟨lb, lq, rfl, hz⟩ := HQ.out i hin
      obtain ⟨kd, hz0⟩ := hz 0 .i64 rfl
      obtain ⟨ad, hz1⟩ := hz 1 .i64 rfl
      obtain ⟨va, hz2⟩ := hz 2 .u32 rfl
      clear hz
      rename World => wo
      have c0 : wo.cell? ⟨lb, lq + i * 3, none⟩ = some (.int .i64 kd) := (HB.out.l.cell (p := ⟨lb, lq + i * 3, none⟩) (lt_cell (q := ⟨lb, lq + i * 3, none⟩) hz0)).trans hz0
      have c1 : wo.cell? ⟨lb, lq + i * 3 + 1, none⟩ = some (.int .i64 ad) := (HB.out.l.cell (p := ⟨lb, lq + i * 3 + 1, none⟩) (lt_cell (q := ⟨lb, lq + i * 3 + 1, none⟩) hz1)).trans hz1
      have c2 : wo.cell? ⟨lb, lq + i * 3 + 2, none⟩ = some (.int .u32 va) := (HB.out.l.cell (p := ⟨lb, lq + i * 3 + 2, none⟩) (lt_cell (q := ⟨lb, lq + i * 3 + 2, none⟩) hz2)).trans hz2
      clear hz0 hz1 hz2
      have i1 : (i : Int) < (n : Int) := by omega
      have i2 : (i : Int) < 60 := by omega
      go_upto_block 2 with fail
      generalize hww : wo.alloc _ = wx
      have x0 : wx.cell? ⟨wo.heap.size, 0, none⟩ = some (.int .i64 kd) := by rw [← hww]; exact blk_cell (heap_alloc_new _ _) rfl
      have x1 : wx.cell? ⟨wo.heap.size, 1, none⟩ = some (.int .i64 ad) := by rw [← hww]; exact blk_cell (heap_alloc_new _ _) rfl
      have x2 : wx.cell? ⟨wo.heap.size, 2, none⟩ = some (.int .u32 va) := by rw [← hww]; exact blk_cell (heap_alloc_new _ _) rfl
      have HBX : Hid (Twin w wx w.heap.size lo m S T L) := Hid.in (by rw [← hww]; exact HB.out.step (below_alloc _ _))
      have HHQ : Hid (wo.heap.size ∉ S ∧ wo.heap.size ∉ T) := Hid.in (HB.out.far (Nat.le_refl _))
      clear hww c0 c1 c2 HB
      go_cut [11] (fun ok wy => ok = .bool true ∧ ∃ S' T' L', Twin w wy w.heap.size lo m S' T' L')
      case first =>
        by_cases k1 : kd = 1
        · as_aux_lemma =>
            subst k1
            obtain ⟨cd, L4, h4⟩ : ∃ cd L4, pushL m L ad va = (cd, L4) := ⟨_, _, rfl⟩
            have HD := Hid.in h4
            have HC : Hid (cd ≤ 10) := Hid.in (by have := pushL_code m L ad va; rwa [h4] at this)
            clear h4
            go_wp2_with fail
            refine (bpush_c wx sa (HE.out.below HBX.out.l) _ m S L HBX.out.a ad va cd L4 HD.out).mono ?_
            rintro r w5 ⟨S5, rfl, hW5⟩
            have HW5 := Hid.in hW5
            have y1 := hW5.f.cell x1 HHQ.out.1
            have y2 := hW5.f.cell x2 HHQ.out.1
            clear hW5 x0 x1 x2
            go_wp2_with fail
            refine (rbpush_c w5 lo m T L (HBX.out.mid HW5.out) ad va cd L4 HD.out).mono ?_
            rintro r w6 ⟨T6, rfl, hW6⟩
            have z1 := hW6.f.cell y1 HHQ.out.2
            have HB6 := Hid.in (HBX.out.both HW5.out hW6)
            clear hW6 y1 y2
            go_wp2_with fail
            refine (kIs_perr opBPush ad cd HC.out w6 sa (HE.out.below HB6.out.l)).mono ?_
            rintro r w7 ⟨rfl, hb⟩
            have HB7 := Hid.in (HB6.out.step hb)
            clear hb z1
            go_wp2_with fail
            refine (kOnly_perr opBPush ad cd HC.out w7 sa (HE.out.below HB7.out.l)).mono ?_
            rintro r w8 ⟨rfl, hb⟩
            have HB8 := Hid.in (HB7.out.step hb)
            clear hb
            go_wp2
            go_meet
            case rel => exact ⟨rfl, _, _, L4, HB8.out⟩
        by_cases k2 : kd = 2
        · as_aux_lemma =>
            subst k2
            obtain ⟨g, p, h4⟩ : ∃ g p, fwdL L ad = (g, p) := ⟨_, _, rfl⟩
            have HD := Hid.in h4
            clear h4
            go_wp2_with fail
            refine (bfwd_c wx _ m S L HBX.out.a ad g p HD.out).mono ?_
            rintro r w5 ⟨rfl, rfl⟩
            go_wp2_with fail
            refine (rbfwd_c w5 lo m T L HBX.out.r ad g p HD.out).mono ?_
            rintro r w5 ⟨rfl, rfl⟩
            clear x0 x1 x2
            go_wp2
            go_meet
            case rel => exact ⟨by simp, S, T, L, HBX.out⟩
        by_cases k3 : kd = 3
        · as_aux_lemma =>
            subst k3
            obtain ⟨x, y, p, h4⟩ : ∃ x y p, headL L = ((x, y), p) := ⟨_, _, _, rfl⟩
            have HD := Hid.in h4
            clear h4
            have heq := eq_write x y
            go_wp2_with fail
            refine (bhead_c wx _ m S L HBX.out.a x y p HD.out).mono ?_
            rintro r w5 ⟨rfl, hb⟩
            have HB5 := Hid.in ((HBX.out.step hb).step (below_alloc w5 (.cells #[.int .i64 x, .int .u32 y] 32)))
            clear hb x0 x1 x2
            go_wp2_with fail
            refine (rbhead_c _ lo m T L HB5.out.r x y p HD.out).mono ?_
            rintro r w6 ⟨rfl, hb⟩
            have q0 : (w5.alloc (.cells #[.int .i64 x, .int .u32 y] 32)).cell? ⟨w5.heap.size, 0, none⟩ = some (.int .i64 x) := blk_cell (heap_alloc_new _ _) rfl
            have q1 : (w5.alloc (.cells #[.int .i64 x, .int .u32 y] 32)).cell? ⟨w5.heap.size, 1, none⟩ = some (.int .u32 y) := blk_cell (heap_alloc_new _ _) rfl
            have y0 : w6.cell? ⟨w5.heap.size, 0, none⟩ = some (.int .i64 x) := (hb.cell (p := ⟨w5.heap.size, 0, none⟩) (lt_cell (q := ⟨w5.heap.size, 0, none⟩) q0)).trans q0
            have y1 : w6.cell? ⟨w5.heap.size, 1, none⟩ = some (.int .u32 y) := (hb.cell (p := ⟨w5.heap.size, 1, none⟩) (lt_cell (q := ⟨w5.heap.size, 1, none⟩) q1)).trans q1
            have HB6 := Hid.in (HB5.out.step hb)
            clear hb q0 q1 HB5
            go_wp2
            go_meet
            case rel => exact ⟨by simp, S, T, L, HB6.out⟩
        by_cases k4 : kd = 4
        · as_aux_lemma =>
            subst k4
            obtain ⟨c, hc⟩ : ∃ c, decide (0 < L.length) = c := ⟨_, rfl⟩
            have HD := Hid.in hc
            clear hc
            go_wp2_with fail
            refine (bpop_c wx _ m S L HBX.out.a c HD.out).mono ?_
            rintro r w5 ⟨rfl, hW5⟩
            have HW5 := Hid.in hW5
            clear hW5 x0 x1 x2
            go_wp2_with fail
            refine (rbpop_c w5 lo m T L (HBX.out.mid HW5.out) c HD.out).mono ?_
            rintro r w6 ⟨rfl, hW6⟩
            have HB6 := Hid.in (HBX.out.both HW5.out hW6)
            clear hW6
            go_wp2
            go_meet
            case rel => exact ⟨by simp, S, T, L.drop 1, HB6.out⟩
        · as_aux_lemma =>
            have j1 : (kd == 1) = false := by simpa using k1
            have j2 : (kd == 2) = false := by simpa using k2
            have j3 : (kd == 3) = false := by simpa using k3
            have j4 : (kd == 4) = false := by simpa using k4
            go_wp2
            go_meet
            case rel => exact ⟨rfl, S, T, L, HBX.out⟩
      case rest =>
        obtain ⟨rfl, S', T', L', hB⟩ := hcut
        rename World => wy
        clear HBX HHQ x0 x1 x2
        have HBY := Hid.in hB
        obtain ⟨M, hMM⟩ : ∃ M, L'.length = M := ⟨_, rfl⟩
        have hMm : M ≤ m := by rw [← hMM]; exact hB.a.le
        have HMM := Hid.in hMM
        clear hB hMM
        go_wp2_with fail
        refine (blist_c wy _ m S' L' HBY.out.a M HMM.out).mono ?_
        rintro r wz ⟨ga, gc, rfl, hO, hb⟩
        have HR0 : Hid (Rest wz ga 0 L') := Hid.in (Rest.of_own hO 0)
        have HBZ := Hid.in (HBY.out.step hb)
        have HGB : Hid (∀ k, oblk ga = some k → k ∉ S' ∧ k ∉ T' ∧ w.heap.size ≤ k) := Hid.in fun k hk => ⟨HBY.out.a.far (hO.blk k hk).1, HBY.out.r.far (hO.blk k hk).1, Nat.le_trans HBY.out.l.size (hO.blk k hk).1⟩
        obtain ⟨⟨ra, rcap, hrq, hrO, hT'⟩, _, _⟩ := HBZ.out.r
        rw [HMM.out] at hrq hrO
        have kq : wz.cell? ⟨lo, 1, none⟩ = some (.slice ra M rcap) := blk_cell hrq rfl
        have HT' : Hid (lo ∈ T' ∧ ∀ k, oblk ra = some k → k ∈ T') := Hid.in (by rw [hT']; exact ⟨List.mem_cons_self, fun k hk => List.mem_cons_of_mem _ (Option.mem_toList.2 hk)⟩)
        have HRO := Hid.in hrO
        have HRQ := Hid.in hrq
        have hM8 : M ≤ 8 := by omega
        clear hO hb hrq hrO hT' HBY
        go_wp2
        go_loopw [24] (fun c wr => ∃ (x : Nat), x ≤ M ∧ c = .int .i64 (x : Int) ∧ Rest wr ga x L' ∧ Fr (oblk ga).toList wz wr) (fun c _ => M - (intOf c).toNat)
        case atStart => exact ⟨0, Nat.zero_le _, rfl, HR0.out, Fr.refl _ _⟩
        case round =>
          obtain ⟨x, hxM, rfl, hR, hF⟩ := hrel
          have HR := Hid.in hR
          have HF := Hid.in hF
          clear hR hF kq HR0
          rename World => wr
          by_cases hxl : x < M
          · obtain ⟨b1, o1, u, v, rfl, y1, y2, huv⟩ := (OwnA.fr HRO.out HF.out (fun k hk hm => (HGB.out k (Option.mem_toList.1 hm)).2.1 (HT'.out.2 k hk))).wat x hxl
            obtain ⟨b2, o2, rfl, x1, x2, x3⟩ := HR.out x u v (Nat.le_refl _) huv
            have kq : wr.cell? ⟨lo, 1, none⟩ = some (.slice (some ⟨b1, o1, none⟩) M rcap) := HF.out.cell (blk_cell HRQ.out rfl) (fun hm => (HGB.out lo (Option.mem_toList.1 hm)).2.1 HT'.out.1)
            have j1 : (x : Int) < (M : Int) := by omega
            clear huv
            go_wp2
            go_quiet (fail)
            have HR2 : Hid (Rest ((wr.drewN nq).setCell ⟨b2, o2 + x * 2 + 1, none⟩ (.int .u32 99)) (some ⟨b2, o2, none⟩) (x + 1) L') := Hid.in ((HR.out.drewN nq).set _)
            have HF2 : Hid (Fr [b2] wz ((wr.drewN nq).setCell ⟨b2, o2 + x * 2 + 1, none⟩ (.int .u32 99))) := Hid.in ((HF.out.trans (Fr.of_below (drewN_below (Below.refl _ _) nq))).setCell _ List.mem_cons_self)
            go_wp2
            go_roundw
            case rel => exact ⟨x + 1, by omega, by go_num, HR2.out, HF2.out⟩
            case measure => simp [intOf]; omega
          · have hj : ¬ (x : Int) < (M : Int) := by omega
            have HBE : Hid (Twin w wr w.heap.size lo m S' T' L') := Hid.in (HBZ.out.fr HF.out (fun k hk => (HGB.out k (Option.mem_toList.1 hk)).1) (fun k hk => (HGB.out k (Option.mem_toList.1 hk)).2.1) (fun k hk => (HGB.out k (Option.mem_toList.1 hk)).2.2))
            go_wp2
            go_roundw
            case rel => exact ⟨i + 1, S', T', L', by omega, by omega, by go_num, HBE.out⟩
            case measure => simp [intOf]; omega
    · by_cases hin : i < n
      · have i1 : (i : Int) < (n : Int) := by omega
        obtain rfl : i = 60 := by omega
        go_wp2_with fail
        refine (bufferRuns_any _ sa (HE.out.below HB.out.l)).mono ?_
        rintro r w3 ⟨rfl, hb⟩
        have HB3 := Hid.in (bstep HB.out.l (Nat.le_refl _) hb)
        clear hb
        go_wp2
        go_ret
        exact ⟨rfl, HB3.out⟩
      · have i1 : ¬ (i : Int) < (n : Int) := by omega
        go_wp2_with fail
        refine (bufferRuns_any _ sa (HE.out.below HB.out.l)).mono ?_
        rintro r w3 ⟨rfl, hb⟩
        have HB3 := Hid.in (bstep HB.out.l (Nat.le_refl _) hb)
        clear hb
        go_wp2
        go_ret
        exact ⟨rfl, HB3.out⟩

theorem bufferPlays_any (w : World) (sa : Nat → Addr) (hE : Env10 w sa) (n0 : Int) (al : Option Addr) (n capl : Nat) (hQ : AsksK w al n [.i64, .i64, .u32]) :
    Calls Tryd.prog 4 #[.int .i64 n0, .slice al n capl] w fun r w' => r = .returned (.bool true) ∧ Below w.heap.size w w' := by
  cases h : wB n0 1 8 with
  | false => exact bufferPlays_nil w sa hE n0 h al n capl
  | true =>
    have h' := wB_of h
    obtain ⟨m, rfl⟩ : ∃ m : Nat, n0 = (m : Int) := ⟨n0.toNat, by omega⟩
    exact bufferPlays_ok w sa hE m (by omega) (by omega) al n capl hQ

end Go.Proofs.YteajmkfmoocanaaDoor
