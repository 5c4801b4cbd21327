/- DERIVED of the program: BufferOrder returns true. Own work. -/
import Derived.Test.YteajmkfmoocanaaDoorBfSame
import Derived.Test.YteajmkfmoocanaaDoorGenK
import Derived.Deep.CutBlock
import Derived.Deep.Light
namespace Go.Proofs.YteajmkfmoocanaaDoor
open Go.RowKit Go.Extern.Stop Go.Stop Go.Extern

/-- The buffer, and the list of what should wait in it, beside it. -/
structure Ord (w0 w : World) (q m : Nat) (S : List Nat) (aw : Option Addr) (N cw : Nat) (L : List (Int × Int)) : Prop where
  b : Buf 64 32 w q S m L
  o : OwnW 32 w w0.heap.size aw N cw L
  d : ∀ k, oblk aw = some k → k ∉ S
  l : Below w0.heap.size w0 w
  q : w0.heap.size ≤ q
theorem Ord.step {w0 w w' : World} {q m N cw : Nat} {S : List Nat} {aw : Option Addr} {L : List (Int × Int)} (h : Ord w0 w q m S aw N cw L) (hb : Below w.heap.size w w') : Ord w0 w' q m S aw N cw L :=
  ⟨h.b.step hb, h.o.step hb, h.d, bstep h.l (Nat.le_refl _) hb, h.q⟩
/-- Popped, and the list's first left out. -/
theorem Ord.popped {w0 w w' : World} {q m p b o cw : Nat} {S : List Nat} {L : List (Int × Int)} (h : Ord w0 w q m S (some ⟨b, o, none⟩) (p + 1) cw L) (hW : Went 64 32 w w' q S S m (L.drop 1)) :
    Ord w0 w' q m S (some (if cw = 1 then ⟨b, o, none⟩ else ⟨b, o + 2, none⟩)) p (cw - 1) (L.drop 1) := by
  refine ⟨hW.b, (h.o.fr hW.f h.d).tail (Nat.succ_le_succ (Nat.zero_le _)), fun k hk => h.d k ?_, hW.below h.b h.l h.q, h.q⟩
  split at hk <;> exact hk
/-- Pushed, some memory made, and the list made longer. -/
theorem Ord.pushed {w0 w w1 w2 w3 : World} {q m N cw cw' : Nat} {S S1 : List Nat} {aw aw' : Option Addr} {L : List (Int × Int)} {x : Int × Int} (h : Ord w0 w q m S aw N cw L) (hW : Went 64 32 w w1 q S S1 m (L ++ [x])) (hb : Below w1.heap.size w1 w2)
    (hO : OwnA 32 2 w3 w0.heap.size aw' (N + 1) cw' (L.map wc ++ [wc x])) (hg : w2.grownBy w3 (oblk aw)) (hs : ∀ b, oblk aw' = some b → oblk aw = some b ∨ w2.heap.size ≤ b) : Ord w0 w3 q m S1 aw' (N + 1) cw' (L ++ [x]) := by
  have hb1 := hW.below h.b h.l h.q
  have hin : ∀ k, oblk aw = some k → k ∉ S1 := fun k hk => hW.out (h.d k hk) (by obtain ⟨_, cur, hc⟩ := h.o.blk k hk; exact blk_lt hc)
  have hT2 := hW.b.step hb
  refine ⟨?_, by unfold OwnW; rw [List.map_append]; exact hO, fun k hk => ?_, (bstep hb1 (Nat.le_refl _) hb).grown hg (bstep hb1 (Nat.le_refl _) hb).size (fun k hk => (h.o.blk k hk).1), h.q⟩
  · exact hT2.fr (Fr.of_grown (S := (oblk aw).toList) hg (fun k hk => Option.mem_toList.2 hk)) (fun k hk hm => hin k (Option.mem_toList.1 hm) hk)
  · rcases hs k hk with h1 | h1
    · exact hin k h1
    · exact hT2.far h1

set_option maxHeartbeats 25600000 in
set_option maxRecDepth 20000 in
theorem bufferOrder_any (w : World) (sa : Nat → Addr) (hE : Env10 w sa) (n0 : Int) (ao : Option Addr) (cap : Nat) (zs : List Int) (hI : Ints w ao cap zs) (av : Option Addr) (V capv : Nat) (hV : NumsK w av V .u32) :
    Calls Tryd.prog 5 #[.int .i64 n0, .slice ao zs.length cap, .slice av V capv] w fun r w' => r = .returned (.bool true) ∧ Below w.heap.size w w' := by
  have HE := Hid.in hE
  have HI := Hid.in hI
  have HV := Hid.in hV
  clear hE hI hV
  have hw0 := wI_le n0 1 8 (by omega)
  obtain ⟨m, hm⟩ : ∃ m : Nat, wI n0 1 8 = (m : Int) := ⟨(wI n0 1 8).toNat, by omega⟩
  have h1 : 1 ≤ m := by omega
  have h8 : m ≤ 8 := by omega
  have HM := Hid.in hm
  obtain ⟨K, hK⟩ : ∃ K, zs.length = K := ⟨_, rfl⟩
  rw [hK]
  have HK := Hid.in hK
  clear hw0 hm hK
  go_enter Tryd.func5, Tryd.ntmps5
  go_wp2_with fail
  refine (within_i n0 1 8 w (by omega) (by omega) (by omega)).mono ?_
  rw [HM.out]
  rintro r w' ⟨rfl, rfl⟩
  go_wp2_with fail
  refine (bnew_ok w' m h1 h8).mono ?_
  rintro r w1 ⟨rfl, hT, hb⟩
  have HO1 : Hid (Ord w' w1 w'.heap.size m [w'.heap.size] none 0 0 []) := Hid.in ⟨hT, OwnA.nil _ _ _ _, fun k hk => (by cases hk), hb, Nat.le_refl _⟩
  clear hT hb
  go_wp2
  go_loopw [10, 11] (fun sl c wr => ∃ (i N cw : Nat) (S : List Nat) (aw : Option Addr) (L : List (Int × Int)), i ≤ 40 ∧ sl = .slice aw N cw ∧ c = .int .i64 (i : Int) ∧ Ord w' wr w'.heap.size m S aw N cw L) (fun _ c _ => 40 - (intOf c).toNat)
  case atStart => exact ⟨0, 0, 0, _, none, [], Nat.zero_le _, rfl, rfl, HO1.out⟩
  case round =>
    obtain ⟨i, N, cw, S, aw, L, hi40, rfl, rfl, hT⟩ := hrel
    have HT := Hid.in hT
    have HN := Hid.in hT.o.wlen
    have hNm : N ≤ m := by rw [← hT.o.wlen]; exact hT.b.le
    clear hT HO1
    rename World => wo
    by_cases hlt : (i < K ∧ i < V) ∧ i < 40
    · obtain ⟨⟨hin, hiv⟩, hi4⟩ := hlt
      obtain ⟨lb, lq, rfl, hz⟩ := HI.out.cell i (by rw [HK.out]; exact hin)
      have hz1 : wo.cell? ⟨lb, lq + i, none⟩ = some (.int .i64 (zs[i]'(by rw [HK.out]; exact hin))) := (HT.out.l.cell (p := ⟨lb, lq + i, none⟩) (lt_cell (q := ⟨lb, lq + i, none⟩) hz)).trans hz
      generalize zs[i]'(by rw [HK.out]; exact hin) = z at hz1
      obtain ⟨vb, vq, v, rfl, hv⟩ := HV.out i hiv
      have HVC := Hid.in hv
      have i1 : (i : Int) < (K : Int) := by omega
      have i2 : (i : Int) < (V : Int) := by omega
      have i3 : (i : Int) < 40 := by omega
      have hwa := wI_le z 0 7 (by omega)
      obtain ⟨a, ha⟩ : ∃ a : Int, wI z 0 7 = a := ⟨_, rfl⟩
      have HA : Hid (wB a 0 127 = true) := Hid.in (wB_yes (by omega))
      have HAA := Hid.in ha
      clear hz hv hwa ha
      go_wp2_with fail
      refine (within_i z 0 7 wo (by omega) (by omega) (by omega)).mono ?_
      rw [HAA.out]
      rintro r wo ⟨rfl, rfl⟩
      clear hz1 HAA
      go_upto_if 59 with fail
      go_cut [10] (fun sl wx => ∃ (N1 cw1 : Nat) (aw1 : Option Addr) (L1 : List (Int × Int)), sl = .slice aw1 N1 cw1 ∧ Ord w' wx w'.heap.size m S aw1 N1 cw1 L1 ∧ N1 < m)
      case first =>
        by_cases hNe : N = m
        · as_aux_lemma =>
            subst hNe
            obtain ⟨p, hp⟩ : ∃ p, N = p + 1 := ⟨N - 1, by omega⟩
            obtain ⟨b1, o1, x, y, rfl, x1, x2, hxy⟩ := HT.out.o.wat 0 (by omega)
            rw [Nat.zero_mul, Nat.add_zero] at x1 x2
            have HD : Hid (headL L = ((x, y), true)) := Hid.in (by cases L with | nil => cases hxy | cons z' R => (simp only [List.getElem?_cons_zero, Option.some.injEq] at hxy; subst hxy; rfl))
            have HDL : Hid (decide (0 < L.length) = true) := Hid.in (by rw [HN.out, decide_eq_true_eq]; omega)
            have HPP := Hid.in hp
            have i0 : (0 : Int) < (N : Int) := by omega
            have i00 : 0 < N := by omega
            clear hxy hp
            go_wp2_with fail
            refine (bhead_c wo _ N S L HT.out.b x y true HD.out).mono ?_
            rintro r w2 ⟨rfl, hb⟩
            have hbb := bstep hb (Nat.le_refl _) (below_alloc w2 (.cells #[.int .i64 x, .int .u32 y] 32))
            have HT2 := Hid.in (HT.out.step hbb)
            have HF2 := Hid.in ((HT.out.step hb).b.far (Nat.le_refl _))
            have k2 : (w2.alloc (.cells #[.int .i64 x, .int .u32 y] 32)).cell? ⟨b1, o1, none⟩ = some (.int .i64 x) := (hbb.cell (p := ⟨b1, o1, none⟩) (lt_cell (q := ⟨b1, o1, none⟩) x1)).trans x1
            have k3 : (w2.alloc (.cells #[.int .i64 x, .int .u32 y] 32)).cell? ⟨b1, o1 + 1, none⟩ = some (.int .u32 y) := (hbb.cell (p := ⟨b1, o1 + 1, none⟩) (lt_cell (q := ⟨b1, o1 + 1, none⟩) x2)).trans x2
            clear hb hbb x1 x2 HT
            have k0 : (w2.alloc (.cells #[.int .i64 x, .int .u32 y] 32)).cell? ⟨w2.heap.size, 0, none⟩ = some (.int .i64 x) := blk_cell (heap_alloc_new _ _) rfl
            have k1 : (w2.alloc (.cells #[.int .i64 x, .int .u32 y] 32)).cell? ⟨w2.heap.size, 1, none⟩ = some (.int .u32 y) := blk_cell (heap_alloc_new _ _) rfl
            have hne := ne_write x y
            go_upto_region 12 with fail
            go_region_held3 (fun W => W.cell? ⟨w2.heap.size, 0, none⟩ = some (.int .i64 x) ∧ W.cell? ⟨w2.heap.size, 1, none⟩ = some (.int .u32 y) ∧ W.cell? ⟨b1, o1, none⟩ = some (.int .i64 x) ∧ W.cell? ⟨b1, o1 + 1, none⟩ = some (.int .u32 y)) (first | go_keep | (simp [*]; done))
              (first
                | (go_at_call 12; refine (bpop_c _ _ N S L (HT2.out.step ((Below.refl _ _).drew)).b true HDL.out).mono ?_; rintro r w3 ⟨rfl, hW⟩; have HW := Hid.in hW; have y0 : w3.cell? ⟨w2.heap.size, 0, none⟩ = some (.int .i64 x) := hW.f.cell k0 HF2.out; have y1 : w3.cell? ⟨w2.heap.size, 1, none⟩ = some (.int .u32 y) := hW.f.cell k1 HF2.out; have y2 : w3.cell? ⟨b1, o1, none⟩ = some (.int .i64 x) := hW.f.cell k2 (HT2.out.d b1 rfl); have y3 : w3.cell? ⟨b1, o1 + 1, none⟩ = some (.int .u32 y) := hW.f.cell k3 (HT2.out.d b1 rfl); clear hW))
            have HP : Hid (Ord w' w3 w'.heap.size N S (some (if cw = 1 then ⟨b1, o1, none⟩ else ⟨b1, o1 + 2, none⟩)) p (cw - 1) (L.drop 1)) := Hid.in (by have hh := HT2.out.step ((Below.refl _ _).drew); rw [HPP.out] at hh HW ⊢; exact hh.popped HW.out)
            have hs1 := slice_from1 47 32 _ _ Tryd.underlying47 Tryd.infoWrite b1 o1 N cw (by have := HPP.out; omega)
            obtain ⟨A, hA⟩ : ∃ A, (if cw = 1 then (⟨b1, o1, none⟩ : Addr) else ⟨b1, o1 + 2, none⟩) = A := ⟨_, rfl⟩
            rw [hA] at hs1 HP
            rw [show N - 1 = p by have := HPP.out; omega] at hs1
            clear hA y0 y1 y2 y3 k0 k1 k2 k3 HW
            go_wp2
            go_meet
            case rel => exact ⟨p, cw - 1, some A, L.drop 1, rfl, HP.out, by have := HPP.out; omega⟩
        · as_aux_lemma =>
            have hNq : ((N : Int) == (m : Int)) = false := by simp; omega
            go_wp2
            go_meet
            case rel => exact ⟨N, cw, aw, L, rfl, HT.out, by omega⟩
      case rest =>
        obtain ⟨N1, cw1, aw1, L1, rfl, hT, hN1⟩ := hcut
        rename World => wx
        clear HT HN
        have HT := Hid.in hT
        have HN := Hid.in hT.o.wlen
        have hv1 : wx.cell? ⟨vb, vq + i, none⟩ = some (.int .u32 v) := (hT.l.cell (p := ⟨vb, vq + i, none⟩) (lt_cell (q := ⟨vb, vq + i, none⟩) HVC.out)).trans HVC.out
        clear hT
        have HP : Hid (pushL m L1 a v = (0, L1 ++ [(a, v)])) := Hid.in (pushL_ok _ HA.out (by rw [HN.out]; exact hN1))
        go_wp2_with fail
        refine (bpush_c wx sa (HE.out.below HT.out.l) _ m _ _ HT.out.b a v 0 _ HP.out).mono ?_
        rintro r w2 ⟨S2, rfl, hW⟩
        have HW := Hid.in hW
        have HB2 := Hid.in (hW.below HT.out.b HT.out.l HT.out.q)
        have hv2 : w2.cell? ⟨vb, vq + i, none⟩ = some (.int .u32 v) := (HB2.out.cell (p := ⟨vb, vq + i, none⟩) (lt_cell (q := ⟨vb, vq + i, none⟩) HVC.out)).trans HVC.out
        clear hW hv1
        rw [perr_none]
        have HB3 : Hid (Below w2.heap.size w2 (w2.alloc (.cells #[.int .i64 a, .int .u32 v] 32))) := Hid.in (below_alloc _ _)
        have HR : Hid (Rows' 2 (w2.alloc (.cells #[.int .i64 a, .int .u32 v] 32)) (some ⟨w2.heap.size, 0, none⟩) 1 [wc (a, v)]) := Hid.in (Rows'.lit 2 w2 32 (wc (a, v)) _ rfl rfl (wc_one _))
        have HO3 : Hid (OwnW 32 (w2.alloc (.cells #[.int .i64 a, .int .u32 v] 32)) w'.heap.size aw1 N1 cw1 L1) := Hid.in ((HT.out.o.fr HW.out.f HT.out.d).step HB3.out)
        have HBB : Hid (w'.heap.size ≤ (w2.alloc (.cells #[.int .i64 a, .int .u32 v] 32)).heap.size) := Hid.in (Nat.le_trans HB2.out.size HB3.out.size)
        have hN8 : N1 + 1 ≤ 1000000 := by omega
        go_upto_region 18 with (first
          | (at_builtin; refine wpList_concatA rfl 47 32 2 16 _ (.tmp 89) (.tmp 96) rfl Tryd.underlying47 Tryd.infoWrite rfl (by decide) (by decide) w'.heap.size aw1 (some ⟨w2.heap.size, 0, none⟩) N1 cw1 1 1 (L1.map wc) [wc (a, v)] rfl HO3.out rfl rfl HR.out HBB.out hN8 ?_; intro ao3 cap3 w3 HO4 HG4 HS4 _; have HT3 := Hid.in (HT.out.pushed HW.out HB3.out HO4.out HG4.out HS4.out))
          | fail)
        clear HO4 HG4 HS4 HBB HO3 HR HB3 hv2 HB2 HW HT HP
        obtain ⟨L2, hL2⟩ : ∃ L2, L1 ++ [(a, v)] = L2 := ⟨_, rfl⟩
        obtain ⟨M, hM⟩ : ∃ M, N1 + 1 = M := ⟨_, rfl⟩
        rw [hL2, hM] at HT3
        rw [hM]
        have hM8 : M ≤ 8 := by omega
        clear hL2 hM HN
        go_wp2
        go_loopw [15] (fun c wr => ∃ (k : Nat), k ≤ 8 ∧ c = .int .i64 (k : Int) ∧ Below w3.heap.size w3 wr) (fun c _ => 8 - (intOf c).toNat)
        case atStart => exact ⟨0, Nat.zero_le _, rfl, Below.refl _ _⟩
        case round =>
          obtain ⟨k, hk8, rfl, hb⟩ := hrel
          have HT4 := Hid.in (HT3.out.step hb)
          have HB4 := Hid.in hb
          clear hb
          rename World => wk
          by_cases hk : k < 8
          · have i4 : (k : Int) < 8 := by omega
            go_wp2
            go_loopw [16, 17, 104] (fun x y c wr => ∃ (j : Nat) (u : Int) (b : Bool), j ≤ M ∧ c = .int .i64 (j : Int) ∧ x = .int .u32 u ∧ y = .bool b ∧ fwdL (L2.take j) (k : Int) = (u, b) ∧ Below wk.heap.size wk wr) (fun _ _ c _ => M - (intOf c).toNat)
            case atStart => exact ⟨0, 0, false, Nat.zero_le _, rfl, rfl, rfl, rfl, Below.refl _ _⟩
            case round =>
              obtain ⟨j, u, b, hj, rfl, rfl, rfl, hf, hb⟩ := hrel
              have HF := Hid.in hf
              have HB5 := Hid.in hb
              clear hf hb
              rename World => wj
              by_cases hjM : j < M
              · obtain ⟨b1, o1, x, y, rfl, x1, x2, hxy⟩ := (HT4.out.o.step HB5.out).wat j hjM
                have h0 := fwdL_take (k : Int) hxy
                have i5 : (j : Int) < (M : Int) := by omega
                clear hxy
                by_cases hxk : x = (k : Int)
                · rw [if_pos hxk] at h0
                  have HF2 := Hid.in h0
                  subst hxk
                  clear h0
                  go_wp2
                  go_roundw
                  case rel => exact ⟨j + 1, y, true, by omega, by go_num, rfl, rfl, HF2.out, HB5.out.alloc HB5.out.size _⟩
                  case measure => simp [intOf]; omega
                · rw [if_neg hxk] at h0
                  have HF2 := Hid.in (h0.trans HF.out)
                  have hx0 : (x == (k : Int)) = false := by simpa using hxk
                  clear h0 hxk
                  go_wp2
                  go_roundw
                  case rel => exact ⟨j + 1, u, b, by omega, by go_num, rfl, rfl, HF2.out, HB5.out.alloc HB5.out.size _⟩
                  case measure => simp [intOf]; omega
              · obtain rfl : j = M := by omega
                have HF2 : Hid (fwdL L2 (k : Int) = (u, b)) := Hid.in (by have := HF.out; rwa [List.take_of_length_le (by rw [HT4.out.o.wlen]; exact Nat.le_refl _)] at this)
                have HT5 := Hid.in (HT4.out.step HB5.out)
                clear HF
                go_wp2_with fail
                refine (bfwd_c wj _ m _ _ HT5.out.b k u b HF2.out).mono ?_
                rintro r wj ⟨rfl, rfl⟩
                go_wp2
                go_roundw
                case rel => exact ⟨k + 1, by omega, by go_num, bstep HB4.out (Nat.le_refl _) HB5.out⟩
                case measure => simp [intOf]; omega
          · have i4 : ¬ (k : Int) < 8 := by omega
            go_wp2
            go_roundw
            case rel => exact ⟨i + 1, M, cap3, S2, ao3, L2, by omega, rfl, by go_num, HT4.out⟩
            case measure => simp [intOf]; omega
    · by_cases hin : i < K
      · have i1 : (i : Int) < (K : Int) := by omega
        by_cases hiv : i < V
        · have i2 : (i : Int) < (V : Int) := by omega
          obtain rfl : i = 40 := by omega
          go_wp2_with fail
          refine (blist_c wo _ m S L HT.out.b N HN.out).mono ?_
          rintro r w2 ⟨a2, c2, rfl, hO2, hb⟩
          have HO2 := Hid.in hO2
          have HT2 := Hid.in (HT.out.step hb)
          clear hO2 hb
          go_wp2_with fail
          refine (same_writes w2 _ _ a2 aw N c2 cw L HO2.out HT2.out.o (by omega)).mono ?_
          rintro r w3 ⟨rfl, hb⟩
          have HT3 := Hid.in (HT2.out.step hb)
          clear hb
          go_wp2_with fail
          refine (bufferRuns_any _ sa (HE.out.below HT3.out.l)).mono ?_
          rintro r w4 ⟨rfl, hb⟩
          have HB4 := Hid.in (bstep HT3.out.l (Nat.le_refl _) hb)
          clear hb
          go_wp2
          go_ret
          exact ⟨rfl, HB4.out⟩
        · have i2 : ¬ (i : Int) < (V : Int) := by omega
          go_wp2_with fail
          refine (blist_c wo _ m S L HT.out.b N HN.out).mono ?_
          rintro r w2 ⟨a2, c2, rfl, hO2, hb⟩
          have HO2 := Hid.in hO2
          have HT2 := Hid.in (HT.out.step hb)
          clear hO2 hb
          go_wp2_with fail
          refine (same_writes w2 _ _ a2 aw N c2 cw L HO2.out HT2.out.o (by omega)).mono ?_
          rintro r w3 ⟨rfl, hb⟩
          have HT3 := Hid.in (HT2.out.step hb)
          clear hb
          go_wp2_with fail
          refine (bufferRuns_any _ sa (HE.out.below HT3.out.l)).mono ?_
          rintro r w4 ⟨rfl, hb⟩
          have HB4 := Hid.in (bstep HT3.out.l (Nat.le_refl _) hb)
          clear hb
          go_wp2
          go_ret
          exact ⟨rfl, HB4.out⟩
      · have i1 : ¬ (i : Int) < (K : Int) := by omega
        go_wp2_with fail
        refine (blist_c wo _ m S L HT.out.b N HN.out).mono ?_
        rintro r w2 ⟨a2, c2, rfl, hO2, hb⟩
        have HO2 := Hid.in hO2
        have HT2 := Hid.in (HT.out.step hb)
        clear hO2 hb
        go_wp2_with fail
        refine (same_writes w2 _ _ a2 aw N c2 cw L HO2.out HT2.out.o (by omega)).mono ?_
        rintro r w3 ⟨rfl, hb⟩
        have HT3 := Hid.in (HT2.out.step hb)
        clear hb
        go_wp2_with fail
        refine (bufferRuns_any _ sa (HE.out.below HT3.out.l)).mono ?_
        rintro r w4 ⟨rfl, hb⟩
        have HB4 := Hid.in (bstep HT3.out.l (Nat.le_refl _) hb)
        clear hb
        go_wp2
        go_ret
        exact ⟨rfl, HB4.out⟩

end Go.Proofs.YteajmkfmoocanaaDoor
