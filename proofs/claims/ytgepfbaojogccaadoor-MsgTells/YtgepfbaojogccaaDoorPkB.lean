/- DERIVED of the program: pack.Num. Own work. -/
import Derived.Test.YtgepfbaojogccaaDoorPkA
import Derived.Deep.DeepCutAuto
import Derived.Deep.RegionHeld3
import Derived.Deep.DrawnRows
namespace Go.Proofs.YtgepfbaojogccaaDoor
open Go.RowKit Go.Extern.Stop Go.Stop Go.Extern

/-- 'make([]byte, n, m)'. -/
theorem wpList_make_room {P : Program} (w : World) {ops : Array Oper} {rest : List Oper} {o : Oper} {a : Act} {Q : Exit → Act → World → Prop}
    (hg : o.guard = none) (l c : Operand) (t : TypeId) (hop : o.op = Op.makeSlice t l c)
    (e : TypeId) (i : TypeInfo) (h1 : P.underlying t = some (.slice e)) (h2 : P.info? e = some i) (h3 : i.zero = some (.int .u8 0)) (h4 : i.size = 1) (h5 : i.bytes = 1)
    (kl kc : IntKind) (L C : Int) (n m : Nat) (hl : a.eval l = .int kl L) (hc : a.eval c = .int kc C) (hL : L = (n : Int)) (hC : C = (m : Int)) (hnm : n ≤ m) (b2 : m ≤ 281474976710656) (Z : List Value) (hZ : Z = List.replicate m (Value.int .u8 0))
    (hK : wpList P ops Q rest (a.put o.dst (.slice (some ⟨w.heap.size, 0, none⟩) n m)) (w.alloc (.cells Z.toArray e))) :
    wpList P ops Q (o :: rest) a w := by
  refine wpList_plain hg fun K hK' => ?_
  have hrun := run_make (P := P) w t e i (.int .u8 0) h1 h2 h3 kl kc L C (by omega) (by omega) (by rw [h5]; omega) (by omega)
  subst hL
  subst hC
  subst hZ
  have hz : madeCells (Value.int .u8 0).cells m = (List.replicate m (Value.int .u8 0)).toArray := by
    apply Array.toList_inj.1
    exact toList_madeCells_one _ _
  rw [h4] at hrun
  simp only [Int.toNat_natCast, Nat.mul_one, hz] at hrun
  unfold Oper.wp
  simp [execOp, hop, hl, hc, hrun, Result.andThen]
  exact hK' _ _ hK

theorem splice_head (bs : List Nat) (k : Nat) : splice (List.replicate (bs.length + k) (Value.int .u8 0)) 0 (bys bs) = bys bs ++ List.replicate k (.int .u8 0) := by
  simp [splice, bys_length]

/-- What a new block of bytes, with room behind them, owns. -/
theorem owns_room {w : World} {base g k : Nat} {bs : List Nat} (hg : base ≤ g) (hk : bs.length + k ≤ maxLen) (h : w.heap[g]? = some (.cells (bys bs ++ List.replicate k (Value.int .u8 0)).toArray 5 (0, 0))) :
    Own w base (some ⟨g, 0, none⟩) bs.length (bs.length + k) bs := by
  refine ⟨by simp [bys_length], .inr ⟨g, bs.length + k, _, rfl, hg, h, by omega, hk, by simp [bys_length], ?_⟩⟩
  simp [← bys_length bs]

theorem u8_or128' (x : Nat) : bits .or .u8 ((x : Int) % 256) 128 = ((x % 128 + 128 : Nat) : Int) := by
  have hd : ∀ y : Fin 256, (y.val ||| 128) = y.val % 128 + 128 := by decide +kernel
  have h := (bits_nat .u8 8 (by decide) wraps_u8 (x % 256) 128 (by omega) (by omega)).2
  rw [hd ⟨x % 256, by omega⟩] at h
  rw [show ((x : Int) % 256) = ((x % 256 : Nat) : Int) from by omega]
  refine h.trans ?_
  simp only
  omega

set_option maxHeartbeats 1600000 in
set_option maxRecDepth 20000 in
theorem num_any (ao : Option Addr) (cap : Nat) (bs : List Nat) (n : Int) (w : World) (hL : Lie w ao cap bs) (hlen : bs.length ≤ 140737488355000) (h0 : -9223372036854775808 ≤ n) (h1 : n ≤ 9223372036854775807) :
    Calls Tryd.prog 25 #[.slice ao bs.length cap, .int .i64 n] w fun r w' => ∃ ao' c, r = .returned (.slice ao' (bs.length + (enc (zz n)).length) c) ∧
      Own w' w.heap.size ao' (bs.length + (enc (zz n)).length) c (bs ++ enc (zz n)) ∧ Below w.heap.size w w' := by
  obtain ⟨i0, hi, hz0, hz1, hz2⟩ := info_parts Tryd.infoU8
  have HI := Hid.in (And.intro hi (And.intro hz0 (And.intro hz1 hz2)))
  clear hi hz0 hz1 hz2
  obtain ⟨Z, hZ⟩ : ∃ Z, Z = List.replicate (bs.length + 10) (Value.int .u8 0) := ⟨_, rfl⟩
  have HZZ := Hid.in hZ
  have HZL : Hid (Z.length = bs.length + 10) := Hid.in (by rw [hZ]; simp)
  clear hZ
  have HL := Hid.in hL
  have HZ := Hid.in (zz_lt n h0 h1)
  have HEL := Hid.in (enc_len10 _ HZ.out)
  clear hL
  go_enter Tryd.func25, Tryd.ntmps25
  go_upto_region 2 with (at_make; refine wpList_make_room _ rfl _ _ 22 rfl 5 i0 Tryd.underlying22 HI.out.1 HI.out.2.1 HI.out.2.2.1 HI.out.2.2.2 _ _ _ _ bs.length (bs.length + 10) rfl rfl rfl (by omega) (by omega) (by omega) Z HZZ.out ?_)
  have HL2 : Hid (Lie (w.alloc (.cells Z.toArray 5)) ao cap bs) := Hid.in (HL.out.step ((Below.refl _ _).alloc (Nat.le_refl _) _))
  have HG : Hid ((w.alloc (.cells Z.toArray 5)).heap[w.heap.size]? = some (.cells Z.toArray 5 (0, 0))) := Hid.in (heap_alloc_new _ _)
  have HP : Hid (0 < (bys bs).length → (some ⟨w.heap.size, 0, none⟩ : Option Addr) = some ⟨w.heap.size, 0, none⟩ ∧ ∃ ad, ao = some ad ∧ ∀ j v, (bys bs)[j]? = some v → (w.alloc (.cells Z.toArray 5)).cell? (ad.add j) = some v) := Hid.in (fun hp => ⟨rfl, HL2.out.src (by rwa [bys_length] at hp)⟩)
  have HS : Hid ((Tryd.prog.info? 5).map (·.size) = some 1) := Hid.in (by rw [HI.out.1]; exact congrArg some HI.out.2.2.1)
  have HB0 : Hid (Below w.heap.size w (w.alloc (.cells Z.toArray 5))) := Hid.in ((Below.refl _ _).alloc (Nat.le_refl _) _)
  go_wp2_with (first | (refine wpList_copy_splice rfl (.tmp 13) (.tmp 14) 22 22 rfl 5 Tryd.underlying22 HS.out _ _ _ _ _ _ rfl rfl w.heap.size 0 Z 5 HG.out (bys bs) (by simp [bys_length]) HP.out (by rw [HZL.out, bys_length]; omega) (bys_one bs) w.heap.size w HB0.out (Nat.le_refl _) ?_; intro w1 hh1 hb1; have HB1 := Hid.in hb1; clear hb1) | fail)
  refine (fold_any n _ h0 h1).mono ?_
  rintro r w1 ⟨rfl, rfl⟩
  go_wp2
  go_loopw [5, 6] (fun v u wr => ∃ (pre : List Nat) (x : Nat) (ap : Option Addr) (c : Nat), u = .int .u64 x ∧ x < 18446744073709551616 ∧ enc (zz n) = pre ++ enc x ∧ v = .slice ap (bs.length + pre.length) c ∧
      Own wr w.heap.size ap (bs.length + pre.length) c (bs ++ pre) ∧ Below w.heap.size w wr) (fun _ u _ => (intOf u).toNat)
  case atStart =>
    refine ⟨[], zz n, _, _, rfl, HZ.out, rfl, rfl, ?_, HB1.out⟩
    have h := hh1.out
    rw [HZZ.out, splice_head] at h
    rw [List.append_nil]
    exact owns_room (Nat.le_refl _) (by unfold maxLen; omega) h
  case round =>
    obtain ⟨pre, x, ap, c, rfl, hx, he, rfl, hown, hb⟩ := hrel
    have HO := Hid.in hown
    have HB := Hid.in hb
    have hpl : pre.length + (enc x).length = (enc (zz n)).length := by rw [he]; simp
    have hpl2 : pre.length ≤ 10 := by have := HEL.out; omega
    have HE := Hid.in he
    have HPL := Hid.in hpl
    clear hown hb he hpl
    by_cases hlt : x < 128
    · have HN : Hid (enc x = [x]) := Hid.in (enc_lt hlt)
      go_wp2_with (at_builtin; refine wpList_concat rfl (.tmp 28) (.tmp 31) rfl w.heap.size w _ _ _ _ _ _ (bs ++ pre) [x] rfl (HO.out.step ((Below.refl _ _).alloc (Nat.le_refl _) _)) rfl rfl (Lie.lit1 _ _ _ x (by omega)) (HB.out.alloc HB.out.size _) (by have := HB.out.size; simp; omega) (by omega) ?_; intro ao' c' w2 HO2 HB2)
      go_ret
      have hL : bs.length + pre.length + 1 = bs.length + (enc (zz n)).length := by rw [HE.out, HN.out]; simp; omega
      have h := HO2.out
      rw [hL, List.append_assoc, ← HN.out, ← HE.out] at h
      exact ⟨ao', c', by rw [hL]; rfl, h, HB2.out⟩
    · have hor := u8_or128' x
      have HN : Hid (enc x = (x % 128 + 128) :: enc (x / 128)) := Hid.in (enc_ge (by omega))
      go_wp2_with (at_builtin; refine wpList_concat rfl (.tmp 22) (.tmp 26) rfl w.heap.size w _ _ _ _ _ _ (bs ++ pre) [x % 128 + 128] rfl (HO.out.step ((Below.refl _ _).alloc (Nat.le_refl _) _)) rfl rfl (Lie.lit1 _ _ _ (x % 128 + 128) (by omega)) (HB.out.alloc HB.out.size _) (by have := HB.out.size; simp; omega) (by omega) ?_; intro ao' c' w2 HO2 HB2)
      go_roundw
      case rel =>
        refine ⟨pre ++ [x % 128 + 128], x / 128, ao', c', by go_num, by omega, by rw [HE.out, HN.out]; simp, ?_, ?_, HB2.out⟩
        · simp [Nat.add_assoc]
        · have h := HO2.out
          rw [List.append_assoc] at h
          rw [List.length_append, List.length_singleton, ← Nat.add_assoc]
          exact h
      case measure => simp [intOf]; omega

end Go.Proofs.YtgepfbaojogccaaDoor
