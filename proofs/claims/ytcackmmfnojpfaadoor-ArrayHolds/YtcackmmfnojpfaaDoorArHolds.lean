/- DERIVED of the program: ArrayHolds returns true. Own work. -/
import Derived.Test.YtcackmmfnojpfaaDoorArFull
import Derived.Test.YtcackmmfnojpfaaDoorArPin
import Derived.Test.YtcackmmfnojpfaaDoorArInv
import Derived.Test.YtcackmmfnojpfaaDoorArAsk
namespace Go.Proofs.YtcackmmfnojpfaaDoor
open Go.RowKit Go.Extern.Stop Go.Stop Go.Extern

/-- The marks of a row of entries: which lines were seen, how many of each residue. -/
structure Marks (w : World) (S n : Nat) (M : List En) : Prop where
  s : ∃ cs, w.heap[S]? = some (.cells cs 63 (0, 0)) ∧ ∀ x, x < 32 → cs[x]? = some (.bool (seen (x : Int) M))
  m : ∃ cm, w.heap[S + 1]? = some (.cells cm 64 (0, 0)) ∧ ∀ r, r < 8 → cm[r]? = some (.int .i64 ((cnt n (r : Int) M : Nat) : Int))

theorem Marks.step {w w' : World} {S n : Nat} {M : List En} (h : Marks w S n M) (hb : Below w.heap.size w w') : Marks w' S n M := by
  obtain ⟨cs, s1, s2⟩ := h.s
  obtain ⟨cm, m1, m2⟩ := h.m
  exact ⟨⟨cs, (hb.block _ (blk_lt s1)).trans s1, s2⟩, ⟨cm, (hb.block _ (blk_lt m1)).trans m1, m2⟩⟩

theorem Marks.next {w : World} {S n : Nat} {L : List En} {j y r : Nat} (h : Marks w S n (L.take j)) (hj : j < L.length) (hy : (L[j]).line = (y : Int)) (hy32 : y < 32) (hr : (y : Int) % (n : Int) = (r : Int)) (hr8 : r < 8) :
    Marks ((w.setCell ⟨S, y, none⟩ (.bool true)).setCell ⟨S + 1, r, none⟩ (.int .i64 (((cnt n (r : Int) (L.take j) : Nat) : Int) + 1))) S n (L.take (j + 1)) := by
  obtain ⟨cs, s1, s2⟩ := h.s
  obtain ⟨cm, m1, m2⟩ := h.m
  have e1 := blk_set (i := y) (.bool true) s1
  have e2 : (w.setCell ⟨S, y, none⟩ (.bool true)).heap[S + 1]? = some (.cells cm 64 (0, 0)) := (Below.heap_setCell w _ _ (S + 1) (by simp)).trans m1
  have e3 := blk_set (i := r) (.int .i64 (((cnt n (r : Int) (L.take j) : Nat) : Int) + 1)) e2
  have e4 : ((w.setCell ⟨S, y, none⟩ (.bool true)).setCell ⟨S + 1, r, none⟩ (.int .i64 (((cnt n (r : Int) (L.take j) : Nat) : Int) + 1))).heap[S]? = some (.cells (cs.setIfInBounds y (.bool true)) 63 (0, 0)) := (Below.heap_setCell _ _ _ S (by simp)).trans e1
  refine ⟨⟨_, e4, fun x hx => ?_⟩, ⟨_, e3, fun q hq => ?_⟩⟩
  · rw [seen_succ _ hj, hy]
    have hl := (Array.getElem?_eq_some_iff.1 (s2 x hx)).1
    by_cases e : x = y
    · subst e; rw [Array.getElem?_setIfInBounds_self_of_lt hl]; simp
    · rw [Array.getElem?_setIfInBounds_ne (fun z => e z.symm), s2 x hx]
      have : ((y : Int) == (x : Int)) = false := by simp; omega
      rw [this, Bool.or_false]
  · rw [cnt_succ _ _ hj, hy, hr]
    have hl := (Array.getElem?_eq_some_iff.1 (m2 q hq)).1
    by_cases e : q = r
    · subst e; rw [Array.getElem?_setIfInBounds_self_of_lt hl]; simp
    · rw [Array.getElem?_setIfInBounds_ne (fun z => e z.symm), m2 q hq, if_neg (by omega)]; simp

theorem OwnE.apart {t : TypeId} {w w' : World} {M n cap lo hi : Nat} {ao : Option Addr} {es : List En} (h : OwnE t w M ao n cap es) (ha : Apart lo hi w w') (hM : hi ≤ M) : OwnE t w' M ao n cap es := by
  obtain ⟨h1, h2⟩ := h
  refine ⟨h1, ?_⟩
  rcases h2 with h2 | ⟨g, cap', cur, e, hg, hh, r⟩
  · exact .inl h2
  · exact .inr ⟨g, cap', cur, e, hg, (ha.block g (blk_lt hh) (by omega)).trans hh, r⟩

theorem Apart.cell {lo hi : Nat} {w w' : World} (h : Apart lo hi w w') {p : Addr} (hp : p.block < w.heap.size) (ho : ¬ (lo ≤ p.block ∧ p.block < hi)) : w'.cell? p = w.cell? p := by
  simp only [World.cell?, h.block _ hp ho]

abbrev bools32 : Obj := .cells #[.bool false, .bool false, .bool false, .bool false, .bool false, .bool false, .bool false, .bool false, .bool false, .bool false, .bool false, .bool false, .bool false, .bool false, .bool false, .bool false, .bool false, .bool false, .bool false, .bool false, .bool false, .bool false, .bool false, .bool false, .bool false, .bool false, .bool false, .bool false, .bool false, .bool false, .bool false, .bool false] 63
abbrev ints8 : Obj := .cells #[.int .i64 0, .int .i64 0, .int .i64 0, .int .i64 0, .int .i64 0, .int .i64 0, .int .i64 0, .int .i64 0] 64

theorem marks_new (w : World) (n : Nat) : Marks ((w.alloc bools32).alloc ints8) w.heap.size n [] := by
  refine ⟨⟨Array.replicate 32 (.bool false), ?_, fun x hx => by simp [hx, seen]⟩, ⟨Array.replicate 8 (.int .i64 0), ?_, fun r hr => by simp [hr, cnt]⟩⟩
  · exact ((below_alloc _ _).block _ (by simp)).trans (heap_alloc_new _ _)
  · have := heap_alloc_new (w.alloc bools32) ints8
    rw [World.size_alloc] at this
    exact this

set_option maxHeartbeats 1600000 in
set_option maxRecDepth 20000 in
theorem arrayHolds_any (w : World) (sa : Nat → Addr) (hE : Env10 w sa) (n0 n1 : Int) (al : Option Addr) (n capl : Nat) (hQ : Asks6 w al n) :
    Calls Tryd.prog 5 #[.int .i64 n0, .int .i64 n1, .slice al n capl] w fun r w' => r = .returned (.bool true) ∧ Below w.heap.size w w' := by
  have HE := Hid.in hE
  have HQ := Hid.in hQ
  clear hE hQ
  obtain ⟨q1, hq1⟩ : ∃ q, wI n0 0 3 = q := ⟨_, rfl⟩
  obtain ⟨q2, hq2⟩ : ∃ q, wI n1 0 3 = q := ⟨_, rfl⟩
  have b1 := wI_le n0 0 3 (by omega)
  have b2 := wI_le n1 0 3 (by omega)
  rw [hq1] at b1
  rw [hq2] at b2
  have H1 := Hid.in hq1
  have H2 := Hid.in hq2
  clear hq1 hq2
  have c1 : q1 = 0 ∨ q1 = 1 ∨ q1 = 2 ∨ q1 = 3 := by omega
  have c2 : q2 = 0 ∨ q2 = 1 ∨ q2 = 2 ∨ q2 = 3 := by omega
  clear b1 b2
  go_enter Tryd.func5, Tryd.ntmps5
  go_wp2
  go_cut [7, 8] (fun s k wc => ∃ (sn kn : Nat), s = .int .i64 (sn : Int) ∧ k = .int .i64 (kn : Int) ∧ sn ∈ [1, 2, 4, 8] ∧ kn ∈ [1, 2, 4, 8] ∧ Below w.heap.size w wc)
  case first =>
    rcases c1 with rfl | rfl | rfl | rfl <;> rcases c2 with rfl | rfl | rfl | rfl
    all_goals
      have W1 := fun w' => withinc n0 0 3 _ w' (by decide) (by decide) (by decide) H1.out
      have W2 := fun w' => withinc n1 0 3 _ w' (by decide) (by decide) (by decide) H2.out
      go_quiet ((go_at_call 28; first | (with_reducible exact Calls.quiet_of_same (W1 _)) | (with_reducible exact Calls.quiet_of_same (W2 _))))
      go_wp2
      go_meet
      case rel => exact ⟨_, _, rfl, rfl, by decide, by decide, drewN_below (Below.refl _ _) _⟩
  case rest =>
    obtain ⟨s, k, rfl, rfl, hs, hk, hb⟩ := hcut
    rename World => wb0
    have hs3 : s = 1 ∨ s = 2 ∨ s = 4 ∨ s = 8 := by simpa using hs
    have hk3 : k = 1 ∨ k = 2 ∨ k = 4 ∨ k = 8 := by simpa using hk
    have HS3 := Hid.in hs3
    have HK3 := Hid.in hk3
    have HB := Hid.in hb
    have HW : Hid (w.heap.size ≤ wb0.heap.size) := Hid.in hb.size
    have hk1 : 1 ≤ k := by omega
    have hk8 : k ≤ 8 := by omega
    have hs1 : 1 ≤ s := by omega
    have hs8 : s ≤ 8 := by omega
    clear hs hk hb hk3 hs3 c1 c2
    go_wp2_with fail
    refine (new_ok wb0 s k HS3.out HK3.out).mono ?_
    rintro r w1 ⟨rfl, hA, hb⟩
    have HA1 := Hid.in hA
    have HB1 := Hid.in (bstep HB.out (Nat.le_refl _) hb)
    clear hA hb
    go_wp2
    go_loopw [11] (fun c wr => ∃ (i : Nat) (A : List St), i ≤ n ∧ i ≤ 60 ∧ c = .int .i64 (i : Int) ∧ Arr wr wb0.heap.size k A ∧ A.length = s ∧ OkA k A ∧ Below w.heap.size w wr) (fun c _ => 60 - (intOf c).toNat)
    case atStart => exact ⟨0, newA s k, Nat.zero_le _, Nat.zero_le _, rfl, HA1.out, by simp [newA], OkA.new s k, HB1.out⟩
    case round =>
      obtain ⟨i, A, hi, hi60, rfl, hA, hAl, hok, hb⟩ := hrel
      have HA := Hid.in hA
      have HAL := Hid.in hAl
      have HOK := Hid.in hok
      have HBr := Hid.in hb
      have HA0 : Hid (0 < A.length) := Hid.in (by omega)
      clear hA hAl hok hb HA1 HB1
      by_cases hlt : i < n ∧ i < 60
      · obtain ⟨hin, hi6⟩ := hlt
        obtain ⟨lb, lo, rfl, kd, ln0, e, pa, pc, ps, hq⟩ := HQ.out i hin
        have hqr := (hq.step HBr.out).ln
        obtain ⟨l, hl⟩ : ∃ l : Nat, wI ln0 0 31 = (l : Int) := ⟨(wI ln0 0 31).toNat, by have := wI_le ln0 0 31 (by omega); omega⟩
        have hl32 : l < 32 := by have := wI_le ln0 0 31 (by omega); omega
        have HL := Hid.in hl
        have HV : Hid (vld (l : Int) = true) := Hid.in (by simp only [vld, decide_eq_true_eq]; omega)
        have i1 : (i : Int) < (n : Int) := by omega
        have i2 : (i : Int) < 60 := by omega
        clear hq hl
        go_wp2_with fail
        refine (withinc ln0 0 31 (l : Int) _ (by decide) (by decide) (by decide) HL.out).mono ?_
        rintro r w' ⟨rfl, rfl⟩
        rename World => wr
        go_wp2_with fail
        obtain ⟨rm, hrm⟩ : ∃ b, roomA A (l : Int) = b := ⟨_, rfl⟩
        have HRM := Hid.in hrm
        clear hrm
        refine (room_c wr _ k A HA.out (l : Int) rm HRM.out).mono ?_
        rintro r w2 ⟨rfl, hb⟩
        have HA2 := Hid.in (HA.out.step hb)
        have HB2 := Hid.in (bstep HBr.out (Nat.le_refl _) hb)
        clear hb
        obtain ⟨v, hv⟩ : ∃ v, vicA A (l : Int) [] = v := ⟨_, rfl⟩
        have HVV := Hid.in hv
        have hne : (rm != (v == -1)) = false := by
          cases rm with
          | true => rw [vic_room HRM.out] at hv; subst hv; rfl
          | false =>
            obtain ⟨v', hN⟩ := no_room HOK.out HA0.out (isW_of HK3.out) (fun i hi => (HA.out.ok i hi).1) HV.out HRM.out
            rw [hN.vic] at hv
            have := hN.pos
            subst hv
            simp
            omega
        have hne2 : ((!rm) == (v == -1)) = false := by revert hne; cases rm <;> cases (v == -1) <;> decide
        clear hv
        go_wp2_with fail
        refine (avictim_c w2 _ k A HA2.out (l : Int) none 0 0 [] rfl (Ints.nil _) (by decide) v HVV.out).mono ?_
        rintro r w3 ⟨rfl, hb⟩
        have HA3 := Hid.in (HA2.out.step hb)
        have HB3 := Hid.in (bstep HB2.out (Nat.le_refl _) hb)
        clear hb hqr
        go_upto_if 66 with fail
        · exact absurd (show (!(rm == (v == -1))) = true by assumption) (by revert hne2; cases rm <;> cases (v == -1) <;> decide)
        go_cut [] (fun wx => ∃ A5, Arr wx wb0.heap.size k A5 ∧ roomA A5 (l : Int) = true ∧ OkA k A5 ∧ A5.length = s ∧ Below w.heap.size w wx)
        case first =>
          cases rm with
          | true =>
            go_wp2
            go_meet
            case rel => exact ⟨A, HA3.out, HRM.out, HOK.out, HAL.out, HB3.out⟩
          | false =>
            obtain ⟨v', hN⟩ := no_room HOK.out HA0.out (isW_of HK3.out) (fun i hi => (HA.out.ok i hi).1) HV.out HRM.out
            obtain rfl : v' = v := hN.vic.symm.trans HVV.out
            have HN := Hid.in hN
            obtain ⟨v0, v31⟩ := hN.pos
            obtain ⟨e, he, hev⟩ := hN.get
            have HG := Hid.in he
            obtain ⟨e0, e1, e2, e3, e4, e5, e6, e7, e8, e9⟩ := e
            obtain rfl : e0 = v' := hev
            clear hN he hne hne2
            go_wp2_with fail
            refine (get_c w3 _ k A HA3.out e0 _ true HG.out).mono ?_
            rintro r w4 ⟨rfl, hb⟩
            have HA4 := Hid.in (HA3.out.step hb)
            have HB4 := Hid.in (bstep HB3.out (Nat.le_refl _) hb)
            clear hb
            have hsz : ¬ (s : Int) = 0 := by omega
            have hsn : ¬ s = 0 := by omega
            have hmd : (e0 % (s : Int) != (l : Int) % (s : Int)) = false := by
              have := HN.out.home
              rw [HAL.out] at this
              simp [this]
            have htd : (e0.tmod (s : Int) != (l : Int).tmod (s : Int)) = false := by
              rw [Int.tmod_eq_emod_of_nonneg (by omega), Int.tmod_eq_emod_of_nonneg (by omega)]
              exact hmd
            obtain ⟨v2, hv2⟩ : ∃ v2, vicA A (l : Int) [e0] = v2 := ⟨_, rfl⟩
            have hv2n : (v2 == e0) = false := by rw [← hv2]; simpa using HN.out.not
            have HV2 := Hid.in hv2
            obtain ⟨A5, hA5⟩ : ∃ A5, dropA A e0 = (true, A5) := ⟨_, Prod.ext HN.out.drop rfl⟩
            have HD5 := Hid.in hA5
            have HR5 : Hid (roomA A5 (l : Int) = true) := Hid.in (by have := HN.out.room; rwa [hA5] at this)
            have HX1 : Hid (Below w4.heap.size w4 ((w4.alloc (.cells (En.mk e0 e1 e2 e3 e4 e5 e6 e7 e8 e9).ec.toArray 32)).alloc (.cells #[.int .i64 e0] 3))) := Hid.in ((below_alloc _ _).alloc (by simp) _)
            have HC1 : Hid (Ints ((w4.alloc (.cells (En.mk e0 e1 e2 e3 e4 e5 e6 e7 e8 e9).ec.toArray 32)).alloc (.cells #[.int .i64 e0] 3)) (some ⟨w4.heap.size + 1, 0, none⟩) 1 [e0]) := Hid.in (by
              have := Ints.lit (w4.alloc (.cells (En.mk e0 e1 e2 e3 e4 e5 e6 e7 e8 e9).ec.toArray 32)) 3 [e0] _ rfl (by intro z hz; rw [List.mem_singleton.1 hz]; omega)
              rw [World.size_alloc] at this
              exact this)
            have HK5 : Hid (∀ w5, Below (((w4.alloc (.cells (En.mk e0 e1 e2 e3 e4 e5 e6 e7 e8 e9).ec.toArray 32)).alloc (.cells #[.int .i64 e0] 3)).drew).heap.size (((w4.alloc (.cells (En.mk e0 e1 e2 e3 e4 e5 e6 e7 e8 e9).ec.toArray 32)).alloc (.cells #[.int .i64 e0] 3)).drew) w5 → w5.cell? ⟨w4.heap.size, 0, none⟩ = some (.int .i64 e0)) := Hid.in (fun w5 hb => by
              have h1 : (((w4.alloc (.cells (En.mk e0 e1 e2 e3 e4 e5 e6 e7 e8 e9).ec.toArray 32)).alloc (.cells #[.int .i64 e0] 3)).drew).cell? ⟨w4.heap.size, 0, none⟩ = some (.int .i64 e0) := alloc_cell _ (ECells.lit w4 32 (En.mk e0 e1 e2 e3 e4 e5 e6 e7 e8 e9) _ rfl).c0
              exact (hb.cell (p := ⟨w4.heap.size, 0, none⟩) (lt_cell (q := ⟨w4.heap.size, 0, none⟩) h1)).trans h1)
            have HLT4 : Hid (wb0.heap.size + 2 + A.length ≤ w4.heap.size) := Hid.in (by have := HA4.out.lt.2 (A.length - 1) (by have := HA0.out; omega); have := HA0.out; omega)
            clear hv2 hA5
            go_upto_region 15 with fail
            go_region_held3 (fun W => W.cell? ⟨w4.heap.size, 0, none⟩ = some (.int .i64 e0)) (first | go_keep | (simp [*]; done))
              (first
                | (go_at_call 13; refine (avictim_c _ _ k A (HA4.out.step HX1.out.drew) (l : Int) (some ⟨w4.heap.size + 1, 0, none⟩) 1 1 [e0] rfl (HC1.out.step ((Below.refl _ _).drew)) (by simp) v2 HV2.out).mono ?_; rintro r w5 ⟨rfl, hb5⟩; have HB5 := Hid.in hb5; have hk5 := HK5.out w5 hb5; clear hb5)
                | (go_at_call 14; refine (drop_c w5 _ k A ((HA4.out.step HX1.out.drew).step HB5.out) e0 true A5 HD5.out).mono ?_; rintro r w6 ⟨rfl, hA6, hp6⟩; have HA6 := Hid.in hA6; have HP6 := Hid.in hp6; have hk6 : w6.cell? ⟨w4.heap.size, 0, none⟩ = some (.int .i64 e0) := (hp6.cell (p := ⟨w4.heap.size, 0, none⟩) (lt_cell hk5) (fun h => absurd h.2 (Nat.not_lt.2 HLT4.out))).trans hk5; clear hA6 hp6)
                | (go_at_call 16; refine (room_c w6 _ k A5 HA6.out (l : Int) true HR5.out).mono ?_; rintro r w7 ⟨rfl, hb7⟩; have HB7 := Hid.in hb7; have hk7 : w7.cell? ⟨w4.heap.size, 0, none⟩ = some (.int .i64 e0) := (hb7.cell (p := ⟨w4.heap.size, 0, none⟩) (lt_cell hk6)).trans hk6; clear hb7))
            have HB7b : Hid (Below w.heap.size w w7) := Hid.in (bstep (HP6.out.below (bstep (bstep HB4.out (Nat.le_refl _) HX1.out.drew) (Nat.le_refl _) HB5.out) HW.out (bstep (bstep HB4.out (Nat.le_refl _) HX1.out.drew) (Nat.le_refl _) HB5.out).size) (Nat.le_refl _) HB7.out)
            have HOK5 : Hid (OkA k A5) := Hid.in (by have := HOK.out.drop HA0.out e0; rwa [HD5.out] at this)
            have HAL5 : Hid (A5.length = s) := Hid.in (by have := dropA_len A e0; rw [HD5.out] at this; exact this.trans HAL.out)
            go_wp2
            go_meet
            case rel => exact ⟨A5, HA6.out.step HB7.out, HR5.out, HOK5.out, HAL5.out, HB7b.out⟩
        case rest =>
          obtain ⟨A5, hA5, hr5, hok5, hal5, hb5⟩ := hcut
          have HA5 := Hid.in hA5
          have HR5 := Hid.in hr5
          have HOK5 := Hid.in hok5
          have HAL5 := Hid.in hal5
          have HB5 := Hid.in hb5
          have HA05 : Hid (0 < A5.length) := Hid.in (by omega)
          clear hA5 hr5 hok5 hal5 hb5 hne hne2
          go_wp2_with fail
          obtain ⟨A7, h7⟩ : ∃ A7, putA A5 (En.one (l : Int)) = (0, A7) := ⟨_, Prod.ext (put_room HR5.out) rfl⟩
          have ho7 : OkA k A7 := by have := OkA.put HOK5.out HA05.out (En.one (l : Int)); rwa [h7] at this
          have hl7 : A7.length = s := by have := putA_len A5 (En.one (l : Int)); rw [h7] at this; exact this.trans HAL5.out
          have hm7 : En.one (l : Int) ∈ listA A7 := by have := put_list HA05.out (e := En.one (l : Int)) (by rw [h7]) (by simp [En.one]); rwa [h7] at this
          obtain ⟨ct, A8, h8⟩ : ∃ ct A8, touchA A7 (l : Int) = (ct, A8) := ⟨_, _, rfl⟩
          have ho8 : OkA k A8 := by have := ho7.touch (by omega) (l : Int); rwa [h8] at this
          have hl8 : A8.length = s := by have := touchA_len A7 (l : Int); rw [h8] at this; exact this.trans hl7
          have hm8 : En.one (l : Int) ∈ listA A8 := by have := touch_list A7 (by omega) (l : Int); rw [h8] at this; simp only [] at this; rw [this]; exact hm7
          have HP7 := Hid.in h7
          have HT8 := Hid.in h8
          have HO8 := Hid.in ho8
          have HL8 := Hid.in hl8
          have HM8 := Hid.in hm8
          clear h7 ho7 hl7 hm7 h8 ho8 hl8 hm8
          refine (aof_any (l : Int) _).mono ?_
          rintro r x1 ⟨rfl, hb⟩
          have HX1 := Hid.in (HA5.out.step hb)
          have HY1 := Hid.in (bstep HB5.out (Nat.le_refl _) hb)
          clear hb
          go_wp2_with fail
          refine (put_c x1 sa (HE.out.below HY1.out) _ k A5 HX1.out (En.one (l : Int)) 0 A7 HP7.out).mono ?_
          rintro r x2 ⟨rfl, hA, hp⟩
          have HX2 := Hid.in hA
          have HY2 := Hid.in (hp.below HY1.out HW.out HY1.out.size)
          clear hA hp
          rw [perr_none]
          go_wp2_with fail
          refine (atouch_c x2 _ k A7 HX2.out (l : Int) ct A8 HT8.out).mono ?_
          rintro r x3 ⟨rfl, hA, hp⟩
          have HX3 := Hid.in hA
          have HY3 := Hid.in (hp.below HY2.out HW.out HY2.out.size)
          clear hA hp
          have HZ1 : Hid (Below x3.heap.size x3 ((x3.alloc bools32).alloc ints8)) := Hid.in ((below_alloc _ _).alloc (by simp) _)
          go_wp2_with fail
          refine (list_any _ _ k A8 (HX3.out.step HZ1.out)).mono ?_
          rintro r x4 ⟨la, lc, rfl, hO, hb⟩
          have HX4 := Hid.in ((HX3.out.step HZ1.out).step hb)
          have HY4 := Hid.in (bstep (bstep HY3.out (Nat.le_refl _) HZ1.out) (Nat.le_refl _) hb)
          have hMk := (marks_new x3 s).step hb
          rw [World.size_alloc, World.size_alloc] at hO
          have HO4 := Hid.in hO
          have HMK := Hid.in hMk
          have HSB : Hid (wb0.heap.size + 2 + A8.length ≤ x3.heap.size) := Hid.in (by have := HX3.out.lt.2 (A8.length - 1) (by have := HL8.out; omega); have := HL8.out; omega)
          have HSX : Hid (x3.heap.size + 2 ≤ x4.heap.size) := Hid.in (by have := hb.size; simp at this; omega)
          clear hO hb hMk
          obtain ⟨L, hL⟩ : ∃ L, listA A8 = L := ⟨_, rfl⟩
          rw [hL] at HO4 HM8 ⊢
          have HPW := Hid.in (list_apart HO8.out)
          have HRG : Hid (∀ e ∈ L, 0 ≤ e.line ∧ e.line ≤ 31) := Hid.in (fun e he => list_rng HO8.out (by rw [hL]; exact he))
          have HCT : Hid (∀ r, cnt s r L ≤ k) := Hid.in (fun r => by have := cnt_le HO8.out r; rwa [HL8.out, hL] at this)
          rw [hL] at HPW
          have hL64 : L.length ≤ 64 := by
            have h1 := listA_le (fun i hi => (HO8.out i hi).1) A8.length (Nat.le_refl _)
            rw [List.take_length, hL, HL8.out] at h1
            have h2 : s * k ≤ 8 * 8 := Nat.mul_le_mul hs8 hk8
            omega
          clear hL
          go_wp2
          go_loopw [117] (fun c wv => ∃ j : Nat, j ≤ L.length ∧ c = .int .i64 (j : Int) ∧ Marks wv x3.heap.size s (L.take j) ∧ Apart x3.heap.size (x3.heap.size + 2) x4 wv) (fun c _ => L.length - (intOf c).toNat)
          case atStart => exact ⟨0, Nat.zero_le _, rfl, HMK.out, Apart.of_below (Below.refl _ _)⟩
          case round =>
            obtain ⟨j, hj, rfl, hMk, hap⟩ := hrel
            have HMj := Hid.in hMk
            have HAP := Hid.in hap
            clear hMk hap
            by_cases hjl : j < L.length
            · obtain ⟨eb, rfl, hec⟩ := (HO4.out.apart HAP.out (Nat.le_refl _)).ent j hjl
              obtain ⟨y, hy⟩ : ∃ y : Nat, (L[j]).line = (y : Int) := ⟨((L[j]).line).toNat, by have := HRG.out _ (List.getElem_mem hjl); omega⟩
              have hy32 : y < 32 := by have := HRG.out _ (List.getElem_mem hjl); omega
              obtain ⟨rr, hrr⟩ : ∃ rr : Nat, (y : Int) % (s : Int) = (rr : Int) := ⟨((y : Int) % (s : Int)).toNat, by have := Int.emod_nonneg (y : Int) (show (s : Int) ≠ 0 by omega); omega⟩
              have hr8 : rr < 8 := by have := Int.emod_lt_of_pos (y : Int) (show (0 : Int) < (s : Int) by omega); omega
              obtain ⟨cs, s1, s2⟩ := HMj.out.s
              obtain ⟨cm, m1, m2⟩ := HMj.out.m
              have hsn := s2 y hy32
              rw [← hy, seen_not HPW.out hjl] at hsn
              have k1 : wr.cell? ⟨x3.heap.size, y, none⟩ = some (.bool false) := blk_cell s1 hsn
              have f1 : wr.frozen? ⟨x3.heap.size, y, none⟩ = false := blk_free s1
              have k2 : wr.cell? ⟨x3.heap.size + 1, rr, none⟩ = some (.int .i64 ((cnt s (rr : Int) (L.take j) : Nat) : Int)) := blk_cell m1 (m2 rr hr8)
              have f2 : wr.frozen? ⟨x3.heap.size + 1, rr, none⟩ = false := blk_free m1
              have hnx := HMj.out.next hjl hy hy32 hrr hr8
              have hck : ((cnt s (rr : Int) (L.take j) : Nat) : Int) + 1 ≤ (k : Int) := by
                have h1 := cnt_succ s (rr : Int) hjl
                rw [hy, hrr, if_pos rfl] at h1
                have h2 := cnt_take s (rr : Int) L (j + 1)
                have h3 := HCT.out (rr : Int)
                omega
              obtain ⟨cc, hcc⟩ : ∃ cc, cnt s (rr : Int) (L.take j) = cc := ⟨_, rfl⟩
              rw [hcc] at k2 hnx hck
              have HNX := Hid.in hnx
              have HLS : Hid (x3.heap.size + 1 < wr.heap.size) := Hid.in (blk_lt m1)
              obtain ⟨e, he⟩ : ∃ e, L[j] = e := ⟨_, rfl⟩
              rw [he] at hec hy
              obtain ⟨f0, g1, g2, g3, g4, g5, g6, g7, g8, g9⟩ := e
              obtain rfl : f0 = (y : Int) := hy
              obtain ⟨c0, c1, c2, c3, c4, c5, c6, c7, c8, c9⟩ := hec
              simp only [] at c0 c1 c2 c3 c4 c5 c6 c7 c8 c9
              have j1 : (j : Int) < (L.length : Int) := by omega
              have hss : ¬ s = 0 := by omega
              have hls : x3.heap.size < wr.heap.size := by have := HLS.out; omega
              have hls1 : x3.heap.size + 1 < wr.heap.size := HLS.out
              clear hnx hcc he hsn s1 s2 m1 m2
              go_wp2
              go_roundw
              case rel => exact ⟨j + 1, by omega, by go_num, HNX.out.step (below_alloc _ _), HAP.out.trans (((apart_setCells [.bool true] wr x3.heap.size y _ _ (Nat.le_refl _) (by omega)).trans (apart_setCells [.int .i64 ((cc : Int) + 1)] _ (x3.heap.size + 1) rr _ _ (by omega) (by omega))).trans (Apart.of_below (below_alloc _ _)))⟩
              case measure => simp [intOf]; omega
            · obtain ⟨cs, s1, s2⟩ := HMj.out.s
              have hsn := s2 l hl32
              have hst : seen (l : Int) (L.take j) = true := by
                rw [List.take_of_length_le (by omega)]
                unfold seen
                rw [List.any_eq_true]
                exact ⟨_, HM8.out, by simp [En.one]⟩
              rw [hst] at hsn
              have k1 : wr.cell? ⟨x3.heap.size, l, none⟩ = some (.bool true) := blk_cell s1 hsn
              clear hsn hst s1 s2
              have HAF := Hid.in (HX4.out.kept HAP.out (.inr HSB.out))
              have HBF := Hid.in (HAP.out.below HY4.out (by have := HY3.out.size; omega) HY4.out.size)
              go_wp2
              go_roundw
              case rel => exact ⟨i + 1, A8, by omega, by omega, by go_num, HAF.out, HL8.out, HO8.out, HBF.out⟩
              case measure => simp [intOf]; omega
      · have HKK : Hid ((i : Int) < (n : Int) ∧ (i : Int) = 60 ∨ ¬ (i : Int) < (n : Int)) := Hid.in (by omega)
        clear hlt hi hi60
        rcases HKK.out with ⟨h1, h2⟩ | h1
        all_goals
          clear HKK
          go_wp2_with fail
          refine (arrayRuns_any _ sa (HE.out.below HBr.out)).mono ?_
          rintro r w9 ⟨rfl, hb⟩
          have HB9 := Hid.in (bstep HBr.out (Nat.le_refl _) hb)
          clear hb
          go_wp2
          go_ret
          exact ⟨rfl, HB9.out⟩

end Go.Proofs.YtcackmmfnojpfaaDoor
