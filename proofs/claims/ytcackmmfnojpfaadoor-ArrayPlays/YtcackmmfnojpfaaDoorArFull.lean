/- DERIVED of the program: ArrayFull returns true. Own work. -/
import Derived.Test.YtcackmmfnojpfaaDoorArL
import Derived.Test.YtcackmmfnojpfaaDoorArRuns
namespace Go.Proofs.YtcackmmfnojpfaaDoor
open Go.RowKit Go.Extern.Stop Go.Stop Go.Extern

theorem withinc (n lo hi c : Int) (w : World) (h0 : -1000 ≤ lo) (h1 : lo ≤ hi) (h2 : hi ≤ 1000) (h : wI n lo hi = c) :
    Calls Tryd.prog 28 #[.int .i64 n, .int .i64 lo, .int .i64 hi] w fun r w' => r = .returned (.int .i64 c) ∧ w' = w := by
  rw [← h]; exact within_i n lo hi w h0 h1 h2

/-- A set of k ways, i of which have lines of home h, sets apart. -/
def fillE (h s k i : Nat) : List En := (List.range k).map fun j => if j < i then En.one ((h + s * j : Nat) : Int) else En.zero
def fillA (h s k i : Nat) : List St := (newA s k).set h (0, fillE h s k i)

def okFill (s k : Nat) : Bool := (List.range s).all fun h => (List.range k).all fun i => roomA (fillA h s k i) ((h + s * i : Nat) : Int) && decide (putA (fillA h s k i) (En.one ((h + s * i : Nat) : Int)) = (0, fillA h s k (i + 1)))
theorem okFill_all : ∀ s ∈ [1, 2, 4], ∀ k ∈ [1, 2, 4], okFill s k = true := by decide +kernel
theorem fill_put {s k h i : Nat} (hs : s ∈ [1, 2, 4]) (hk : k ∈ [1, 2, 4]) (hh : h < s) (hi : i < k) : roomA (fillA h s k i) ((h + s * i : Nat) : Int) = true ∧ putA (fillA h s k i) (En.one ((h + s * i : Nat) : Int)) = (0, fillA h s k (i + 1)) := by
  have := okFill_all s hs k hk
  unfold okFill at this
  have := List.all_eq_true.1 (List.all_eq_true.1 this h (List.mem_range.2 hh)) i (List.mem_range.2 hi)
  simpa only [Bool.and_eq_true, decide_eq_true_eq] using this
theorem fill_put0 {s k i : Nat} (hs : s ∈ [1, 2, 4]) (hk : k ∈ [1, 2, 4]) (hi : i < k) : roomA (fillA 0 s k i) ((i * s : Nat) : Int) = true ∧ putA (fillA 0 s k i) (En.one ((i * s : Nat) : Int)) = (0, fillA 0 s k (i + 1)) := by
  have h0 : 0 < s := by
    have : s = 1 ∨ s = 2 ∨ s = 4 := by simpa using hs
    omega
  have := fill_put (h := 0) hs hk h0 hi
  rw [Nat.zero_add, Nat.mul_comm] at this
  exact this
/-- The product, as the walk has it. -/
theorem mulc (i s : Nat) : (i : Int) * (s : Int) = ((i * s : Nat) : Int) := by simp
theorem mul_le16 {i s : Nat} (hi : i ≤ 4) (hs : s ∈ [1, 2, 4]) : 0 ≤ (i : Int) * (s : Int) ∧ (i : Int) * (s : Int) ≤ 16 := by
  have h : s = 1 ∨ s = 2 ∨ s = 4 := by simpa using hs
  rw [mulc]
  rcases h with rfl | rfl | rfl <;> omega
theorem fill_none : ∀ s ∈ [1, 2, 4], ∀ k ∈ [1, 2, 4], ∀ h, h < s → fillA h s k 0 = newA s k := by decide +kernel
def okFull (s k : Nat) : Bool := !(roomA (fillA 0 s k k) ((k * s : Nat) : Int)) && decide (putA (fillA 0 s k k) (En.one ((k * s : Nat) : Int)) = (6, fillA 0 s k k)) && decide ((listA (fillA 0 s k k)).length = k) && (decide (s = 1) || roomA (fillA 0 s k k) 1 && decide (vicA (fillA 0 s k k) 1 [] = -1))
theorem okFull_all : ∀ s ∈ [1, 2, 4], ∀ k ∈ [1, 2, 4], okFull s k = true := by decide +kernel
theorem fill_full {s k : Nat} (hs : s ∈ [1, 2, 4]) (hk : k ∈ [1, 2, 4]) : roomA (fillA 0 s k k) ((k * s : Nat) : Int) = false ∧ putA (fillA 0 s k k) (En.one ((k * s : Nat) : Int)) = (6, fillA 0 s k k) ∧ (listA (fillA 0 s k k)).length = k ∧ (s = 1 ∨ roomA (fillA 0 s k k) 1 = true ∧ vicA (fillA 0 s k k) 1 [] = -1) := by
  have := okFull_all s hs k hk
  unfold okFull at this
  simp only [Bool.and_eq_true, Bool.not_eq_true', decide_eq_true_eq, Bool.or_eq_true] at this
  exact ⟨this.1.1.1, this.1.1.2, this.1.2, this.2⟩
/-- What is there when d's line went, and the next one came. -/
def dropped (s k d : Nat) : List St := (dropA (fillA 0 s k k) ((d * s : Nat) : Int)).2
def renewed (s k d : Nat) : List St := (putA (dropped s k d) (En.one ((k * s : Nat) : Int))).2
def okDrop (s k : Nat) : Bool := (List.range k).all fun d => (dropA (fillA 0 s k k) ((d * s : Nat) : Int)).1 && roomA (dropped s k d) ((k * s : Nat) : Int) && decide ((putA (dropped s k d) (En.one ((k * s : Nat) : Int))).1 = 0) && !(roomA (renewed s k d) ((d * s : Nat) : Int)) && decide ((listA (renewed s k d)).length = k)
theorem okDrop_all : ∀ s ∈ [1, 2, 4], ∀ k ∈ [1, 2, 4], okDrop s k = true := by decide +kernel
theorem fill_drop {s k d : Nat} (hs : s ∈ [1, 2, 4]) (hk : k ∈ [1, 2, 4]) (hd : d < k) : dropA (fillA 0 s k k) ((d * s : Nat) : Int) = (true, dropped s k d) ∧ roomA (dropped s k d) ((k * s : Nat) : Int) = true ∧ putA (dropped s k d) (En.one ((k * s : Nat) : Int)) = (0, renewed s k d) ∧ roomA (renewed s k d) ((d * s : Nat) : Int) = false ∧ (listA (renewed s k d)).length = k := by
  have := okDrop_all s hs k hk
  unfold okDrop at this
  have := List.all_eq_true.1 this d (List.mem_range.2 hd)
  simp only [Bool.and_eq_true, Bool.not_eq_true', decide_eq_true_eq] at this
  exact ⟨Prod.ext this.1.1.1.1 rfl, this.1.1.1.2, Prod.ext this.1.1.2 rfl, this.1.2, this.2⟩

theorem room_f (w : World) (B k : Nat) (A : List St) (hA : Arr w B k A) (l : Int) (m : Nat) (c : Bool) (h : roomA A ((m : Nat) : Int) = c) (hl : l = ((m : Nat) : Int)) :
    Calls Tryd.prog 16 #[.pointer (some ⟨B + 1, 0, none⟩), .int .i64 l] w fun r w' => r = .returned (.bool c) ∧ Below w.heap.size w w' := by
  subst hl; exact room_c w B k A hA _ c h
theorem aof_f (l : Int) (m : Nat) (hl : l = ((m : Nat) : Int)) (w : World) : Calls Tryd.prog 11 #[.int .i64 l] w fun r w' => r = .returned (En.one ((m : Nat) : Int)).val ∧ Below w.heap.size w w' := by
  subst hl; exact aof_any _ w
theorem drop_f (w : World) (B k : Nat) (A : List St) (hA : Arr w B k A) (l : Int) (m : Nat) (c : Bool) (A' : List St) (h : dropA A ((m : Nat) : Int) = (c, A')) (hl : l = ((m : Nat) : Int)) :
    Calls Tryd.prog 14 #[.pointer (some ⟨B + 1, 0, none⟩), .int .i64 l] w fun r w' => r = .returned (.bool c) ∧ Arr w' B k A' ∧ Apart B (B + 2 + A.length) w w' := by
  subst hl; exact drop_c w B k A hA _ c A' h
theorem kIs_f (op : ByteArray) (m : Nat) (n : Int) (hn : n = ((m : Nat) : Int)) (c : Nat) (h1 : 1 ≤ c) (h2 : c ≤ 10) (w : World) (sa : Nat → Addr) (hE : Env10 w sa) :
    Calls Tryd.prog 15 #[flt op ((m : Nat) : Int) (snt (sa c)), .int .i64 c, .string op, .int .i64 n] w fun r w' => r = .returned (.bool true) ∧ Below w.heap.size w w' := by
  subst hn; exact kIs_flt op _ [] c h1 h2 w sa hE
theorem len_list (w : World) (B k : Nat) (A : List St) (hA : Arr w B k A) (m : Nat) (hm : (listA A).length = m) :
    Calls Tryd.prog 26 #[.pointer (some ⟨B + 1, 0, none⟩)] w fun r w' => ∃ ao cap, r = .returned (.slice ao m cap) ∧ Below w.heap.size w w' := by
  subst hm
  exact (list_any w B k A hA).mono fun r w' ⟨ao, cap, h1, _, h3⟩ => ⟨ao, cap, h1, h3⟩

set_option maxHeartbeats 3200000 in
set_option maxRecDepth 20000 in
theorem arrayFull_any (w : World) (sa : Nat → Addr) (hE : Env10 w sa) (n0 n1 n2 : Int) :
    Calls Tryd.prog 8 #[.int .i64 n0, .int .i64 n1, .int .i64 n2] w fun r w' => r = .returned (.bool true) ∧ Below w.heap.size w w' := by
  have HE := Hid.in hE
  clear hE
  obtain ⟨q1, hq1⟩ : ∃ q, wI n0 0 2 = q := ⟨_, rfl⟩
  obtain ⟨q2, hq2⟩ : ∃ q, wI n1 0 2 = q := ⟨_, rfl⟩
  have b1 := wI_le n0 0 2 (by omega)
  have b2 := wI_le n1 0 2 (by omega)
  rw [hq1] at b1
  rw [hq2] at b2
  have H1 := Hid.in hq1
  have H2 := Hid.in hq2
  clear hq1 hq2
  have c1 : q1 = 0 ∨ q1 = 1 ∨ q1 = 2 := by omega
  have c2 : q2 = 0 ∨ q2 = 1 ∨ q2 = 2 := by omega
  clear b1 b2
  go_enter Tryd.func8, Tryd.ntmps8
  go_wp2
  go_cut [7, 8] (fun s k wc => ∃ (sn kn : Nat), s = .int .i64 (sn : Int) ∧ k = .int .i64 (kn : Int) ∧ sn ∈ [1, 2, 4] ∧ kn ∈ [1, 2, 4] ∧ Below w.heap.size w wc)
  case first =>
    rcases c1 with rfl | rfl | rfl <;> rcases c2 with rfl | rfl | rfl
    all_goals
      have W1 := fun w' => withinc n0 0 2 _ w' (by decide) (by decide) (by decide) H1.out
      have W2 := fun w' => withinc n1 0 2 _ w' (by decide) (by decide) (by decide) H2.out
      go_quiet ((go_at_call 28; first | (with_reducible exact Calls.quiet_of_same (W1 _)) | (with_reducible exact Calls.quiet_of_same (W2 _))))
      go_wp2
      go_meet
      case rel => exact ⟨_, _, rfl, rfl, by decide, by decide, drewN_below (Below.refl _ _) _⟩
  case rest =>
    obtain ⟨s, k, rfl, rfl, hs, hk, hb⟩ := hcut
    have hs3 : s = 1 ∨ s = 2 ∨ s = 4 := by simpa using hs
    have hk3 : k = 1 ∨ k = 2 ∨ k = 4 := by simpa using hk
    have HSM := Hid.in hs
    have HKM := Hid.in hk
    have HB := Hid.in hb
    have HS3 : Hid (s = 1 ∨ s = 2 ∨ s = 4 ∨ s = 8) := Hid.in (by omega)
    have HK3 : Hid (k = 1 ∨ k = 2 ∨ k = 4 ∨ k = 8) := Hid.in (by omega)
    have HW : Hid (w.heap.size ≤ wc.heap.size) := Hid.in hb.size
    have hk1 : 1 ≤ k := by omega
    have hk4 : k ≤ 4 := by omega
    have HF0 := Hid.in (fill_none s hs k hk 0 (by omega))
    have HFP : Hid (∀ i, i < k → roomA (fillA 0 s k i) ((i * s : Nat) : Int) = true ∧ putA (fillA 0 s k i) (En.one ((i * s : Nat) : Int)) = (0, fillA 0 s k (i + 1))) := Hid.in (fun i hi => fill_put0 hs hk hi)
    have HFF := Hid.in (fill_full hs hk)
    have HFD : Hid (∀ d, d < k → dropA (fillA 0 s k k) ((d * s : Nat) : Int) = (true, dropped s k d) ∧ roomA (dropped s k d) ((k * s : Nat) : Int) = true ∧ putA (dropped s k d) (En.one ((k * s : Nat) : Int)) = (0, renewed s k d) ∧ roomA (renewed s k d) ((d * s : Nat) : Int) = false ∧ (listA (renewed s k d)).length = k) := Hid.in (fun d hd => fill_drop hs hk hd)
    have hs1 : 1 ≤ s := by omega
    have hs4 : s ≤ 4 := by omega
    obtain ⟨ks1, ks2⟩ := mul_le16 hk4 hs
    clear hs hk hb hk3 hs3 c1 c2
    go_wp2_with fail
    refine (new_ok wc s k HS3.out HK3.out).mono ?_
    rintro r w1 ⟨rfl, hA, hb⟩
    have HA1 := Hid.in hA
    have HB1 := Hid.in (bstep HB.out (Nat.le_refl _) hb)
    clear hA hb
    go_wp2
    go_loopw [11] (fun c wr => ∃ i : Nat, i ≤ k ∧ c = .int .i64 (i : Int) ∧ Arr wr wc.heap.size k (fillA 0 s k i) ∧ Below w.heap.size w wr) (fun c _ => 4 - (intOf c).toNat)
    case atStart => exact ⟨0, Nat.zero_le _, rfl, by rw [HF0.out]; exact HA1.out, HB1.out⟩
    case round =>
      obtain ⟨i, hi, rfl, hA, hb⟩ := hrel
      have HA := Hid.in hA
      have HBr := Hid.in hb
      clear hA hb
      by_cases hlt : i < k
      · obtain ⟨is1, is2⟩ := mul_le16 (show i ≤ 4 by omega) HSM.out
        go_wp2_with fail
        refine (room_f wr _ k _ HA.out _ (i * s) true (HFP.out i hlt).1 (mulc i s)).mono ?_
        rintro r w2 ⟨rfl, hb⟩
        have HA2 := Hid.in (HA.out.step hb)
        have HB2 := Hid.in (bstep HBr.out (Nat.le_refl _) hb)
        clear hb
        go_wp2_with fail
        refine (aof_f _ (i * s) (mulc i s) _).mono ?_
        rintro r w3 ⟨rfl, hb⟩
        have HA3 := Hid.in (HA2.out.step hb)
        have HB3 := Hid.in (bstep HB2.out (Nat.le_refl _) hb)
        clear hb
        go_wp2_with fail
        refine (put_c w3 sa (HE.out.below HB3.out) _ k _ HA3.out (En.one ((i * s : Nat) : Int)) 0 _ (HFP.out i hlt).2).mono ?_
        rintro r w4 ⟨rfl, hA, hp⟩
        have HA4 := Hid.in hA
        have HB4 := Hid.in (hp.below HB3.out HW.out HB3.out.size)
        clear hA hp
        rw [perr_none]
        go_wp2
        go_roundw
        case rel => exact ⟨i + 1, by omega, by go_num, HA4.out, HB4.out⟩
        case measure => simp [intOf]; omega
      · obtain rfl : i = k := by omega
        go_wp2_with fail
        refine (room_f wr _ i _ HA.out _ (i * s) false HFF.out.1 (mulc i s)).mono ?_
        rintro r w2 ⟨rfl, hb⟩
        have HA2 := Hid.in (HA.out.step hb)
        have HB2 := Hid.in (bstep HBr.out (Nat.le_refl _) hb)
        clear hb
        go_wp2_with fail
        refine (aof_f _ (i * s) (mulc i s) _).mono ?_
        rintro r w3 ⟨rfl, hb⟩
        have HA3 := Hid.in (HA2.out.step hb)
        have HB3 := Hid.in (bstep HB2.out (Nat.le_refl _) hb)
        clear hb
        go_wp2_with fail
        refine (put_c w3 sa (HE.out.below HB3.out) _ i _ HA3.out (En.one ((i * s : Nat) : Int)) 6 _ HFF.out.2.1).mono ?_
        rintro r w4 ⟨rfl, hA, hp⟩
        have HA4 := Hid.in hA
        have HB4 := Hid.in (hp.below HB3.out HW.out HB3.out.size)
        clear hA hp
        rw [perr_some _ _ _ _ (by decide)]
        go_wp2_with fail
        refine (kIs_f opPut (i * s) _ (mulc i s) 6 (by omega) (by omega) w4 sa (HE.out.below HB4.out)).mono ?_
        rintro r w5 ⟨rfl, hb⟩
        have HA5 := Hid.in (HA4.out.step hb)
        have HB5 := Hid.in (bstep HB4.out (Nat.le_refl _) hb)
        clear hb
        go_wp2_with fail
        refine (len_list w5 _ i _ HA5.out i HFF.out.2.2.1).mono ?_
        rintro r w6 ⟨ao, cap, rfl, hb⟩
        have HA6 := Hid.in (HA5.out.step hb)
        have HB6 := Hid.in (bstep HB5.out (Nat.le_refl _) hb)
        clear hb
        obtain ⟨d, hdd⟩ : ∃ d : Nat, wI n2 0 ((i : Int) - 1) = (d : Int) := ⟨(wI n2 0 ((i : Int) - 1)).toNat, by have := wI_le n2 0 ((i : Int) - 1) (by omega); omega⟩
        have hd : d < i := by have := wI_le n2 0 ((i : Int) - 1) (by omega); omega
        obtain ⟨ds1, ds2⟩ := mul_le16 (show d ≤ 4 by omega) HSM.out
        have HD := Hid.in hdd
        clear hdd
        by_cases hs : s = 1
        · have hs' : ¬ 1 < (s : Int) := by omega
          clear hs
          go_wp2_with fail
          refine (withinc n2 0 ((i : Int) - 1) (d : Int) _ (by decide) (by omega) (by omega) HD.out).mono ?_
          rintro r w' ⟨rfl, rfl⟩
          go_wp2_with fail
          refine (drop_f _ _ i _ HA6.out _ (d * s) true _ (HFD.out d hd).1 (mulc d s)).mono ?_
          rintro r x1 ⟨rfl, hA, hp⟩
          have HX1 := Hid.in hA
          have HY1 := Hid.in (hp.below HB6.out HW.out HB6.out.size)
          clear hA hp
          go_wp2_with fail
          refine (room_f x1 _ i _ HX1.out _ (i * s) true (HFD.out d hd).2.1 (mulc i s)).mono ?_
          rintro r x2 ⟨rfl, hb⟩
          have HX2 := Hid.in (HX1.out.step hb)
          have HY2 := Hid.in (bstep HY1.out (Nat.le_refl _) hb)
          clear hb
          go_wp2_with fail
          refine (aof_f _ (i * s) (mulc i s) _).mono ?_
          rintro r x3 ⟨rfl, hb⟩
          have HX3 := Hid.in (HX2.out.step hb)
          have HY3 := Hid.in (bstep HY2.out (Nat.le_refl _) hb)
          clear hb
          go_wp2_with fail
          refine (put_c x3 sa (HE.out.below HY3.out) _ i _ HX3.out (En.one ((i * s : Nat) : Int)) 0 _ (HFD.out d hd).2.2.1).mono ?_
          rintro r x4 ⟨rfl, hA, hp⟩
          have HX4 := Hid.in hA
          have HY4 := Hid.in (hp.below HY3.out HW.out HY3.out.size)
          clear hA hp
          rw [perr_none]
          go_wp2_with fail
          refine (room_f x4 _ i _ HX4.out _ (d * s) false (HFD.out d hd).2.2.2.1 (mulc d s)).mono ?_
          rintro r x5 ⟨rfl, hb⟩
          have HX5 := Hid.in (HX4.out.step hb)
          have HY5 := Hid.in (bstep HY4.out (Nat.le_refl _) hb)
          clear hb
          go_wp2_with fail
          refine (len_list x5 _ i _ HX5.out i (HFD.out d hd).2.2.2.2).mono ?_
          rintro r x6 ⟨ao2, cap2, rfl, hb⟩
          have HY6 := Hid.in (bstep HY5.out (Nat.le_refl _) hb)
          clear hb
          go_wp2_with fail
          refine (arrayRuns_any x6 sa (HE.out.below HY6.out)).mono ?_
          rintro r x7 ⟨rfl, hb⟩
          have HY7 := Hid.in (bstep HY6.out (Nat.le_refl _) hb)
          clear hb
          go_wp2
          go_ret
          exact ⟨rfl, HY7.out⟩
        · have hs' : 1 < (s : Int) := by omega
          have HSR := Hid.in (HFF.out.2.2.2.resolve_left hs)
          clear hs
          go_wp2_with fail
          refine (room_c w6 _ i _ HA6.out 1 true HSR.out.1).mono ?_
          rintro r w7 ⟨rfl, hb⟩
          have HA7 := Hid.in (HA6.out.step hb)
          have HB7 := Hid.in (bstep HB6.out (Nat.le_refl _) hb)
          clear hb
          go_wp2_with fail
          refine (avictim_c w7 _ i _ HA7.out 1 none 0 0 [] rfl (Ints.nil _) (by decide) (-1) HSR.out.2).mono ?_
          rintro r w8 ⟨rfl, hb⟩
          have HA8 := Hid.in (HA7.out.step hb)
          have HB8 := Hid.in (bstep HB7.out (Nat.le_refl _) hb)
          clear hb
          go_wp2_with fail
          refine (withinc n2 0 ((i : Int) - 1) (d : Int) _ (by decide) (by omega) (by omega) HD.out).mono ?_
          rintro r w' ⟨rfl, rfl⟩
          go_wp2_with fail
          refine (drop_f _ _ i _ HA8.out _ (d * s) true _ (HFD.out d hd).1 (mulc d s)).mono ?_
          rintro r x1 ⟨rfl, hA, hp⟩
          have HX1 := Hid.in hA
          have HY1 := Hid.in (hp.below HB8.out HW.out HB8.out.size)
          clear hA hp
          go_wp2_with fail
          refine (room_f x1 _ i _ HX1.out _ (i * s) true (HFD.out d hd).2.1 (mulc i s)).mono ?_
          rintro r x2 ⟨rfl, hb⟩
          have HX2 := Hid.in (HX1.out.step hb)
          have HY2 := Hid.in (bstep HY1.out (Nat.le_refl _) hb)
          clear hb
          go_wp2_with fail
          refine (aof_f _ (i * s) (mulc i s) _).mono ?_
          rintro r x3 ⟨rfl, hb⟩
          have HX3 := Hid.in (HX2.out.step hb)
          have HY3 := Hid.in (bstep HY2.out (Nat.le_refl _) hb)
          clear hb
          go_wp2_with fail
          refine (put_c x3 sa (HE.out.below HY3.out) _ i _ HX3.out (En.one ((i * s : Nat) : Int)) 0 _ (HFD.out d hd).2.2.1).mono ?_
          rintro r x4 ⟨rfl, hA, hp⟩
          have HX4 := Hid.in hA
          have HY4 := Hid.in (hp.below HY3.out HW.out HY3.out.size)
          clear hA hp
          rw [perr_none]
          go_wp2_with fail
          refine (room_f x4 _ i _ HX4.out _ (d * s) false (HFD.out d hd).2.2.2.1 (mulc d s)).mono ?_
          rintro r x5 ⟨rfl, hb⟩
          have HX5 := Hid.in (HX4.out.step hb)
          have HY5 := Hid.in (bstep HY4.out (Nat.le_refl _) hb)
          clear hb
          go_wp2_with fail
          refine (len_list x5 _ i _ HX5.out i (HFD.out d hd).2.2.2.2).mono ?_
          rintro r x6 ⟨ao2, cap2, rfl, hb⟩
          have HY6 := Hid.in (bstep HY5.out (Nat.le_refl _) hb)
          clear hb
          go_wp2_with fail
          refine (arrayRuns_any x6 sa (HE.out.below HY6.out)).mono ?_
          rintro r x7 ⟨rfl, hb⟩
          have HY7 := Hid.in (bstep HY6.out (Nat.le_refl _) hb)
          clear hb
          go_wp2
          go_ret
          exact ⟨rfl, HY7.out⟩

end Go.Proofs.YtcackmmfnojpfaaDoor
